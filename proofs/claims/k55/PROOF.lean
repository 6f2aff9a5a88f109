import PyProof.Rows.All
import Wide.All
import OpenK.AllK
import Wide.FinOn
import Lean
import PyProof.EqAt
import PyProof.EqKinds
import PyProof.NeKinds
import PyProof.TupleCall
import KE.KPairComp
import KE.KSortTup
import PySem.Challenge.RW_nightwatch_k55_what_it_might
set_option Elab.async false
set_option linter.all false
set_option genSizeOf false
set_option maxRecDepth 100000
namespace L2
open PySem PySem.Spec PyProof.Rows

abbrev Key:=Sum Int Str
def keyIs:Key->Value->Bool
 |.inl k,v=>Value.isInt k v
 |.inr x,v=>Value.isStrOf x v
def keyH (w:World):Key->Int
 |.inl k=>hashInt k
 |.inr x=>hashStr w x
theorem keyIs_shape:∀ {k:Key} {v:Value},keyIs k v=true->(∃ i t,k=Sum.inl i/\v=Value.int i t)\/(∃ x t,k=Sum.inr x/\v=Value.str x t)
 |.inl i,v,h=>by
  obtain ⟨t,e⟩:=Value.isInt_shape (k:=i) (v:=v) h
  exact .inl ⟨i,t,rfl,e⟩
 |.inr x,v,h=>by
  obtain ⟨t,e⟩:=Value.isStrOf_shape (x:=x) (v:=v) h
  exact .inr ⟨x,t,rfl,e⟩
theorem keyIs_int (i:Int) (t:Tok):keyIs (.inl i) (.int i t)=true:=by simp [keyIs,Value.isInt]
theorem keyIs_str (x:Str) (t:Tok):keyIs (.inr x) (.str x t)=true:=by simp [keyIs,Value.isStrOf]
theorem key_ll (a b:Int):decide ((Sum.inl a:Key)=Sum.inl b)=(a == b):=by
 by_cases e:a=b
 ·subst e;simp
 ·have h:¬ (Sum.inl a:Key)=Sum.inl b:=λq=>e (Sum.inl.inj q)
  rw [decide_eq_false h]
  exact (beq_eq_false_iff_ne.mpr e).symm
theorem key_rr (a b:Str):decide ((Sum.inr a:Key)=Sum.inr b)=decide (a=b):=by
 by_cases e:a=b
 ·subst e;simp
 ·have h:¬ (Sum.inr a:Key)=Sum.inr b:=λq=>e (Sum.inr.inj q)
  rw [decide_eq_false h,decide_eq_false e]
theorem key_lr (a:Int) (b:Str):decide ((Sum.inl a:Key)=Sum.inr b)=false:=decide_eq_false (λq=>nomatch q)
theorem key_rl (a:Str) (b:Int):decide ((Sum.inr a:Key)=Sum.inl b)=false:=decide_eq_false (λq=>nomatch q)

def mixKind (prog:Program) (w:World):PySem.KeyKind prog w Key where
 is:=keyIs
 hash:=keyH w
 inj:=λv a b ha hb=>by
  rcases keyIs_shape ha with ⟨i,t,rfl,rfl⟩ | ⟨x,t,rfl,rfl⟩
  ·rcases keyIs_shape hb with ⟨j,u,rfl,e⟩ | ⟨y,u,rfl,e⟩
   ·injection e with e1 _;rw [e1]
   ·exact nomatch e
  ·rcases keyIs_shape hb with ⟨j,u,rfl,e⟩ | ⟨y,u,rfl,e⟩
   ·exact nomatch e
   ·injection e with e1 _;rw [e1]
 byValue:=λk v h=>by
  rcases keyIs_shape h with ⟨i,t,rfl,rfl⟩ | ⟨x,t,rfl,rfl⟩<;>rfl
 pyHash:=λhv h=>by
  rcases keyIs_shape hv with ⟨i,t,rfl,rfl⟩ | ⟨x,t,rfl,rfl⟩
  ·exact wpAny_pyHash_int h
  ·exact wpAny_pyHash_str h
 eqBool:=λhu hv h=>by
  rcases keyIs_shape hu with ⟨i,t,rfl,rfl⟩ | ⟨x,t,rfl,rfl⟩
  ·rcases keyIs_shape hv with ⟨j,u,rfl,rfl⟩ | ⟨y,u,rfl,rfl⟩
   ·rw [key_ll] at h;exact wpAny_eqBool_int h
   ·rw [key_lr] at h;exact SeqAt.EqAt.int_str i t y u _ _ _ _ h
  ·rcases keyIs_shape hv with ⟨j,u,rfl,rfl⟩ | ⟨y,u,rfl,rfl⟩
   ·rw [key_rl] at h;exact SeqAt.EqAt.str_int x t j u _ _ _ _ h
   ·rw [key_rr] at h;exact wpAny_eqBool_str h
 «strs»:=λk x t v h=>by
  rcases keyIs_shape h with ⟨i,u,rfl,e⟩ | ⟨y,u,rfl,e⟩
  ·exact nomatch e
  ·injection e with e1 _
   subst e1
   cases v<;>rfl

theorem mixKind_int (prog:Program) (w:World) (i:Int) (t:Tok):(mixKind prog w).is (.inl i) (.int i t)=true:=keyIs_int i t
theorem mixKind_str (prog:Program) (w:World) (x:Str) (t:Tok):(mixKind prog w).is (.inr x) (.str x t)=true:=keyIs_str x t
end L2

namespace L2
open PySem PySem.Spec PyProof.Rows

inductive V where
 |non | bl (b:Bool) | int (i:Int) | str (x:Str) | byt (b:Array UInt8) | flt (b:UInt64) | ref (a:Addr) | ty (n:String)
 deriving DecidableEq

def RelV:V->Value->Prop
 |.non,u=>u=Value.none
 |.bl b,u=>u=Value.bool b
 |.int i,u=>∃ t,u=Value.int i t
 |.str x,u=>∃ t,u=Value.str x t
 |.byt b,u=>∃ t,u=Value.bytes b t
 |.flt b,u=>∃ t,u=Value.float b t
 |.ref a,u=>u=Value.ref a
 |.ty n,u=>u=Value.type n

abbrev Vals:List V->List Value->Prop:=Paired RelV
theorem Vals.length {xs:List V} {us:List Value} (r:Vals xs us):xs.length=us.length:=Paired.length r
theorem Vals.get:∀ {xs:List V} {us:List Value} {i:Nat} {x:V},Vals xs us->xs[i]?=some x->∃ u,us[i]?=some u/\RelV x u
 |_,_,_,_,.nil,e=>by simp at e
 |_,_,0,_,.cons r _,e=>by simp at e;subst e;exact ⟨_,rfl,r⟩
 |_,_,i+1,x,.cons _ t,e=>by
  obtain ⟨u,h1,h2⟩:=Vals.get (i:=i) (x:=x) t (by simpa using e)
  exact ⟨u,by simpa using h1,h2⟩
theorem Vals.append:∀ {xs ys:List V} {us ws:List Value},Vals xs us->Vals ys ws->Vals (xs++ys) (us++ws)
 |_,_,_,_,.nil,s=>s
 |_,_,_,_,.cons r t,s=>.cons r (Vals.append t s)
theorem Vals.take:∀ {xs:List V} {us:List Value} (n:Nat),Vals xs us->Vals (xs.take n) (us.take n)
 |_,_,0,_=>.nil
 |_,_,_+1,.nil=>.nil
 |_,_,n+1,.cons r t=>.cons r (Vals.take n t)
theorem Vals.drop:∀ {xs:List V} {us:List Value} (n:Nat),Vals xs us->Vals (xs.drop n) (us.drop n)
 |_,_,0,r=>r
 |_,_,_+1,.nil=>.nil
 |_,_,n+1,.cons _ t=>Vals.drop n t
def RelO:Option V->Option Value->Prop
 |some v,some u=>RelV v u
 |none,none=>True
 |_,_=>False
def KV {κ:Type}:List (κ×V)->List (κ×Value)->Prop:=Paired λ(p:κ×V) (q:κ×Value)=>p.1=q.1/\RelV p.2 q.2

def kV:Key->V
 |.inl i=>.int i
 |.inr x=>.str x

inductive HO where
 |lst (xs:List V)
 |tup (xs:List V)
 |dK (kvs:List (Key×V)) | dT (kvs:List (List Key×V))
 |set (S:Int->Bool) (n:Nat)
 |ins (C dx:Addr) (fs:List (Str×V))
 |own (x:Addr)
 |xd (fs:List (Str×V))
 |met (f x:Addr)
 |rng (lo hi:Int)
 |frz (o:Obj) (u:HO)
 |tbl (ps:Array Value)
 |ext (φ:Heap->Prop)

abbrev Hp:=Addr->Option HO
def upd (H:Hp) (a:Addr) (o:HO):Hp:=λb=>if b=a then some o else H b
theorem upd_same {H:Hp} {a:Addr} {o:HO}:upd H a o a=some o:=by unfold upd;rw [if_pos rfl]
theorem upd_ne {H:Hp} {a b:Addr} {o:HO} (h:b≠a):upd H a o b=H b:=by unfold upd;rw [if_neg h]
theorem ne_of {H:Hp} {a b:Addr} {o u:HO} (h:H a=some o) (h':H b=some u) (d:o≠u):a≠b:=by
 intro e;subst e;rw [h] at h';exact d (Option.some.inj h')
theorem ne_of_none {H:Hp} {a b:Addr} {o:HO} (h:H a=some o) (h':H b=none):a≠b:=by
 intro e;subst e;rw [h] at h';cases h'

section
variable (P:Program) (w:World)
def ObjOk (H:Hp) (h:Heap) (a:Addr):HO->Prop
 |.lst xs=>xs.length<=sizeLine/\∃ (its:List Value) (n:Nat),Vals xs its/\h.get? a=some { cls:=.type "list",data:=.seq its.toArray n }
 |.tup xs=>xs.length<=sizeLine/\∃ its:List Value,Vals xs its/\IsTup h a its.toArray
 |.dK kvs=>kvs.length<=sizeLine/\(a == sysModules)=false/\∃ vs,KV kvs vs/\h.DictOf (mixKind P w) a vs
 |.dT kvs=>kvs.length<=sizeLine/\(a == sysModules)=false/\∃ xs:List (List Key×Addr×Value),
   Paired (λ(p:List Key×V) (q:List Key×Addr×Value)=>p.1=q.1/\H q.2.1=some (.tup (p.1.map kV))/\RelV p.2 q.2.2) kvs xs /\
   ∃ o es ep,h.get? a=some o/\o.ExactDict/\o.data=.dict es ep/\es.toList=xs.map (entryOfKey (tupleKind (mixKind P w)))/\(xs.map (·.1)).Nodup
 |.set S n=>h.SetOf (intKind P w) a S n
 |.ins C dx fs=>H dx=some (.own a)/\fs.length<=1000/\dx≠a/\h.get? a=some (PySem.W.instObj C dx) /\
   ∃ mA,h.Ns1 dx mA/\(∀ f,RelO (fs.lookup f) (mA f))/\PySem.Within mA (fs.map (·.1))
 |.own _=>∃ o,h.get? a=some o
 |.xd fs=>∃ mA,h.Ns1 a mA/\∀ f,RelO (fs.lookup f) (mA f)
 |.rng lo hi=>∃ t u v,h.get? a=some { cls:=.type "range",data:=.fields #[.int lo t,.int hi u,.int 1 v] }
 |.frz o u=>h.get? a=some o/\ObjOk H h a u
 |.tbl ps=>h.get? a=some { cls:=.none,data:=.fields ps }
 |.met f x=>h.get? a=some (PySem.W.methodObj (.ref f) (.ref x))
 |.ext φ=>φ h/\(∃ o,h.get? a=some o)/\∀ h1 h2:Heap,φ h1->(∀ o,h1.get? a=some o->h2.get? a=some o)->φ h2
def HOk (H:Hp) (h:Heap):Prop:=∀ a o,H a=some o->ObjOk P w H h a o
end

section
variable {P:Program} {w:World} {H H':Hp} {h h':Heap} {a:Addr} {o:HO}
theorem ObjOk.lt (x:ObjOk P w H h a o):a<h.objs.size:=by
 cases o with
 |lst xs=>obtain ⟨_,_,_,_,e⟩:=x;exact Heap.lt_size e
 |tup xs=>obtain ⟨_,_,_,p⟩:=x;exact p.lt
 |dK kvs=>obtain ⟨_,_,_,_,o,_,_,e,_⟩:=x;exact Heap.lt_size e
 |dT kvs=>obtain ⟨_,_,_,_,o,_,_,e,_⟩:=x;exact Heap.lt_size e
 |set S n=>obtain ⟨o,_,_,_,e,_⟩:=x;exact Heap.lt_size e
 |ins C dx fs=>obtain ⟨_,_,_,e,_⟩:=x;exact Heap.lt_size e
 |own y=>obtain ⟨_,e⟩:=x;exact Heap.lt_size e
 |xd fs=>obtain ⟨_,⟨_,_,_,e,_⟩,_⟩:=x;exact Heap.lt_size e
 |rng lo hi=>obtain ⟨_,_,_,e⟩:=x;exact Heap.lt_size e
 |frz ob u=>obtain ⟨e,_⟩:=x;exact Heap.lt_size e
 |tbl ps=>exact Heap.lt_size (show h.get? a=some _ from x)
 |met f y=>exact Heap.lt_size (show h.get? a=some _ from x)
 |ext φ=>obtain ⟨_,⟨_,e⟩,_⟩:=x;exact Heap.lt_size e
theorem Paired.mapP {α β:Type} {F G:α->β->Prop}:∀ {l₁:List α} {l₂:List β},Paired F l₁ l₂->(∀ a b,F a b->G a b)->Paired G l₁ l₂
 |_,_,.nil,_=>.nil
 |_,_,.cons r t,f=>.cons (f _ _ r) (Paired.mapP t f)
theorem ObjOk.stay (x:ObjOk P w H h a o) (k:∀ b u,(b=a\/H b=some (.own a))->h.get? b=some u->h'.get? b=some u)
  (ho:∀ b,H b=some (.own a)->H' b=some (.own a)) (ht:∀ b xs,H b=some (.tup xs)->H' b=some (.tup xs)):ObjOk P w H' h' a o:=by
 induction o with
 |lst xs=>obtain ⟨z,its,n,r,e⟩:=x;exact ⟨z,its,n,r,k _ _ (.inl rfl) e⟩
 |tup xs=>obtain ⟨z,its,r,ob,e,c⟩:=x;exact ⟨z,its,r,ob,k _ _ (.inl rfl) e,c⟩
 |dK kvs=>obtain ⟨z,y,vs,r,ob,es,ep,e,c⟩:=x;exact ⟨z,y,vs,r,ob,es,ep,k _ _ (.inl rfl) e,c⟩
 |dT kvs =>
  obtain ⟨z,y,xs,r,ob,es,ep,e,c⟩:=x
  exact ⟨z,y,xs,Paired.mapP r λp q z=>⟨z.1,ht _ _ z.2.1,z.2.2⟩,ob,es,ep,k _ _ (.inl rfl) e,c⟩
 |set S n=>obtain ⟨ob,es,ep,t,e,c⟩:=x;exact ⟨ob,es,ep,t,k _ _ (.inl rfl) e,c⟩
 |ins C dx fs =>
  obtain ⟨d,z,ne,e,mA,⟨od,es,ep,e2,c⟩,r⟩:=x
  exact ⟨ho _ d,z,ne,k _ _ (.inl rfl) e,mA,⟨od,es,ep,k _ _ (.inr d) e2,c⟩,r⟩
 |own y=>obtain ⟨ob,e⟩:=x;exact ⟨ob,k _ _ (.inl rfl) e⟩
 |xd fs=>obtain ⟨mA,⟨od,es,ep,e,c⟩,r⟩:=x;exact ⟨mA,⟨od,es,ep,k _ _ (.inl rfl) e,c⟩,r⟩
 |rng lo hi=>obtain ⟨t,u,v,e⟩:=x;exact ⟨t,u,v,k _ _ (.inl rfl) e⟩
 |frz ob u ih=>obtain ⟨e,q⟩:=x;exact ⟨k _ _ (.inl rfl) e,ih q⟩
 |tbl ps =>
  have e:h.get? a=some { cls:=.none,data:=.fields ps }:=x
  show h'.get? a=some { cls:=.none,data:=.fields ps }
  exact k a _ (.inl rfl) e
 |met f y =>
  have e:h.get? a=some (PySem.W.methodObj (.ref f) (.ref y)):=x
  show h'.get? a=some (PySem.W.methodObj (.ref f) (.ref y))
  exact k a _ (.inl rfl) e
 |ext φ=>obtain ⟨p,⟨o,e⟩,st⟩:=x;exact ⟨st _ _ p λo q=>k _ _ (.inl rfl) q,⟨o,k _ _ (.inl rfl) e⟩,st⟩
theorem HOk.lt (x:HOk P w H h) (e:H a=some o):a<h.objs.size:=(x a o e).lt
theorem HOk.fresh (x:HOk P w H h) (e:h.objs.size<=a):H a=none:=by
 cases q:H a with
 |none=>rfl
 |some u=>exact absurd (Nat.lt_of_lt_of_le (x.lt q) e) (Nat.lt_irrefl _)
theorem HOk.kept (x:HOk P w H h) (k:∀ b u,h.get? b=some u->h'.get? b=some u):HOk P w H h':=λa o e =>
 (x a o e).stay (λb u _ q=>k b u q) (λ_ q=>q) λ_ _ q=>q
theorem HOk.laid (x:HOk P w H h) (k:∀ b u,h.get? b=some u->h'.get? b=some u) (hp:h.objs.size<=a) (new:ObjOk P w (upd H a o) h' a o):HOk P w (upd H a o) h':=λb u e=>by
 have hn:=x.fresh hp
 by_cases hb:b=a
 ·subst hb;rw [upd_same] at e;cases e;exact new
 ·rw [upd_ne hb] at e
  exact (x b u e).stay (λc v _ q=>k c v q) (λc q=>by rw [upd_ne (ne_of_none q hn)];exact q) λc xs q=>by rw [upd_ne (ne_of_none q hn)];exact q
end

def Rd (H:Hp) (a:Addr) (u:HO):Prop:=H a=some u\/∃ o,H a=some (.frz o u)
theorem Rd.of {H:Hp} {a:Addr} {u:HO} (h:H a=some u):Rd H a u:=.inl h
theorem Rd.ok {P:Program} {w:World} {H:Hp} {h:Heap} {a:Addr} {u:HO} (r:Rd H a u) (x:HOk P w H h):ObjOk P w H h a u:=by
 rcases r with r | ⟨o,r⟩
 ·exact x a u r
 ·obtain ⟨_,q⟩:=x a _ r
  exact q
def Mut:Option HO->Prop
 |some (.lst _)=>True
 |some (.dK _)=>True
 |some (.dT _)=>True
 |some (.set _ _)=>True
 |some (.ins _ _ _)=>True
 |some (.ext _)=>True
 |_=>False
section
variable {P:Program} {w:World} {H:Hp} {h h':Heap} {x e:Addr} {o':HO}
theorem HOk.write (ok:HOk P w H h) (mu:Mut (H x)) (he:e=x\/H e=some (.own x)) (k:∀ b u,b≠e->h.get? b=some u->h'.get? b=some u) (heo:∃ u,h'.get? e=some u)
  (new:ObjOk P w (upd H x o') h' x o'):HOk P w (upd H x o') h':=λb u q=>by
 have nown:∀ c y,H c=some (.own y)->c≠x:=λc y r z=>by subst z;rw [r] at mu;exact mu
 have ntup:∀ c xs,H c=some (.tup xs)->c≠x:=λc xs r z=>by subst z;rw [r] at mu;exact mu
 by_cases hb:b=x
 ·subst hb;rw [upd_same] at q;cases q;exact new
 ·rw [upd_ne hb] at q
  by_cases hbe:b=e
  ·have q':H b=some (.own x):=by
    rcases he with z | z
    ·exact absurd (hbe.trans z) hb
    ·rw [hbe];exact z
   rw [q] at q';cases q'
   obtain ⟨v,hv⟩:=heo
   exact ⟨v,by rw [hbe];exact hv⟩
  ·refine (ok b u q).stay (λc v hc r=>k c v ?_ r) (λc r=>by rw [upd_ne (nown c b r)];exact r) λc xs r=>by rw [upd_ne (ntup c xs r)];exact r
   rcases hc with rfl | hc
   ·exact hbe
   ·rintro rfl
    rcases he with z | z
    ·exact nown c b hc z
    ·rw [hc] at z;cases z;exact hb rfl
end

structure Un (fs ex:List Addr) (H H':Hp) (h h':Heap):Prop where
 keep:∀ b o,h.get? b=some o->H b=none->b∉fs->b∉ex->h'.get? b=some o
 slot:∀ b o,h.get? b=some o->H b=none->b∈fs->b∉ex->∃ sl,h'.get? b=some { o with slots:=sl }
 free:∀ b o,h.get? b=some o->H b=none->b∉ex->H' b=none
 there:∀ b o,h.get? b=some o->b∉ex->∃ o',h'.get? b=some o'
 tups:∀ b xs,H b=some (.tup xs)->H' b=some (.tup xs)
 frzs:∀ b o u,H b=some (.frz o u)->H' b=some (.frz o u)
 tbls:∀ b ps,H b=some (.tbl ps)->∃ more,H' b=some (.tbl (ps++more))
section
variable {fs fs' ex ex':List Addr} {H H1 H2:Hp} {h h1 h2 h':Heap} {a x e:Addr} {o:HO}
theorem Un.any (u:Un fs ex H H1 h h1) {b:Addr} {ob:Obj} (q:h.get? b=some ob) (n:H b=none) (hx:b∉ex):∃ sl,h1.get? b=some { ob with slots:=sl }:=by
 by_cases hb:b∈fs
 ·exact u.slot b ob q n hb hx
 ·exact ⟨ob.slots,u.keep b ob q n hb hx⟩
theorem Un.kept (k:∀ b u,h.get? b=some u->h'.get? b=some u):Un fs ex H H h h' :=
 ⟨λb ob q _ _ _=>k b ob q,λb ob q _ _ _=>⟨ob.slots,k b ob q⟩,λ_ _ _ n _=>n,λb ob q _=>⟨ob,k b ob q⟩,λ_ _ q=>q,λ_ _ _ q=>q,λ_ ps q=>⟨#[],by rw [q];simp⟩⟩
theorem Un.refl:Un fs ex H H h h:=Un.kept λ_ _ q=>q
theorem Un.laid (k:∀ b u,h.get? b=some u->h'.get? b=some u) (hp:h.objs.size<=a) (hn:H a=none):Un fs ex H (upd H a o) h h' where
 keep:=λb u q _ _ _=>k b u q
 slot:=λb u q _ _ _=>⟨u.slots,k b u q⟩
 free:=λb u q n _=>by rw [upd_ne (Nat.ne_of_lt (Nat.lt_of_lt_of_le (Heap.lt_size q) hp))];exact n
 there:=λb u q _=>⟨u,k b u q⟩
 tups:=λb xs q=>by rw [upd_ne (ne_of_none q hn)];exact q
 frzs:=λb u xs q=>by rw [upd_ne (ne_of_none q hn)];exact q
 tbls:=λb ps q=>⟨#[],by rw [upd_ne (ne_of_none q hn),q];simp⟩
theorem Un.write (mu:Mut (H x)) (he:e=x\/H e=some (.own x)) (k:∀ b u,b≠e->h.get? b=some u->h'.get? b=some u) (heo:∃ u,h'.get? e=some u):Un fs ex H (upd H x o) h h':=by
 have hx:∀ b,H b=none->b≠x:=λb n z=>by subst z;rw [n] at mu;exact mu
 have hb:∀ b,H b=none->b≠e:=λb n z=>by
  subst z
  rcases he with r | r
  ·exact hx b n r
  ·rw [n] at r;cases r
 have hm:∀ b u,H b=some u->¬ Mut (some u)->b≠x:=λb u q nm z=>by subst z;rw [q] at mu;exact nm mu
 refine ⟨λb u q n _ _=>k b u (hb b n) q,λb u q n _ _=>⟨u.slots,k b u (hb b n) q⟩,λb u q n _=>by rw [upd_ne (hx b n)];exact n,λb u q _=>?_,
  λb xs q=>by rw [upd_ne (hm b _ q λz=>z)];exact q,λb u xs q=>by rw [upd_ne (hm b _ q λz=>z)];exact q,λb ps q=>⟨#[],by rw [upd_ne (hm b _ q λz=>z),q];simp⟩⟩
 by_cases hbe:b=e
 ·subst hbe;exact heo
 ·exact ⟨u,k b u hbe q⟩
end

def trk (h:Heap) (H:Hp):List Addr:=(List.range h.objs.size).filter λa=>(H a).isSome
def hidT (h:Heap) (H:Hp):Heap:=PySem.W.hideAll h (trk h H)
theorem hidT_size (h:Heap) (H:Hp):(hidT h H).objs.size=h.objs.size:=PySem.W.hideAll_size _ _
theorem hidT_get {h:Heap} {H:Hp} {b:Addr} {o:Obj} (e:h.get? b=some o) (n:H b=none):(hidT h H).get? b=some o :=
 PySem.W.hideAll_get _ e λhm=>by
  have q:(H b).isSome=true:=(List.mem_filter.mp hm).2
  rw [n] at q;simp at q
theorem of_hidT {h:Heap} {H:Hp} {b:Addr} {o:Obj} (e:(hidT h H).get? b=some o):h.get? b=some o/\H b=none:=by
 have e':h.get? b=some o:=PySem.W.of_hideAll (trk h H) e
 refine ⟨e',?_⟩
 cases q:H b with
 |none=>rfl
 |some x =>
  have hm:b∈trk h H:=List.mem_filter.mpr ⟨List.mem_range.mpr (Heap.lt_size e'),by simp [q]⟩
  have z:(hidT h H).get? b=none:=PySem.W.hideAll_none (trk h H) hm
  rw [z] at e;cases e

def allNews (g h:Heap) (L:Addr):List (Addr×Obj):=(List.range h.objs.size).filterMap λa=>if a=L\/(g.get? a).isSome=true then none else (h.get? a).map λo=>(a,o)
def rest (g h:Heap) (L d:Addr):List (Addr×Obj):=(allNews g h L).filter λp=>decide (p.1≠d)
end L2

namespace L2
open PySem PySem.Spec PyProof.Rows

structure Mod (K:PySem.W.Frag) (mg:Str->Option Value) (base:Heap):Prop where
 kin:K.In base
 glob:base.Ns mainGlobals mg
 blt:∃ mb,base.Ns builtinsNs mb/\∀ x:Str,x≠"__name__"->mb x=bootBuiltins x
 nolimit:base.NoLimit

set_option genInjectivity false in
structure Cx where
 prog:Program
 w:World
 K:PySem.W.Frag
 mg:Str->Option Value
 base:Heap
 A:Around
 N:List Str
 s₀:Shared
 H₀:Hp
 env:Env
 outer:List Env
 stack:List Env
 ex:List Addr
 fn:Str->Bool
 calm:Bool
 pn:List (Addr×Obj)
 xe:Value->Shared->Prop
def frs (l:List Env):List Addr:=l.filterMap (·.frame)
abbrev Cx.fs (X:Cx):List Addr:=frs X.outer

def Vis (sc:Scope) (x:Str):Prop:=sc.names.lookup x=some .local\/sc.names.lookup x=some .cell\/sc.names.lookup x=some .free
def Loc (sc:Scope) (x:Str):Prop:=sc.names.lookup x=some .local\/sc.names.lookup x=some .cell
def Look (env:Env) (h:Heap) (m:Str->Option Value) (x:Str) (u:Value):Prop :=
 (env.kindOf x=some .local/\m x=some u)\/((env.kindOf x=some .cell\/env.kindOf x=some .free)/\∃ c,env.cells.lookup x=some c/\h.IsCell c (some u))

structure Cx.Ok (X:Cx):Prop where
 mod:Mod X.K X.mg X.base
 kind:X.env.scope.kind=.function
 glob:X.env.globals=mainGlobals
 blt:X.env.builtins=builtinsNs
 above:X.s₀.heap.objs.size<=X.env.locals
 inj:∀ x y c,X.env.cells.lookup x=some c->X.env.cells.lookup y=some c->x=y
 has:∀ x,(X.env.kindOf x=some .cell\/X.env.kindOf x=some .free)->∃ c,X.env.cells.lookup x=some c
 cab:∀ x c,X.fn x=true->X.env.cells.lookup x=some c->X.s₀.heap.objs.size<=c
 hd:X.calm=true->X.A.handled=none
 frames:X.A.frames=some X.stack
 stk:X.stack=X.outer\/(X.stack=X.env::X.outer/\X.env.frame=some X.env.locals)
 exf:∀ b∈X.ex,b≠X.env.locals/\∀ x c,X.env.cells.lookup x=some c->c≠b
 bs:∀ b o,X.base.get? b=some o->X.s₀.heap.get? b=some o/\X.H₀ b=none
 bsz:X.base.objs.size<=X.s₀.heap.objs.size
 noex:∀ b o,X.base.get? b=some o->b∉X.ex
 exfs:∀ b∈X.ex,b∉X.fs
 funs:X.s₀.heap.FunFrames X.base X.outer
 frf:∀ b∈X.fs,X.H₀ b=none

structure Inv (X:Cx) (pins:List (Addr×Obj)) (σ:List (Option V)) (H:Hp) (s:Shared):Prop where
 ok:X.Ok
 os:s.os=X.s₀.os
 bare:AllBare s.gens
 base:Un X.fs X.ex X.H₀ H X.s₀.heap s.heap
 loc:∃ m,s.heap.Ns X.env.locals m/\∀ (i:Nat) (x:Str) (v:V),X.N[i]?=some x->σ[i]?=some (some v)->Vis X.env.scope x->∃ u,RelV v u/\Look X.env s.heap m x u
 cell:∀ x c,X.env.cells.lookup x=some c->∃ v,s.heap.IsCell c v
 free:H X.env.locals=none
 freeC:∀ x c,X.env.cells.lookup x=some c->H c=none
 pin:∀ p∈X.pn++pins,s.heap.get? p.1=some p.2/\H p.1=none/\p.1≠X.env.locals/\p.1∉X.fs/\∀ v,p.2.data≠.cell v
 hok:HOk X.prog X.w H s.heap
 len:σ.length=X.N.length

section
variable {X:Cx} {pins:List (Addr×Obj)} {σ:List (Option V)} {H H':Hp} {s:Shared} {h':Heap}

theorem Cx.Ok.nofr (ok:X.Ok) {b:Addr} {o:Obj} (e:X.base.get? b=some o):b∉X.fs:=λhb=>by
 have:=(ok.funs.mem hb).1
 rw [e] at this;cases this
theorem Inv.bs (I:Inv X pins σ H s):∀ b o,X.base.get? b=some o->s.heap.get? b=some o/\H b=none:=λb o e =>
 ⟨I.base.keep b o (I.ok.bs b o e).1 (I.ok.bs b o e).2 (I.ok.nofr e) (I.ok.noex b o e),I.base.free b o (I.ok.bs b o e).1 (I.ok.bs b o e).2 (I.ok.noex b o e)⟩
theorem Inv.bk (I:Inv X pins σ H s):∀ b o,X.base.get? b=some o->s.heap.get? b=some o:=λb o e=>(I.bs b o e).1
theorem Inv.mod (I:Inv X pins σ H s):Mod X.K X.mg X.base:=I.ok.mod
theorem Inv.kIn (I:Inv X pins σ H s):X.K.In s.heap:=I.ok.mod.kin.keeps I.bk
theorem Inv.lt (I:Inv X pins σ H s):X.env.locals<s.heap.objs.size:=let ⟨_,hn,_⟩:=I.loc;hn.lt
theorem Inv.sz (I:Inv X pins σ H s):X.s₀.heap.objs.size<=s.heap.objs.size:=Nat.le_trans I.ok.above (Nat.le_of_lt I.lt)
theorem Inv.nofs (I:Inv X pins σ H s) {a:Addr} (h:s.heap.objs.size<=a):a∉X.fs:=λhb=>by
 obtain ⟨_,o,ho,_⟩:=I.ok.funs.mem hb
 exact absurd (Nat.lt_of_lt_of_le (Heap.lt_size ho) (Nat.le_trans I.sz h)) (Nat.lt_irrefl _)
theorem Inv.cne (I:Inv X pins σ H s):∀ x c,X.env.cells.lookup x=some c->c≠X.env.locals:=λx c e z=>by
 obtain ⟨v,o,ho,hd⟩:=I.cell x c e
 obtain ⟨m,⟨o',es,ep,ho',hd',_⟩,_⟩:=I.loc
 rw [z,ho'] at ho;cases ho;rw [hd'] at hd;cases hd
theorem Inv.funs (I:Inv X pins σ H s):s.heap.FunFrames X.base X.outer:=by
 have all:∀ (l:List Env),(∀ b∈frs l,b∈X.fs)->X.s₀.heap.FunFrames X.base l->s.heap.FunFrames X.base l:=by
  intro l
  induction l with
  |nil=>intro _ _;trivial
  |cons env r ih =>
   intro hs hl
   obtain ⟨hk,⟨L,o,hf,hn,ho,hd⟩,hr⟩:=hl
   have hL:L∈X.fs:=hs L (by unfold frs;rw [List.filterMap_cons,hf];exact List.mem_cons_self)
   obtain ⟨sl,e⟩:=I.base.slot L o ho (I.ok.frf L hL) hL λz=>I.ok.exfs L z hL
   exact ⟨hk,⟨L,_,hf,hn,e,hd⟩,ih (λb hb=>hs b (by unfold frs;rw [List.filterMap_cons,hf];exact List.mem_cons_of_mem _ hb)) hr⟩
 exact all X.outer (λ_ hb=>hb) I.ok.funs

theorem Inv.stack (I:Inv X pins σ H s):s.heap.FunFrames X.base X.stack:=by
 rcases I.ok.stk with e | ⟨e,hf⟩
 ·rw [e];exact I.funs
 ·rw [e]
  obtain ⟨m,hn,_⟩:=I.loc
  refine .cons (by rw [I.ok.kind];decide) hf hn ?_ I.funs
  exact Heap.get?_none_of_le (Nat.le_trans I.ok.bsz I.ok.above)
theorem Inv.stkSub (I:Inv X pins σ H s):∀ b∈frs X.stack,b∈X.env.locals::X.fs:=λb hb=>by
 rcases I.ok.stk with e | ⟨e,hf⟩
 ·rw [e] at hb;exact List.mem_cons_of_mem _ hb
 ·rw [e] at hb
  unfold frs at hb
  rw [List.filterMap_cons,hf] at hb
  exact hb
theorem Inv.stkFree (I:Inv X pins σ H s):∀ b∈frs X.stack,H b=none:=λb hb=>by
 rcases List.mem_cons.mp (I.stkSub b hb) with e | hb
 ·rw [e];exact I.free
 ·obtain ⟨_,o,ho,_⟩:=I.ok.funs.mem hb
  exact I.base.free b o ho (I.ok.frf b hb) λz=>I.ok.exfs b z hb

theorem Inv.step {g':Array GenState} {t':Nat} {d':Drawn} {ch:List Addr} (I:Inv X pins σ H s)
  (hch:∀ b∈ch,(b∈X.ex\/X.s₀.heap.objs.size<=b)/\b≠X.env.locals/\(∀ x c,X.env.cells.lookup x=some c->c≠b)/\∀ p∈X.pn++pins,p.1≠b)
  (keep:∀ b o,b≠X.env.locals->b∉X.fs->b∉ch->s.heap.get? b=some o->H b=none->h'.get? b=some o)
  (slot:∀ b o,b≠X.env.locals->b∈X.fs->b∉ch->s.heap.get? b=some o->H b=none->∃ sl,h'.get? b=some { o with slots:=sl }) (free:∀ b o,b∉ch->s.heap.get? b=some o->H b=none->H' b=none)
  (there:∀ b o,b∉ch->s.heap.get? b=some o->∃ o',h'.get? b=some o')
  (tups:∀ b xs,H b=some (.tup xs)->H' b=some (.tup xs)) (frzs:∀ b o u,H b=some (.frz o u)->H' b=some (.frz o u)) (tbls:∀ b ps,H b=some (.tbl ps)->∃ more,H' b=some (.tbl (ps++more)))
  (ns:∀ m,s.heap.Ns X.env.locals m->h'.Ns X.env.locals m) (hok:HOk X.prog X.w H' h') (hg:AllBare g') :
  Inv X pins σ H' { s with heap:=h',gens:=g',drawn:=d',toks:=t' }:=by
 have neL:∀ b o,X.s₀.heap.get? b=some o->b≠X.env.locals:=λb o e=>Nat.ne_of_lt (Nat.lt_of_lt_of_le (Heap.lt_size e) I.ok.above)
 have neC:∀ b o,X.s₀.heap.get? b=some o->b∉X.ex->b∉ch:=λb o e hx hb=>by
  rcases (hch b hb).1 with z | z
  ·exact hx z
  ·exact absurd (Nat.lt_of_lt_of_le (Heap.lt_size e) z) (Nat.lt_irrefl _)
 have cellK:∀ x c,X.env.cells.lookup x=some c->∀ v,s.heap.IsCell c v->h'.IsCell c v:=λx c e v ⟨o,ho,hd⟩=>by
  have nch:c∉ch:=λz=>(hch c z).2.2.1 x c e rfl
  by_cases hc:c∈X.fs
  ·obtain ⟨sl,q⟩:=slot c o (I.cne x c e) hc nch ho (I.freeC x c e)
   exact ⟨_,q,hd⟩
  ·exact ⟨o,keep c o (I.cne x c e) hc nch ho (I.freeC x c e),hd⟩
 refine ⟨I.ok,I.os,hg,⟨λb o e n hb hx=>?_,λb o e n hb hx=>?_,λb o e n hx=>?_,λb o e hx=>?_,λb xs e=>tups b xs (I.base.tups b xs e),λb o xs e=>frzs b o xs (I.base.frzs b o xs e),λb ps e=>?_⟩,?_,λx c e=>?_,?_,λx c e=>?_,λp hp=>?_,hok,I.len⟩
 ·exact keep b o (neL b o e) hb (neC b o e hx) (I.base.keep b o e n hb hx) (I.base.free b o e n hx)
 ·obtain ⟨sl,e1⟩:=I.base.slot b o e n hb hx
  obtain ⟨sl',e2⟩:=slot b _ (neL b o e) hb (neC b o e hx) e1 (I.base.free b o e n hx)
  exact ⟨sl',e2⟩
 ·obtain ⟨o',e1⟩:=I.base.there b o e hx
  exact free b o' (neC b o e hx) e1 (I.base.free b o e n hx)
 ·obtain ⟨o',e1⟩:=I.base.there b o e hx
  exact there b o' (neC b o e hx) e1
 ·obtain ⟨m1,e1⟩:=I.base.tbls b ps e
  obtain ⟨m2,e2⟩:=tbls b _ e1
  exact ⟨m1++m2,by rw [e2,Array.append_assoc]⟩
 ·obtain ⟨m,hn,hl⟩:=I.loc
  refine ⟨m,ns m hn,λi x v e1 e2 e3=>?_⟩
  obtain ⟨u,r,l⟩:=hl i x v e1 e2 e3
  refine ⟨u,r,?_⟩
  rcases l with l | ⟨k,c,e,z⟩
  ·exact .inl l
  ·exact .inr ⟨k,c,e,cellK x c e _ z⟩
 ·obtain ⟨v,z⟩:=I.cell x c e
  exact ⟨v,cellK x c e v z⟩
 ·obtain ⟨m,⟨o,_,_,ho,_⟩,_⟩:=I.loc
  exact free _ o (λz=>(hch _ z).2.1 rfl) ho I.free
 ·obtain ⟨v,o,ho,hd⟩:=I.cell x c e
  exact free c o (λz=>(hch c z).2.2.1 x c e rfl) ho (I.freeC x c e)
 ·obtain ⟨e,n,ne,nf,d⟩:=I.pin p hp
  have nch:p.1∉ch:=λz=>(hch p.1 z).2.2.2 p hp rfl
  exact ⟨keep p.1 p.2 ne nf nch e n,free p.1 p.2 nch e n,ne,nf,d⟩
theorem Inv.un {t':Nat} (I:Inv X pins σ H s) (u:Un X.fs [] H H' s.heap h') (hok:HOk X.prog X.w H' h'):Inv X pins σ H' { s with heap:=h',toks:=t' }:=by
 obtain ⟨m,⟨o,es,ep,ho,r⟩,_⟩:=id I.loc
 obtain ⟨sl,hL⟩:=u.any ho I.free (by simp)
 exact I.step (g':=s.gens) (d':=s.drawn) (ch:=[]) (λ_ z=>nomatch z) (λb o _ hb _ e n=>u.keep b o e n hb (by simp)) (λb o _ hb _ e n=>u.slot b o e n hb (by simp)) (λb o _ e n=>u.free b o e n (by simp)) (λb o _ e=>u.there b o e (by simp)) u.tups u.frzs u.tbls (λm' hm=>by
  obtain ⟨o',es',ep',ho',r'⟩:=hm
  rw [ho] at ho';cases ho'
  exact ⟨_,es',ep',hL,r'⟩) hok I.bare
theorem Inv.call {g':Array GenState} {t':Nat} {d':Drawn} {ch:List Addr} (I:Inv X pins σ H s) (u:Un (frs X.stack) ch H H' s.heap h') (hok:HOk X.prog X.w H' h') (hg:AllBare g')
  (hch:∀ b∈ch,(b∈X.ex\/X.s₀.heap.objs.size<=b)/\b≠X.env.locals/\(∀ x c,X.env.cells.lookup x=some c->c≠b)/\∀ p∈X.pn++pins,p.1≠b) :
  Inv X pins σ H' { s with heap:=h',gens:=g',drawn:=d',toks:=t' }:=by
 obtain ⟨m,⟨o,es,ep,ho,r⟩,_⟩:=id I.loc
 obtain ⟨sl,hL⟩:=u.any ho I.free λz=>(hch _ z).2.1 rfl
 exact I.step (ch:=ch) hch (λb o hL hb hc e n=>u.keep b o e n (λz=>(List.mem_cons.mp (I.stkSub b z)).elim hL hb) hc) (λb o _ _ hc e n=>u.any e n hc) (λb o hc e n=>u.free b o e n hc) (λb o hc e=>u.there b o e hc) u.tups u.frzs u.tbls (λm' hm=>by
  obtain ⟨o',es',ep',ho',r'⟩:=hm
  rw [ho] at ho';cases ho'
  exact ⟨_,es',ep',hL,r'⟩) hok hg
theorem Inv.turned {t':Nat} {it:Addr} (I:Inv X pins σ H s) (k:∀ b o,b≠it->s.heap.get? b=some o->h'.get? b=some o) (hn:H it=none) (hL:it≠X.env.locals)
  (h1:it∈X.ex\/X.s₀.heap.objs.size<=it) (h2:∀ x c,X.env.cells.lookup x=some c->c≠it) (h3:∀ p∈X.pn++pins,p.1≠it):Inv X pins σ H { s with heap:=h',toks:=t' }:=by
 have nit:∀ b u,H b=some u->b≠it:=λb u e z=>by rw [z,hn] at e;cases e
 refine I.step (g':=s.gens) (d':=s.drawn) (ch:=[it]) (λb hb=>?_) (λb o _ _ hc e _=>k b o (λz=>hc (by simp [z])) e) (λb o _ _ hc e _=>⟨o.slots,k b o (λz=>hc (by simp [z])) e⟩) (λ_ _ _ _ n=>n)
  (λb o hc e=>⟨o,k b o (λz=>hc (by simp [z])) e⟩) (λ_ _ e=>e) (λ_ _ _ e=>e) (λb ps e=>⟨#[],by rw [e];simp⟩) (λm hm=>?_) (λb u e=>?_) I.bare
 ·have e:b=it:=by simpa using hb
  subst e
  exact ⟨h1,hL,h2,h3⟩
 ·obtain ⟨o,es,ep,ho,r⟩:=hm
  exact ⟨o,es,ep,k _ o (Ne.symm hL) ho,r⟩
 ·refine (I.hok b u e).stay (λc v hc q=>k c v ?_ q) (λ_ q=>q) λ_ _ q=>q
  rcases hc with z | z
  ·rw [z];exact nit b u e
  ·exact nit c _ z
theorem Inv.tok (I:Inv X pins σ H s) (t:Nat):Inv X pins σ H { s with toks:=t }:=I.un (h':=s.heap) (t':=t) Un.refl I.hok
theorem Inv.kept {t':Nat} (I:Inv X pins σ H s) (k:∀ b u,s.heap.get? b=some u->h'.get? b=some u):Inv X pins σ H { s with heap:=h',toks:=t' }:=I.un (Un.kept k) (I.hok.kept k)
theorem Inv.laid {a:Addr} {o:HO} {t':Nat} (I:Inv X pins σ H s) (k:∀ b u,s.heap.get? b=some u->h'.get? b=some u) (hp:s.heap.objs.size<=a) (new:ObjOk X.prog X.w (upd H a o) h' a o) :
  Inv X pins σ (upd H a o) { s with heap:=h',toks:=t' }:=I.un (Un.laid k hp (I.hok.fresh hp)) (I.hok.laid k hp new)
theorem Inv.write {x e:Addr} {o:HO} {t':Nat} (I:Inv X pins σ H s) (mu:Mut (H x)) (he:e=x\/H e=some (.own x)) (k:∀ b u,b≠e->s.heap.get? b=some u->h'.get? b=some u) (heo:∃ u,h'.get? e=some u)
  (new:ObjOk X.prog X.w (upd H x o) h' x o):Inv X pins σ (upd H x o) { s with heap:=h',toks:=t' }:=I.un (Un.write mu he k heo) (I.hok.write mu he k heo new)
theorem Inv.weak {σ':List (Option V)} (I:Inv X pins σ H s) (hl:σ'.length=σ.length) (w:∀ (i:Nat) v,σ'[i]?=some (some v)->σ[i]?=some (some v)):Inv X pins σ' H s :=
 ⟨I.ok,I.os,I.bare,I.base,let ⟨m,hn,hl'⟩:=I.loc;⟨m,hn,λi x v e1 e2 e3=>hl' i x v e1 (w i v e2) e3⟩,I.cell,I.free,I.freeC,I.pin,I.hok,hl.trans I.len⟩
theorem Inv.pins_of {pins':List (Addr×Obj)} (I:Inv X pins σ H s) (h:∀ p∈pins',s.heap.get? p.1=some p.2/\H p.1=none/\p.1≠X.env.locals/\p.1∉X.fs/\∀ v,p.2.data≠.cell v):Inv X pins' σ H s :=
 ⟨I.ok,I.os,I.bare,I.base,I.loc,I.cell,I.free,I.freeC,λp hp=>(List.mem_append.mp hp).elim (λz=>I.pin p (List.mem_append_left _ z)) (h p),I.hok,I.len⟩

theorem nodup_ix {N:List Str} (hN:N.Nodup) {i j:Nat} {x:Str} (a:N[i]?=some x) (b:N[j]?=some x):i=j:=by
 obtain ⟨h1,e1⟩:=List.getElem?_eq_some_iff.mp a
 obtain ⟨h2,e2⟩:=List.getElem?_eq_some_iff.mp b
 exact (List.getElem_inj hN).mp (e1.trans e2.symm)

theorem store_ok2 {M:Model} {A:Around} {E:Value->Shared->Prop} {i:Nat} {x:Str} {v:V} {u:Value} {Q:Unit->Shared->Prop} (I:Inv X pins σ H s) (hN:X.N.Nodup) (hi:X.N[i]?=some x) (hx:Loc X.env.scope x) (r:RelV v u)
  (h:∀ s',Inv X pins (σ.set i (some v)) H s'->(∃ a,Heap.SameBut a s.heap s'.heap/\(a=X.env.locals\/X.env.cells.lookup x=some a))->Q () s') (hf:X.fn x=true\/X.env.scope.names.lookup x=some .local:=by first | exact .inl rfl | exact .inr rfl | assumption):wpAny M A (storeName X.env x u) Q E s:=by
 obtain ⟨m,hn,hl⟩:=id I.loc
 have hcls:(X.env.scope.kind == .class||(X.env.scope.kind == .module&&X.env.locals != X.env.globals))=false:=by rw [I.ok.kind];rfl
 have hiσ:i<σ.length:=by rw [I.len];exact (List.getElem?_eq_some_iff.mp hi).1
 have cne:=I.cne
 have tracked:∀ {a:Addr} {h':Heap},(∃ o,s.heap.get? a=some o/\H a=none)->Heap.SameBut a s.heap h'->HOk X.prog X.w H h':=λ{a h'} ha hs b ob e=>by
  obtain ⟨_,_,hfree⟩:=ha
  refine (I.hok b ob e).stay (λc w' hc q=>(hs.2 c ?_).trans q) (λ_ q=>q) λ_ _ q=>q
  rintro rfl
  rcases hc with rfl | hc
  ·rw [hfree] at e;cases e
  ·rw [hfree] at hc;cases hc
 rcases hx with hk | hk
 ·refine wpAny_storeName_local hk hn (λh' hn' hs=>?_) hcls
  obtain ⟨oL,_,_,hoL,_⟩:=id hn
  refine h _ ⟨I.ok,I.os,I.bare,⟨λb o e n hb hx=>?_,λb o e n hb hx=>?_,I.base.free,λb o e hx=>?_,I.base.tups,I.base.frzs,I.base.tbls⟩,⟨_,hn',λj y v' e1 e2 e3=>?_⟩,λy c e=>?_,I.free,I.freeC,λp hp=>?_,tracked ⟨oL,hoL,I.free⟩ hs,by simpa using I.len⟩ ⟨_,hs,.inl rfl⟩
  ·exact (hs.2 b (Nat.ne_of_lt (Nat.lt_of_lt_of_le (Heap.lt_size e) I.ok.above))).trans (I.base.keep b o e n hb hx)
  ·obtain ⟨sl,e1⟩:=I.base.slot b o e n hb hx
   exact ⟨sl,(hs.2 b (Nat.ne_of_lt (Nat.lt_of_lt_of_le (Heap.lt_size e) I.ok.above))).trans e1⟩
  ·obtain ⟨o',e1⟩:=I.base.there b o e hx
   exact ⟨o',(hs.2 b (Nat.ne_of_lt (Nat.lt_of_lt_of_le (Heap.lt_size e) I.ok.above))).trans e1⟩
  ·by_cases hj:j=i
   ·subst hj
    rw [hi] at e1;cases e1
    rw [List.getElem?_set_self hiσ] at e2
    cases e2
    exact ⟨u,r,.inl ⟨hk,by simp⟩⟩
   ·rw [List.getElem?_set_ne (Ne.symm hj)] at e2
    obtain ⟨u',r',q⟩:=hl j y v' e1 e2 e3
    refine ⟨u',r',?_⟩
    rcases q with ⟨k,e⟩ | ⟨k,c,e,z⟩
    ·refine .inl ⟨k,?_⟩
     have:y≠x:=λe=>hj (nodup_ix hN e1 (e▸hi))
     simp [this,e]
    ·exact .inr ⟨k,c,e,z.sameBut hs (cne y c e)⟩
  ·obtain ⟨w',z⟩:=I.cell y c e
   exact ⟨w',z.sameBut hs (cne y c e)⟩
  ·obtain ⟨e,n,ne,nf,d⟩:=I.pin p hp
   exact ⟨(hs.2 p.1 ne).trans e,n,ne,nf,d⟩
 ·have hfn:X.fn x=true:=by
   rcases hf with z | z
   ·exact z
   ·rw [z] at hk;cases hk
  obtain ⟨c,hc⟩:=I.ok.has x (.inl hk)
  obtain ⟨w',z⟩:=I.cell x c hc
  refine wpAny_storeName_cell I.ok.kind hk hc z (λh' hc' hs=>?_)
  obtain ⟨oc,hoc,hocd⟩:=id z
  refine h { s with heap:=h' } ⟨I.ok,I.os,I.bare,⟨λb o e n hb hx=>?_,λb o e n hb hx=>?_,I.base.free,λb o e hx=>?_,I.base.tups,I.base.frzs,I.base.tbls⟩,⟨m,hn.sameBut hs (Ne.symm (cne x c hc)),λj y v' e1 e2 e3=>?_⟩,λy c' e=>?_,I.free,I.freeC,λp hp=>?_,tracked ⟨oc,hoc,I.freeC x c hc⟩ hs,by simpa using I.len⟩ ⟨c,hs,.inr hc⟩
  ·exact (hs.2 b (Nat.ne_of_lt (Nat.lt_of_lt_of_le (Heap.lt_size e) (I.ok.cab x c hfn hc)))).trans (I.base.keep b o e n hb hx)
  ·obtain ⟨sl,e1⟩:=I.base.slot b o e n hb hx
   exact ⟨sl,(hs.2 b (Nat.ne_of_lt (Nat.lt_of_lt_of_le (Heap.lt_size e) (I.ok.cab x c hfn hc)))).trans e1⟩
  ·obtain ⟨o',e1⟩:=I.base.there b o e hx
   exact ⟨o',(hs.2 b (Nat.ne_of_lt (Nat.lt_of_lt_of_le (Heap.lt_size e) (I.ok.cab x c hfn hc)))).trans e1⟩
  ·by_cases hj:j=i
   ·subst hj
    rw [hi] at e1;cases e1
    rw [List.getElem?_set_self hiσ] at e2
    cases e2
    exact ⟨u,r,.inr ⟨.inl hk,c,hc,hc'⟩⟩
   ·rw [List.getElem?_set_ne (Ne.symm hj)] at e2
    obtain ⟨u',r',q⟩:=hl j y v' e1 e2 e3
    refine ⟨u',r',?_⟩
    rcases q with q | ⟨k,c',e,z'⟩
    ·exact .inl q
    ·refine .inr ⟨k,c',e,z'.sameBut hs ?_⟩
     rintro rfl
     exact hj (nodup_ix hN e1 (I.ok.inj _ _ _ e hc▸hi))
  ·by_cases hcc:c'=c
   ·subst hcc;exact ⟨_,hc'⟩
   ·obtain ⟨w2,z2⟩:=I.cell y c' e
    exact ⟨w2,z2.sameBut hs hcc⟩
  ·obtain ⟨e,n,ne,nf,d⟩:=I.pin p hp
   refine ⟨(hs.2 p.1 ?_).trans e,n,ne,nf,d⟩
   intro q
   rw [q,hoc] at e
   have q':oc=p.2:=Option.some.inj e
   exact d w' (by rw [<- q'];exact hocd)
theorem store_ok {M:Model} {A:Around} {E:Value->Shared->Prop} {i:Nat} {x:Str} {v:V} {u:Value} {Q:Unit->Shared->Prop} (I:Inv X pins σ H s) (hN:X.N.Nodup) (hi:X.N[i]?=some x) (hx:Loc X.env.scope x) (r:RelV v u)
  (h:∀ s',Inv X pins (σ.set i (some v)) H s'->Q () s') (hf:X.fn x=true\/X.env.scope.names.lookup x=some .local:=by first | exact .inl rfl | exact .inr rfl | assumption):wpAny M A (storeName X.env x u) Q E s :=
 store_ok2 I hN hi hx r (λs' I' _=>h s' I') hf
theorem Inv.call' {s':Shared} {ch:List Addr} (I:Inv X pins σ H s) (ho:s'.os=s.os) (u:Un (frs X.stack) ch H H' s.heap s'.heap) (hok:HOk X.prog X.w H' s'.heap) (hg:AllBare s'.gens)
  (hch:∀ b∈ch,(b∈X.ex\/X.s₀.heap.objs.size<=b)/\b≠X.env.locals/\(∀ x c,X.env.cells.lookup x=some c->c≠b)/\∀ p∈X.pn++pins,p.1≠b):Inv X pins σ H' s':=by
 obtain ⟨h',g',d',t',o'⟩:=s'
 have e:o'=s.os:=ho
 subst e
 exact I.call (g':=g') (t':=t') (d':=d') u hok hg hch
end

abbrev XK:=Value->Option Addr->Hp->Prop
abbrev St:=List (Option V)
abbrev VK:=V->Hp->Prop
abbrev TE:=St->Hp->VK->Prop
abbrev TT:=St->Hp->(Bool->Hp->Prop)->Prop
abbrev TA:=St->Hp->(List V->Hp->Prop)->Prop
set_option genInjectivity false in
structure Ends where
 nx:St->Hp->Prop
 rt:VK
 bk:St->Hp->Prop:=λ_ _=>False
 ct:St->Hp->Prop:=λ_ _=>False
abbrev TS:=Ends->St->Hp->Prop

def EP (X:Cx) (pins:List (Addr×Obj)) (σ:St) (Q:VK) (u:Value) (s':Shared):Prop:=∃ v H',Inv X pins σ H' s'/\RelV v u/\Q v H'
def TP (X:Cx) (pins:List (Addr×Obj)) (σ:St) (Q:Bool->Hp->Prop) (b:Bool) (s':Shared):Prop:=∃ H',Inv X pins σ H' s'/\Q b H'
def AP (X:Cx) (pins:List (Addr×Obj)) (σ:St) (Q:List V->Hp->Prop) (us:List Value) (s':Shared):Prop:=∃ vs H',Inv X pins σ H' s'/\Vals vs us/\Q vs H'
def SP (X:Cx) (pins:List (Addr×Obj)) (D:Ends) (f:Flow) (s':Shared):Prop :=
 match f with
 |.next=>∃ σ' H',Inv X pins σ' H' s'/\D.nx σ' H'
 |.brk=>∃ σ' H',Inv X pins σ' H' s'/\D.bk σ' H'
 |.cont=>∃ σ' H',Inv X pins σ' H' s'/\D.ct σ' H'
 |.ret u=>∃ v σ' H',Inv X pins σ' H' s'/\RelV v u/\D.rt v H'

def PE (X:Cx) (e:Expr) (t:TE):Prop :=
 ∀ (pins:List (Addr×Obj)) (s:Shared) (σ:St) (H:Hp) (Q:VK),Inv X pins σ H s->t σ H Q->wpAny (model X.prog X.w) X.A (eval e X.env) (EP X pins σ Q) X.xe s
def PT (X:Cx) (e:Expr) (t:TT):Prop :=
 ∀ (pins:List (Addr×Obj)) (s:Shared) (σ:St) (H:Hp) (Q:Bool->Hp->Prop),Inv X pins σ H s->t σ H Q->wpAny (model X.prog X.w) X.A (isTrue e X.env (eval e X.env)) (TP X pins σ Q) X.xe s
def PW (X:Cx) (e:Expr) (t:TT):Prop :=
 ∀ (whole:Sem Value) (pins:List (Addr×Obj)) (s:Shared) (σ:St) (H:Hp) (Q:Bool->Hp->Prop),Inv X pins σ H s->t σ H Q->wpAny (model X.prog X.w) X.A (isTrue e X.env whole) (TP X pins σ Q) X.xe s
theorem PW.pt {X:Cx} {e:Expr} {t:TT} (h:PW X e t):PT X e t:=h _
def PA (X:Cx) (es:List Expr) (t:TA):Prop :=
 ∀ (pos:Pos) (pins:List (Addr×Obj)) (s:Shared) (σ:St) (H:Hp) (Q:List V->Hp->Prop),Inv X pins σ H s->t σ H Q->wpAny (model X.prog X.w) X.A (spliced (backTo pos (starEach es X.env))) (AP X pins σ Q) X.xe s
def PS (X:Cx) (st:Stmt) (t:TS):Prop :=
 ∀ (pins:List (Addr×Obj)) (s:Shared) (σ:St) (H:Hp) (D:Ends),Inv X pins σ H s->t D σ H->wpAny (model X.prog X.w) X.A (exec st X.env) (SP X pins D) X.xe s
def PSs (X:Cx) (st:List Stmt) (t:TS):Prop :=
 ∀ (pins:List (Addr×Obj)) (s:Shared) (σ:St) (H:Hp) (D:Ends),Inv X pins σ H s->t D σ H->wpAny (model X.prog X.w) X.A (execs st X.env) (SP X pins D) X.xe s
theorem thn {α:Type} {t:Sem α} {Q Q':α->Shared->Prop} {M:Model} {A:Around} {E:Value->Shared->Prop} {s:Shared} (h:wpAny M A t Q E s) (hQ:∀ a s,Q a s->Q' a s):wpAny M A t Q' E s:=wpAny_mono h hQ λ_ _ x=>x
end L2

namespace L2
open PySem PySem.Spec PyProof.Rows
section
variable {X:Cx}

def tVar (i:Nat):TE:=λσ H Q=>∃ v,σ[i]?=some (some v)/\Q v H
def tC (v:V):TE:=λ_ H Q=>Q v H
theorem pe_var {i:Nat} {x:Str} {pos:Pos} (hN:X.N[i]?=some x) (hv:Vis X.env.scope x) (hd:(x == ("__debug__":Str))=false:=by decide) (hcd:(x == ("__classdict__":Str))=false:=by decide):PE X (.Name x pos) (tVar i):=by
 intro pins s σ H Q I h
 obtain ⟨v,e,h⟩:=h
 obtain ⟨m,hn,hl⟩:=I.loc
 obtain ⟨u,r,l⟩:=hl i x v hN e hv
 have fin:EP X pins σ Q u s:=⟨v,H,I,r,h⟩
 rcases l with ⟨hk,hm⟩ | ⟨hk,c,hc,hcell⟩
 ·exact wpAny_Name (wpAny_loadName_local I.ok.kind hk hn hm fin) hd
 ·rcases hk with hk | hk
  ·exact wpAny_Name (wpAny_loadName_cell I.ok.kind hk hc hcell fin) hd
  ·exact wpAny_Name (wpAny_loadName_free I.ok.kind hk hc hcell fin hcd) hd
theorem pe_int {i j pos}:PE X (.Constant (.int i) j pos) (tC (.int i)):=λ_ _ _ H _ I h=>wpAny_Constant_int ⟨.int i,H,I.tok _,⟨_,rfl⟩,h⟩
theorem pe_bl {b j pos}:PE X (.Constant (.bool b) j pos) (tC (.bl b)):=λ_ _ _ H _ I h=>Constant_bool ⟨.bl b,H,I,rfl,h⟩
theorem pe_non {j pos}:PE X (.Constant .none j pos) (tC .non):=λ_ _ _ H _ I h=>Constant_none ⟨.non,H,I,rfl,h⟩
theorem pe_str {x j pos}:PE X (.Constant (.str x) j pos) (tC (.str x)):=λ_ _ _ H _ I h=>Calls.Constant_str ⟨.str x,H,I.tok _,⟨_,rfl⟩,h⟩

def Gl (X:Cx) (x:Str):Prop:=X.env.kindOf x=some .globalImplicit
theorem ld_glob {E:Value->Shared->Prop} {pins:List (Addr×Obj)} {s:Shared} {σ:St} {H:Hp} {x:Str} {u:Value} {pos:Pos} {Q:Value->Shared->Prop} (I:Inv X pins σ H s) (hg:Gl X x) (hm:X.mg x=some u) (h:Q u s)
  (hd:(x == ("__debug__":Str))=false:=by decide):wpAny (model X.prog X.w) X.A (eval (.Name x pos) X.env) Q E s :=
 Calls.Name_function_global I.ok.kind hg (Calls.loadGlobal_global (by rw [I.ok.glob];exact I.mod.glob.keeps I.bk) hm h) hd
theorem ld_blt {E:Value->Shared->Prop} {pins:List (Addr×Obj)} {s:Shared} {σ:St} {H:Hp} {x:Str} {u:Value} {pos:Pos} {Q:Value->Shared->Prop} (I:Inv X pins σ H s) (hg:Gl X x) (hm:X.mg x=none) (hv:bootBuiltins x=some u) (h:Q u s)
  (hn:x≠"__name__":=by decide) (hd:(x == ("__debug__":Str))=false:=by decide):wpAny (model X.prog X.w) X.A (eval (.Name x pos) X.env) Q E s:=by
 obtain ⟨mb,h1,h2⟩:=I.mod.blt
 exact Calls.Name_function_global I.ok.kind hg (Calls.loadGlobal_builtin (by rw [I.ok.glob];exact I.mod.glob.keeps I.bk) hm (by rw [I.ok.blt];exact h1.keeps I.bk) ((h2 x hn).trans hv) h) hd
theorem pe_glob {x:Str} {v:V} {u:Value} {pos:Pos} (hg:Gl X x) (hm:X.mg x=some u) (r:RelV v u) (hd:(x == ("__debug__":Str))=false:=by decide):PE X (.Name x pos) (tC v) :=
 λ_ _ _ H _ I h=>ld_glob I hg hm ⟨v,H,I,r,h⟩ hd
theorem pe_bltn {x:Str} {v:V} {u:Value} {pos:Pos} (hg:Gl X x) (hm:X.mg x=none) (hv:bootBuiltins x=some u) (r:RelV v u) (hn:x≠"__name__":=by decide) (hd:(x == ("__debug__":Str))=false:=by decide):PE X (.Name x pos) (tC v) :=
 λ_ _ _ H _ I h=>ld_blt I hg hm hv ⟨v,H,I,r,h⟩ hn hd

variable {a b:Expr} {ta tb:TE} {pos:Pos}
def PC (X:Cx) (op:CmpOp) (a b:Expr) (t:TE):Prop :=
 ∀ (pins:List (Addr×Obj)) (s:Shared) (σ:St) (H:Hp) (Q:VK),Inv X pins σ H s->t σ H Q ->
  wpAny (model X.prog X.w) X.A (eval a X.env) (λv s₁=>wpAny (model X.prog X.w) X.A (eval b X.env) (λu s₂=>wpAny (model X.prog X.w) X.A (compareOp op v u) (EP X pins σ Q) X.xe s₂) X.xe s₁) X.xe s
theorem nobehind (b:Expr) {op:CmpOp} (h:op≠.In) (h2:op≠.NotIn):behindInMarks op b=false:=by
 have e1:(op == CmpOp.In)=false:=by cases op<;>first | rfl | exact absurd rfl h
 have e2:(op == CmpOp.NotIn)=false:=by cases op<;>first | rfl | exact absurd rfl h2
 cases b<;>simp [behindInMarks,e1,e2]
def tB (t:TE):TT:=λσ H Q=>t σ H λx H1=>∃ c,x=.bl c/\Q c H1
theorem pt_cmp {op:CmpOp} {t:TE} (h:PC X op a b t) (h1:behindInMarks op b=false:=by first | exact nobehind _ (by decide) (by decide) | rfl):PT X (.Compare a [op] [b] pos) (tB t):=by
 intro pins s σ H Q I hw
 refine wpAny_isTrue_Compare1 (thn (h pins s σ H _ I hw) λv s1 h1=>thn h1 λu s2 h2=>thn h2 λc s3 ⟨x,H1,I1,r1,q1⟩=>?_) h1
 obtain ⟨d,rfl,q⟩:=q1
 cases r1
 exact wpAny_truthy_bool ⟨H1,I1,q⟩
theorem pt_val {e:Expr} {t:TE} (h:PE X e t) (he:∀ whole,isTrue e X.env whole=(do let v <- whole;standAt e.pos;holding [v] (truthy v)):=by intro _;rfl):PT X e (tB t):=by
 intro pins s σ H Q I hw
 refine isTrue_plain (thn (h pins s σ H _ I hw) λv s1 ⟨x,H1,I1,r1,q1⟩=>?_) (he _)
 obtain ⟨d,rfl,q⟩:=q1
 cases r1
 exact wpAny_truthy_bool ⟨H1,I1,q⟩

variable {tA tB':TT} {rest:List Expr}
def tAnd (t u:TT):TT:=λσ H Q=>t σ H λc H1=>if c=true then u σ H1 Q else Q false H1
def tOr (t u:TT):TT:=λσ H Q=>t σ H λc H1=>if c=true then Q true H1 else u σ H1 Q
def tNot (t:TT):TT:=λσ H Q=>t σ H λc H1=>Q (!c) H1
theorem pw_and1 (ha:PT X a tA):PW X (.BoolOp .And [a] pos) tA:=by
 intro wh pins s σ H Q I h
 refine isTrue_and (thn (ha pins s σ H Q I h) λc s1 e=>?_)
 cases c with
 |true=>exact isTrue_and_nil e
 |false=>exact e
theorem pw_or1 (ha:PT X a tA):PW X (.BoolOp .Or [a] pos) tA:=by
 intro wh pins s σ H Q I h
 refine isTrue_or (thn (ha pins s σ H Q I h) λc s1 e=>?_)
 cases c with
 |false=>exact isTrue_or_nil e
 |true=>exact e
theorem pw_and (ha:PT X a tA) (hb:PW X (.BoolOp .And (b::rest) pos) tB'):PW X (.BoolOp .And (a::b::rest) pos) (tAnd tA tB'):=by
 intro wh pins s σ H Q I h
 refine isTrue_and (thn (ha pins s σ H _ I h) λc s1 ⟨H1,I1,q1⟩=>?_)
 cases c with
 |true=>exact hb wh pins s1 σ H1 Q I1 q1
 |false=>exact ⟨H1,I1,q1⟩
theorem pw_or (ha:PT X a tA) (hb:PW X (.BoolOp .Or (b::rest) pos) tB'):PW X (.BoolOp .Or (a::b::rest) pos) (tOr tA tB'):=by
 intro wh pins s σ H Q I h
 refine isTrue_or (thn (ha pins s σ H _ I h) λc s1 ⟨H1,I1,q1⟩=>?_)
 cases c with
 |true=>exact ⟨H1,I1,q1⟩
 |false=>exact hb wh pins s1 σ H1 Q I1 q1
theorem pt_not (ha:PT X a tA):PT X (.UnaryOp .Not a pos) (tNot tA):=by
 intro pins s σ H Q I h
 exact isTrue_not (ha pins s σ H (λc H1=>Q (!c) H1) I h)
def tAndV (ta tb:TE):TE:=λσ H Q=>ta σ H λx H1=>∃ c,x=.bl c/\if c=true then tb σ H1 Q else Q (.bl false) H1
def tOrV (ta tb:TE):TE:=λσ H Q=>ta σ H λx H1=>∃ c,x=.bl c/\if c=true then Q (.bl true) H1 else tb σ H1 Q
def tNotV (ta:TE):TE:=λσ H Q=>ta σ H λx H1=>∃ c,x=.bl c/\Q (.bl (!c)) H1
theorem pe_one {op} {t:TE} (h:PE X a t):PE X (.BoolOp op [a] pos) t:=λpins s σ H Q I hw=>BoolOp_one (h pins s σ H Q I hw)
theorem pe_and (ha:PE X a ta) (hb:PE X (.BoolOp .And (b::rest) pos) tb):PE X (.BoolOp .And (a::b::rest) pos) (tAndV ta tb):=by
 intro pins s σ H Q I h
 refine BoolOp_and (thn (ha pins s σ H _ I h) λv s1 ⟨x,H1,I1,r1,q1⟩=>?_)
 obtain ⟨c,rfl,q1⟩:=q1
 cases r1
 refine wpAny_truthy_bool ?_
 cases c with
 |true=>exact hb pins s1 σ H1 Q I1 q1
 |false=>exact ⟨.bl false,H1,I1,rfl,q1⟩
theorem pe_not (ha:PE X a ta):PE X (.UnaryOp .Not a pos) (tNotV ta):=by
 intro pins s σ H Q I h
 refine UnaryOp_ (thn (ha pins s σ H _ I h) λv s1 ⟨x,H1,I1,r1,q1⟩=>?_)
 obtain ⟨c,rfl,q1⟩:=q1
 cases r1
 exact not_of (wpAny_truthy_bool ⟨.bl (!c),H1,I1,rfl,q1⟩)
def tIf (t:TT) (ta tb:TE):TE:=λσ H Q=>t σ H λc H1=>if c=true then ta σ H1 Q else tb σ H1 Q
theorem pe_ifExp {c:Expr} (hc:PT X c tA) (ha:PE X a ta) (hb:PE X b tb):PE X (.IfExp c a b pos) (tIf tA ta tb):=by
 intro pins s σ H Q I h
 refine wpAny_IfExp (thn (hc pins s σ H _ I h) λd s1 ⟨H1,I1,q1⟩=>?_)
 cases d with
 |true=>exact ha pins s1 σ H1 Q I1 q1
 |false=>exact hb pins s1 σ H1 Q I1 q1
end
end L2

namespace L2
open PySem PySem.Spec PyProof.Rows

def SqL (K:PySem.W.Frag) (H:Hp) (a:Addr) (xs:List V):Prop :=
 Rd H a (.lst xs) \/
  ∃ (o:Obj) (its:Array Value) (n:Nat),K.lookup a=some o/\o.cls=.type "list"/\o.dict=none/\o.data=.seq its n/\its.size<=sizeLine/\Vals xs its.toList
def SqT (K:PySem.W.Frag) (H:Hp) (a:Addr) (xs:List V):Prop :=
 Rd H a (.tup xs) \/
  ∃ (o:Obj) (its:Array Value) (n:Nat),K.lookup a=some o/\o.cls=.type "tuple"/\o.data=.seq its n/\its.size<=sizeLine/\Vals xs its.toList
def absV:Value->Option V
 |.none=>some .non
 |.bool b=>some (.bl b)
 |.int i _=>some (.int i)
 |.str x _=>some (.str x)
 |.bytes b _=>some (.byt b)
 |.float b _=>some (.flt b)
 |.ref a=>some (.ref a)
 |.type n=>some (.ty n)
 |_=>none
theorem RelV.abs {x:V} {u:Value} (r:RelV x u):absV u=some x:=by
 cases x with
 |non=>cases r;rfl
 |bl _=>cases r;rfl
 |int _=>obtain ⟨t,rfl⟩:=r;rfl
 |str _=>obtain ⟨t,rfl⟩:=r;rfl
 |byt _=>obtain ⟨t,rfl⟩:=r;rfl
 |flt _=>obtain ⟨t,rfl⟩:=r;rfl
 |ref _=>cases r;rfl
 |ty _=>cases r;rfl
theorem RelV.inj {x y:V} {u:Value} (r:RelV x u) (q:RelV y u):x=y:=Option.some.inj (r.abs.symm.trans q.abs)
theorem Vals.inj:∀ {xs ys:List V} {us:List Value},Vals xs us->Vals ys us->xs=ys
 |_,_,_,.nil,.nil=>rfl
 |_,_,_,.cons r t,.cons r' t'=>by rw [r.inj r',Vals.inj t t']
section
variable {X:Cx} {pins:List (Addr×Obj)} {σ:St} {H:Hp} {s:Shared} {a:Addr} {xs ys:List V}
theorem SqL.of {K:PySem.W.Frag} (h:H a=some (.lst xs)):SqL K H a xs:=.inl (.inl h)
theorem SqT.of {K:PySem.W.Frag} (h:H a=some (.tup xs)):SqT K H a xs:=.inl (.inl h)
theorem Inv.list (I:Inv X pins σ H s) (h:SqL X.K H a xs):∃ its:List Value,Vals xs its/\PlainL s.heap a its.toArray/\xs.length<=sizeLine:=by
 rcases h with h | ⟨o,its,n,hk,hc,hd,hs,hz,r⟩
 ·obtain ⟨z,its,n,r,e⟩:=h.ok I.hok
  exact ⟨its,r,⟨_,n,e,rfl,rfl,rfl⟩,z⟩
 ·refine ⟨its.toList,r,⟨o,n,I.kIn a o hk,hc,hd,by simpa using hs⟩,?_⟩
  have e:=r.length
  simp only [Array.length_toList] at e
  omega
theorem Inv.tuple (I:Inv X pins σ H s) (h:SqT X.K H a xs):∃ its:List Value,Vals xs its/\IsTup s.heap a its.toArray/\xs.length<=sizeLine:=by
 rcases h with h | ⟨o,its,n,hk,hc,hs,hz,r⟩
 ·obtain ⟨z,its,r,p⟩:=h.ok I.hok
  exact ⟨its,r,p,z⟩
 ·refine ⟨its.toList,r,⟨o,I.kIn a o hk,hc,n,by simpa using hs⟩,?_⟩
  have e:=r.length
  simp only [Array.length_toList] at e
  omega
theorem Inv.list_inj (I:Inv X pins σ H s) (h:SqL X.K H a xs) (h':SqL X.K H a ys):xs=ys:=by
 obtain ⟨its,r,⟨o,n,e,_,_,d⟩,_⟩:=I.list h
 obtain ⟨its',r',⟨o',n',e',_,_,d'⟩,_⟩:=I.list h'
 rw [e] at e';cases e'
 rw [d] at d'
 injection d' with d1 _
 have:its=its':=by simpa using congrArg Array.toList d1
 subst this
 exact r.inj r'
theorem Inv.tuple_inj (I:Inv X pins σ H s) (h:SqT X.K H a xs) (h':SqT X.K H a ys):xs=ys:=by
 obtain ⟨its,r,⟨o,e,_,n,d⟩,_⟩:=I.tuple h
 obtain ⟨its',r',⟨o',e',_,n',d'⟩,_⟩:=I.tuple h'
 rw [e] at e';cases e'
 rw [d] at d'
 injection d' with d1 _
 have:its=its':=by simpa using congrArg Array.toList d1
 subst this
 exact r.inj r'
end

abbrev Cx.wish (X:Cx) (E:Value->Shared->Prop):Cx:={ X with xe:=E }
abbrev Cx.nox (X:Cx):Cx:=X.wish λ_ _=>False
theorem Cx.Ok.wish {X:Cx} (ok:X.Ok) (E:Value->Shared->Prop):(X.wish E).Ok :=
 ⟨ok.mod,ok.kind,ok.glob,ok.blt,ok.above,ok.inj,ok.has,ok.cab,ok.hd,ok.frames,ok.stk,ok.exf,ok.bs,ok.bsz,ok.noex,ok.exfs,ok.funs,ok.frf⟩
theorem Cx.Ok.unwish {X:Cx} {E:Value->Shared->Prop} (ok:(X.wish E).Ok):X.Ok :=
 ⟨ok.mod,ok.kind,ok.glob,ok.blt,ok.above,ok.inj,ok.has,ok.cab,ok.hd,ok.frames,ok.stk,ok.exf,ok.bs,ok.bsz,ok.noex,ok.exfs,ok.funs,ok.frf⟩
section
variable {X:Cx} {pins:List (Addr×Obj)} {σ:St} {H:Hp} {s:Shared} {E:Value->Shared->Prop}
theorem Inv.wish (I:Inv X pins σ H s) (E:Value->Shared->Prop):Inv (X.wish E) pins σ H s:=⟨I.ok.wish E,I.os,I.bare,I.base,I.loc,I.cell,I.free,I.freeC,I.pin,I.hok,I.len⟩
theorem Inv.unwish (I:Inv (X.wish E) pins σ H s):Inv X pins σ H s:=⟨I.ok.unwish,I.os,I.bare,I.base,I.loc,I.cell,I.free,I.freeC,I.pin,I.hok,I.len⟩
theorem SP.unwish {D:Ends} {f:Flow} {s':Shared} (h:SP (X.wish E) pins D f s'):SP X pins D f s':=by
 cases f with
 |next=>obtain ⟨σ',H',I,q⟩:=h;exact ⟨σ',H',I.unwish,q⟩
 |brk=>obtain ⟨σ',H',I,q⟩:=h;exact ⟨σ',H',I.unwish,q⟩
 |cont=>obtain ⟨σ',H',I,q⟩:=h;exact ⟨σ',H',I.unwish,q⟩
 |ret u=>obtain ⟨v,σ',H',I,r,q⟩:=h;exact ⟨v,σ',H',I.unwish,r,q⟩
theorem PSs.nox {st:List Stmt} {t:TS} (h:PSs X.nox st t):PSs X st t:=λpins s σ H D I hw =>
 wpAny_mono (h pins s σ H D (I.wish _) hw) (λ_ _ q=>q.unwish) λ_ _ z=>False.elim z
end

section
variable {X:Cx} {st:Stmt} {rest:List Stmt} {t u:TS} {e:Expr} {te:TE} {pos:Pos}
def tNext:TS:=λD σ H=>D.nx σ H
def tSeq (t u:TS):TS:=λD σ H=>t { D with nx:=u D } σ H
theorem pss_nil:PSs X [] tNext:=λ_ _ σ H _ I h=>wpAny_execs_nil ⟨σ,H,I,h⟩
theorem pss_cons (h1:PS X st t) (h2:PSs X rest u):PSs X (st::rest) (tSeq t u):=by
 intro pins s σ H D I h
 refine wpAny_execs_cons (thn (h1 pins s σ H { D with nx:=u D } I h) λf s1 q=>?_)
 cases f with
 |next =>
  obtain ⟨σ',H',I',q⟩:=q
  exact h2 pins s1 σ' H' D I' q
 |ret v=>exact q
 |brk=>exact q
 |cont=>exact q
theorem pss_one (h1:PS X st t):PSs X [st] t:=by
 intro pins s σ H D I h
 refine wpAny_execs_cons (thn (h1 pins s σ H D I h) λf s1 q=>?_)
 cases f with
 |next=>exact wpAny_execs_nil q
 |ret v=>exact q
 |brk=>exact q
 |cont=>exact q
def tBreak:TS:=λD σ H=>D.bk σ H
theorem ps_break:PS X (.Break pos) tBreak:=λ_ _ σ H _ I h=>wpAny_Break ⟨σ,H,I,h⟩
theorem Inv.quiet {pins:List (Addr×Obj)} {σ:St} {H:Hp} {s:Shared} (I:Inv X pins σ H s):interactive X.env=false:=by simp [interactive,I.ok.kind]
def tDrop (te:TE):TS:=λD σ H=>te σ H λ_ H1=>D.nx σ H1
theorem ps_expr (he:PE X e te) (hs:swapsWith e none pos.line X.env=pure false:=by rfl):PS X (.Expr e pos) (tDrop te):=by
 intro pins s σ H D I h
 exact wpAny_Expr_any (thn (he pins s σ H _ I h) λv s1 ⟨x,H1,I1,r1,q1⟩=>⟨σ,H1,I1,q1⟩) I.quiet hs
def tRet (te:TE):TS:=λD σ H=>te σ H D.rt
theorem ps_ret (he:PE X e te):PS X (.Return (some e) pos) (tRet te):=by
 intro pins s σ H D I h
 exact wpAny_Return_some (thn (he pins s σ H _ I h) λv s1 ⟨x,H1,I1,r1,q1⟩=>⟨x,σ,H1,I1,r1,q1⟩)
def tRetN:TS:=λD _ H=>D.rt .non H
def tIfS (c:TT) (t u:TS):TS:=λD σ H=>c σ H λb H1=>if b=true then t D σ H1 else u D σ H1
theorem ps_if {c:Expr} {a b:List Stmt} {tc:TT} (hc:PT X c tc) (ha:PSs X a t) (hb:PSs X b u):PS X (.If c a b pos) (tIfS tc t u):=by
 intro pins s σ H D I h
 refine wpAny_If (thn (hc pins s σ H _ I h) λd s1 ⟨H1,I1,q1⟩=>?_)
 cases d with
 |true=>exact ha pins s1 σ H1 D I1 q1
 |false=>exact hb pins s1 σ H1 D I1 q1
def tNever:TS:=λ_ _ _=>False
end

abbrev TG:=V->St->Hp->(St->Hp->Prop)->Prop
abbrev TGs:=List V->St->Hp->(St->Hp->Prop)->Prop
def PG (X:Cx) (target:Expr) (t:TG):Prop :=
 ∀ (pins:List (Addr×Obj)) (s:Shared) (σ:St) (H:Hp) (v:V) (u:Value) (Q:St->Hp->Prop),Inv X pins σ H s->RelV v u->t v σ H Q ->
  wpAny (model X.prog X.w) X.A (assign target X.env u) (λ_ s'=>∃ σ' H',Inv X pins σ' H' s'/\Q σ' H') X.xe s
def PGs (X:Cx) (ts:List Expr) (t:TGs):Prop :=
 ∀ (pins:List (Addr×Obj)) (s:Shared) (σ:St) (H:Hp) (vs:List V) (us:List Value) (Q:St->Hp->Prop),Inv X pins σ H s->Vals vs us->t vs σ H Q ->
  wpAny (model X.prog X.w) X.A (assignInOrder ((assignEach ts X.env).map (·.2)) us) (λ_ s'=>∃ σ' H',Inv X pins σ' H' s'/\Q σ' H') X.xe s
section
variable {X:Cx} {pos:Pos}
def gName (i:Nat):TG:=λv σ H Q=>Q (σ.set i (some v)) H
theorem pg_name {i:Nat} {x:Str} (hN:X.N.Nodup) (hi:X.N[i]?=some x) (hx:Loc X.env.scope x) (hf:X.fn x=true\/X.env.scope.names.lookup x=some .local:=by first | exact .inl rfl | exact .inr rfl | assumption):PG X (.Name x pos) (gName i):=by
 intro pins s σ H v u Q I r h
 exact wpAny_assign_Name (store_ok I hN hi hx r (λs' I'=>⟨_,H,I',h⟩) hf)
def tAsg (te:TE) (g:TG):TS:=λD σ H=>te σ H λx H1=>g x σ H1 D.nx
theorem ps_set {i:Nat} {x:Str} {e:Expr} {te:TE} {pos':Pos} (hN:X.N.Nodup) (hi:X.N[i]?=some x) (hx:Loc X.env.scope x) (he:PE X e te) (hs:swapsWith e (some (.Name x pos')) pos.line X.env=pure false:=by rfl) (hf:X.fn x=true\/X.env.scope.names.lookup x=some .local:=by first | exact .inl rfl | exact .inr rfl | assumption) :
  PS X (.Assign [.Name x pos'] e pos) (tAsg te (gName i)):=by
 intro pins s σ H D I h
 refine wpAny_Assign_Name (thn (he pins s σ H _ I h) λv s1 ⟨y,H1,I1,r1,q1⟩=>?_) hs
 exact store_ok I1 hN hi hx r1 (λs2 I2=>⟨_,H1,I2,q1⟩) hf
end

section
variable {X:Cx} {pos:Pos}
def tWhile (c:TT) (tb:TS):TS:=λD σ H=>∃ W:Nat->St->Hp->Prop,(∃ m,W m σ H)/\∀ m σ H,W m σ H ->
 c σ H λb H1=>if b=true then ∃ N:St->Hp->Prop,(∀ σ' H',N σ' H'->∃ m',m'<m/\W m' σ' H')/\tb { D with nx:=N,ct:=N,bk:=D.nx } σ H1 else D.nx σ H1
theorem ps_while {c:Expr} {body:List Stmt} {tc:TT} {tb:TS} (hp:PassesOwn (model X.prog X.w) X.A X.env X.xe) (hc:PT X c tc) (hb:PSs X body tb):PS X (.While c body [] pos) (tWhile tc tb):=by
 intro pins s σ H D I h
 obtain ⟨W,⟨m0,w0⟩,turn⟩:=h
 refine wpAny_While (codeAny_whileLoop (λn s'=>∃ σ' H',Inv X pins σ' H' s'/\W n σ' H') ?_ m0 ⟨σ,H,I,w0⟩)
 rintro n s1 ⟨σ1,H1,I1,w1⟩
 refine wpAny_passesOwn hp (thn (hc pins s1 σ1 H1 _ I1 (turn n σ1 H1 w1)) λb s2 ⟨H2,I2,q2⟩=>?_)
 cases b with
 |true =>
  obtain ⟨N,hN,q2⟩:=q2
  rw [if_pos rfl]
  refine wpAny_passesOwn hp (thn (hb pins s2 σ1 H2 _ I2 q2) λf s3 q3=>?_)
  cases f with
  |next =>
   obtain ⟨σ3,H3,I3,n3⟩:=q3
   obtain ⟨m',hm,w3⟩:=hN σ3 H3 n3
   exact ⟨m',hm,σ3,H3,I3,w3⟩
  |cont =>
   obtain ⟨σ3,H3,I3,n3⟩:=q3
   obtain ⟨m',hm,w3⟩:=hN σ3 H3 n3
   exact ⟨m',hm,σ3,H3,I3,w3⟩
  |brk=>exact q3
  |ret v=>exact q3
 |false =>
  rw [if_neg Bool.false_ne_true]
  exact wpAny_execs_nil ⟨σ1,H2,I2,q2⟩
end

set_option genInjectivity false in
structure It where
 go:Nat->Hp->Prop
 yld:Nat->Hp->V->Hp->Prop
 stop:Nat->Hp->Prop
def FpOk (X:Cx) (pins:List (Addr×Obj)) (H:Hp) (b:Addr):Prop :=
 H b=none/\b≠X.env.locals/\b∉X.fs/\(b∈X.ex\/X.s₀.heap.objs.size<=b)/\(∀ x c,X.env.cells.lookup x=some c->c≠b)/\∀ p∈X.pn++pins,p.1≠b
theorem Inv.fpOk {X:Cx} {pins:List (Addr×Obj)} {σ:St} {H H':Hp} {s:Shared} {b:Addr} (I:Inv X pins σ H s) (hb:s.heap.objs.size<=b) (hn:H' b=none):FpOk X pins H' b:=by
 refine ⟨hn,Nat.ne_of_gt (Nat.lt_of_lt_of_le I.lt hb),I.nofs hb,.inr (Nat.le_trans I.sz hb),λx c e z=>?_,λp hp z=>?_⟩
 ·obtain ⟨v,q⟩:=I.cell x c e
  exact absurd (Nat.lt_of_lt_of_le q.lt (by rw [z];exact hb)) (Nat.lt_irrefl _)
 ·exact absurd (Nat.lt_of_lt_of_le (Heap.lt_size (I.pin p hp).1) (by rw [z];exact hb)) (Nat.lt_irrefl _)
structure Turn (P:Program) (w:World) (K:PySem.W.Frag) (tg:Expr) (J:It) (fp:List Addr) (it:Addr) (tn:Nat->Heap->Prop):Prop where
 mem:it∈fp
 obj:∀ i h,tn i h->∀ b∈fp,∃ o,h.get? b=some o/\∀ v,o.data≠.cell v
 keep:∀ i h h',tn i h->(∀ b∈fp,∀ o,h.get? b=some o->h'.get? b=some o)->tn i h'
 item:∀ (X:Cx),X.prog=P->X.w=w->X.K=K->X.calm=true->∀ (i:Nat) (pins:List (Addr×Obj)) (s:Shared) (σ:St) (H:Hp) (E:Value->Shared->Prop),Inv X pins σ H s->(∀ b∈fp,FpOk X pins H b)->tn i s.heap->J.go i H ->
  wpAny (model P w) X.A (pyNext (.ref it)) (λr s1=>∃ u,r=some u /\
   wpAny (model P w) X.A (letOwnedTupleGo tg (.ref it) u) (λ_ s2=>∃ x H',Inv X pins σ H' s2/\RelV x u/\J.yld i H x H'/\tn (i+1) s2.heap/\∀ b∈fp,H' b=none) E s1) E s
 done:∀ (X:Cx),X.prog=P->X.w=w->X.K=K->X.calm=true->∀ (i:Nat) (pins:List (Addr×Obj)) (s:Shared) (σ:St) (H:Hp) (E:Value->Shared->Prop),Inv X pins σ H s->(∀ b∈fp,FpOk X pins H b)->tn i s.heap->J.stop i H ->
  wpAny (model P w) X.A (pyNext (.ref it)) (λr s1=>r=none/\Inv X pins σ H s1) E s
 self:∀ (A:Around) (i:Nat) (s:Shared) (Q:Value->Shared->Prop) (E:Value->Shared->Prop),tn i s.heap->Q (.ref it) s->wpAny (model P w) A (pyIter (.ref it)) Q E s
abbrev TI:=St->Hp->(It->Hp->Prop)->Prop
def PIE (X:Cx) (pins:List (Addr×Obj)) (σ:St) (tg:Expr) (R:It->Hp->Prop) (itv:Value) (s2:Shared):Prop :=
 ∃ (it:Addr) (fp:List Addr) (tn:Nat->Heap->Prop) (J:It) (H':Hp),itv=.ref it/\Inv X pins σ H' s2/\Turn X.prog X.w X.K tg J fp it tn/\tn 0 s2.heap/\(∀ b∈fp,FpOk X pins H' b)/\R J H'
def PI (X:Cx) (tg iter:Expr) (wi:TI):Prop :=
 ∀ (pins:List (Addr×Obj)) (s:Shared) (σ:St) (H:Hp) (R:It->Hp->Prop),Inv X pins σ H s->wi σ H R ->
  wpAny (model X.prog X.w) X.A (eval iter X.env) (λv s1=>wpAny (model X.prog X.w) X.A (pyIter v) (PIE X pins σ tg R) X.xe s1) X.xe s

theorem go_of {M:Model} {A:Around} {E:Value->Shared->Prop} {s:Shared} {tg:Expr} {it:Addr} {u:Value} {o:Obj} {n:String} {vs:Array Value} {Q:Unit->Shared->Prop} (ho:s.heap.get? it=some o) (hc:o.cls=.type n) (hd:o.data=.fields vs)
    (hn:["enumerate", "zip", "dict_itemiterator", "dict_reverseitemiterator", "odict_iterator", "itertools.zip_longest", "itertools.pairwise"].contains n=false) (hQ:Q () s):wpAny M A (letOwnedTupleGo tg (.ref it) u) Q E s:=by
  unfold letOwnedTupleGo
  cases tg<;>first
    |exact wpAny_pure hQ
    | (cases u<;>first
        |exact wpAny_pure hQ
        | (refine wpAny_bind (wpAny_load ho ?_)
           rw [hc,hd]
           show wpAny M A (if (["enumerate", "zip", "dict_itemiterator", "dict_reverseitemiterator", "odict_iterator", "itertools.zip_longest", "itertools.pairwise"].contains n&&vs[0]? == some (rawInt _))=true then _ else _) Q E s
           rw [if_neg (by intro h;rw [hn,Bool.false_and] at h;cases h)]
           exact wpAny_pure hQ))

def Itl (K:PySem.W.Frag) (a:Addr):It :=
 ⟨λi H=>∃ xs x,SqL K H a xs/\xs[i]?=some x,λi H x H'=>H'=H/\∀ xs,SqL K H a xs->xs[i]?=some x,λi H=>∃ xs,SqL K H a xs/\xs.length<=i⟩
def Itt (K:PySem.W.Frag) (a:Addr):It :=
 ⟨λi H=>∃ xs x,SqT K H a xs/\xs[i]?=some x,λi H x H'=>H'=H/\∀ xs,SqT K H a xs->xs[i]?=some x,λi H=>∃ xs,SqT K H a xs/\xs.length<=i⟩
def Itr (lo:Int) (n:Nat):It:=⟨λi _=>i<n,λi H x H'=>H'=H/\x=.int (lo+i),λi _=>n<=i⟩
theorem turn_list {P:Program} {w:World} {K:PySem.W.Frag} {tg:Expr} (a it:Addr):Turn P w K tg (Itl K a) [it] it (λi h=>h.IsListIter it a i) where
 mem:=by simp
 obj:=λi h st b hb=>by
  have e:b=it:=by simpa using hb
  subst e
  obtain ⟨o,e,c,d⟩:=st
  exact ⟨o,e,λv z=>by rw [d] at z;cases z⟩
 keep:=λi h h' st k=>st.at λo e=>k it (by simp) o e
 item:=by
  intro X hP hw hK hc i pins s σ H E I hf st hg
  subst hP hw hK
  obtain ⟨xs,x,hq,hx⟩:=hg
  obtain ⟨its,rv,p,hz⟩:=I.list hq
  obtain ⟨u,hu,ru⟩:=rv.get hx
  obtain ⟨f0,f1,f2,f3,f4,f5⟩:=hf it (by simp)
  refine wpAny_pyNext_list_item st p.isList (x:=u) (by simpa using hu) λh' st' sb=>?_
  have I1:Inv X pins σ H { s with heap:=h' }:=I.turned (t':=s.toks) (λb o hb e=>(sb.2 b hb).trans e) f0 f1 f3 f4 f5
  obtain ⟨o,e,c,d⟩:=id st'
  exact ⟨u,rfl,go_of (s:={ s with heap:=h' }) e c d (by decide) ⟨x,H,I1,ru,⟨rfl,λys hy=>by rw [I.list_inj hy hq];exact hx⟩,st',λb hb=>(hf b hb).1⟩⟩
 done:=by
  intro X hP hw hK hc i pins s σ H E I hf st hg
  subst hP hw hK
  obtain ⟨xs,hq,hx⟩:=hg
  obtain ⟨its,rv,p,hz⟩:=I.list hq
  obtain ⟨f0,f1,f2,f3,f4,f5⟩:=hf it (by simp)
  have hl:=rv.length
  exact wpAny_pyNext_list_end (I.ok.hd hc) st p.isList (by simp;omega) λh' eb=>⟨rfl,I.turned (t':=s.toks) (λb o hb e=>eb b o hb e) f0 f1 f3 f4 f5⟩
 self:=λ_ _ _ _ _ st h=>wpAny_pyIter_listiter st h
theorem turn_tuple {P:Program} {w:World} {K:PySem.W.Frag} {tg:Expr} (a it:Addr):Turn P w K tg (Itt K a) [it] it (λi h=>h.IsTupleIter it a i) where
 mem:=by simp
 obj:=λi h st b hb=>by
  have e:b=it:=by simpa using hb
  subst e
  obtain ⟨o,e,c,d⟩:=st
  exact ⟨o,e,λv z=>by rw [d] at z;cases z⟩
 keep:=λi h h' st k=>st.at λo e=>k it (by simp) o e
 item:=by
  intro X hP hw hK hc i pins s σ H E I hf st hg
  subst hP hw hK
  obtain ⟨xs,x,hq,hx⟩:=hg
  obtain ⟨its,rv,p,hz⟩:=I.tuple hq
  obtain ⟨u,hu,ru⟩:=rv.get hx
  obtain ⟨f0,f1,f2,f3,f4,f5⟩:=hf it (by simp)
  refine wpAny_pyNext_tuple_item st (show s.heap.IsTuple a its.toArray from p) (x:=u) (by simpa using hu) λh' st' sb=>?_
  have I1:Inv X pins σ H { s with heap:=h' }:=I.turned (t':=s.toks) (λb o hb e=>(sb.2 b hb).trans e) f0 f1 f3 f4 f5
  obtain ⟨o,e,c,d⟩:=id st'
  exact ⟨u,rfl,go_of (s:={ s with heap:=h' }) e c d (by decide) ⟨x,H,I1,ru,⟨rfl,λys hy=>by rw [I.tuple_inj hy hq];exact hx⟩,st',λb hb=>(hf b hb).1⟩⟩
 done:=by
  intro X hP hw hK hc i pins s σ H E I hf st hg
  subst hP hw hK
  obtain ⟨xs,hq,hx⟩:=hg
  obtain ⟨its,rv,p,hz⟩:=I.tuple hq
  obtain ⟨f0,f1,f2,f3,f4,f5⟩:=hf it (by simp)
  have hl:=rv.length
  exact wpAny_pyNext_tuple_end (I.ok.hd hc) st (show s.heap.IsTuple a its.toArray from p) (by simp;omega) λh' eb=>⟨rfl,I.turned (t':=s.toks) (λb o hb e=>eb b o hb e) f0 f1 f3 f4 f5⟩
 self:=λ_ _ _ _ _ st h=>wpAny_pyIter_tupleiter st h
theorem turn_range {P:Program} {w:World} {K:PySem.W.Frag} {tg:Expr} (it:Addr) (lo:Int) (n:Nat):Turn P w K tg (Itr lo n) [it] it (λi h=>IsRangeIter h it (lo+(i:Nat)*1) ((n:Int)-(i:Nat)) 1) where
 mem:=by simp
 obj:=λi h st b hb=>by
  have e:b=it:=by simpa using hb
  subst e
  exact ⟨_,st,λv z=>by
   have z':Data.fields _=Data.cell v:=z
   cases z'⟩
 keep:=λi h h' st k=>k it (by simp) _ st
 item:=by
  intro X hP hw hK hc i pins s σ H E I hf st hg
  subst hP hw hK
  obtain ⟨f0,f1,f2,f3,f4,f5⟩:=hf it (by simp)
  have W:=Walks.range (prog:=X.prog) (w:=X.w) (I.ok.hd hc) it lo 1 n
  refine W.item i s _ _ hg st λv h' tk hv st' kk=>?_
  obtain ⟨t,rfl⟩:=hv
  have I1:Inv X pins σ H { s with heap:=h',toks:=tk }:=I.turned (λb o hb e=>kk b o (by simpa using hb) e) f0 f1 f3 f4 f5
  refine ⟨_,rfl,go_of (s:={ s with heap:=h',toks:=tk }) (n:="range_iterator") st' rfl rfl (by decide) ⟨.int (lo+i),H,I1,⟨t,?_⟩,⟨rfl,rfl⟩,st',λb hb=>(hf b hb).1⟩⟩
  rw [Int.mul_one]
 done:=by
  intro X hP hw hK hc i pins s σ H E I hf st hg
  subst hP hw hK
  obtain ⟨f0,f1,f2,f3,f4,f5⟩:=hf it (by simp)
  exact wpAny_pyNext_range_end (I.ok.hd hc) st (by have:n<=i:=hg;omega) λh' eb=>⟨rfl,I.turned (t':=s.toks) (λb o hb e=>eb b o hb e) f0 f1 f3 f4 f5⟩
 self:=λ_ _ _ _ _ st h=>wpAny_pyIter_rangeiter st h
end L2

namespace L2
open PySem PySem.Spec PyProof.Rows
section
variable {X:Cx} {tg:Expr}
def iList (K:PySem.W.Frag) (tl:TE):TI:=λσ H R=>tl σ H λx H1=>∃ a,x=.ref a/\(∃ xs,SqL K H1 a xs)/\R (Itl K a) H1
def iTup (K:PySem.W.Frag) (tl:TE):TI:=λσ H R=>tl σ H λx H1=>∃ a,x=.ref a/\(∃ xs,SqT K H1 a xs)/\R (Itt K a) H1
theorem pi_list {l:Expr} {tl:TE} (hl:PE X l tl):PI X tg l (iList X.K tl):=by
 intro pins s σ H R I h
 refine thn (hl pins s σ H _ I h) λv s1 ⟨x,H1,I1,r1,q1⟩=>?_
 obtain ⟨a,e,⟨xs,hq⟩,q⟩:=q1
 subst e
 cases r1
 obtain ⟨its,rv,p,hz⟩:=I1.list hq
 refine wpAny_pyIter_list p.isList ?_
 refine ⟨s1.heap.objs.size,[s1.heap.objs.size],_,_,H1,rfl,I1.kept (t':=s1.toks) λb o e=>Heap.get?_push_of_some _ e,turn_list a _,⟨_,Heap.get?_push_size _ rfl,rfl,rfl⟩,λb hb=>?_,q⟩
 have e:b=s1.heap.objs.size:=by simpa using hb
 subst e
 exact I1.fpOk (Nat.le_refl _) (I1.hok.fresh (Nat.le_refl _))
theorem pi_tup {l:Expr} {tl:TE} (hl:PE X l tl):PI X tg l (iTup X.K tl):=by
 intro pins s σ H R I h
 refine thn (hl pins s σ H _ I h) λv s1 ⟨x,H1,I1,r1,q1⟩=>?_
 obtain ⟨a,e,⟨xs,hq⟩,q⟩:=q1
 subst e
 cases r1
 obtain ⟨its,rv,p,hz⟩:=I1.tuple hq
 refine wpAny_pyIter_tuple (show s1.heap.IsTuple a its.toArray from p) ?_
 refine ⟨s1.heap.objs.size,[s1.heap.objs.size],_,_,H1,rfl,I1.kept (t':=s1.toks) λb o e=>Heap.get?_push_of_some _ e,turn_tuple a _,⟨_,Heap.get?_push_size _ rfl,rfl,rfl⟩,λb hb=>?_,q⟩
 have e:b=s1.heap.objs.size:=by simpa using hb
 subst e
 exact I1.fpOk (Nat.le_refl _) (I1.hok.fresh (Nat.le_refl _))
theorem range_it {pins:List (Addr×Obj)} {σ:St} {H:Hp} {s:Shared} {R:It->Hp->Prop} {E:Value->Shared->Prop} {lo hi:Int} {t u v:Tok} {tk:Nat} (I:Inv X pins σ H s) (h1:-(2 ^ 62)<=lo) (h2:lo<2 ^ 62) (h3:-(2 ^ 62)<=hi) (h4:hi<2 ^ 62)
  (q:R (Itr lo (hi-lo).toNat) H):wpAny (model X.prog X.w) X.A (pyIter (.ref s.heap.objs.size)) (PIE X pins σ tg R) E { s with heap:=s.heap.push { cls:=.type "range",data:=.fields #[.int lo t,.int hi u,.int 1 v] },toks:=tk }:=by
 refine wpAny_pyIter_range (IsRange.new ..) (small_one h1 h2 h3 h4) ?_
 have I1:Inv X pins σ H { s with heap:=s.heap.push { cls:=.type "range",data:=.fields #[.int lo t,.int hi u,.int 1 v] },toks:=tk }:=I.kept λb o e=>Heap.get?_push_of_some _ e
 refine ⟨(s.heap.push { cls:=.type "range",data:=.fields #[.int lo t,.int hi u,.int 1 v] }).objs.size,[(s.heap.push { cls:=.type "range",data:=.fields #[.int lo t,.int hi u,.int 1 v] }).objs.size],_,_,H,rfl,
  I1.kept (t':=tk) λb o e=>Heap.get?_push_of_some _ e,turn_range _ lo (hi-lo).toNat,?_,λb hb=>?_,q⟩
 ·have e1:lo+((0:Nat):Int)*1=lo:=by simp
  have e2:(((hi-lo).toNat:Nat):Int)-((0:Nat):Int)=Builtin.Range.rangeSize lo hi 1:=by rw [rangeSize_one];split<;>omega
  show IsRangeIter _ _ (lo+((0:Nat):Int)*1) ((((hi-lo).toNat:Nat):Int)-((0:Nat):Int)) 1
  rw [e1,e2]
  exact Heap.get?_push_size _ rfl
 ·have e:b=(s.heap.push { cls:=.type "range",data:=.fields #[.int lo t,.int hi u,.int 1 v] }).objs.size:=by simpa using hb
  subst e
  exact I1.fpOk (Nat.le_refl _) (I1.hok.fresh (Nat.le_refl _))
def iRng1 (ta:TA):TI:=λσ H R=>ta σ H λvs H1=>∃ j:Int,vs=[.int j]/\-(2 ^ 62)<=j/\j<2 ^ 62/\R (Itr 0 j.toNat) H1
theorem pi_range1 {a:Expr} {ta:TA} {p pos:Pos} (hg:Gl X "range") (hm:X.mg "range"=none) (ha:PA X [a] ta) (hs:starEach [a] X.env=[(false,eval a X.env)]:=by rfl):PI X tg (.Call (.Name "range" p) [a] [] pos) (iRng1 ta):=by
 intro pins s σ H R I h
 refine Call_ (ld_blt I hg hm boot_range (PyProof.Rows.callWith_type1 (thn (ha pos pins s σ H _ I h) λus s1 ⟨vs,H1,I1,r1,q1⟩=>?_) hs rfl))
 obtain ⟨j,e,q1,q2,q⟩:=q1
 subst e
 cases r1 with
 |cons r rr =>
  cases rr
  obtain ⟨t,rfl⟩:=r
  exact call_range_1 (range_it I1 (by omega) (by omega) q1 q2 (by simpa using q))
def tFor (wi:TI) (g:TG) (tb:TS):TS:=λD σ H=>wi σ H λJ H1=>∃ W:Nat->Nat->St->Hp->Prop,(∃ m,W 0 m σ H1)/\∀ i m σ H,W i m σ H ->
 (J.stop i H/\D.nx σ H)\/(J.go i H/\∃ N:St->Hp->Prop,(∀ σ' H',N σ' H'->∃ m',m'<m/\W (i+1) m' σ' H')/\∀ x H',J.yld i H x H'->g x σ H' λσ2 H2=>tb { D with nx:=N,ct:=N,bk:=D.nx } σ2 H2)
def pinsAt (fp:List Addr) (h:Heap):List (Addr×Obj):=fp.filterMap λb=>(h.get? b).map λo=>(b,o)
theorem mem_pinsAt {fp:List Addr} {h:Heap} {b:Addr} {o:Obj} (hb:b∈fp) (e:h.get? b=some o):(b,o)∈pinsAt fp h:=List.mem_filterMap.mpr ⟨b,hb,by rw [e];rfl⟩
theorem of_pinsAt {fp:List Addr} {h:Heap} {p:Addr×Obj} (hp:p∈pinsAt fp h):p.1∈fp/\h.get? p.1=some p.2:=by
 obtain ⟨b,hb,e⟩:=List.mem_filterMap.mp hp
 cases q:h.get? b with
 |none=>rw [q] at e;cases e
 |some o =>
  rw [q] at e
  have e':(b,o)=p:=Option.some.inj e
  subst e'
  exact ⟨hb,q⟩
theorem Inv.pinned {pins:List (Addr×Obj)} {σ:St} {H:Hp} {s:Shared} {fp:List Addr} (I:Inv X pins σ H s) (hf:∀ b∈fp,FpOk X pins H b) (ho:∀ b∈fp,∃ o,s.heap.get? b=some o/\∀ v,o.data≠.cell v):Inv X (pins++pinsAt fp s.heap) σ H s :=
 I.pins_of λp hp=>(List.mem_append.mp hp).elim (λz=>I.pin p (List.mem_append_right _ z)) λz=>by
  obtain ⟨hb,e⟩:=of_pinsAt z
  obtain ⟨f0,f1,f2,_⟩:=hf p.1 hb
  obtain ⟨o,e',d⟩:=ho p.1 hb
  rw [e] at e';cases e'
  exact ⟨e,f0,f1,f2,d⟩
theorem Inv.unpinned {pins pl:List (Addr×Obj)} {σ:St} {H:Hp} {s:Shared} (I:Inv X (pins++pl) σ H s):Inv X pins σ H s:=I.pins_of λp hp=>I.pin p (List.mem_append_right _ (List.mem_append_left _ hp))
theorem ps_for {iter:Expr} {body:List Stmt} {wi:TI} {g:TG} {tb:TS} {pos:Pos} (hp:PassesOwn (model X.prog X.w) X.A X.env X.xe) (hc:X.calm=true) (hi:PI X tg iter wi) (hg:PG X tg g) (hb:PSs X body tb)
  (hs:∀ x,foldedSetIterable iter X.env x=pure x:=by intro _;rfl):PS X (.For tg iter body [] pos) (tFor wi g tb):=by
 intro pins s σ H D I h
 refine wpAny_For (thn (hi pins s σ H _ I h) λv s1 h1=>thn h1 λitv s2 h2=>?_) hs
 obtain ⟨it,fp,tn,J,H2,e,I2,T,st2,f2,W,⟨m0,w0⟩,turn⟩:=h2
 subst e
 -- what stays true of the iterator's objects through the loop
 have stat:∀ {H':Hp},(∀ b∈fp,H' b=none)->∀ b∈fp,FpOk X pins H' b:=λhn b hb=>⟨hn b hb,(f2 b hb).2⟩
 refine codeAny_forLoop_any (λn s'=>∃ i σ' H',Inv X pins σ' H' s'/\tn i s'.heap/\(∀ b∈fp,H' b=none)/\W i n σ' H') ?_ m0 ⟨0,σ,H2,I2,st2,λb hb=>(f2 b hb).1,w0⟩
 rintro n s3 ⟨i,σ3,H3,I3,st3,fr3,w3⟩
 rcases turn i n σ3 H3 w3 with ⟨stop,qn⟩ | ⟨go,N,hN,step⟩
 ·refine wpAny_passesOwn hp (thn (T.done X rfl rfl rfl hc i pins s3 σ3 H3 X.xe I3 (stat fr3) st3 stop) λr s4 ⟨hr,I4⟩=>?_)
  subst hr
  exact wpAny_execs_nil ⟨σ3,H3,I4,qn⟩
 ·refine wpAny_passesOwn hp (thn (T.item X rfl rfl rfl hc i pins s3 σ3 H3 X.xe I3 (stat fr3) st3 go) λr s4 ⟨u,hr,h4⟩=>?_)
  subst hr
  refine wpAny_passesOwn hp (thn h4 λ_ s5 ⟨x,H5,I5,r5,y5,st5,fr5⟩=>?_)
  have I5':=I5.pinned (stat fr5) (T.obj _ _ st5)
  refine wpAny_passesOwn hp (thn (hg _ s5 σ3 H5 x u _ I5' r5 (step x H5 y5)) λ_ s6 ⟨σ6,H6,I6,q6⟩=>?_)
  refine wpAny_passesOwn hp (thn (hb _ s6 σ6 H6 _ I6 q6) λf s7 q7=>?_)
  have again:∀ {σ7:St} {H7:Hp},Inv X (pins++pinsAt fp s5.heap) σ7 H7 s7->N σ7 H7->∃ m,m<n/\∃ i σ' H',Inv X pins σ' H' s7/\tn i s7.heap/\(∀ b∈fp,H' b=none)/\W i m σ' H':=λ{σ7 H7} I7 n7=>by
   obtain ⟨m',hm,w7⟩:=hN σ7 H7 n7
   refine ⟨m',hm,i+1,σ7,H7,I7.unpinned,T.keep _ _ _ st5 λb hb o e=>(I7.pin (b,o) (List.mem_append_right _ (List.mem_append_right _ (mem_pinsAt hb e)))).1,λb hb=>?_,w7⟩
   obtain ⟨o,e,d⟩:=T.obj _ _ st5 b hb
   exact (I7.pin (b,o) (List.mem_append_right _ (List.mem_append_right _ (mem_pinsAt hb e)))).2.1
  cases f with
  |next=>obtain ⟨σ7,H7,I7,n7⟩:=q7;exact again I7 n7
  |cont=>obtain ⟨σ7,H7,I7,n7⟩:=q7;exact again I7 n7
  |brk=>obtain ⟨σ7,H7,I7,q7⟩:=q7;exact ⟨σ7,H7,I7.unpinned,q7⟩
  |ret v=>obtain ⟨x7,σ7,H7,I7,r7,q7⟩:=q7;exact ⟨x7,σ7,H7,I7.unpinned,r7,q7⟩
end

theorem for_list {K:PySem.W.Frag} {a:Addr} {xs:List V} {g:TG} {tb:TS} {D:Ends} {σ:St} {H:Hp} (Pv:Nat->St->Hp->Prop) (h0:Pv 0 σ H) (hl:∀ i σ H,i<=xs.length->Pv i σ H->SqL K H a xs)
  (hs:∀ i x σ H,xs[i]?=some x->Pv i σ H->g x σ H λσ2 H2=>tb { D with nx:=Pv (i+1),ct:=Pv (i+1),bk:=D.nx } σ2 H2) (hd:∀ σ H,Pv xs.length σ H->D.nx σ H) :
  ∃ W:Nat->Nat->St->Hp->Prop,(∃ m,W 0 m σ H)/\∀ i m σ H,W i m σ H ->
   ((Itl K a).stop i H/\D.nx σ H)\/((Itl K a).go i H/\∃ N:St->Hp->Prop,(∀ σ' H',N σ' H'->∃ m',m'<m/\W (i+1) m' σ' H')/\∀ x H',(Itl K a).yld i H x H'->g x σ H' λσ2 H2=>tb { D with nx:=N,ct:=N,bk:=D.nx } σ2 H2):=by
 refine ⟨λi m σ H=>m=xs.length-i/\i<=xs.length/\Pv i σ H,⟨xs.length,by simp,Nat.zero_le _,h0⟩,?_⟩
 rintro i m σ H ⟨rfl,hi,p⟩
 have q:=hl i σ H hi p
 by_cases hlt:i<xs.length
 ·refine .inr ⟨⟨xs,xs[i],q,by simp [hlt]⟩,Pv (i+1),λσ' H' p'=>⟨xs.length-(i+1),by omega,rfl,hlt,p'⟩,λx H' y=>?_⟩
  obtain ⟨e,y⟩:=y
  subst e
  exact hs i x σ _ (y xs q) p
 ·have e:i=xs.length:=by omega
  subst e
  exact .inl ⟨⟨xs,q,Nat.le_refl _⟩,hd σ H p⟩
theorem for_tup {K:PySem.W.Frag} {a:Addr} {xs:List V} {g:TG} {tb:TS} {D:Ends} {σ:St} {H:Hp} (Pv:Nat->St->Hp->Prop) (h0:Pv 0 σ H) (hl:∀ i σ H,i<=xs.length->Pv i σ H->SqT K H a xs)
  (hs:∀ i x σ H,xs[i]?=some x->Pv i σ H->g x σ H λσ2 H2=>tb { D with nx:=Pv (i+1),ct:=Pv (i+1),bk:=D.nx } σ2 H2) (hd:∀ σ H,Pv xs.length σ H->D.nx σ H) :
  ∃ W:Nat->Nat->St->Hp->Prop,(∃ m,W 0 m σ H)/\∀ i m σ H,W i m σ H ->
   ((Itt K a).stop i H/\D.nx σ H)\/((Itt K a).go i H/\∃ N:St->Hp->Prop,(∀ σ' H',N σ' H'->∃ m',m'<m/\W (i+1) m' σ' H')/\∀ x H',(Itt K a).yld i H x H'->g x σ H' λσ2 H2=>tb { D with nx:=N,ct:=N,bk:=D.nx } σ2 H2):=by
 refine ⟨λi m σ H=>m=xs.length-i/\i<=xs.length/\Pv i σ H,⟨xs.length,by simp,Nat.zero_le _,h0⟩,?_⟩
 rintro i m σ H ⟨rfl,hi,p⟩
 have q:=hl i σ H hi p
 by_cases hlt:i<xs.length
 ·refine .inr ⟨⟨xs,xs[i],q,by simp [hlt]⟩,Pv (i+1),λσ' H' p'=>⟨xs.length-(i+1),by omega,rfl,hlt,p'⟩,λx H' y=>?_⟩
  obtain ⟨e,y⟩:=y
  subst e
  exact hs i x σ _ (y xs q) p
 ·have e:i=xs.length:=by omega
  subst e
  exact .inl ⟨⟨xs,q,Nat.le_refl _⟩,hd σ H p⟩
theorem for_range {lo:Int} {n:Nat} {g:TG} {tb:TS} {D:Ends} {σ:St} {H:Hp} (Pv:Nat->St->Hp->Prop) (h0:Pv 0 σ H)
  (hs:∀ i σ H,i<n->Pv i σ H->g (.int (lo+i)) σ H λσ2 H2=>tb { D with nx:=Pv (i+1),ct:=Pv (i+1),bk:=D.nx } σ2 H2) (hd:∀ σ H,Pv n σ H->D.nx σ H) :
  ∃ W:Nat->Nat->St->Hp->Prop,(∃ m,W 0 m σ H)/\∀ i m σ H,W i m σ H ->
   ((Itr lo n).stop i H/\D.nx σ H)\/((Itr lo n).go i H/\∃ N:St->Hp->Prop,(∀ σ' H',N σ' H'->∃ m',m'<m/\W (i+1) m' σ' H')/\∀ x H',(Itr lo n).yld i H x H'->g x σ H' λσ2 H2=>tb { D with nx:=N,ct:=N,bk:=D.nx } σ2 H2):=by
 refine ⟨λi m σ H=>m=n-i/\i<=n/\Pv i σ H,⟨n,by simp,Nat.zero_le _,h0⟩,?_⟩
 rintro i m σ H ⟨rfl,hi,p⟩
 by_cases hlt:i<n
 ·refine .inr ⟨hlt,Pv (i+1),λσ' H' p'=>⟨n-(i+1),by omega,rfl,hlt,p'⟩,λx H' y=>?_⟩
  obtain ⟨e,y⟩:=y
  subst e y
  exact hs i σ _ hlt p
 ·have e:i=n:=by omega
  subst e
  exact .inl ⟨Nat.le_refl _,hd σ H p⟩
end L2

namespace L2
open PySem PySem.Spec PyProof.Rows

abbrev R2:=V->V->Hp->VK->Prop
def OpR (X:Cx) (f:Value->Value->Sem Value) (r:R2):Prop :=
 ∀ (pins:List (Addr×Obj)) (s:Shared) (σ:St) (H:Hp) (x y:V) (v u:Value) (Q:VK),Inv X pins σ H s->RelV x v->RelV y u->r x y H Q ->
  wpAny (model X.prog X.w) X.A (f v u) (EP X pins σ Q) X.xe s
def UnR (X:Cx) (f:Value->Sem Value) (r:V->Hp->VK->Prop):Prop :=
 ∀ (pins:List (Addr×Obj)) (s:Shared) (σ:St) (H:Hp) (x:V) (v:Value) (Q:VK),Inv X pins σ H s->RelV x v->r x H Q ->
  wpAny (model X.prog X.w) X.A (f v) (EP X pins σ Q) X.xe s
def CallR (X:Cx) (f:Value) (r:List V->Hp->VK->Prop):Prop :=
 ∀ (pins:List (Addr×Obj)) (s:Shared) (σ:St) (H:Hp) (xs:List V) (us:List Value) (Q:VK),Inv X pins σ H s->Vals xs us->r xs H Q ->
  wpAny (model X.prog X.w) X.A (call f us) (EP X pins σ Q) X.xe s
def tOp (r:R2) (ta tb:TE):TE:=λσ H Q=>ta σ H λx H1=>tb σ H1 λy H2=>r x y H2 Q
def tUn (r:V->Hp->VK->Prop) (ta:TE):TE:=λσ H Q=>ta σ H λx H1=>r x H1 Q
def rI (C:Int->Int->Prop) (g:Int->Int->V):R2:=λx y H Q=>∃ i j,x=.int i/\y=.int j/\C i j/\Q (g i j) H
def rI0 (g:Int->Int->V):R2:=λx y H Q=>∃ i j,x=.int i/\y=.int j/\Q (g i j) H
def rU (g:Int->V):V->Hp->VK->Prop:=λx H Q=>∃ i,x=.int i/\Q (g i) H

section
variable {X:Cx} {a b c:Expr} {ta tb tc:TE} {pos:Pos}

theorem binT (ha:PE X a ta) (hb:PE X b tb) {pins:List (Addr×Obj)} {s:Shared} {σ:St} {H:Hp} {R:V->V->Hp->Prop} (I:Inv X pins σ H s)
  (h:ta σ H λx H1=>tb σ H1 λy H2=>R x y H2) {Q:Value->Shared->Prop} {f:Value->Value->Sem Value}
  (hf:∀ v u s2 x y H2,Inv X pins σ H2 s2->RelV x v->RelV y u->R x y H2->wpAny (model X.prog X.w) X.A (f v u) Q X.xe s2) :
  wpAny (model X.prog X.w) X.A (eval a X.env) (λv s₁=>wpAny (model X.prog X.w) X.A (eval b X.env) (λu s₂=>wpAny (model X.prog X.w) X.A (f v u) Q X.xe s₂) X.xe s₁) X.xe s:=by
 refine thn (ha pins s σ H _ I h) λv s1 ⟨x,H1,I1,r1,q1⟩=>?_
 refine thn (hb pins s1 σ H1 _ I1 q1) λu s2 ⟨y,H2,I2,r2,q2⟩=>?_
 exact hf v u s2 x y H2 I2 r1 r2 q2

theorem pe_op {op:Operator} {r:R2} (ho:OpR X (binaryOp op) r) (ha:PE X a ta) (hb:PE X b tb):PE X (.BinOp a op b pos) (tOp r ta tb):=by
 intro pins s σ H Q I h
 exact wpAny_BinOp (binT ha hb I h λv u s2 x y H2 I2 rx ry q=>ho pins s2 σ H2 x y v u Q I2 rx ry q)
theorem pe_un {op:UnaryOp} {r:V->Hp->VK->Prop} (ho:UnR X (unaryOp op) r) (ha:PE X a ta):PE X (.UnaryOp op a pos) (tUn r ta):=by
 intro pins s σ H Q I h
 exact UnaryOp_ (thn (ha pins s σ H _ I h) λv s1 ⟨x,H1,I1,r1,q1⟩=>ho pins s1 σ H1 x v Q I1 r1 q1)
theorem opI {f:Value->Value->Sem Value} {C:Int->Int->Prop} {g:Int->Int->Int}
  (rule:∀ (i j:Int) (t u:Tok) (s:Shared) (Q:Value->Shared->Prop) (E:Value->Shared->Prop),C i j->Q (.int (g i j) s.toks) { s with toks:=s.toks+1 }->wpAny (model X.prog X.w) X.A (f (.int i t) (.int j u)) Q E s) :
  OpR X f (rI C λi j=>.int (g i j)):=by
 intro pins s σ H x y v u Q I rx ry h
 obtain ⟨i,j,rfl,rfl,hc,q⟩:=h
 obtain ⟨t,rfl⟩:=rx
 obtain ⟨t',rfl⟩:=ry
 exact rule i j t t' s _ _ hc ⟨.int (g i j),H,I.tok _,⟨_,rfl⟩,q⟩
theorem opI0 {f:Value->Value->Sem Value} {g:Int->Int->Int}
  (rule:∀ (i j:Int) (t u:Tok) (s:Shared) (Q:Value->Shared->Prop) (E:Value->Shared->Prop),Q (.int (g i j) s.toks) { s with toks:=s.toks+1 }->wpAny (model X.prog X.w) X.A (f (.int i t) (.int j u)) Q E s) :
  OpR X f (rI0 λi j=>.int (g i j)):=by
 intro pins s σ H x y v u Q I rx ry h
 obtain ⟨i,j,rfl,rfl,q⟩:=h
 obtain ⟨t,rfl⟩:=rx
 obtain ⟨t',rfl⟩:=ry
 exact rule i j t t' s _ _ ⟨.int (g i j),H,I.tok _,⟨_,rfl⟩,q⟩
theorem opB0 {f:Value->Value->Sem Value} {g:Int->Int->Bool}
  (rule:∀ (i j:Int) (t u:Tok) (s:Shared) (Q:Value->Shared->Prop) (E:Value->Shared->Prop),Q (.bool (g i j)) s->wpAny (model X.prog X.w) X.A (f (.int i t) (.int j u)) Q E s) :
  OpR X f (rI0 λi j=>.bl (g i j)):=by
 intro pins s σ H x y v u Q I rx ry h
 obtain ⟨i,j,rfl,rfl,q⟩:=h
 obtain ⟨t,rfl⟩:=rx
 obtain ⟨t',rfl⟩:=ry
 exact rule i j t t' s _ _ ⟨.bl (g i j),H,I,rfl,q⟩

def CDiv (i j:Int):Prop:=0<j/\j<1073741824
def CMul (i j:Int):Prop:=(-(2 ^ 64)<i/\i<2 ^ 64)\/(-(2 ^ 64)<j/\j<2 ^ 64)
theorem CMul.ok {i j:Int} (h:CMul i j):IntMulOk i j:=by
 rcases h with ⟨h1,h2⟩ | ⟨h1,h2⟩
 ·exact .of_left (intBits_le_64 h1 h2)
 ·exact .of_right (intBits_le_64 h1 h2)
theorem op_add:OpR X (binaryOp .Add) (rI0 λi j=>.int (i+j)):=opI0 λ_ _ _ _ _ _ _ q=>add_int q
theorem op_sub:OpR X (binaryOp .Sub) (rI0 λi j=>.int (i-j)):=opI0 λ_ _ _ _ _ _ _ q=>sub_int q
theorem op_mul:OpR X (binaryOp .Mult) (rI CMul λi j=>.int (i*j)):=opI λ_ _ _ _ _ _ _ hc q=>mul_int q hc.ok
theorem op_fdiv:OpR X (binaryOp .FloorDiv) (rI CDiv λi j=>.int (i / j)):=opI λi j _ _ _ _ _ hc q=>by
 have h1:(0:Int)<j:=hc.1
 have h2:j<1073741824:=hc.2
 exact floordiv_int (by omega) (by rw [Int.fdiv_eq_ediv_of_nonneg i (by omega)];exact q) (.inl (PyProof.noPylong_small (by omega)))
theorem op_mod:OpR X (binaryOp .Mod) (rI (λ_ j=>0<j) λi j=>.int (i%j)):=opI λi j _ _ _ _ _ hc q=>by
 have h1:(0:Int)<j:=hc
 exact mod_int' (by omega) (by rw [Int.fmod_eq_emod_of_nonneg i (by omega)];exact q)
theorem unI {f:Value->Sem Value} {g:Int->Int}
  (rule:∀ (i:Int) (t:Tok) (s:Shared) (Q:Value->Shared->Prop) (E:Value->Shared->Prop),Q (.int (g i) s.toks) { s with toks:=s.toks+1 }->wpAny (model X.prog X.w) X.A (f (.int i t)) Q E s) :
  UnR X f (rU λi=>.int (g i)):=by
 intro pins s σ H x v Q I rx h
 obtain ⟨i,rfl,q⟩:=h
 obtain ⟨t,rfl⟩:=rx
 exact rule i t s _ _ ⟨.int (g i),H,I.tok _,⟨_,rfl⟩,q⟩
theorem un_neg:UnR X (unaryOp .USub) (rU λi=>.int (-i)):=unI λ_ _ _ _ _ q=>neg_int q
end

def scal:V->V->Bool
 |.non,.non=>true | .non,.int _=>true | .int _,.non=>true | .non,.bl _=>true | .bl _,.non=>true | .non,.str _=>true | .str _,.non=>true
 |.int _,.int _=>true | .bl _,.bl _=>true | .str _,.str _=>true | .byt _,.byt _=>true
 |.int _,.str _=>true | .str _,.int _=>true | .bl _,.str _=>true | .str _,.bl _=>true
 |_,_=>false
def rEq:R2:=λx y H Q=>scal x y=true/\Q (.bl (decide (x=y))) H
def rNe:R2:=λx y H Q=>scal x y=true/\Q (.bl (!decide (x=y))) H

theorem dec_int {i j:Int}:decide (V.int i=V.int j)=(i == j):=by
 rw [Bool.eq_iff_iff]
 simp
theorem dec_bl {i j:Bool}:decide (V.bl i=V.bl j)=(i == j):=by
 rw [Bool.eq_iff_iff]
 simp
theorem dec_str {i j:Str}:decide (V.str i=V.str j)=(i == j):=by
 rw [Bool.eq_iff_iff]
 simp
theorem dec_byt {i j:Array UInt8}:decide (V.byt i=V.byt j)=(i.toList == j.toList):=by
 rw [Bool.eq_iff_iff]
 cases i
 cases j
 simp

section
variable {X:Cx} {a b c:Expr} {ta tb tc:TE} {pos:Pos}
theorem fin_bl {pins:List (Addr×Obj)} {σ:St} {H:Hp} {s:Shared} {Q:VK} {k k':Bool} (I:Inv X pins σ H s) (q:Q (.bl k) H) (e:k=k'):EP X pins σ Q (.bool k') s:=by
 subst e
 exact ⟨.bl k,H,I,rfl,q⟩
theorem op_eq:OpR X (compareOp .Eq) rEq:=by
 intro pins s σ H x y v u Q I rx ry h
 obtain ⟨hs,q⟩:=h
 cases x with
 |non =>
  cases rx
  cases y with
  |non=>cases ry;exact PySem.EqNone.eq_none_none (fin_bl I q (by simp))
  |bl j=>cases ry;exact PySem.EqNone.eq_none_bool (fin_bl I q (by simp))
  |int j=>obtain ⟨t',rfl⟩:=ry;exact PySem.EqNone.eq_none_int (fin_bl I q (by simp))
  |str j=>obtain ⟨t',rfl⟩:=ry;exact PySem.EqNone.eq_none_str (fin_bl I q (by simp))
  |_=>exact absurd (show false=true from hs) Bool.false_ne_true
 |bl i =>
  cases rx
  cases y with
  |non=>cases ry;exact PySem.EqNone.eq_bool_none (fin_bl I q (by simp))
  |bl j=>cases ry;exact eq_bool (fin_bl I q dec_bl)
  |str j=>obtain ⟨t',rfl⟩:=ry;exact PySem.EqMixed.eq_bool_str (fin_bl I q (by simp))
  |_=>exact absurd (show false=true from hs) Bool.false_ne_true
 |int i =>
  obtain ⟨t,rfl⟩:=rx
  cases y with
  |non=>cases ry;exact PySem.EqNone.eq_int_none (fin_bl I q (by simp))
  |int j=>obtain ⟨t',rfl⟩:=ry;exact eq_int (fin_bl I q dec_int)
  |str j=>obtain ⟨t',rfl⟩:=ry;exact PySem.EqMixed.eq_int_str (fin_bl I q (by simp))
  |_=>exact absurd (show false=true from hs) Bool.false_ne_true
 |str i =>
  obtain ⟨t,rfl⟩:=rx
  cases y with
  |non=>cases ry;exact PySem.EqNone.eq_str_none (fin_bl I q (by simp))
  |bl j=>cases ry;exact PySem.EqMixed.eq_str_bool (fin_bl I q (by simp))
  |int j=>obtain ⟨t',rfl⟩:=ry;exact PySem.EqMixed.eq_str_int (fin_bl I q (by simp))
  |str j=>obtain ⟨t',rfl⟩:=ry;exact eq_str (fin_bl I q dec_str)
  |_=>exact absurd (show false=true from hs) Bool.false_ne_true
 |byt i =>
  obtain ⟨t,rfl⟩:=rx
  cases y with
  |byt j=>obtain ⟨t',rfl⟩:=ry;exact PySem.W.eq_bytes (fin_bl I q dec_byt)
  |_=>exact absurd (show false=true from hs) Bool.false_ne_true
 |_=>cases y<;>exact absurd (show false=true from hs) Bool.false_ne_true
theorem op_lt:OpR X (compareOp .Lt) (rI0 λi j=>.bl (decide (i<j))):=opB0 λ_ _ _ _ _ _ _ q=>lt_int q
theorem op_gt:OpR X (compareOp .Gt) (rI0 λi j=>.bl (decide (j<i))):=opB0 λ_ _ _ _ _ _ _ q=>gt_int q
theorem op_isN:OpR X (compareOp .Is) (λx y H Q=>y=.non/\Q (.bl (decide (x=.non))) H):=by
 intro pins s σ H x y v u Q I rx ry h
 obtain ⟨rfl,q⟩:=h
 cases ry
 refine is_none_gen (fin_bl I q ?_)
 cases x<;>first
  | (cases rx;rfl)
  | (obtain ⟨t,rfl⟩:=rx;rfl)
theorem op_notN:OpR X (compareOp .IsNot) (λx y H Q=>y=.non/\Q (.bl (!decide (x=.non))) H):=by
 intro pins s σ H x y v u Q I rx ry h
 obtain ⟨rfl,q⟩:=h
 cases ry
 refine isnot_none_gen (fin_bl I q ?_)
 cases x<;>first
  | (cases rx;rfl)
  | (obtain ⟨t,rfl⟩:=rx;rfl)

theorem nomark (b:Expr) {op:CmpOp} (h:op≠.In:=by decide) (h2:op≠.NotIn:=by decide):behindInMarks op b=false:=by
 have e1:(op == CmpOp.In)=false:=by cases op<;>first | rfl | exact absurd rfl h
 have e2:(op == CmpOp.NotIn)=false:=by cases op<;>first | rfl | exact absurd rfl h2
 cases b<;>simp [behindInMarks,e1,e2]
theorem pe_cmpR {op:CmpOp} {r:R2} (ho:OpR X (compareOp op) r) (ha:PE X a ta) (hb:PE X b tb) (hm:behindInMarks op b=false):PE X (.Compare a [op] [b] pos) (tOp r ta tb):=by
 intro pins s σ H Q I h
 exact wpAny_Compare1 (binT ha hb I h λv u s2 x y H2 I2 rx ry q=>ho pins s2 σ H2 x y v u Q I2 rx ry q) hm
def tTest (t:TE):TT:=λσ H Q=>t σ H λx H'=>∃ k,x=.bl k/\Q k H'
theorem pt_cmpR {op:CmpOp} {r:R2} (ho:OpR X (compareOp op) r) (ha:PE X a ta) (hb:PE X b tb) (hm:behindInMarks op b=false):PT X (.Compare a [op] [b] pos) (tTest (tOp r ta tb)):=by
 intro pins s σ H Q I h
 refine wpAny_isTrue_Compare1 (thn (ha pins s σ H _ I h) λv s1 ⟨x,H1,I1,r1,q1⟩=>thn (hb pins s1 σ H1 _ I1 q1) λu s2 ⟨y,H2,I2,r2,q2⟩ =>
  thn (ho pins s2 σ H2 x y v u _ I2 r1 r2 q2) λc s3 ⟨z,H3,I3,r3,k,e,q3⟩=>?_) hm
 subst e
 cases r3
 exact wpAny_truthy_bool ⟨H3,I3,q3⟩
def tChain (r r':R2) (ta tb tc:TE):TE:=λσ H Q=>ta σ H λx H1=>tb σ H1 λy H2=>r x y H2 λz H3=>∃ k,z=.bl k /\
 (if k=true then tc σ H3 λw' H4=>r' y w' H4 Q else Q (.bl false) H3)
theorem line63:(sizeLine:Nat)<2 ^ 63:=by rw [sizeLine_eq];decide
theorem vals1 {x:V} {us:List Value} (r:Vals [x] us):∃ u,us=[u]/\RelV x u:=by
 cases r with
 |cons r1 r2=>cases r2;exact ⟨_,rfl,r1⟩
theorem vals2 {x y:V} {us:List Value} (r:Vals [x,y] us):∃ u w',us=[u,w']/\RelV x u/\RelV y w':=by
 cases r with
 |cons r1 r2 =>
  cases r2 with
  |cons r3 r4=>cases r4;exact ⟨_,_,rfl,r1,r3⟩
def LenV (K:PySem.W.Frag) (x:V) (H:Hp) (n:Nat):Prop :=
 match x with
 |.str y=>y.length<=sizeLine/\n=y.length
 |.byt y=>y.size<=sizeLine/\n=y.size
 |.ref p=>(∃ xs,SqL K H p xs/\n=xs.length)\/∃ xs,SqT K H p xs/\n=xs.length
 |_=>False
theorem call_len:CallR X (.builtin "len") (λxs H Q=>∃ x n,xs=[x]/\LenV X.K x H n/\Q (.int n) H):=by
 intro pins s σ H xs us Q I r h
 obtain ⟨x,n,rfl,e,q⟩:=h
 obtain ⟨u,rfl,rx⟩:=vals1 r
 have hl:=line63
 have hs:sizeLine=16777216:=sizeLine_eq
 cases x with
 |str y =>
  obtain ⟨t,rfl⟩:=rx
  obtain ⟨hy,e'⟩:y.length<=sizeLine/\n=y.length:=e
  subst e'
  exact len_str (by omega) ⟨.int _,H,I.tok _,⟨_,rfl⟩,q⟩
 |byt y =>
  obtain ⟨t,rfl⟩:=rx
  obtain ⟨hy,e'⟩:y.size<=sizeLine/\n=y.size:=e
  subst e'
  exact PySem.W.len_bytes (by omega) ⟨.int _,H,I.tok _,⟨_,rfl⟩,q⟩
 |ref p =>
  cases rx
  have e':(∃ xs,SqL X.K H p xs/\n=xs.length)\/∃ xs,SqT X.K H p xs/\n=xs.length:=e
  rcases e' with ⟨xs,hx,e'⟩ | ⟨xs,hx,e'⟩
  ·subst e'
   obtain ⟨its,r',pl,hz⟩:=I.list hx
   have hlen:=r'.length
   exact Calls.call_len_list pl.isList (by simp only [List.size_toArray];omega) ⟨.int xs.length,H,I.tok _,⟨_,by simp only [List.size_toArray];rw [hlen]⟩,q⟩
  ·subst e'
   obtain ⟨its,r',pl,hz⟩:=I.tuple hx
   have hlen:=r'.length
   exact len_tuple pl (by simp only [List.size_toArray];omega) ⟨.int xs.length,H,I.tok _,⟨_,by simp only [List.size_toArray];rw [hlen]⟩,q⟩
 |_=>exact (show False from e).elim
end
end L2

namespace L2
open PySem PySem.Spec PyProof.Rows

structure ObjM (h:Heap) (x dx C:Addr) (mA:Str->Option Value):Prop where
 obj:h.get? x=some (PySem.W.instObj C dx)
 ns:h.Ns1 dx mA
 ne:dx≠x

theorem lookIn_ns {h:Heap} {dx:Addr} {mA:Str->Option Value} (n:h.Ns1 dx mA):∃ od,h.get? dx=some od/\∀ name,PySem.W.lookIn name od=some (mA name):=by
 obtain ⟨o,es,ep,ho,hd,hk,_,hm⟩:=n
 refine ⟨o,ho,λname=>?_⟩
 have e:=hm name
 unfold nsFind findBy at e
 rw [<- Array.find?_toList] at e
 unfold PySem.W.lookIn
 rw [hd]
 dsimp only
 split
 ·rename_i y q
  rw [q] at e
  exact congrArg some e
 ·rename_i q
  rw [q] at e
  have a:es.toList.any (·.refKey)=false:=by
   rw [List.any_eq_false]
   intro y hy
   obtain ⟨z,t,hkey⟩:=hk y (Array.mem_toList_iff.mp hy)
   simp [DictEntry.refKey,hkey]
  have a':¬ es.toList.any (·.refKey)=true:=by rw [a];exact Bool.false_ne_true
  rw [if_neg a']
  exact congrArg some e

theorem ObjM.look {h:Heap} {x dx C:Addr} {mA:Str->Option Value} (I:ObjM h x dx C mA):∃ od,PySem.W.InstAt h x (PySem.W.instObj C dx) C (some od)/\∀ name,PySem.W.lookIn name od=some (mA name) :=
 let ⟨od,ho,hl⟩:=lookIn_ns I.ns
 ⟨od,⟨I.obj,rfl,rfl,ho⟩,hl⟩

section
variable {prog:Program} {w:World} {A:Around} {E:Value->Shared->Prop} {s:Shared} {K:PySem.W.Frag} {x dx C f:Addr} {mA:Str->Option Value} {name:Str} {v:Value}

theorem get_map {expr:Bool} {Q:Value->Shared->Prop} (X:K.In s.heap) (I:ObjM s.heap x dx C mA) (hg:PySem.W.plainGet K C name=true) (hh:PySem.W.hasDictIn K C=true)
  (ha:PySem.W.findIn K (.ref C) name=some none) (hv:mA name=some v) (hv':PySem.W.handedIn v=true) (h:Q v { s with toks:=s.toks+1 }) :
  wpAny (model prog w) A (getAttr (.ref x) name expr) Q E s:=by
 obtain ⟨od,J,hl⟩:=I.look
 exact PySem.W.get_value X J (PySem.W.plainGet_of hg).1 (PySem.W.findObj_own hh ha rfl (by rw [hl,hv])) hv' h

theorem get_meth {pl:Sem Bool} {Q:Value×List Value->Shared->Prop} (X:K.In s.heap) (I:ObjM s.heap x dx C mA) (hg:PySem.W.plainGet K C name=true)
  (hf:PySem.W.findIn K (.ref C) name=some (some (.ref f))) (ht:PySem.W.isFn K (.ref f)=true) (hv:mA name=none) (h:Q (.ref f,[.ref x]) s) :
  wpAny (model prog w) A (getMethod (.ref x) name pl) Q E s:=by
 obtain ⟨od,J,hl⟩:=I.look
 exact PySem.W.method_fn X J (PySem.W.plainGet_of hg).1 (PySem.W.plainGet_of hg).2 hf (beq_iff_eq.mp ht) (by show (PySem.W.lookIn name od).map (·.isSome)=some false;rw [hl,hv];rfl) h

theorem set_map {ns:List Str} {Q:Unit->Shared->Prop} (X:K.In s.heap) (I:ObjM s.heap x dx C mA)
  (hs:PySem.W.findIn K (.ref C) "__setattr__"=some (some (.builtin "object.__setattr__"))) (hp:PySem.W.plainOver K C=true) (ht:PySem.W.takerIn K C name=some none) (hh:PySem.W.hasDictIn K C=true)
  (hw:PySem.Within mA ns) (hsz:ns.length<=sizeLine)
  (h:∀ h',ObjM h' x dx C (λy=>if y=name then some v else mA y)->Heap.SameBut dx s.heap h'->Q () { s with heap:=h',toks:=s.toks+2 }) :
  wpAny (model prog w) A (setAttr (.ref x) name v) Q E s:=by
 obtain ⟨od,J,hl⟩:=I.look
 refine PySem.W.set_plain X J hs (PySem.W.osa_open (s:={ s with toks:=s.toks+1 }) (r:=none) X J hp ht λb=>?_)
 obtain ⟨cd,hc,hd'⟩:=PySem.W.any_some hh
 have hx:s.heap.get? x=some ⟨.ref C,some dx,.plain,#[]⟩:=I.obj
 refine wpAny_bind (wpAny_pure (wpAny_bind (wpAny_bind (wpAny_loadPart hx (wpAny_bind (PySem.W.Looks.here (s:={ s with toks:=s.toks+1 }) (PySem.W.looks_clsIn X hc) ?_))))))
 rw [hd']
 refine wpAny_pure (a:=some dx) (wpAny_bind (wpAny_pure (wpAny_bind ?_)))
 refine wpAny_nsSet1 (s:={ s with toks:=s.toks+1 }) I.ns λh' hn2 hs2=>?_
 obtain ⟨oD,esD,epD,hoD,hdD,hcD⟩:=hn2.count (PySem.Within.cons name v hw)
 refine wpAny_bind (wpAny_lookBehind hoD (by rw [hdD];exact pastItsLine_dict (Nat.le_trans hcD (by rw [List.length_cons];omega))) ?_)
 exact wpAny_pure (h _ ⟨(hs2.2 _ (Ne.symm I.ne)).trans I.obj,hn2,I.ne⟩ hs2)

theorem make_map {R:Result->Shared->Prop} {vs:List Value} {kw:List (Str×Value)} (X:K.In s.heap) (hm:PySem.W.makesIn K C=true)
  (hi:PySem.W.findIn K (.ref C) "__init__"=some (some (.ref f))) (hf:PySem.W.typeIn K (.ref f)=some (.type "function"))
  (h:codeAny (model prog w) (A.under (.builtin "type.__call__" ⟨.ref C::vs,kw⟩)) (.call (.ref f) ⟨.ref (s.heap.objs.size+1)::vs,kw⟩) (PySem.W.InitBack (s.heap.objs.size+1) R)
   { s with heap:=(s.heap.push PySem.W.emptyDict).push (PySem.W.instObj C s.heap.objs.size) }) :
  codeAny (model prog w) A (.call (.ref C) ⟨vs,kw⟩) R s:=by
 obtain ⟨hh,g,d,t,os⟩:=s
 exact PySem.W.make_core (PySem.W.makes_of X hm) (PySem.W.looks_findIn X hi) (λself=>PySem.W.bind_fn X self hf) (.inl rfl) h
end

def putF (f:Str) (v:V):List (Str×V)->List (Str×V)
 |[]=>[(f,v)]
 | (g,x)::r=>if g=f then (g,v)::r else (g,x)::putF f v r
theorem lookup_putF (f g:Str) (v:V):∀ fs:List (Str×V),(putF f v fs).lookup g=if g=f then some v else fs.lookup g
 |[]=>by
  show List.lookup g [(f,v)]=_
  by_cases h:g=f
  ·have hb:(g == f)=true:=beq_iff_eq.mpr h
   simp only [List.lookup,hb,if_pos h]
  ·have hb:(g == f)=false:=beq_eq_false_iff_ne.mpr h
   simp only [List.lookup,hb,if_neg h]
 | (k,x)::r=>by
  have ih:=lookup_putF f g v r
  rw [show putF f v ((k,x)::r)=(if k=f then (k,v)::r else (k,x)::putF f v r) from rfl]
  by_cases hk:k=f
  ·rw [if_pos hk]
   by_cases h:g=k
   ·have hb:(g == k)=true:=beq_iff_eq.mpr h
    simp only [List.lookup,hb,if_pos (h.trans hk)]
   ·have hb:(g == k)=false:=beq_eq_false_iff_ne.mpr h
    simp only [List.lookup,hb,if_neg (λe:g=f=>h (e.trans hk.symm))]
  ·rw [if_neg hk]
   by_cases h:g=k
   ·have hb:(g == k)=true:=beq_iff_eq.mpr h
    simp only [List.lookup,hb,if_neg (λe:g=f=>hk (h.symm.trans e))]
   ·have hb:(g == k)=false:=beq_eq_false_iff_ne.mpr h
    simp only [List.lookup,hb]
    exact ih
theorem keys_putF (f:Str) (v:V):∀ fs:List (Str×V),f∈(putF f v fs).map (·.1)/\∀ g,g∈fs.map (·.1)->g∈(putF f v fs).map (·.1)
 |[]=>⟨by simp [putF],λg h=>by simp at h⟩
 | (k,x)::r=>by
  obtain ⟨i1,i2⟩:=keys_putF f v r
  rw [show putF f v ((k,x)::r)=(if k=f then (k,v)::r else (k,x)::putF f v r) from rfl]
  by_cases hk:k=f
  ·rw [if_pos hk]
   subst hk
   exact ⟨by simp,λg h=>by simpa using h⟩
  ·rw [if_neg hk]
   refine ⟨?_,λg h=>?_⟩
   ·rw [List.map_cons]
    exact List.mem_cons_of_mem _ i1
   ·rw [List.map_cons] at h |-
    rcases List.mem_cons.mp h with e | e
    ·exact List.mem_cons.mpr (.inl e)
    ·exact List.mem_cons_of_mem _ (i2 g e)
theorem length_putF (f:Str) (v:V):∀ fs:List (Str×V),(putF f v fs).length<=fs.length+1
 |[]=>by simp [putF]
 | (k,x)::r=>by
  have ih:=length_putF f v r
  rw [show putF f v ((k,x)::r)=(if k=f then (k,v)::r else (k,x)::putF f v r) from rfl]
  by_cases hk:k=f
  ·rw [if_pos hk,List.length_cons,List.length_cons];omega
  ·rw [if_neg hk,List.length_cons,List.length_cons];omega

theorem RelO.some_of {v:V} {o:Option Value} (r:RelO (some v) o):∃ u,o=some u/\RelV v u:=by
 cases o with
 |none=>exact (show False from r).elim
 |some u=>exact ⟨u,rfl,r⟩
theorem RelO.none_of {o:Option Value} (r:RelO none o):o=none:=by
 cases o with
 |none=>rfl
 |some u=>exact (show False from r).elim
theorem handed_of {v:V} {u:Value} (r:RelV v u):PySem.W.handedIn u=true:=by
 cases v with
 |non=>cases (show u=Value.none from r);rfl
 |bl b=>cases (show u=Value.bool b from r);rfl
 |int i=>obtain ⟨t,e⟩:=(show ∃ t,u=Value.int i t from r);cases e;rfl
 |str x=>obtain ⟨t,e⟩:=(show ∃ t,u=Value.str x t from r);cases e;rfl
 |byt b=>obtain ⟨t,e⟩:=(show ∃ t,u=Value.bytes b t from r);cases e;rfl
 |flt b=>obtain ⟨t,e⟩:=(show ∃ t,u=Value.float b t from r);cases e;rfl
 |ref a=>cases (show u=Value.ref a from r);rfl
 |ty n=>cases (show u=Value.type n from r);rfl

section
variable {P:Program} {w:World} {H H':Hp} {h h':Heap} {a C dx:Addr} {fs fs':List (Str×V)}
theorem ins_get (hok:HOk P w H h) (e:H a=some (.ins C dx fs)):∃ mA,ObjM h a dx C mA/\(∀ f,RelO (fs.lookup f) (mA f))/\PySem.Within mA (fs.map (·.1))/\fs.length<=1000/\H dx=some (.own a):=by
 obtain ⟨d,z,ne,ob,mA,n,r,q⟩:=(show ObjOk P w H h a (.ins C dx fs) from hok a _ e)
 exact ⟨mA,⟨ob,n,ne⟩,r,q,z,d⟩
end

structure Cls (K:PySem.W.Frag) (C:Addr):Prop where
 pg:PySem.W.plainGet K C Str.empty=true
 hd:PySem.W.hasDictIn K C=true
 po:PySem.W.plainOver K C=true
 sa:PySem.W.findIn K (.ref C) "__setattr__"=some (some (.builtin "object.__setattr__"))
theorem Cls.get {K:PySem.W.Frag} {C:Addr} (c:Cls K C) (f:Str):PySem.W.plainGet K C f=true:=c.pg
def NoAttr (K:PySem.W.Frag) (C:Addr) (f:Str):Prop:=PySem.W.findIn K (.ref C) f=some none
theorem NoAttr.taker {K:PySem.W.Frag} {C:Addr} {f:Str} (n:NoAttr K C f):PySem.W.takerIn K C f=some none:=by
 unfold PySem.W.takerIn
 rw [show PySem.W.findIn K (.ref C) f=some none from n]
 rfl
structure Meth (K:PySem.W.Frag) (C:Addr) (m:Str) (f:Addr):Prop where
 at_:PySem.W.findIn K (.ref C) m=some (some (.ref f))
 fn:PySem.W.isFn K (.ref f)=true
 kp:PySem.W.keepIn K (.ref f)=true

section
variable {X:Cx} {pins:List (Addr×Obj)} {σ:St} {H:Hp} {s:Shared} {a C dx:Addr} {fs:List (Str×V)} {f:Str} {v:V} {A:Around} {E:Value->Shared->Prop}

theorem getattr_ok {b:Bool} {Q:Value->Shared->Prop} (I:Inv X pins σ H s) (e:H a=some (.ins C dx fs)) (c:Cls X.K C) (n:NoAttr X.K C f) (l:fs.lookup f=some v)
  (h:∀ u s',Inv X pins σ H s'->RelV v u->Q u s'):wpAny (model X.prog X.w) A (getAttr (.ref a) f b) Q E s:=by
 obtain ⟨mA,O,r,_,_,_⟩:=ins_get I.hok e
 obtain ⟨u,hu,ru⟩:=RelO.some_of (v:=v) (o:=mA f) (by rw [<- l];exact r f)
 exact get_map I.kIn O (c.get f) c.hd n hu (handed_of ru) (h u _ (I.tok _) ru)

theorem getmeth_ok {m:Str} {g:Addr} {pl:Sem Bool} {Q:Value×List Value->Shared->Prop} (I:Inv X pins σ H s) (e:H a=some (.ins C dx fs)) (c:Cls X.K C) (k:Meth X.K C m g) (l:fs.lookup m=none)
  (h:Q (.ref g,[.ref a]) s):wpAny (model X.prog X.w) A (getMethod (.ref a) m pl) Q E s:=by
 obtain ⟨mA,O,r,_,_,_⟩:=ins_get I.hok e
 have hn:mA m=none:=RelO.none_of (by rw [<- l];exact r m)
 exact get_meth I.kIn O (c.get m) k.at_ k.fn hn h

theorem setattr_ok {y:V} {u:Value} {Q:Unit->Shared->Prop} (I:Inv X pins σ H s) (e:H a=some (.ins C dx fs)) (c:Cls X.K C) (n:NoAttr X.K C f) (hl:fs.length<1000) (ry:RelV y u)
  (h:∀ s',Inv X pins σ (upd H a (.ins C dx (putF f y fs))) s'->Q () s'):wpAny (model X.prog X.w) A (setAttr (.ref a) f u) Q E s:=by
 obtain ⟨mA,O,r,wi,_,ho⟩:=ins_get I.hok e
 have hz:(fs.map (·.1)).length<=sizeLine:=by rw [List.length_map,sizeLine_eq];omega
 refine set_map I.kIn O c.sa c.po n.taker c.hd wi hz λh' O' sb=>h _ ?_
 have hd:∃ o,h'.get? dx=some o:=let ⟨o,_,_,e',_⟩:=O'.ns;⟨o,e'⟩
 refine I.write (x:=a) (e:=dx) (by rw [e];exact True.intro) (.inr ho) (λb q hb z=>(sb.2 b hb).trans z) hd ?_
 refine ⟨by rw [upd_ne O.ne];exact ho,?_,O.ne,O'.obj,_,O'.ns,λg=>?_,λg hg=>?_⟩
 ·have:=length_putF f y fs;omega
 ·show RelO ((putF f y fs).lookup g) (if g=f then some u else mA g)
  rw [lookup_putF]
  by_cases q:g=f
  ·rw [if_pos q,if_pos q];exact ry
  ·rw [if_neg q,if_neg q];exact r g
 ·by_cases q:g=f
  ·rw [q];exact (keys_putF f y fs).1
  ·refine (keys_putF f y fs).2 g (wi g λz=>hg ?_)
   show (if g=f then some u else mA g)=none
   rw [if_neg q];exact z

theorem Inv.made (I:Inv X pins σ H s):Inv X pins σ (upd (upd H s.heap.objs.size (.own (s.heap.objs.size+1))) (s.heap.objs.size+1) (.ins C s.heap.objs.size []))
  { s with heap:=(s.heap.push PySem.W.emptyDict).push (PySem.W.instObj C s.heap.objs.size) }:=by
 have e1:(s.heap.push PySem.W.emptyDict).get? s.heap.objs.size=some PySem.W.emptyDict:=Heap.get?_push_size s.heap rfl
 have e2:((s.heap.push PySem.W.emptyDict).push (PySem.W.instObj C s.heap.objs.size)).get? (s.heap.objs.size+1)=some (PySem.W.instObj C s.heap.objs.size):=by
  have:=Heap.get?_push_size (s.heap.push PySem.W.emptyDict) (o:=PySem.W.instObj C s.heap.objs.size) rfl
  rwa [Heap.size_push] at this
 have e3:(s.heap.push PySem.W.emptyDict).Ns s.heap.objs.size (λ_=>none):=⟨PySem.W.emptyDict,#[],_,e1,rfl,(λe he=>absurd he (by simp)),λ_=>rfl⟩
 have I1:=I.laid (a:=s.heap.objs.size) (o:=.own (s.heap.objs.size+1)) (h':=s.heap.push PySem.W.emptyDict) (t':=s.toks) (λb u q=>Heap.get?_push_of_some _ q) (Nat.le_refl _) ⟨_,e1⟩
 refine I1.laid (a:=s.heap.objs.size+1) (o:=.ins C s.heap.objs.size []) (t':=s.toks) (λb u q=>Heap.get?_push_of_some _ q) (Nat.le_of_eq (Heap.size_push _ _)) ?_
 have ne:s.heap.objs.size≠s.heap.objs.size+1:=Nat.ne_of_lt (Nat.lt_succ_self _)
 refine ⟨by rw [upd_ne ne,upd_same],Nat.zero_le _,ne,e2,λ_=>none,(Heap.Ns1.of_empty e3).at λo q=>Heap.get?_push_of_some _ q,λ_=>True.intro,λy hy=>absurd rfl hy⟩

theorem attr_of {prog:Program} {w:World} {env:Env} {e:Expr} {f:Str} {pos:Pos} {s:Shared} {Q:Value->Shared->Prop} (hb:attributeBase e f env (eval e env)=eval e env)
  (h:wpAny (model prog w) A (eval e env) (λo s₁=>wpAny (model prog w) A (getAttr o f true) Q E s₁) E s):wpAny (model prog w) A (eval (.Attribute e f pos) env) Q E s :=
 Attribute_any_ h (by rw [arm_eval_Attribute,hb])
end

def tFld (K:PySem.W.Frag) (ta:TE) (f:Str):TE:=λσ H Q=>ta σ H λx H1=>∃ a C dx fs v,x=.ref a/\H1 a=some (.ins C dx fs)/\Cls K C/\NoAttr K C f/\fs.lookup f=some v/\Q v H1
def sFld (K:PySem.W.Frag) (ta tv:TE) (f:Str):TS:=λD σ H=>tv σ H λy H1=>ta σ H1 λx H2=>∃ a C dx fs,x=.ref a/\H2 a=some (.ins C dx fs)/\Cls K C/\NoAttr K C f/\fs.length<1000 /\
 D.nx σ (upd H2 a (.ins C dx (putF f y fs)))
section
variable {X:Cx} {o e value:Expr} {f:Str} {pos pos' tpos:Pos} {ta tv:TE}
theorem pe_fld (he:PE X e ta) (hb:attributeBase e f X.env (eval e X.env)=eval e X.env):PE X (.Attribute e f pos) (tFld X.K ta f):=by
 intro pins s σ H Q I h
 refine attr_of hb (thn (he pins s σ H _ I h) λu s1 ⟨x,H1,I1,rx,a,C,dx,fs,v,ex,ea,c,n,l,q⟩=>?_)
 subst ex
 obtain rfl:u=Value.ref a:=rx
 exact getattr_ok I1 ea c n l λu' s2 I2 ru=>⟨v,H1,I2,ru,q⟩
theorem ps_fld (ha:PE X o ta) (hv:PE X value tv) (hs:swapsWith value (some (.Attribute o f pos')) pos.line X.env=pure false):PS X (.Assign [.Attribute o f pos'] value pos) (sFld X.K ta tv f):=by
 intro pins s σ H D I h
 refine plainObj_wpAny_Assign_Attribute (thn (hv pins s σ H _ I h) λu s1 ⟨y,H1,I1,ry,q⟩=>thn (ha pins s1 σ H1 _ I1 q) λov s2 ⟨x,H2,I2,rx,a,C,dx,fs,ex,ea,c,n,l,q2⟩=>?_) hs
 subst ex
 obtain rfl:ov=Value.ref a:=rx
 exact setattr_ok I2 ea c n l ry λs3 I3=>⟨σ,_,I3,q2⟩
end

section
variable {X:Cx} {pins:List (Addr×Obj)} {σ:St} {H:Hp} {s:Shared} {A:Around} {E:Value->Shared->Prop} {Q:Value->Shared->Prop} {c:Value} {b:Bool}
inductive TyOf (K:PySem.W.Frag) (H:Hp):V->Value->Prop where
 |non:TyOf K H .non (.type "NoneType")
 |bl (x:Bool):TyOf K H (.bl x) (.type "bool")
 |int (i:Int):TyOf K H (.int i) (.type "int")
 |str (x:Str):TyOf K H (.str x) (.type "str")
 |flt (x:UInt64):TyOf K H (.flt x) (.type "float")
 |lst {a:Addr} {xs:List V} (e:H a=some (.lst xs)):TyOf K H (.ref a) (.type "list")
 |frz {a:Addr} {o:Obj} {xs:List V} (e:H a=some (.frz o (.lst xs))):TyOf K H (.ref a) (.type "list")
 |tup {a:Addr} {xs:List V} (e:H a=some (.tup xs)):TyOf K H (.ref a) (.type "tuple")
 |dK {a:Addr} {kvs:List (Key×V)} (e:H a=some (.dK kvs)):TyOf K H (.ref a) (.type "dict")
 |dT {a:Addr} {kvs:List (List Key×V)} (e:H a=some (.dT kvs)):TyOf K H (.ref a) (.type "dict")
 |ins {a C dx:Addr} {fs:List (Str×V)} (e:H a=some (.ins C dx fs)) (cl:Cls K C) (ha:PySem.W.findIn K (.ref C) "__class__"=some (some (.builtin "object.__class__")))
   (hn:PySem.W.specialIn K (.builtin "object.__class__") "__get__"=some (some (.builtin "getset_descriptor.__get__"))) (htk:PySem.W.takesIn K (.builtin "object.__class__")=some true)
   (hm:PySem.W.mroIn K C (.type "object")=some true):TyOf K H (.ref a) (.ref C)
theorem isinst_ok {x:V} {u t:Value} (I:Inv X pins σ H s) (rx:RelV x u) (ty:TyOf X.K H x t) (e:PySem.W.kitOne X.K t c=some b) (h:∀ tk,Q (.bool b) { s with toks:=tk }) :
  wpAny (model X.prog X.w) A (call (.builtin "isinstance") [u,c]) Q E s:=by
 cases ty with
 |non=>cases (show u=Value.none from rx);exact PySem.W.kia_one PySem.W.kitx_none I.kIn True.intro e (λz=>nomatch z) h
 |bl y=>cases (show u=Value.bool y from rx);exact PySem.W.kia_one PySem.W.kitx_bool I.kIn True.intro e (λz=>nomatch z) h
 |int i=>obtain ⟨t,q⟩:=(show ∃ t,u=Value.int i t from rx);cases q;exact PySem.W.kia_one PySem.W.kitx_int I.kIn True.intro e (λz=>nomatch z) h
 |str y=>obtain ⟨t,q⟩:=(show ∃ t,u=Value.str y t from rx);cases q;exact PySem.W.kia_one PySem.W.kitx_str I.kIn True.intro e (λz=>nomatch z) h
 |flt y=>obtain ⟨t,q⟩:=(show ∃ t,u=Value.float y t from rx);cases q;exact PySem.W.kia_one PySem.W.kitx_float I.kIn True.intro e (λz=>nomatch z) h
 |@lst a xs ea =>
  cases (show u=Value.ref a from rx)
  obtain ⟨_,_,n,_,h1⟩:=(show ObjOk X.prog X.w H s.heap a (.lst xs) from I.hok a _ ea)
  exact PySem.W.kia_one PySem.W.kitx_list I.kIn ⟨_,h1,rfl⟩ e (λz=>nomatch z) h
 |@frz a ob xs ea =>
  cases (show u=Value.ref a from rx)
  obtain ⟨_,_,_,n,_,h1⟩:=(show ObjOk X.prog X.w H s.heap a (.frz ob (.lst xs)) from I.hok a _ ea)
  exact PySem.W.kia_one PySem.W.kitx_list I.kIn ⟨_,h1,rfl⟩ e (λz=>nomatch z) h
 |@tup a xs ea =>
  cases (show u=Value.ref a from rx)
  obtain ⟨_,_,_,p⟩:=(show ObjOk X.prog X.w H s.heap a (.tup xs) from I.hok a _ ea)
  obtain ⟨o,h1,h2,_⟩:=p
  exact PySem.W.kia_one PySem.W.kitx_tuple I.kIn ⟨o,h1,h2⟩ e (λz=>nomatch z) h
 |@dK a kvs ea =>
  cases (show u=Value.ref a from rx)
  obtain ⟨_,_,vs,_,p⟩:=(show ObjOk X.prog X.w H s.heap a (.dK kvs) from I.hok a _ ea)
  obtain ⟨o,es,ep,h1,h2,_⟩:=p
  exact PySem.W.kia_one PySem.W.kitx_dict I.kIn ⟨o,h1,h2.1⟩ e (λz=>nomatch z) h
 |@dT a kvs ea =>
  cases (show u=Value.ref a from rx)
  obtain ⟨_,_,xs,_,o,es,ep,h1,h2,_⟩:=(show ObjOk X.prog X.w H s.heap a (.dT kvs) from I.hok a _ ea)
  exact PySem.W.kia_one PySem.W.kitx_dict I.kIn ⟨o,h1,h2.1⟩ e (λz=>nomatch z) h
 |@ins a C dx fs ea cl ha hn htk hm =>
  cases (show u=Value.ref a from rx)
  obtain ⟨mA,O,_⟩:=ins_get I.hok ea
  obtain ⟨od,J,_⟩:=O.look
  exact PySem.W.kia_one (PySem.W.kitx_own (cl.get _) cl.hd ha hn htk hm) I.kIn J e (λz=>nomatch z) h
end
end L2

namespace L2
open PySem PySem.Spec PyProof.Rows

structure Room (k:Nat) (A:Around):Prop where
 hd:A.handled=none
 dp:A.depth+3*k+5<recursionLimit
 un:A.units+16*k+200<cLine
theorem Room.mono {j k:Nat} {A:Around} (r:Room k A) (h:j<=k):Room j A:=⟨r.hd,by have:=r.dp;omega,by have:=r.un;omega⟩
theorem Room.deeper {k:Nat} {A:Around} (r:Room (k+1) A) (env:Env):Room k (A.deeper env) :=
 ⟨r.hd,by have:=r.dp;show A.depth+1+3*k+5<_;omega,by have:=r.un;show A.units+3+16*k+200<_;omega⟩
theorem make_depth {A:Around} {C:Addr} {us:List Value} {kw:List (Str×Value)}:(A.under (.builtin "type.__call__" ⟨.ref C::us,kw⟩)).depth=A.depth+1:=by
 first | rfl | simp [Around.under,Code.weight,Code.isCreation,Code.isGuard,Code.isCaller,Code.frames,Code.isFrame,guardIds]
theorem make_units {A:Around} {C:Addr} {us:List Value} {kw:List (Str×Value)}:(A.under (.builtin "type.__call__" ⟨.ref C::us,kw⟩)).units=A.units+1:=by
 first | rfl | simp [Around.under,Code.cUnits,Code.frames,Code.isFrame]
theorem Room.make {k:Nat} {A:Around} (r:Room (k+1) A) (C:Addr) (us:List Value) (kw:List (Str×Value)):Room k (A.under (.builtin "type.__call__" ⟨.ref C::us,kw⟩)) :=
 ⟨r.hd,by have:=r.dp;rw [make_depth];omega,by have:=r.un;rw [make_units];omega⟩
theorem Room.depth {k:Nat} {A:Around} (r:Room k A):A.depth<recursionLimit:=by have:=r.dp;omega
theorem Room.units {k:Nat} {A:Around} (r:Room k A):A.units+64<cLine:=by have:=r.un;omega
def tNil:TA:=λ_ H Q=>Q [] H
def tCons (ta:TE) (tr:TA):TA:=λσ H Q=>ta σ H λx H1=>tr σ H1 λxs H2=>Q (x::xs) H2
section
variable {X:Cx} {e:Expr} {es:List Expr} {te:TE} {t:TA} {pos:Pos}
theorem pa_nil:PA X [] tNil:=λ_ _ _ _ H Q I h=>Calls.spliced_nil ⟨[],H,I,.nil,h⟩
theorem pa_cons (ha:PE X e te) (hr:PA X es t) (hs:starEach (e::es) X.env=(false,eval e X.env)::starEach es X.env:=by rfl):PA X (e::es) (tCons te t):=by
 intro pos pins s σ H Q I h
 rw [hs]
 show wpAny _ _ (spliced ((false,eval e X.env)::backTo pos (starEach es X.env))) _ _ s
 refine Calls.spliced_cons (thn (ha pins s σ H _ I h) λu s1 ⟨x,H1,I1,r1,q1⟩=>?_)
 exact thn (hr pos pins s1 σ H1 _ I1 q1) λus s2 ⟨xs,H2,I2,r2,q2⟩=>⟨x::xs,H2,I2,.cons r1 r2,q2⟩

def tTup (t:TA):TE:=λσ H Q=>t σ H λxs H1=>xs.length<=sizeLine/\∀ p,H1 p=none->Q (.ref p) (upd H1 p (.tup xs))
def tLst (t:TA):TE:=λσ H Q=>t σ H λxs H1=>xs.length<=sizeLine/\∀ p,H1 p=none->Q (.ref p) (upd H1 p (.lst xs))
theorem pe_tup {x1} (h:PA X es t):PE X (.Tuple es x1 pos) (tTup t):=by
 intro pins s σ H Q I hq
 refine wpAny_Tuple_spliced (thn (h pos pins s σ H _ I hq) λus s1 ⟨xs,H1,I1,r,z,q⟩=>⟨by rw [<- r.length];exact z,?_⟩)
 have hf:H1 s1.heap.objs.size=none:=I1.hok.fresh (Nat.le_refl _)
 refine ⟨.ref s1.heap.objs.size,upd H1 s1.heap.objs.size (.tup xs),I1.laid (t':=s1.toks) (λb u e=>Heap.get?_push_of_some _ e) (Nat.le_refl _) ?_,rfl,q _ hf⟩
 exact ⟨z,us,r,⟨_,Heap.get?_push_size _ rfl,rfl,_,rfl⟩⟩
theorem pe_lst (h:PA X es t):PE X (.List es pos) (tLst t):=by
 intro pins s σ H Q I hq
 refine wpAny_List_spliced (thn (h pos pins s σ H _ I hq) λus s1 ⟨xs,H1,I1,r,z,q⟩=>⟨by rw [<- r.length];exact z,?_⟩)
 have hf:H1 s1.heap.objs.size=none:=I1.hok.fresh (Nat.le_refl _)
 refine ⟨.ref s1.heap.objs.size,upd H1 s1.heap.objs.size (.lst xs),I1.laid (t':=s1.toks) (λb u e=>Heap.get?_push_of_some _ e) (Nat.le_refl _) ?_,rfl,q _ hf⟩
 exact ⟨z,us,0,r,Heap.get?_push_size _ rfl⟩
end

abbrev Sp:=List V->Hp->VK->XK->Prop
abbrev CXT:=List Env->Hp->Shared->XK->Value->Shared->Prop

structure Env0 (P:Program) (w:World) (K:PySem.W.Frag) (mg:Str->Option Value) (base:Heap) (A:Around) (outer:List Env) (s:Shared) (H:Hp):Prop where
 frames:A.frames=some outer
 mod:Mod K mg base
 bs:∀ b o,base.get? b=some o->s.heap.get? b=some o/\H b=none
 bsz:base.objs.size<=s.heap.objs.size
 funs:s.heap.FunFrames base outer
 frf:∀ b∈frs outer,H b=none
 hok:HOk P w H s.heap
 bare:AllBare s.gens
def CE (outer:List Env) (P:Program) (w:World) (H:Hp) (s:Shared) (Q:VK) (u:Value) (s':Shared):Prop :=
 ∃ v H',s'.os=s.os/\AllBare s'.gens/\Un (frs outer) [] H H' s.heap s'.heap/\HOk P w H' s'.heap/\RelV v u/\Q v H'
def CR (CX:CXT) (outer:List Env) (P:Program) (w:World) (H:Hp) (s:Shared) (Q:VK) (E:XK) (r:Result) (s':Shared):Prop :=
 match r with
 |.ok (.ret u)=>CE outer P w H s Q u s'
 |.ok _=>False
 |.error e=>CX outer H s E e s'
structure FnOk (P:Program) (w:World) (K:PySem.W.Frag) (mg:Str->Option Value) (base:Heap) (CX:CXT) (k:Nat) (f:Addr) (fd:FuncData) (ps:List Str) (sp:Sp):Prop where
 len:∀ vs H Q E,sp vs H Q E->vs.length=ps.length
 run:∀ (A:Around) (outer:List Env) (s:Shared) (H:Hp) (args:Args) (us:List Value) (vs:List V) (Q:VK) (E:XK),Room k A->Env0 P w K mg base A outer s H->BindsTo s fd args (ps.zip us)->Vals vs us->sp vs H Q E ->
  codeAny (model P w) A (.call (.ref f) args) (CR CX outer P w H s Q E) s
theorem FnOk.mono {P:Program} {w:World} {K:PySem.W.Frag} {mg:Str->Option Value} {base:Heap} {CX:CXT} {j k:Nat} {f:Addr} {fd:FuncData} {ps:List Str} {sp:Sp} (F:FnOk P w K mg base CX j f fd ps sp) (h:j<=k) :
  FnOk P w K mg base CX k f fd ps sp:=⟨F.len,λA outer s H args us vs Q E hr=>F.run A outer s H args us vs Q E (hr.mono h)⟩
theorem Env0.make {P:Program} {w:World} {K:PySem.W.Frag} {mg:Str->Option Value} {base:Heap} {A:Around} {outer:List Env} {s:Shared} {H:Hp} (e:Env0 P w K mg base A outer s H) (C:Addr) (us:List Value) (kw:List (Str×Value)) :
  Env0 P w K mg base (A.under (.builtin "type.__call__" ⟨.ref C::us,kw⟩)) outer s H:=⟨by first | exact e.frames | (simpa [Around.under,Code.envs,Code.isFrame,pushEnvs] using e.frames),e.mod,e.bs,e.bsz,e.funs,e.frf,e.hok,e.bare⟩
section
variable {X:Cx} {pins:List (Addr×Obj)} {σ:St} {H:Hp} {s s':Shared}
theorem Inv.env0 (I:Inv X pins σ H s):Env0 X.prog X.w X.K X.mg X.base X.A X.stack s H :=
 ⟨I.ok.frames,I.ok.mod,I.bs,Nat.le_trans I.ok.bsz I.sz,I.stack,I.stkFree,I.hok,I.bare⟩
theorem Inv.after {Q:VK} {u:Value} (I:Inv X pins σ H s) (h:CE X.stack X.prog X.w H s Q u s'):EP X pins σ Q u s':=by
 obtain ⟨v,H',os,bare,un,hok,r,q⟩:=h
 obtain ⟨hh,g,d,t,os'⟩:=s'
 obtain rfl:os'=s.os:=os
 exact ⟨v,H',I.call (h':=hh) (g':=g) (d':=d) (t':=t) (ch:=[]) un hok bare (λb z=>absurd z (by simp)),r,q⟩
end

def tCall (sp:Sp) (dvs:List V) (E:XK) (t:TA):TE:=λσ H Q=>t σ H λvs H1=>sp (vs++dvs) H1 Q E
def tMeth (C:Addr) (m:Str) (sp:Sp) (dvs:List V) (E:XK) (ta:TE) (t:TA):TE:=λσ H Q=>ta σ H λx H1=>∃ a dx fs,x=.ref a/\H1 a=some (.ins C dx fs)/\fs.lookup m=none /\
 t σ H1 λvs H2=>sp (x::(vs++dvs)) H2 Q E
def tMake (C:Addr) (sp:Sp) (dvs:List V) (E:XK) (t:TA):TE:=λσ H Q=>t σ H λvs H1=>∀ x dx,H1 x=none->H1 dx=none->dx≠x ->
 sp (.ref x::(vs++dvs)) (upd (upd H1 dx (.own x)) x (.ins C dx [])) (λv H2=>v=.non/\Q (.ref x) H2) E

def Binds (K:PySem.W.Frag) (fd:FuncData) (ps:List Str) (ds:List Value):Prop :=
 ∀ (s:Shared) (us:List Value),K.In s.heap->(us++ds).length=ps.length->BindsTo s fd ⟨us,[]⟩ (ps.zip (us++ds))
theorem Binds.all {K:PySem.W.Frag} {fd:FuncData} {ps:List Str} (h:∀ us:List Value,us.length=ps.length->bindArgs fd ⟨us,[]⟩=pure (ps.zip us)):Binds K fd ps []:=λs us _ hl=>by
 rw [List.append_nil] at hl |-
 exact .of_eq (h us hl)

def Passes (CX:CXT) (X:Cx) (E:XK):Prop:=∀ (pins:List (Addr×Obj)) (σ:St) (H:Hp) (s:Shared) (e:Value) (s':Shared),Inv X pins σ H s->CX X.stack H s E e s'->X.xe e s'

section
variable {X:Cx} {CX:CXT} {k:Nat} {f C:Addr} {fd:FuncData} {ps:List Str} {sp:Sp} {dvs:List V} {ds:List Value} {E:XK} {x m:Str} {p pos apos:Pos} {e o:Expr} {es:List Expr} {ta:TE} {t:TA}

theorem run_fn {pins:List (Addr×Obj)} {σ:St} {H:Hp} {s:Shared} {Q:VK} {us:List Value} {vs:List V} (F:FnOk X.prog X.w X.K X.mg X.base CX k f fd ps sp) (hr:Room k X.A) (hb:Binds X.K fd ps ds) (hd:Vals dvs ds) (hx:Passes CX X E)
  (I:Inv X pins σ H s) (r:Vals vs us) (h:sp (vs++dvs) H Q E):wpAny (model X.prog X.w) X.A (call (.ref f) us) (EP X pins σ Q) X.xe s:=by
 have r2:Vals (vs++dvs) (us++ds):=r.append hd
 have hl:(us++ds).length=ps.length:=by rw [<- r2.length];exact F.len _ _ _ _ h
 refine wpAny_call (codeAny_mono (F.run X.A X.stack s H ⟨us,[]⟩ (us++ds) (vs++dvs) Q E hr I.env0 (hb s us I.kIn hl) r2 h) λr s' hq=>?_)
 cases r with
 |error e=>exact hx pins σ H s e s' I hq
 |ok fl =>
  cases fl with
  |ret u=>exact I.after hq
  |next=>exact False.elim hq
  |brk=>exact False.elim hq
  |cont=>exact False.elim hq

theorem pe_call (F:FnOk X.prog X.w X.K X.mg X.base CX k f fd ps sp) (hr:Room k X.A) (hg:Gl X x) (hm:X.mg x=some (.ref f)) (hk:PySem.W.keepIn X.K (.ref f)=true) (hb:Binds X.K fd ps ds) (hd:Vals dvs ds) (hx:Passes CX X E)
  (ha:PA X (e::es) t) (hdb:(x == ("__debug__":Str))=false:=by decide) (he:starEach (e::es) X.env=(false,eval e X.env)::starEach es X.env:=by rfl) (hpl:(backTo pos (starEach es X.env)).any (·.1)=false:=by rfl) :
  PE X (.Call (.Name x p) (e::es) [] pos) (tCall sp dvs E t):=by
 intro pins s σ H Q I h
 refine wpAny_Call_Name_kw (ld_glob I hg hm ?_ hdb)
 refine PySem.W.callWith_K (h₀:=X.base) I.ok.mod.kin hk (thn (ha pos pins s σ H _ I h) λus s1 ⟨vs,H1,I1,r,q⟩=>⟨I1.kIn,?_⟩) he hpl
 exact run_fn F hr hb hd hx I1 r q
theorem pe_meth {pl:Sem Bool} (he:PE X o ta) (c:Cls X.K C) (hm:Meth X.K C m f) (F:FnOk X.prog X.w X.K X.mg X.base CX k f fd ps sp) (hr:Room k X.A) (hb:Binds X.K fd ps ds) (hd:Vals dvs ds) (hx:Passes CX X E) (ha:PA X (e::es) t)
  (hst:starEach (e::es) X.env=(false,eval e X.env)::starEach es X.env:=by rfl) (hpl:(backTo pos (starEach es X.env)).any (·.1)=false:=by rfl)
  (ht:eval (.Call (.Attribute o m apos) (e::es) [] pos) X.env=(do
   let ov <- eval o X.env
   standAt apos.atName
   let (f,first) <- holding [ov] (getMethod ov m pl)
   callWith pos f first (backTo pos (starEach (e::es) X.env)) (backToKw pos (keywordEach [] X.env))):=by rfl) :
  PE X (.Call (.Attribute o m apos) (e::es) [] pos) (tMeth C m sp dvs E ta t):=by
 intro pins s σ H Q I h
 refine PySem.W.methodCall_KW (pl:=pl) (thn (he pins s σ H _ I h) λu s1 ⟨x,H1,I1,rx,a,dx,fs,ex,ea,l,q⟩=>?_) ht
 subst ex
 obtain rfl:u=Value.ref a:=rx
 refine getmeth_ok I1 ea c hm l ?_
 refine PySem.W.callWith_K (first:=[.ref a]) (h₀:=X.base) I.ok.mod.kin hm.kp (thn (ha pos pins s1 σ H1 _ I1 q) λus s2 ⟨vs,H2,I2,r,q2⟩=>⟨I2.kIn,?_⟩) hst hpl
 exact run_fn (us:=.ref a::us) (vs:=.ref a::vs) F hr hb hd hx I2 (.cons rfl r) q2
theorem pe_meth0 {pl:Sem Bool} (he:PE X o ta) (c:Cls X.K C) (hm:Meth X.K C m f) (F:FnOk X.prog X.w X.K X.mg X.base CX k f fd ps sp) (hr:Room k X.A) (hb:Binds X.K fd ps ds) (hd:Vals dvs ds) (hx:Passes CX X E)
  (ht:eval (.Call (.Attribute o m apos) [] [] pos) X.env=(do
   let ov <- eval o X.env
   standAt apos.atName
   let (f,first) <- holding [ov] (getMethod ov m pl)
   callWith pos f first (backTo pos (starEach [] X.env)) (backToKw pos (keywordEach [] X.env))):=by rfl) :
  PE X (.Call (.Attribute o m apos) [] [] pos) (tMeth C m sp dvs E ta tNil):=by
 intro pins s σ H Q I h
 refine PySem.W.methodCall_KW (pl:=pl) (thn (he pins s σ H _ I h) λu s1 ⟨x,H1,I1,rx,a,dx,fs,ex,ea,l,q⟩=>?_) ht
 subst ex
 obtain rfl:u=Value.ref a:=rx
 refine getmeth_ok I1 ea c hm l ?_
 exact PySem.W.callWith_K0 (first:=[.ref a]) I1.kIn hm.kp (run_fn (us:=[.ref a]) (vs:=[.ref a]) F hr hb hd hx I1 (.cons rfl .nil) q)

structure Mk (K:PySem.W.Frag) (C f:Addr):Prop where
 makes:PySem.W.makesIn K C=true
 init:PySem.W.findIn K (.ref C) "__init__"=some (some (.ref f))
 fn:PySem.W.isFn K (.ref f)=true
 kp:PySem.W.keepIn K (.ref C)=true

theorem run_make {pins:List (Addr×Obj)} {σ:St} {H:Hp} {s:Shared} {Q:VK} {us:List Value} {vs:List V} (M:Mk X.K C f) (F:FnOk X.prog X.w X.K X.mg X.base CX k f fd ps sp) (hr:Room (k+1) X.A) (hb:Binds X.K fd ps ds) (hd:Vals dvs ds)
  (hx:Passes CX X E) (I:Inv X pins σ H s) (r:Vals vs us)
  (h:∀ x dx,H x=none->H dx=none->dx≠x->sp (.ref x::(vs++dvs)) (upd (upd H dx (.own x)) x (.ins C dx [])) (λv H2=>v=.non/\Q (.ref x) H2) E) :
  wpAny (model X.prog X.w) X.A (call (.ref C) us) (EP X pins σ Q) X.xe s:=by
 have hq:=h (s.heap.objs.size+1) s.heap.objs.size (I.hok.fresh (Nat.le_succ _)) (I.hok.fresh (Nat.le_refl _)) (Nat.ne_of_lt (Nat.lt_succ_self _))
 have I2:=Inv.made (C:=C) I
 have r2:Vals (V.ref (s.heap.objs.size+1)::(vs++dvs)) (Value.ref (s.heap.objs.size+1)::(us++ds)):=.cons rfl (r.append hd)
 have hl:(Value.ref (s.heap.objs.size+1)::us++ds).length=ps.length:=by
  have e:=r2.length
  rw [F.len _ _ _ _ hq] at e
  exact e.symm
 refine wpAny_call (make_map (f:=f) I.kIn M.makes M.init (beq_iff_eq.mp M.fn) (codeAny_mono (F.run _ X.stack _ _ ⟨Value.ref (s.heap.objs.size+1)::us,[]⟩ (Value.ref (s.heap.objs.size+1)::(us++ds)) _ _ E (hr.make C us [])
  (I2.env0.make C us []) (hb _ (Value.ref (s.heap.objs.size+1)::us) I2.kIn hl) r2 hq) λr s' hq'=>?_))
 cases r with
 |error e=>exact hx pins σ _ _ e s' I2 hq'
 |ok fl =>
  cases fl with
  |ret u =>
   obtain ⟨v,H',I3,rv,ev,q3⟩:=I2.after hq'
   subst ev
   exact ⟨rv,⟨V.ref (s.heap.objs.size+1),H',I3,rfl,q3⟩⟩
  |next=>exact False.elim hq'
  |brk=>exact False.elim hq'
  |cont=>exact False.elim hq'
theorem pe_make (M:Mk X.K C f) (F:FnOk X.prog X.w X.K X.mg X.base CX k f fd ps sp) (hr:Room (k+1) X.A) (hg:Gl X x) (hm:X.mg x=some (.ref C)) (hb:Binds X.K fd ps ds) (hd:Vals dvs ds) (hx:Passes CX X E)
  (ha:PA X (e::es) t) (hdb:(x == ("__debug__":Str))=false:=by decide) (he:starEach (e::es) X.env=(false,eval e X.env)::starEach es X.env:=by rfl) (hpl:(backTo pos (starEach es X.env)).any (·.1)=false:=by rfl) :
  PE X (.Call (.Name x p) (e::es) [] pos) (tMake C sp dvs E t):=by
 intro pins s σ H Q I h
 refine wpAny_Call_Name_kw (ld_glob I hg hm ?_ hdb)
 refine PySem.W.callWith_K (h₀:=X.base) I.ok.mod.kin M.kp (thn (ha pos pins s σ H _ I h) λus s1 ⟨vs,H1,I1,r,q⟩=>⟨I1.kIn,?_⟩) he hpl
 exact run_make M F hr hb hd hx I1 r q
end

section
variable {X:Cx} {CX:CXT} {k:Nat} {f C:Addr} {fd:FuncData} {ps ks:List Str} {sp:Sp} {E:XK} {x m:Str} {p pos apos kpos:Pos} {e o:Expr} {es:List Expr} {kws:List Keyword} {te ta:TE} {t tk:TA} {nm:Option Str}
variable {g:List Value->List Value->List Value} {gV:List V->List V->List V}
end

structure FnScope (N P:List Str) (sc:Scope):Prop where
 kind:sc.kind=.function
 co:sc.isCoroutine=false
 gen:sc.isGenerator=false
 nd:N.Nodup
 pre:N.take P.length=P
 par:∀ x∈P,sc.names.lookup x=some .local\/sc.names.lookup x=some .cell
 nofree:∀ y∈sc.names,y.2≠.free

theorem bindL_out {kindOf:Str->Option NameKind} {x:Str}:∀ {binds:List (Str×Value)} {m:Str->Option Value},(∀ v,(x,v)∉binds)->bindL kindOf binds m x=m x
 |[],_,_=>rfl
 | (n,v)::r,m,h=>by
  unfold bindL
  rw [bindL_out λw hw=>h w (List.mem_cons_of_mem _ hw)]
  split
  ·have:x≠n:=by rintro rfl;exact h v List.mem_cons_self
   simp [this]
  ·rfl
theorem bindC_out {kindOf:Str->Option NameKind} {x:Str}:∀ {binds:List (Str×Value)} {m:Str->Option Value},(∀ v,(x,v)∉binds)->bindC kindOf binds m x=m x
 |[],_,_=>rfl
 | (n,v)::r,m,h=>by
  unfold bindC
  rw [bindC_out λw hw=>h w (List.mem_cons_of_mem _ hw)]
  split
  ·rfl
  ·have:x≠n:=by rintro rfl;exact h v List.mem_cons_self
   simp [this]
theorem bindL_get {kindOf:Str->Option NameKind} {x:Str} {v:Value}:∀ {P:List Str} {vs:List Value} {i:Nat} {m:Str->Option Value},P.Nodup->P[i]?=some x->vs[i]?=some v->kindOf x=some .local ->
  bindL kindOf (P.zip vs) m x=some v
 |[],_,_,_,_,h,_,_=>by simp at h
 |_::_,[],_,_,_,_,h,_=>by simp at h
 |p::P,w::vs,0,m,nd,h1,h2,hk=>by
  simp at h1 h2;subst h1;subst h2
  show bindL kindOf ((p,w)::P.zip vs) m p=_
  unfold bindL
  rw [bindL_out λv hv=>(List.nodup_cons.mp nd).1 (List.of_mem_zip hv).1,if_pos hk]
  simp
 |p::P,w::vs,i+1,m,nd,h1,h2,hk=>by
  show bindL kindOf ((p,w)::P.zip vs) m x=_
  unfold bindL
  exact bindL_get (i:=i) (List.nodup_cons.mp nd).2 (by simpa using h1) (by simpa using h2) hk
theorem bindC_get {kindOf:Str->Option NameKind} {x:Str} {v:Value}:∀ {P:List Str} {vs:List Value} {i:Nat} {m:Str->Option Value},P.Nodup->P[i]?=some x->vs[i]?=some v->kindOf x≠some .local ->
  bindC kindOf (P.zip vs) m x=some v
 |[],_,_,_,_,h,_,_=>by simp at h
 |_::_,[],_,_,_,_,h,_=>by simp at h
 |p::P,w::vs,0,m,nd,h1,h2,hk=>by
  simp at h1 h2;subst h1;subst h2
  show bindC kindOf ((p,w)::P.zip vs) m p=_
  unfold bindC
  rw [bindC_out λv hv=>(List.nodup_cons.mp nd).1 (List.of_mem_zip hv).1,if_neg hk]
  simp
 |p::P,w::vs,i+1,m,nd,h1,h2,hk=>by
  show bindC kindOf ((p,w)::P.zip vs) m x=_
  unfold bindC
  exact bindC_get (i:=i) (List.nodup_cons.mp nd).2 (by simpa using h1) (by simpa using h2) hk

def start (N:List Str) (vs:List V):St:=vs.map some++List.replicate (N.length-vs.length) none

def cxOf (CX:CXT) (P:Program) (w:World) (K:PySem.W.Frag) (mg:Str->Option Value) (base:Heap) (N:List Str) (qual:Str) (scope:Scope) (f:Addr) (cd:Value) (A:Around) (outer:List Env) (s:Shared) (H:Hp) (E:XK):Cx where
 prog:=P
 w:=w
 K:=K
 mg:=mg
 base:=base
 A:=A.deeper (envOfC qual scope s.heap.objs.size f cd)
 N:=N
 s₀:=s
 H₀:=H
 env:=envOfC qual scope s.heap.objs.size f cd
 outer:=outer
 stack:=envOfC qual scope s.heap.objs.size f cd::outer
 ex:=[]
 calm:=true
 fn:=λ_=>true
 pn:=[]
 xe:=λe s'=>wpAny (model P w) (A.deeper (envOfC qual scope s.heap.objs.size f cd)) (leaving (envOfC qual scope s.heap.objs.size f cd) e) (λ_ s''=>CX outer H s E e s'') (λe' s''=>CX outer H s E e' s'') s'

theorem cell_has {sc:Scope} {n:Nat} {x:Str} (h:sc.names.lookup x=some .cell):∃ c,(cellsFrom n sc.names []).lookup x=some c:=by
 have q:=PySem.W.cellsFrom_some sc.names n [] (.inl h)
 exact Option.isSome_iff_exists.mp q

theorem inv_start {CX:CXT} {P:Program} {w:World} {K:PySem.W.Frag} {mg:Str->Option Value} {base:Heap} {N ps:List Str} {qual:Str} {scope:Scope} {f:Addr} {cd:Value} {A:Around} {outer:List Env} {s s1:Shared} {H:Hp} {E:XK} {us:List Value} {vs:List V}
  (S:FnScope N ps scope) (hd:A.handled=none) (e0:Env0 P w K mg base A outer s H) (hl:vs.length=ps.length) (r:Vals vs us)
  (x:InCallC s s.heap.objs.size (bindL (envOfC qual scope s.heap.objs.size f cd).kindOf (ps.zip us) λ_=>none) (cellsFrom (s.heap.objs.size+1) scope.names []) (bindC (envOfC qual scope s.heap.objs.size f cd).kindOf (ps.zip us) λ_=>none) s1) :
  Inv (cxOf CX P w K mg base N qual scope f cd A outer s H E) [] (start N vs) H s1:=by
 have hpl:ps.length<=N.length:=by have:=congrArg List.length S.pre;rw [List.length_take] at this;omega
 obtain ⟨h1,tk,rfl,hk⟩:=x.done
 have noA:∀ b:Addr,b∉(cxOf CX P w K mg base N qual scope f cd A outer s H E).ex:=λb z=>absurd (show b∈([]:List Addr) from z) (by simp)
 refine ⟨⟨e0.mod,S.kind,rfl,rfl,Nat.le_refl _,λy z c h1 h2=>?_,λy hy=>?_,λy c _ h=>?_,λ_=>hd,Around.frames_deeper e0.frames,.inr ⟨rfl,rfl⟩,λb z=>absurd z (noA b),e0.bs,e0.bsz,λb _ _=>noA b,λb z=>absurd z (noA b),e0.funs,e0.frf⟩,
  rfl,e0.bare,Un.kept hk,⟨_,x.toInCall.ns,λi y v h1 h2 h3=>?_⟩,λy c h=>⟨_,x.cell y c h⟩,e0.hok.fresh (Nat.le_refl _),λy c h=>?_,λp hp=>absurd (show p∈([]:List (Addr×Obj)) from hp) (by simp),e0.hok.kept hk,?_⟩
 ·exact name_of_addr x.apart (PySem.mem_of_lookup h1) (PySem.mem_of_lookup h2)
 ·have hy:scope.names.lookup y=some .cell\/scope.names.lookup y=some .free:=hy
  rcases hy with hy | hy
  ·exact cell_has hy
  ·exact absurd rfl (S.nofree _ (PySem.mem_of_lookup hy))
 ·exact Nat.le_of_lt (x.above y c (PySem.mem_of_lookup h))
 ·have hi:i<vs.length:=by
   unfold start at h2
   by_cases hi:i<vs.length
   ·exact hi
   ·rw [List.getElem?_append_right (by simpa using hi)] at h2
    rw [List.getElem?_replicate] at h2
    split at h2<;>cases h2
  have ha:vs[i]?=some v:=by
   unfold start at h2
   rw [List.getElem?_append_left (by simpa using hi),List.getElem?_map] at h2
   cases e:vs[i]? with
   |none=>rw [e] at h2;cases h2
   |some a=>rw [e] at h2;cases h2;rfl
  obtain ⟨u,hu,rv⟩:=r.get ha
  have hp:ps[i]?=some y:=by
   rw [<- S.pre,List.getElem?_take_of_lt (by omega)];exact h1
  have ndP:ps.Nodup:=by rw [<- S.pre];exact S.nd.sublist (List.take_sublist _ _)
  refine ⟨u,rv,?_⟩
  rcases S.par y (List.mem_of_getElem? hp) with k | k
  ·exact .inl ⟨k,bindL_get ndP hp hu k⟩
  ·obtain ⟨c,e⟩:=cell_has (n:=s.heap.objs.size+1) k
   refine .inr ⟨.inl k,c,e,?_⟩
   have q:=x.cell y c e
   rw [bindC_get ndP hp hu (by show scope.names.lookup y≠_;rw [k];decide)] at q
   exact q
 ·exact e0.hok.fresh (Nat.le_of_lt (x.above y c (PySem.mem_of_lookup h)))
 ·unfold start
  show _=N.length
  rw [List.length_append,List.length_map,List.length_replicate]
  omega

theorem fn_of {CX:CXT} {P:Program} {w:World} {K:PySem.W.Frag} {mg:Str->Option Value} {base:Heap} {k:Nat} {f:Addr} {name qual:Str} {params:Arguments} {body:List Stmt} {scope:Scope} {dV kV doc pm cdv ct oc:Value} {an od:Option Addr}
  {osl:Array (Option Value)} {N ps:List Str} {sp:Sp} (lk:K.lookup f=some ⟨oc,od,.func (PySem.W.fnOf name qual params body scope dV kV doc pm an cdv ct),osl⟩) (hcd:PySem.W.codeIn K cdv qual=true) (S:FnScope N ps scope)
  (len:∀ vs H Q E,sp vs H Q E->vs.length=ps.length)
  (hbody:∀ (A:Around) (outer:List Env) (s:Shared) (H:Hp) (vs:List V) (Q:VK) (E:XK),Room k (A.deeper (envOfC qual scope s.heap.objs.size f cdv))->sp vs H Q E ->
   ∃ t,PSs (cxOf CX P w K mg base N qual scope f cdv A outer s H E) body t/\t { nx:=λ_ H'=>Q .non H',rt:=Q } (start N vs) H) :
  FnOk P w K mg base CX (k+1) f (PySem.W.fnOf name qual params body scope dV kV doc pm an cdv ct) ps sp:=by
 refine ⟨len,λA outer s H args us vs Q E hr e0 hb r hsp=>?_⟩
 have hl:=len _ _ _ _ hsp
 have KX:K.In s.heap:=e0.mod.kin.keeps λb o e=>(e0.bs b o e).1
 have lim:s.heap.NoLimit:=e0.mod.nolimit.keeps λb o e=>(e0.bs b o e).1
 have hkind:∀ y∈ps.zip us,scope.names.lookup y.1=some .local\/(scope.names.lookup y.1=some .cell/\((cellsFrom (s.heap.objs.size+1) scope.names []).lookup y.1).isSome=true):=λ⟨n,v⟩ hy=>by
  rcases S.par n (List.of_mem_zip hy).1 with q | q
  ·exact .inl q
  ·exact .inr ⟨q,PySem.W.cellsFrom_some _ _ _ (.inl q)⟩
 refine codeAny_call_function hr.depth (KX _ _ lk) rfl S.co S.gen rfl (PySem.W.codeRec_of KX hcd) (hb _ _ _ _ ?_)
 refine wpAny_newFunctionEnv_cells S.kind hkind λenv he s1 x=>?_
 subst he
 refine ⟨lim.keeps x.toInCall.keep,codeAny_func ?_⟩
 obtain ⟨t,ht,hq⟩:=hbody A outer s H vs Q E (hr.deeper _) hsp
 have I:Inv (cxOf CX P w K mg base N qual scope f cdv A outer s H E) [] (start N vs) H s1:=inv_start S hr.hd e0 hl r x
 refine wpAny_mono (ht [] s1 (start N vs) H _ I hq) (λfl s' hs=>?_) λe s' hs=>hs
 have fin:∀ {σ':St} {H':Hp} {v:V} {u:Value},Inv (cxOf CX P w K mg base N qual scope f cdv A outer s H E) [] σ' H' s'->RelV v u->Q v H'->CE outer P w H s Q u s' :=
  λ{σ' H' v u} J rv q=>⟨v,H',J.os,J.bare,J.base,J.hok,rv,q⟩
 cases fl with
 |ret u =>
  obtain ⟨v,σ',H',J,rv,q⟩:=hs
  exact fin J rv q
 |next =>
  obtain ⟨σ',H',J,q⟩:=hs
  exact fin (v:=V.non) (u:=Value.none) J rfl q
 |brk =>
  obtain ⟨_,_,_,q⟩:=hs
  exact False.elim q
 |cont =>
  obtain ⟨_,_,_,q⟩:=hs
  exact False.elim q
end L2

namespace L2
open PySem PySem.Spec PyProof.Rows
section
variable {X:Cx} {x:Str} {p pos:Pos} {e:Expr} {es:List Expr} {t:TA} {id T:String} {r:List V->Hp->VK->Prop}

def tCB (r:List V->Hp->VK->Prop) (t:TA):TE:=λσ H Q=>t σ H λvs H1=>r vs H1 Q
theorem pe_callB (hc:CallR X (.builtin id) r) (hg:Gl X x) (hm:X.mg x=none) (hv:bootBuiltins x=some (.builtin id)) (ha:PA X (e::es) t) (hn:x≠"__name__":=by decide) (hdb:(x == ("__debug__":Str))=false:=by decide)
  (he:starEach (e::es) X.env=(false,eval e X.env)::starEach es X.env:=by rfl) (hpl:(backTo pos (starEach es X.env)).any (·.1)=false:=by rfl):PE X (.Call (.Name x p) (e::es) [] pos) (tCB r t):=by
 intro pins s σ H Q I h
 refine wpAny_Call_Name_kw (ld_blt I hg hm hv ?_ hn hdb)
 exact PyProof.Rows.callWith_builtin1 (thn (ha pos pins s σ H _ I h) λus s1 ⟨vs,H1,I1,r1,q1⟩=>hc pins s1 σ H1 vs us Q I1 r1 q1) he hpl
theorem pe_callTy (hc:CallR X (.type T) r) (hg:Gl X x) (hm:X.mg x=none) (hv:bootBuiltins x=some (.type T)) (ha:PA X (e::es) t) (hn:x≠"__name__":=by decide) (hdb:(x == ("__debug__":Str))=false:=by decide)
  (he:starEach (e::es) X.env=(false,eval e X.env)::starEach es X.env:=by rfl) (hpl:(backTo pos (starEach es X.env)).any (·.1)=false:=by rfl):PE X (.Call (.Name x p) (e::es) [] pos) (tCB r t):=by
 intro pins s σ H Q I h
 refine wpAny_Call_Name_kw (ld_blt I hg hm hv ?_ hn hdb)
 exact PyProof.Rows.callWith_type1 (thn (ha pos pins s σ H _ I h) λus s1 ⟨vs,H1,I1,r1,q1⟩=>hc pins s1 σ H1 vs us Q I1 r1 q1) he hpl
end
end L2

namespace HT
open PySem PyProof.Rows

section
open PySem.SeqAt
open PySem.AutoSeq1 (wpAny_loadPart')
open PySem.MeetsSeq PySem.MeetsSeq2 PySem.MeetsSeq3

end

section
variable {prog:Program} {w:World} {A:Around} {E:Value->Shared->Prop} {s:Shared}

def sIx (n d:Nat):Option Int->Nat
 |none=>d
 |some v=>if v<0 then (v+(n:Int)).toNat else min v.toNat n
theorem sIx_none (n d:Nat):sIx n d none=d:=rfl
theorem sIx_nat (n d k:Nat):sIx n d (some (k:Int))=min k n:=by
 show (if (k:Int)<0 then ((k:Int)+(n:Int)).toNat else min (k:Int).toNat n)=min k n
 rw [if_neg (by omega),Int.toNat_natCast]
theorem sIx_le (n d:Nat) (hd:d<=n) (o:Option Int):sIx n d o<=n:=by
 cases o with
 |none=>exact hd
 |some v =>
  show (if v<0 then (v+(n:Int)).toNat else min v.toNat n)<=n
  by_cases hv:v<0
  ·rw [if_pos hv];omega
  ·rw [if_neg hv];exact Nat.min_le_right _ _
theorem clip_eq (v:Int) (n d:Nat):(if v<0 then max (v+(n:Int)) 0 else min v (n:Int))=((sIx n d (some v):Nat):Int):=by
 show (if v<0 then max (v+(n:Int)) 0 else min v (n:Int))=(((if v<0 then (v+(n:Int)).toNat else min v.toNat n):Nat):Int)
 by_cases hv:v<0
 ·simp only [if_pos hv];omega
 ·simp only [if_neg hv];omega
theorem adjust_gen (lo hi:Option Int) (n:Nat):Builtin.Slice.sliceAdjust lo hi 1 (n:Int)=(((sIx n 0 lo:Nat):Int),((sIx n n hi:Nat):Int)):=by
 have h1:¬ ((1:Int)<0):=by omega
 unfold Builtin.Slice.sliceAdjust
 simp only [h1,if_false]
 refine Prod.ext ?_ ?_
 ·cases lo with
  |none=>rfl
  |some v=>exact clip_eq v n 0
 ·cases hi with
  |none=>rfl
  |some v=>exact clip_eq v n n
theorem places_gen (i j:Nat):Builtin.Slice.slicePlaces (i:Int) (j:Int) 1=j-i:=by
 unfold Builtin.Slice.slicePlaces
 have h1:(1:Int) > 0:=by omega
 simp only [h1,if_true,Int.ediv_one]
 split<;>omega
theorem slicePart_ {v:Value} {o:Option Int} {Q:Option Int->Shared->Prop} (p:IsPart v o) (h:Q o s):wpAny (model prog w) A (Builtin.Slice.slicePartIndex v) Q E s:=by
 cases p with
 |none=>exact slicePart_none h
 |int i t=>exact slicePart_int h
theorem sliceApplied_gen {sl:Addr} {vl vu:Value} {lo hi:Option Int} {n:Nat} {Q:Int×Int×Nat->Shared->Prop} (hs:s.heap.IsSliceOf sl vl vu .none) (pl:IsPart vl lo) (pu:IsPart vu hi)
  (h:Q (((sIx n 0 lo:Nat):Int),1,sIx n n hi-sIx n 0 lo) s):wpAny (model prog w) A (Builtin.Slice.sliceApplied (.ref sl) (pure (n:Int))) Q E s:=by
 obtain ⟨os,hos,hcs,hds⟩:=id hs
 unfold Builtin.Slice.sliceApplied Builtin.Slice.sliceFields
 refine wpAny_bind (wpAny_bind (wpAny_field hos hds (x:=vl) rfl (wpAny_bind (wpAny_field hos hds (x:=vu) rfl (wpAny_bind (wpAny_field hos hds (x:=.none) rfl (wpAny_pure ?_)))))))
 refine wpAny_bind (slicePart_none ?_)
 show wpAny _ _ (if ((1:Int) == 0)=true then _ else _) _ _ s
 rw [if_neg (by decide)]
 refine wpAny_bind (slicePart_ pl (wpAny_bind (slicePart_ pu (wpAny_bind (wpAny_pure ?_)))))
 show wpAny _ _ (match Builtin.Slice.sliceAdjust lo hi 1 (n:Int) with | (lo,hi)=>pure (lo,(1:Int),Builtin.Slice.slicePlaces lo hi 1)) _ _ s
 rw [adjust_gen lo hi n]
 show wpAny _ _ (pure (((sIx n 0 lo:Nat):Int),(1:Int),Builtin.Slice.slicePlaces ((sIx n 0 lo:Nat):Int) ((sIx n n hi:Nat):Int) 1)) _ _ s
 rw [places_gen]
 exact wpAny_pure h
theorem pick_gen (xs:Array Value) (i k:Nat):((List.range k).filterMap λ(m:Nat)=>xs[((i:Int)+(m:Int)*1).toNat]?).toArray=((xs.toList.drop i).take k).toArray:=by
 have e:(λ(m:Nat)=>xs[((i:Int)+(m:Int)*1).toNat]?)=λm=>xs[i+m]?:=by
  funext m
  have:((i:Int)+(m:Int)*1).toNat=i+m:=by omega
  rw [this]
 rw [e]
 have:=pick_run xs i k
 rw [List.filterMap_map] at this
 have e2:((λx=>xs[x]?) ∘ λx=>i+x)=λm=>xs[i+m]?:=rfl
 rw [e2] at this
 rw [this]

theorem getItem_tuple_cut {t sl:Addr} {items:Array Value} {vl vu:Value} {lo hi:Option Int} {Q:Value->Shared->Prop} (ht:IsTup s.heap t items) (hs:s.heap.IsSliceOf sl vl vu .none) (pl:IsPart vl lo) (pu:IsPart vu hi)
  (hw:¬ (sIx items.size 0 lo=0/\sIx items.size items.size hi=items.size))
  (h:Q (.ref s.heap.objs.size) { s with heap:=s.heap.push { cls:=.type "tuple",data:=.seq ((items.toList.drop (sIx items.size 0 lo)).take (sIx items.size items.size hi-sIx items.size 0 lo)).toArray } })
  (hsz:items.size<=sizeLine):wpAny (model prog w) A (getItem (.ref t) (.ref sl)) Q E s:=by
 have htake:sizeOk (.seq ((items.toList.drop (sIx items.size 0 lo)).take (sIx items.size items.size hi-sIx items.size 0 lo)).toArray):=by
  show ((items.toList.drop (sIx items.size 0 lo)).take (sIx items.size items.size hi-sIx items.size 0 lo)).toArray.size<=sizeLine
  rw [List.size_toArray,List.length_take,List.length_drop,Array.length_toList]
  omega
 have hj:sIx items.size items.size hi<=items.size:=sIx_le _ _ (Nat.le_refl _) hi
 obtain ⟨os,hos,hcs,hds⟩:=id hs
 have hTs:s.TypeIs (.ref sl) "slice":=⟨os,hos,hcs⟩
 unfold getItem
 try with_reducible refine wpAny_holding ?_
 first | refine wpAny_bind (wpAny_pure ?_) | skip
 refine wpAny_bind (wpAny_sequenceKey ht.typeIs (by decide) ?_)
 refine wpAny_bind (wpAny_callSpecial?_slot (name:=Str.ofString "__getitem__") ht.typeIs PyProof.Rows.slot_tuple_getitem
  (wpAny_call_entry PyProof.Rows.slot_tuple_getitem ht.typeIs entry_tuple_getitem ?_ (args_tuple_getitem _ _)))
 show wpAny _ _ (Builtin.Tuple.tupleItemsOf (.ref t) >>= _) _ _ s
 refine wpAny_bind (tupleItemsOf_ ht ?_)
 refine wpAny_bind (wpAny_typeOf hTs ?_)
 rw [if_pos (by decide)]
 refine wpAny_bind (sliceApplied_gen hs pl pu ?_)
 have hno:¬ ((((sIx items.size 0 lo:Nat):Int) == 0&&(1:Int) == 1&&(sIx items.size items.size hi-sIx items.size 0 lo) == items.size)=true):=by
  intro q
  rw [Bool.and_eq_true,Bool.and_eq_true] at q
  have q1:((sIx items.size 0 lo:Nat):Int)=0:=eq_of_beq q.1.1
  have q2:sIx items.size items.size hi-sIx items.size 0 lo=items.size:=eq_of_beq q.2
  exact hw ⟨by omega,by omega⟩
 show wpAny _ _ (if (((sIx items.size 0 lo:Nat):Int) == 0&&(1:Int) == 1&&(sIx items.size items.size hi-sIx items.size 0 lo) == items.size)=true then _ else _) _ _ s
 rw [if_neg hno,pick_gen]
 first
  |exact wpAny_bind (m:=Builtin.Tuple.tupleExact _) (wpAny_newObj_type (wpAny_pure ⟨_,rfl,wpAny_pure h⟩) htake)
  |exact wpAny_bind (m:=Builtin.Tuple.tupleExact _) (wpAny_newObj_type (wpAny_bind (wpAny_pure (wpAny_pure ⟨_,rfl,wpAny_pure h⟩))) htake)
  |exact wpAny_bind (wpAny_bind (m:=Builtin.Tuple.tupleExact _) (wpAny_newObj_type (wpAny_pure (wpAny_pure ⟨_,rfl,wpAny_pure h⟩)) htake))
  |exact wpAny_bind (wpAny_bind (m:=Builtin.Tuple.tupleExact _) (wpAny_newObj_type (wpAny_pure ⟨_,rfl,wpAny_pure h⟩) htake))
end
end HT

namespace L2
open PySem PySem.Spec PyProof.Rows

abbrev TO:=St->Hp->(Option Int->Hp->Prop)->Prop
def PO (X:Cx) (e:Option Expr) (t:TO):Prop :=
 ∀ (pins:List (Addr×Obj)) (s:Shared) (σ:St) (H:Hp) (Q:Option Int->Hp->Prop),Inv X pins σ H s->t σ H Q ->
  wpAny (model X.prog X.w) X.A (evalPart e X.env) (λu s'=>∃ o H',Inv X pins σ H' s'/\IsPart u o/\Q o H') X.xe s
def tNoPart:TO:=λ_ H Q=>Q none H
def tPart (t:TE):TO:=λσ H Q=>t σ H λx H1=>∃ i,x=.int i/\Q (some i) H1

section
variable {X:Cx} {e:Expr} {te:TE} {lo hi:Option Expr} {tl th:TO} {pos p2:Pos}

theorem po_none:PO X none tNoPart:=by
 intro pins s σ H Q I h
 rw [evalPart_none]
 exact wpAny_pure ⟨none,H,I,.none,h⟩
theorem po_some (h:PE X e te):PO X (some e) (tPart te):=by
 intro pins s σ H Q I hw
 rw [evalPart_some]
 refine thn (h pins s σ H _ I hw) λu s1 ⟨x,H1,I1,r1,q1⟩=>?_
 obtain ⟨i,rfl,q⟩:=q1
 obtain ⟨t,rfl⟩:=r1
 exact ⟨some i,H1,I1,.int i t,q⟩

def SlR (X:Cx) (r:V->Option Int->Option Int->Hp->VK->Prop):Prop :=
 ∀ (pins:List (Addr×Obj)) (s:Shared) (σ:St) (H:Hp) (x:V) (v vl vu:Value) (lo hi:Option Int) (sl:Addr) (Q:VK),Inv X pins σ H s->RelV x v->s.heap.IsSliceOf sl vl vu .none->IsPart vl lo->IsPart vu hi->r x lo hi H Q ->
  ∃ T id,typeLookup (.type T) "__getitem__"=pure (some (.builtin id))/\s.TypeIs v T/\wpAny (model X.prog X.w) X.A (getItem v (.ref sl)) (EP X pins σ Q) X.xe s
def tSl (r:V->Option Int->Option Int->Hp->VK->Prop) (te:TE) (tl th:TO):TE:=λσ H Q=>te σ H λx H1=>tl σ H1 λl H2=>th σ H2 λu H3=>r x l u H3 Q
theorem pe_slice {r:V->Option Int->Option Int->Hp->VK->Prop} (hr:SlR X r) (he:PE X e te) (hl:PO X lo tl) (hu:PO X hi th):PE X (.Subscript e (.Slice lo hi none p2) pos) (tSl r te tl th):=by
 intro pins s σ H Q I h
 refine Subscript_ (thn (he pins s σ H _ I h) λv s1 ⟨x,H1,I1,r1,q1⟩=>?_)
 refine wpAny_Slice (thn (hl pins s1 σ H1 _ I1 q1) λvl s2 ⟨l,H2,I2,pl,q2⟩=>thn (hu pins s2 σ H2 _ I2 q2) λvu s3 ⟨u,H3,I3,pu,q3⟩=>?_)
 rw [evalPart_none]
 refine wpAny_pure ?_
 have I4:Inv X pins σ H3 { s3 with heap:=s3.heap.push { cls:=.type "slice",data:=.fields #[vl,vu,.none] } }:=I3.kept (t':=s3.toks) λb ob q=>Heap.get?_push_of_some _ q
 obtain ⟨T,id,hT,ht,hg⟩:=hr pins { s3 with heap:=s3.heap.push { cls:=.type "slice",data:=.fields #[vl,vu,.none] } } σ H3 x v vl vu l u s3.heap.objs.size Q I4 r1 (Heap.IsSliceOf.new ..) pl pu q3
 show wpAny (model X.prog X.w) X.A (subscriptTail e (.Slice lo hi none p2) v (.ref s3.heap.objs.size)) (EP X pins σ Q) X.xe { s3 with heap:=s3.heap.push { cls:=.type "slice",data:=.fields #[vl,vu,.none] } }
 exact tail_any (ops:=[.ref s3.heap.objs.size,v]) ht hT hg (by with_unfolding_all rfl)

def cutV (xs:List V) (lo hi:Option Int):List V:=(xs.drop (HT.sIx xs.length 0 lo)).take (HT.sIx xs.length xs.length hi-HT.sIx xs.length 0 lo)
theorem cutV_length (xs:List V) (lo hi:Option Int):(cutV xs lo hi).length<=xs.length:=by
 unfold cutV
 rw [List.length_take,List.length_drop]
 omega
def rSlT (K:PySem.W.Frag):V->Option Int->Option Int->Hp->VK->Prop:=λx lo hi H Q=>∃ a xs,x=.ref a/\SqT K H a xs /\
 ¬ (HT.sIx xs.length 0 lo=0/\HT.sIx xs.length xs.length hi=xs.length)/\∀ p,H p=none->Q (.ref p) (upd H p (.tup (cutV xs lo hi)))
theorem sl_tup:SlR X (rSlT X.K):=by
 intro pins s σ H x v vl vu lo hi sl Q I rx hs pl pu h
 obtain ⟨a,xs,rfl,hx,hw,q⟩:=h
 cases rx
 obtain ⟨its,r,ht,hz⟩:=I.tuple hx
 have hlen:its.toArray.size=xs.length:=by rw [List.size_toArray];exact r.length.symm
 refine ⟨"tuple",_,PyProof.Rows.slot_tuple_getitem.lookup,ht.typeIs,?_⟩
 refine HT.getItem_tuple_cut ht hs pl pu (by rw [hlen];exact hw) ?_ (by rw [hlen];exact hz)
 rw [hlen]
 refine ⟨.ref s.heap.objs.size,_,I.laid (t':=s.toks) (o:=.tup (cutV xs lo hi)) (λb ob q=>Heap.get?_push_of_some _ q) (Nat.le_refl _) ?_,rfl,q _ (I.hok.fresh (Nat.le_refl _))⟩
 exact ⟨Nat.le_trans (cutV_length xs lo hi) hz,_,(r.drop (HT.sIx xs.length 0 lo)).take (HT.sIx xs.length xs.length hi-HT.sIx xs.length 0 lo),IsTup.new _ _⟩

end
end L2

namespace L2
open PySem PySem.Spec PyProof.Rows

def ixN (n:Nat) (i:Int):Option Nat:=if 0<=i then (if i<n then some i.toNat else none) else if -(n:Int)<=i then some (i+n).toNat else none
def atI {α:Type} (xs:List α) (i:Int):Option α:=(ixN xs.length i).bind λj=>xs[j]?
theorem ixN_seq {n:Nat} {i:Int} {j:Nat} (h:ixN n i=some j):seqIndex? i n=some j/\j<n/\-(n:Int)<=i/\i<n:=by
 unfold ixN at h
 by_cases h0:0<=i
 ·rw [if_pos h0] at h
  by_cases h1:i<n
  ·rw [if_pos h1] at h
   have e:i.toNat=j:=Option.some.inj h
   exact ⟨by rw [seqIndex_of h0 h1,e],by omega,by omega,h1⟩
  ·rw [if_neg h1] at h;cases h
 ·rw [if_neg h0] at h
  by_cases h1:-(n:Int)<=i
  ·rw [if_pos h1] at h
   have e:(i+n).toNat=j:=Option.some.inj h
   exact ⟨by rw [seqIndex_neg (by omega) h1,e],by omega,h1,by omega⟩
  ·rw [if_neg h1] at h;cases h
theorem atI_get {α:Type} {xs:List α} {i:Int} {v:α} (h:atI xs i=some v):∃ j,seqIndex? i xs.length=some j/\xs[j]?=some v/\j<xs.length/\-(xs.length:Int)<=i/\i<xs.length:=by
 unfold atI at h
 cases e:ixN xs.length i with
 |none=>rw [e] at h;cases h
 |some j =>
  rw [e] at h
  obtain ⟨h1,h2,h3,h4⟩:=ixN_seq e
  exact ⟨j,h1,h,h2,h3,h4⟩
theorem atI_nat {α:Type} {xs:List α} {j:Nat} {v:α} (h:xs[j]?=some v):atI xs (j:Int)=some v:=by
 have hj:j<xs.length:=(List.getElem?_eq_some_iff.mp h).1
 have e:ixN xs.length (j:Int)=some j:=by
  unfold ixN
  rw [if_pos (by omega),if_pos (by omega)];simp
 unfold atI;rw [e];exact h
theorem atI_last {α:Type} (xs:List α) (v:α):atI (xs++[v]) (-1)=some v:=by
 have hl:(xs++[v]).length=xs.length+1:=by simp
 have e:ixN (xs++[v]).length (-1)=some xs.length:=by
  unfold ixN
  rw [hl,if_neg (by decide),if_pos (by omega)]
  congr 1
  omega
 unfold atI
 rw [e]
 show (xs++[v])[xs.length]?=some v
 simp

def PlainIx (b:Expr):Prop:=∀ o i,subscripted b false o i=operate [o,i] (getItem o i)
def IxR (X:Cx) (r:R2):Prop :=
 ∀ (value slice:Expr) (pins:List (Addr×Obj)) (s:Shared) (σ:St) (H:Hp) (x y:V) (v u:Value) (Q:VK),Inv X pins σ H s->RelV x v->RelV y u->r x y H Q ->
  subscripted slice false v u=operate [v,u] (getItem v u)->wpAny (model X.prog X.w) X.A (subscriptTail value slice v u) (EP X pins σ Q) X.xe s
def MtR (X:Cx) (id:String) (r:V->List V->Hp->VK->Prop):Prop :=
 ∀ (pins:List (Addr×Obj)) (s:Shared) (σ:St) (H:Hp) (x:V) (xs:List V) (v:Value) (us:List Value) (Q:VK),Inv X pins σ H s->RelV x v->Vals xs us->r x xs H Q ->
  wpAny (model X.prog X.w) X.A (call (.builtin id) (v::us)) (EP X pins σ Q) X.xe s
section
variable {X:Cx} {a b:Expr} {ta tb:TE} {pos:Pos}
theorem pe_ix {r:R2} (hr:IxR X r) (ha:PE X a ta) (hb:PE X b tb) (hs:PlainIx b):PE X (.Subscript a b pos) (tOp r ta tb):=by
 intro pins s σ H Q I h
 exact Subscript_ (binT ha hb I h λv u s2 x y H2 I2 rx ry q=>hr a b pins s2 σ H2 x y v u Q I2 rx ry q (hs _ _))

def rIxL (K:PySem.W.Frag):R2:=λx y H Q=>∃ p xs i v,x=.ref p/\y=.int i/\SqL K H p xs/\atI xs i=some v/\Q v H
def rIxT (K:PySem.W.Frag):R2:=λx y H Q=>∃ p xs i v,x=.ref p/\y=.int i/\SqT K H p xs/\atI xs i=some v/\Q v H
theorem ix_list:IxR X (rIxL X.K):=by
 intro value slice pins s σ H x y v u Q I rx ry h hs
 obtain ⟨p,xs,i,z,rfl,rfl,hq,he,q⟩:=h
 cases rx
 obtain ⟨t,rfl⟩:=ry
 obtain ⟨its,r,pl,hz⟩:=I.list hq
 obtain ⟨j,h1,h2,h3,h4,h5⟩:=atI_get he
 obtain ⟨w,ew,rw'⟩:=r.get h2
 have hl:=r.length
 have hn:=line63
 have fin:EP X pins σ Q w s:=⟨z,H,I,rw',q⟩
 by_cases h0:0<=i
 ·have hj:i.toNat=j:=by
   rw [seqIndex_of h0 h5] at h1
   exact Option.some.inj h1
  exact item_listR pl.isList h0 (by omega) (by rw [hj];simpa using ew) fin hs
 ·have hj:(i+(its.toArray.size:Int)).toNat=j:=by
   rw [seqIndex_neg (by omega) h4] at h1
   rw [List.size_toArray,<- hl]
   exact Option.some.inj h1
  exact subscriptTail_builtinR (x:=w) pl.isList.typeIs slot_list_getitem.lookup
   (wpAny_getItem_list_neg (Q:=λr s'=>r=w/\EP X pins σ Q r s') pl.isList (by omega) (by rw [List.size_toArray]<;>omega) (by omega) (by rw [hj];simpa using ew) ⟨rfl,fin⟩) hs
theorem ix_tup:IxR X (rIxT X.K):=by
 intro value slice pins s σ H x y v u Q I rx ry h hs
 obtain ⟨p,xs,i,z,rfl,rfl,hq,he,q⟩:=h
 cases rx
 obtain ⟨t,rfl⟩:=ry
 obtain ⟨its,r,pl,hz⟩:=I.tuple hq
 obtain ⟨j,h1,h2,h3,h4,h5⟩:=atI_get he
 obtain ⟨w,ew,rw'⟩:=r.get h2
 have hl:=r.length
 have hn:=line63
 have fin:EP X pins σ Q w s:=⟨z,H,I,rw',q⟩
 exact subscriptTail_builtinR (x:=w) pl.typeIs slot_tuple_getitem.lookup
  (getItem_tuple (j:=j) (Q:=λr s'=>r=w/\EP X pins σ Q r s') pl (by omega) (by omega) (by rw [List.size_toArray,<- hl];exact h1) (by simpa using ew) ⟨rfl,fin⟩) hs
theorem slice_bounds (lo hi:Option Int) (n:Nat):(sliceBounds lo hi none n).1=((HT.sIx n 0 lo:Nat):Int)/\(sliceBounds lo hi none n).2.1=((HT.sIx n n hi:Nat):Int)/\(sliceBounds lo hi none n).2.2=1:=by
 refine ⟨?_,?_,rfl⟩
 ·cases lo with
  |none=>simp [sliceBounds,HT.sIx]
  |some i =>
   simp only [sliceBounds,HT.sIx,Option.getD_none,show (1:Int) > 0 by decide,if_true]
   by_cases h:i<0
   ·simp only [h,if_true]<;>omega
   ·simp only [h,if_false]<;>omega
 ·cases hi with
  |none=>simp [sliceBounds,HT.sIx]
  |some i =>
   simp only [sliceBounds,HT.sIx,Option.getD_none,show (1:Int) > 0 by decide,if_true]
   by_cases h:i<0
   ·simp only [h,if_true]<;>omega
   ·simp only [h,if_false]<;>omega
theorem slicePick_cut (its:List Value) (lo hi:Option Int):slicePick its.toArray lo hi none=((its.drop (HT.sIx its.length 0 lo)).take (HT.sIx its.length its.length hi-HT.sIx its.length 0 lo)).toArray:=by
 obtain ⟨h1,h2,h3⟩:=slice_bounds lo hi its.toArray.size
 unfold slicePick
 rw [h1,h2,h3]
 simp only [sliceRange_one,pick_run,List.size_toArray]<;>rfl
def rSlL (K:PySem.W.Frag):V->Option Int->Option Int->Hp->VK->Prop:=λx lo hi H Q=>∃ a xs,x=.ref a/\SqL K H a xs/\∀ p,H p=none->Q (.ref p) (upd H p (.lst (cutV xs lo hi)))
theorem sl_list:SlR X (rSlL X.K):=by
 intro pins s σ H x v vl vu lo hi sl Q I rx hs pl pu h
 obtain ⟨a,xs,rfl,hx,q⟩:=h
 cases rx
 obtain ⟨its,r,ht,hz⟩:=I.list hx
 have hlen:=r.length
 refine ⟨"list",_,slot_list_getitem.lookup,ht.isList.typeIs,?_⟩
 refine wpAny_getItem_list_slice ht.isList hs pl pu .none (by simp) ?_ (by rw [List.size_toArray]<;>omega)
 rw [slicePick_cut,<- hlen]
 refine ⟨.ref s.heap.objs.size,_,I.laid (t':=s.toks) (o:=.lst (cutV xs lo hi)) (λb ob q=>Heap.get?_push_of_some _ q) (Nat.le_refl _) ?_,rfl,q _ (I.hok.fresh (Nat.le_refl _))⟩
 exact ⟨Nat.le_trans (cutV_length xs lo hi) hz,_,0,(r.drop (HT.sIx xs.length 0 lo)).take (HT.sIx xs.length xs.length hi-HT.sIx xs.length 0 lo),Heap.get?_push_size _ rfl⟩

def flatV:V->Bool
 |.non=>true
 |.bl _=>true
 |.int _=>true
 |.str _=>true
 |_=>false
def eqV:V->V->Bool
 |.non,.non=>true
 |.bl a,.bl b=>a == b
 |.bl a,.int b=>(if a then 1 else 0) == b
 |.int a,.bl b=>a == (if b then 1 else 0)
 |.int a,.int b=>a == b
 |.str a,.str b=>a == b
 |_,_=>false
theorem eqAt_V {A:Around} {s:Shared} {y x:V} {u v:Value} (ry:RelV y u) (rx:RelV x v) (fy:flatV y=true) (fx:flatV x=true):SeqAt.EqAt A s u v (eqV y x):=by
 cases y with
 |non =>
  cases ry
  cases x with
  |non=>cases rx;exact SeqAt.EqAt.same _
  |bl b=>cases rx;exact SeqAt.EqAt.none_bool b
  |int b=>obtain ⟨t,rfl⟩:=rx;exact SeqAt.EqAt.none_int b t
  |str b=>obtain ⟨t,rfl⟩:=rx;exact SeqAt.EqAt.none_str b t
  |_=>exact absurd (show false=true from fx) Bool.false_ne_true
 |bl a =>
  cases ry
  cases x with
  |non=>cases rx;exact SeqAt.EqAt.bool_none a
  |bl b=>cases rx;exact SeqAt.EqAt.bool_bool a b
  |int b=>obtain ⟨t,rfl⟩:=rx;exact SeqAt.EqAt.bool_int a b t
  |str b=>obtain ⟨t,rfl⟩:=rx;exact SeqAt.EqAt.bool_str a b t
  |_=>exact absurd (show false=true from fx) Bool.false_ne_true
 |int a =>
  obtain ⟨t',rfl⟩:=ry
  cases x with
  |non=>cases rx;exact SeqAt.EqAt.int_none a t'
  |bl b=>cases rx;exact SeqAt.EqAt.int_bool a t' b
  |int b=>obtain ⟨t,rfl⟩:=rx;exact SeqAt.EqAt.int_int a t' b t
  |str b=>obtain ⟨t,rfl⟩:=rx;exact SeqAt.EqAt.int_str a t' b t
  |_=>exact absurd (show false=true from fx) Bool.false_ne_true
 |str a =>
  obtain ⟨t',rfl⟩:=ry
  cases x with
  |non=>cases rx;exact SeqAt.EqAt.str_none a t'
  |bl b=>cases rx;exact SeqAt.EqAt.str_bool a t' b
  |int b=>obtain ⟨t,rfl⟩:=rx;exact SeqAt.EqAt.str_int a t' b t
  |str b=>obtain ⟨t,rfl⟩:=rx;exact SeqAt.EqAt.str_str a t' b t
  |_=>exact absurd (show false=true from fx) Bool.false_ne_true
 |_=>exact absurd (show false=true from fy) Bool.false_ne_true
def eqU (x:V) (u:Value):Bool:=match u with
 |.none=>eqV .non x
 |.bool b=>eqV (.bl b) x
 |.int i _=>eqV (.int i) x
 |.str z _=>eqV (.str z) x
 |_=>false
theorem eqU_of {x y:V} {u:Value} (r:RelV y u) (f:flatV y=true):eqU x u=eqV y x:=by
 cases y with
 |non=>cases r;rfl
 |bl b=>cases r;rfl
 |int i=>obtain ⟨t,rfl⟩:=r;rfl
 |str z=>obtain ⟨t,rfl⟩:=r;rfl
 |_=>exact absurd (show false=true from f) Bool.false_ne_true
theorem any_eqU {x:V}:∀ {xs:List V} {us:List Value},Vals xs us->xs.all flatV=true->us.any (eqU x)=xs.any λy=>eqV y x
 |_,_,.nil,_=>rfl
 |y::xs,u::us,.cons r t,f=>by
  rw [List.all_cons,Bool.and_eq_true] at f
  rw [List.any_cons,List.any_cons,eqU_of r f.1,any_eqU t f.2]
theorem mem_eqAt {A:Around} {s:Shared} {x:V} {v:Value} (rx:RelV x v) (fx:flatV x=true):∀ {xs:List V} {us:List Value},Vals xs us->xs.all flatV=true->∀ u∈us,SeqAt.EqAt A s u v (eqU x u)
 |_,_,.nil,_=>λu hu=>by cases hu
 |y::xs,u::us,.cons r t,f=>λu' hu=>by
  rw [List.all_cons,Bool.and_eq_true] at f
  rcases List.mem_cons.mp hu with rfl | hu
  ·rw [eqU_of r f.1];exact eqAt_V r rx f.1 fx
  ·exact mem_eqAt rx fx t f.2 u' hu
def inV (x:V) (xs:List V):Bool:=xs.any λy=>eqV y x
def rIn (K:PySem.W.Frag) (neg:Bool):R2:=λx y H Q=>∃ p xs,y=.ref p/\(SqL K H p xs\/SqT K H p xs)/\flatV x=true/\xs.all flatV=true/\Q (.bl (if neg then !inV x xs else inV x xs)) H
theorem op_in_seq:OpR X (compareOp .In) (rIn X.K false):=by
 intro pins s σ H x y v u Q I rx ry h
 obtain ⟨p,xs,rfl,hq,fx,fs,q⟩:=h
 cases ry
 rcases hq with hq | hq
 ·obtain ⟨its,r,pl,hz⟩:=I.list hq
  refine SeqAt.in_listAt (eqU x) pl.isList (λw hw=>mem_eqAt rx fx r fs w (by simpa using hw)) ⟨.bl _,H,I,rfl,?_⟩
  rw [show its.toArray.any (eqU x)=its.any (eqU x) by simp,any_eqU r fs]
  exact q
 ·obtain ⟨its,r,pl,hz⟩:=I.tuple hq
  refine SeqAt.in_tupleAt (eqU x) pl (λw hw=>mem_eqAt rx fx r fs w (by simpa using hw)) ⟨.bl _,H,I,rfl,?_⟩
  rw [show its.toArray.any (eqU x)=its.any (eqU x) by simp,any_eqU r fs]
  exact q
theorem call_list_of:CallR X (.type "list") (λxs H Q=>∃ p ys,xs=[.ref p]/\(SqL X.K H p ys\/SqT X.K H p ys)/\∀ l,H l=none->Q (.ref l) (upd H l (.lst ys))):=by
 intro pins s σ H xs us Q I r h
 obtain ⟨p,ys,rfl,hq,q⟩:=h
 obtain ⟨u,rfl,rx⟩:=vals1 r
 cases rx
 have fin:∀ (its:List Value),Vals ys its->ys.length<=sizeLine->∀ (h':Heap) (c':Nat),(∀ b o',s.heap.get? b=some o'->h'.get? b=some o') ->
   h'.get? s.heap.objs.size=some { cls:=.type "list",dict:=none,data:=.seq its.toArray c',slots:=#[] }->EP X pins σ Q (.ref s.heap.objs.size) { s with heap:=h' }:=λits r' hz h' c' kp e =>
  ⟨.ref s.heap.objs.size,_,I.laid (t':=s.toks) kp (Nat.le_refl _) (show ObjOk X.prog X.w _ h' _ (.lst ys) from ⟨hz,its,c',r',e⟩),rfl,q _ (I.hok.fresh (Nat.le_refl _))⟩
 rcases hq with hq | hq
 ·obtain ⟨its,r',pl,hz⟩:=I.list hq
  have hlen:=r'.length
  obtain ⟨o,ho,hc,n,hd⟩:=pl.isList
  exact call_list_seq p (.inl rfl) ho hc hd (λh' c' kp e=>fin its r' hz h' c' kp e) (by simp only [List.size_toArray]<;>omega)
 ·obtain ⟨its,r',pl,hz⟩:=I.tuple hq
  have hlen:=r'.length
  obtain ⟨o,ho,hc,n,hd⟩:=pl
  exact call_list_seq p (.inr rfl) ho hc hd (λh' c' kp e=>fin its r' hz h' c' kp e) (by simp only [List.size_toArray]<;>omega)
theorem call_tuple_of:CallR X (.type "tuple") (λxs H Q=>∃ p ys,xs=[.ref p]/\((SqL X.K H p ys/\∀ l,H l=none->Q (.ref l) (upd H l (.tup ys)))\/(SqT X.K H p ys/\Q (.ref p) H))):=by
 intro pins s σ H xs us Q I r h
 obtain ⟨p,ys,rfl,h⟩:=h
 obtain ⟨u,rfl,rx⟩:=vals1 r
 cases rx
 rcases h with ⟨hq,q⟩ | ⟨hq,q⟩
 ·obtain ⟨its,r',pl,hz⟩:=I.list hq
  have hlen:=r'.length
  refine call_tuple_list pl.isList (λh' kp=>?_) (by simp only [List.size_toArray]<;>omega)
  have I1:Inv X pins σ H { s with heap:=h' }:=I.kept (t':=s.toks) kp
  have I2:Inv X pins σ (upd H h'.objs.size (.tup ys)) { s with heap:=h'.push { cls:=.type "tuple",data:=.seq its.toArray } } :=
   I1.laid (t':=s.toks) (λb o e=>Heap.get?_push_of_some _ e) (Nat.le_refl _) (show ObjOk X.prog X.w _ _ _ (.tup ys) from ⟨hz,its,r',IsTup.new _ _⟩)
  exact ⟨.ref h'.objs.size,_,I2,rfl,q _ (I1.hok.fresh (Nat.le_refl _))⟩
 ·obtain ⟨its,r',pl,hz⟩:=I.tuple hq
  exact call_tuple_same pl ⟨.ref p,H,I,rfl,q⟩

def tyV (K:PySem.W.Frag) (T:String) (x:V) (H:Hp):Prop:=match x with
 |.str _=>T="str"
 |.int _=>T="int"
 |.ref p=>(T="list"/\∃ xs,SqL K H p xs)\/(T="tuple"/\∃ o,K.lookup p=some o/\o.cls=.type "tuple"/\o.dict=none) \/
   (T="dict"/\((∃ kvs,H p=some (.dK kvs))\/∃ kvs,H p=some (.dT kvs)))\/(T="set"/\∃ S n,H p=some (.set S n))
 |_=>False
theorem tyV_is {pins:List (Addr×Obj)} {σ:St} {H:Hp} {s:Shared} {T:String} {x:V} {v:Value} (I:Inv X pins σ H s) (r:RelV x v) (ty:tyV X.K T x H) :
  s.TypeIs v T/\∀ a,v=.ref a->∃ ob,s.heap.get? a=some ob/\ob.dict=none:=by
 cases x with
 |str z =>
  obtain ⟨t,rfl⟩:=r
  cases (show T="str" from ty)
  exact ⟨typeIs_str s z t,λ_ e=>nomatch e⟩
 |int i =>
  obtain ⟨t,rfl⟩:=r
  cases (show T="int" from ty)
  exact ⟨typeIs_int s i t,λ_ e=>nomatch e⟩
 |ref p =>
  cases r
  rcases ty with ⟨rfl,xs,hq⟩ | ⟨rfl,o,hk,hc,hd⟩ | ⟨rfl,hk⟩ | ⟨rfl,S,n,hk⟩
  ·obtain ⟨its,_,pl,_⟩:=I.list hq
   refine ⟨pl.isList.typeIs,λa e=>?_⟩
   cases e
   obtain ⟨o,n,e,c,hd,_⟩:=pl
   exact ⟨o,e,hd⟩
  ·refine ⟨⟨o,I.kIn p o hk,hc⟩,λa e=>?_⟩
   cases e
   exact ⟨o,I.kIn _ o hk,hd⟩
  ·have z:∃ o,s.heap.get? p=some o/\o.ExactDict:=by
    rcases hk with ⟨kvs,hk⟩ | ⟨kvs,hk⟩
    ·obtain ⟨_,_,_,_,o,_,_,e,ex,_⟩:=I.hok p _ hk
     exact ⟨o,e,ex⟩
    ·obtain ⟨_,_,_,_,o,_,_,e,ex,_⟩:=I.hok p _ hk
     exact ⟨o,e,ex⟩
   obtain ⟨o,e,ex⟩:=z
   refine ⟨⟨o,e,ex.1⟩,λa e2=>?_⟩
   cases e2
   exact ⟨o,e,ex.2.1⟩
  ·obtain ⟨o,_,_,_,e,ex,_⟩:=I.hok p _ hk
   refine ⟨⟨o,e,ex.1⟩,λa e2=>?_⟩
   cases e2
   exact ⟨o,e,ex.2.1⟩
 |_=>exact False.elim ty
def tBM0 (K:PySem.W.Frag) (T:String) (r:V->List V->Hp->VK->Prop) (to:TE):TE:=λσ H Q=>to σ H λx H1=>tyV K T x H1/\r x [] H1 Q
def tBM (K:PySem.W.Frag) (T:String) (r:V->List V->Hp->VK->Prop) (to:TE) (t:TA):TE:=λσ H Q=>to σ H λx H1=>tyV K T x H1/\t σ H1 λxs H2=>r x xs H2 Q
variable {o e:Expr} {es:List Expr} {to:TE} {t:TA} {name:Str} {apos cpos:Pos} {T id:String} {r:V->List V->Hp->VK->Prop}
theorem pe_bm0 (pa:PlainAttrs T) (slot:Slot T name id) (hty:typeOf (.builtin id)=pure (.type "method_descriptor")) (hm:MtR X id r) (ho:PE X o to)
  (hbase:attributeBase o name X.env (eval o X.env)=eval o X.env:=by rfl) (hline:(apos.endLine == cpos.line)=true:=by rfl):PE X (.Call (.Attribute o name apos) [] [] cpos) (tBM0 X.K T r to):=by
 intro pins s σ H Q I h
 refine wpAny_Call_method0_late hbase hline (thn (ho pins s σ H _ I h) λv s1 ⟨x,H1,I1,r1,ty,q1⟩=>?_)
 obtain ⟨h1,h2⟩:=tyV_is I1 r1 ty
 exact ⟨T,id,pa,slot,hty,h1,h2,Calls.callWith_builtin rfl (PySem.evalArgs_none (hm pins s1 σ H1 x [] v [] Q I1 r1 .nil q1))⟩
theorem pe_bm (pa:PlainAttrs T) (slot:Slot T name id) (hty:typeOf (.builtin id)=pure (.type "method_descriptor")) (hm:MtR X id r) (ho:PE X o to) (ha:PA X (e::es) t)
  (hbase:attributeBase o name X.env (eval o X.env)=eval o X.env:=by rfl)
  (hfew:((backTo cpos (starEach (e::es) X.env)).all (λx=>!x.1)&&(backToKw cpos (keywordEach [] X.env)).all (λx=>x.1.isSome)
   && decide ((e::es).length+([]:List Keyword).length+(if ([]:List Keyword).isEmpty then 0 else 1)<30))=true:=by rfl)
  (hline:(apos.endLine == cpos.line)=true:=by rfl) (hs:starEach (e::es) X.env=(false,eval e X.env)::starEach es X.env:=by rfl) (hplain:(backTo cpos (starEach es X.env)).any (·.1)=false:=by rfl) :
  PE X (.Call (.Attribute o name apos) (e::es) [] cpos) (tBM X.K T r to t):=by
 intro pins s σ H Q I h
 refine wpAny_Call_method_late hbase hfew hline rfl (thn (ho pins s σ H _ I h) λv s1 ⟨x,H1,I1,r1,ty,q1⟩=>?_)
 obtain ⟨h1,h2⟩:=tyV_is I1 r1 ty
 refine ⟨T,id,pa,slot,hty,h1,h2,?_⟩
 have hA:=ha cpos pins s1 σ H1 _ I1 q1
 rw [hs] at hA |-
 refine Calls.callWith_builtin (by show (false||(backTo cpos (starEach es X.env)).any (·.1))=false;rw [hplain]<;>rfl) (Calls.evalArgs_plain ?_)
 exact thn hA λus s2 ⟨vs,H2,I2,r2,q2⟩=>hm pins s2 σ H2 x vs v us Q I2 r1 r2 q2
/- xs.append(e),list.index on a module's tuple .. are MtR facts of 06m -/
end
end L2

namespace L2
open PySem PySem.Spec PyProof.Rows

def MtM (X:Cx) (id:String) (r:V->List V->Hp->VK->Prop):Prop :=
 ∀ (pins:List (Addr×Obj)) (s:Shared) (σ:St) (H:Hp) (x:V) (xs:List V) (v:Value) (us:List Value) (Q:VK),Inv X pins σ H s->RelV x v->Vals xs us->r x xs H Q ->
  wpAny (model X.prog X.w) X.A (call (.builtin id) (v::us)) (EP X pins σ Q) X.xe s

theorem Vals.one:∀ {x:V} {us:List Value},Vals [x] us->∃ u,us=[u]/\RelV x u
 |_,_,.cons r .nil=>⟨_,rfl,r⟩
theorem Vals.zero:∀ {us:List Value},Vals [] us->us=[]
 |_,.nil=>rfl
theorem Vals.dropLast {xs:List V} {us:List Value} (h:Vals xs us):Vals xs.dropLast us.dropLast:=by
 induction h with
 |nil=>exact .nil
 |cons r t ih =>
  cases t with
  |nil=>exact .nil
  |cons q t'=>exact .cons r ih
theorem erase_last {α:Type} (l:List α):l.eraseIdx (l.length-1)=l.dropLast:=by
 induction l with
 |nil=>rfl
 |cons a r ih =>
  cases r with
  |nil=>rfl
  |cons b r =>
   have e:(a::b::r).length-1=((b::r).length-1)+1:=by
    have h1:(a::b::r).length=r.length+2:=rfl
    have h2:(b::r).length=r.length+1:=rfl
    omega
   rw [e,List.eraseIdx_cons_succ,ih]
   all_goals rfl
section
variable {X:Cx} {pins:List (Addr×Obj)} {σ:St} {H:Hp} {s:Shared} {l b:Addr} {xs ys zs:List V}

theorem Inv.lset {its its':List Value} {n:Nat} {f:Array Value->Array Value} {t':Nat} (I:Inv X pins σ H s) (hH:H l=some (.lst xs))
  (e:s.heap.get? l=some { cls:=.type "list",data:=.seq its.toArray n }) (hf:f its.toArray=its'.toArray) (hv:Vals ys its') (hz:ys.length<=sizeLine) :
  Inv X pins σ (upd H l (.lst ys)) { s with heap:=s.heap.update l (Obj.mapSeq f),toks:=t' }:=by
 have q:=PySem.IsL.update e f
 rw [hf] at q
 refine I.write (x:=l) (e:=l) (by rw [hH];exact trivial) (.inl rfl) (λb' u hb hu=>(Heap.get?_update_other s.heap (Obj.mapSeq f) (Ne.symm hb)).trans hu) ⟨_,q⟩ ?_
 exact ⟨hz,its',_,hv,q⟩
theorem Inv.lnew {its:List Value} {t':Nat} (I:Inv X pins σ H s) (hv:Vals ys its) (hz:ys.length<=sizeLine) :
  Inv X pins σ (upd H s.heap.objs.size (.lst ys)) { s with heap:=s.heap.push { cls:=.type "list",data:=.seq its.toArray },toks:=t' } :=
 I.laid (λ_ _ q=>Heap.get?_push_of_some _ q) (Nat.le_refl _) ⟨hz,its,0,hv,Heap.get?_push_size _ rfl⟩
theorem Inv.fresh (I:Inv X pins σ H s):H s.heap.objs.size=none:=I.hok.fresh (Nat.le_refl _)
theorem Inv.lstM (I:Inv X pins σ H s) (hH:H l=some (.lst xs)):xs.length<=sizeLine/\∃ (its:List Value) (n:Nat),Vals xs its/\xs.length=its.length/\s.heap.get? l=some { cls:=.type "list",data:=.seq its.toArray n }:=by
 obtain ⟨z,its,n,r,e⟩:=I.hok l _ hH
 exact ⟨z,its,n,r,r.length,e⟩

theorem notLongL {n:Nat} (h:n<=sizeLine):Builtin.List.listTooLong n=false:=by
 unfold Builtin.List.listTooLong
 exact decide_eq_false (by omega)
end

section
variable {X:Cx}

def rAppend:V->List V->Hp->VK->Prop:=λx vs H Q=>∃ l xs y,x=.ref l/\vs=[y]/\H l=some (.lst xs)/\xs.length<sizeLine/\Q .non (upd H l (.lst (xs++[y])))
theorem mt_append:MtM X "list.append" rAppend:=by
 intro pins s σ H x vs v us Q I rx rv h
 obtain ⟨l,xs,y,rfl,rfl,hH,hz,q⟩:=h
 cases rx
 obtain ⟨u,rfl,ru⟩:=rv.one
 obtain ⟨z,its,n,r,hl,e⟩:=I.lstM hH
 refine call_meets F.slot_list_append ⟨_,e,rfl⟩ F.entry_list_append (F.args_list_append_2 _ _) (PySem.list_append l its.toArray n u (by rw [List.size_toArray];omega)) ⟨e,?_⟩
 refine ⟨.non,_,I.lset (its':=its++[u]) hH e (by simp) (r.append (.cons ru .nil)) ?_,rfl,q⟩
 rw [List.length_append,List.length_singleton]
 omega

def rExtend:V->List V->Hp->VK->Prop:=λx vs H Q=>∃ l b xs zs,x=.ref l/\vs=[.ref b]/\H l=some (.lst xs)/\H b=some (.lst zs)/\xs.length+zs.length<=sizeLine/\Q .non (upd H l (.lst (xs++zs)))
theorem mt_extend:MtM X "list.extend" rExtend:=by
 intro pins s σ H x vs v us Q I rx rv h
 obtain ⟨l,b,xs,zs,rfl,rfl,hH,hB,hz,q⟩:=h
 cases rx
 obtain ⟨u,rfl,ru⟩:=rv.one
 cases ru
 obtain ⟨z,its,n,r,hl,e⟩:=I.lstM hH
 obtain ⟨z2,its2,n2,r2,hl2,e2⟩:=I.lstM hB
 have hsz:its.toArray.size+its2.toArray.size<=sizeLine:=by rw [List.size_toArray,List.size_toArray];omega
 have hlong:¬ (!its.toArray.isEmpty&&Builtin.List.listTooLong (its.toArray.size+its2.toArray.size))=true:=by
  rw [notLongL hsz,Bool.and_false]
  exact Bool.false_ne_true
 refine call_meets F.slot_list_extend ⟨_,e,rfl⟩ F.entry_list_extend (F.args_list_extend_2 _ _)
  (AutoSeq1.list_extend_list_list_0 l its.toArray n b its2.toArray n2 hlong (by rw [List.size_toArray];omega) (by omega)) ⟨e,e2,?_⟩
 refine ⟨.non,_,I.lset (its':=its++its2) hH e (by simp) (r.append r2) ?_,rfl,q⟩
 rw [List.length_append]
 omega

def rPop:V->List V->Hp->VK->Prop:=λx vs H Q=>∃ l xs y,x=.ref l/\vs=[]/\H l=some (.lst xs)/\xs[xs.length-1]?=some y/\Q y (upd H l (.lst xs.dropLast))
theorem mt_pop:MtM X "list.pop" rPop:=by
 intro pins s σ H x vs v us Q I rx rv h
 obtain ⟨l,xs,y,rfl,rfl,hH,hy,q⟩:=h
 cases rx
 have hus:=rv.zero
 subst hus
 obtain ⟨z,its,n,r,hl,e⟩:=I.lstM hH
 obtain ⟨u,hu,ru⟩:=r.get hy
 have hy':its.toArray[its.toArray.size-1]?=some u:=by
  show its.toArray[its.length-1]?=some u
  rw [<- Array.getElem?_toList,<- hl]
  exact hu
 refine call_meets F.slot_list_pop ⟨_,e,rfl⟩ F.entry_list_pop (F.args_list_pop_1 _) (MeetsSeq.list_pop_last l its.toArray n u hy' (by rw [List.size_toArray];omega)) ⟨e,?_⟩
 refine ⟨y,_,I.lset (its':=its.dropLast) hH e ?_ r.dropLast ?_,ru,q⟩
 ·show its.toArray.eraseIdxIfInBounds (its.toArray.size-1)=its.dropLast.toArray
  rw [List.size_toArray,List.eraseIdxIfInBounds_toArray,erase_last]
 ·rw [List.length_dropLast]
  omega

def rCat:R2:=λx y H Q=>∃ l b xs zs,x=.ref l/\y=.ref b/\H l=some (.lst xs)/\H b=some (.lst zs)/\xs.length+zs.length<=sizeLine/\∀ p,H p=none->Q (.ref p) (upd H p (.lst (xs++zs)))
theorem op_cat:OpR X (binaryOp .Add) rCat:=by
 intro pins s σ H x y v u Q I rx ry h
 obtain ⟨l,b,xs,zs,rfl,rfl,hH,hB,hz,q⟩:=h
 cases rx
 cases ry
 obtain ⟨z,its,n,r,hl,e⟩:=I.lstM hH
 obtain ⟨z2,its2,n2,r2,hl2,e2⟩:=I.lstM hB
 refine PySem.P.add_list e e2 ?_ (by rw [List.size_toArray,List.size_toArray];omega)
 have ea:its.toArray++its2.toArray=(its++its2).toArray:=by simp
 rw [ea]
 exact ⟨.ref _,_,I.lnew (t':=s.toks) (r.append r2) (by rw [List.length_append];omega),rfl,q _ I.fresh⟩
end

section
variable {prog:Program} {w:World} {A:Around} {E:Value->Shared->Prop} {s:Shared}
end

section
variable {X:Cx}
end
end L2

namespace Att
open PySem PySem.W PySem.Calls PyProof.Rows

theorem ints_of_wellAll {P:Params} {h:Heap}:∀ (ns:List Int) (vs:List Value),WellAll P h vs (ns.map WData.int)->IntsAre vs ns:=by
 intro ns
 induction ns with
 |nil =>
  intro vs w
  rw [List.map_nil] at w
  cases w
  exact .nil
 |cons n ns ih =>
  intro vs w
  rw [List.map_cons] at w
  cases w with
  |cons a b =>
   cases a
   exact .cons _ _ (ih _ b)

theorem script_of {l:OpenLaw} {n:Nat} (hn:l.most=some n) {P:Params} {h:Heap} {args:List WData} {vals:List Value}
  (hpre:l.row.toRowW.claim.pre args=true) (hwl:WellAll P h vals args) :
  ∃ a vs ns,vals=[Value.ref a]/\args=[WData.list (ns.map WData.int)]/\h.get? a=some { cls:=.type "list",data:=.seq vs.toArray }/\IntsAre vs ns/\ns.length<=n:=by
 have hsh:WShape.hasAll [] args [.list .int]=true:=(pre_splitW hpre).1
 have hc:l.pre.holds [] { args:=args }=true:=(pre_splitW hpre).2
 obtain ⟨d,r,rfl,h1,h2⟩:=hasAllW_cons hsh
 obtain rfl:=hasAllW_nil h2
 obtain ⟨xs,rfl,h3⟩:=hasW_list h1
 obtain ⟨ns,rfl⟩:=items_int h3
 have hlen:ns.length<=n:=by
  unfold OpenLaw.pre at hc
  have h4:(WTm.not (.lt (.lit (.int (n:Int))) (.len (.arg 0)))).holds [] { args:=[.list (ns.map .int)] }=true:=by
   have h4:=(holds_andW hc).1
   rw [hn] at h4
   exact h4
  have h5:=condW_of h4 (w_not (w_lt w_lit (w_len_list (w_arg rfl))))
  rw [List.length_map] at h5
  refine Nat.le_of_not_lt λq=>?_
  have q':(n:Int)<((ns.length:Nat):Int):=by omega
  first
   | (rw [decide_eq_true q'] at h5;exact absurd h5 (by decide))
   | (simp at h5;omega)
 cases hwl with
 |cons w1 w2 =>
  cases w2
  cases w1 with
  |list ho hall=>exact ⟨_,_,ns,rfl,rfl,ho,ints_of_wellAll ns _ hall,hlen⟩

theorem post_true (l:OpenLaw) (args:List WData):l.row.toRowW.claim.post args (.bool true) args=true :=
 postW_of (r:=l.row.toRowW) (X:=(true == true))
  (show WShape.has [] (.bool true) .bool=true by first | rfl | decide | simp [WShape.has,WShape.arms,WShape.armsAll])
  (show (WTm.eq .res (.lit (.bool true))).value [] { args:=args,res:=some (.bool true),after:=args }=some (.bool (true == true)) from w_eq_bool (w_res rfl) w_lit) rfl

theorem attach_call {l:OpenLaw} {n:Nat} {q:Program} {loose:List Str} {XP:(Str->Option Value)->Heap->Prop} {YP:World->Heap->Prop} {d:DefRec}
  (hn:l.most=some n) (hdf:d.params.defaults=[])
  (call:∀ (w:World) (s₀ s₁:Shared) (mg mb:Str->Option Value) (fa:Addr) (o:Obj) (pm cd doc:Value) (a:Addr) (vs:List Value) (ns:List Int),
   Ground q loose [] XP w s₀ mg mb s₁.heap->YP w s₁.heap ->
   s₁.heap.get? fa=some o->o.data=.func (docDef d.name d.params d.body d.scope pm cd doc)->s₁.heap.CodeRec cd d.name->mg d.name=some (.ref fa) ->
   s₁.heap.get? a=some { cls:=.type "list",data:=.seq vs.toArray }->IntsAre vs ns->ns.length<=n->s₁.gens=#[] ->
   codeAny (model l.prog w) callerA (.call (.ref fa) ⟨[.ref a],[]⟩) (λr s'=>r=.ok (.ret (.bool true))/\OldK s₁.heap s'.heap/\s'.os=s₁.os/\AllBare s'.gens) s₁) :
  WalkO q loose XP YP l.row.toRowW d [] (λf vs=>PySem.call f vs):=by
 intro w s₀ s₁ mg mb G Y fa o pm cd doc dV kV ho hd hcd hD hmg hg args vals as hpre hlay hrd hwl hlo
 obtain rfl:dV=.none:=Dflts.none hD hdf
 obtain rfl:kV=.none:=Dflts.noKw hD
 obtain ⟨a,vs,ns,rfl,rfl,hobj,hints,hlen⟩:=script_of hn hpre hwl
 refine enter_call (codeAny_mono (call w s₀ s₁ mg mb fa o pm cd doc a vs ns G Y ho (fd_plain hd) hcd hmg hobj hints hlen hg) λr s' hq=>?_)
 obtain ⟨rfl,h2,h3,h4⟩:=hq
 exact ⟨.inl ⟨.bool true,.bool true,[],rfl,λ_=>rfl,.bool true,post_true l _,λ_=>⟨List.Pairwise.nil,λ_ hm=>(nomatch hm)⟩⟩,h2,h3,h4⟩

section
variable {prog:Program} {w:World} {A:Around} {E:Value->Shared->Prop} {s:Shared} {K:Frag}

end
end Att

namespace L2
open PySem PySem.Spec PyProof.Rows

theorem vals_ints:∀ {vs:List Value} {ns:List Int},IntsAre vs ns->Vals (ns.map V.int) vs
 |_,_,.nil=>.nil
 |_,_,.cons n t h=>.cons ⟨t,rfl⟩ (vals_ints h)

def Only (H:Hp):Prop:=∀ b,H b=none\/∃ o xs,H b=some (.frz o (.lst xs))

theorem law_call {P:Program} {w:World} {K:PySem.W.Frag} {mg mb:Str->Option Value} {CX:CXT} {k:Nat} {fa a:Addr} {fd:FuncData} {x:Str} {sp:Sp} {s₁:Shared} {vs:List Value} {ns:List Int}
  (KX:K.In s₁.heap) (hns:s₁.heap.Ns mainGlobals mg) (hb:s₁.heap.Ns builtinsNs mb) (hbb:∀ x:Str,x≠"__name__"->mb x=bootBuiltins x) (hlim:s₁.heap.NoLimit) (hg:s₁.gens=#[])
  (ha:s₁.heap.get? a=some { cls:=.type "list",data:=.seq vs.toArray }) (hi:IntsAre vs ns) (hl:ns.length<=sizeLine) (hr:Room k callerA)
  (F:∀ base:Heap,K.In base->base.Ns mainGlobals mg->FnOk P w K mg base CX k fa fd [x] sp) (hbind:∀ (s:Shared) (u:Value),BindsTo s fd ⟨[u],[]⟩ [(x,u)])
  (hsp:∀ H:Hp,Only H->SqL K H a (ns.map V.int)->sp [.ref a] H (λv _=>v=.bl true) λ_ _ _=>False)
  (hCX:∀ H e s',CX [] H s₁ (λ_ _ _=>False) e s'->False) :
  codeAny (model P w) callerA (.call (.ref fa) ⟨[.ref a],[]⟩) (λr s'=>r=.ok (.ret (.bool true))/\OldK s₁.heap s'.heap/\s'.os=s₁.os/\AllBare s'.gens) s₁:=by
 have rv:=vals_ints hi
 have lenV:=hi.length
 -- from an abstract heap in which nothing but the script may be tracked
 have core:∀ H:Hp,Only H->SqL K H a (ns.map V.int)->HOk P w H s₁.heap->(∀ b,H b≠none->b=a)->(H a≠none->K.lookup a=none) ->
   codeAny (model P w) callerA (.call (.ref fa) ⟨[.ref a],[]⟩) (λr s'=>r=.ok (.ret (.bool true))/\OldK s₁.heap s'.heap/\s'.os=s₁.os/\AllBare s'.gens) s₁:=by
  intro H hO hS hok hA hK
  have base_of:∀ {b:Addr} {o:Obj},s₁.heap.get? b=some o->H b=none->(hidT s₁.heap H).get? b=some o:=λe n=>hidT_get e n
  have noA:∀ {b:Addr} {o:Obj} {es:Array DictEntry} {ep:Nat},s₁.heap.get? b=some o->o.data=.dict es ep->H b=none:=λ{b o es ep} e d=>by
   cases q:H b with
   |none=>rfl
   |some u =>
    have e':b=a:=hA b (by rw [q];simp)
    subst e'
    rw [ha] at e;cases e
    have d':Data.seq vs.toArray _=Data.dict es ep:=d
    cases d'
  have nsK:∀ {b:Addr} {m:Str->Option Value},s₁.heap.Ns b m->(hidT s₁.heap H).Ns b m:=λ{b m} ⟨o,es,ep,e,d,r⟩=>⟨o,es,ep,base_of e (noA e d),d,r⟩
  have hKb:K.In (hidT s₁.heap H):=λb o e=>base_of (KX b o e) (by
   cases q:H b with
   |none=>rfl
   |some u =>
    have e':b=a:=hA b (by rw [q];simp)
    subst e'
    rw [hK (by rw [q];simp)] at e;cases e)
  have hM:Mod K mg (hidT s₁.heap H):=⟨hKb,nsK hns,⟨mb,nsK hb,hbb⟩,let ⟨mc,h1,h2⟩:=hlim;⟨mc,nsK h1,h2⟩⟩
  have e0:Env0 P w K mg (hidT s₁.heap H) callerA [] s₁ H:=⟨rfl,hM,λb o e=>of_hidT e,Nat.le_of_eq (hidT_size _ _),trivial,λb hb=>absurd (show b∈([]:List Addr) from hb) (by simp),hok,.of_eq hg⟩
  refine codeAny_mono ((F _ hKb (nsK hns)).run callerA [] s₁ H ⟨[.ref a],[]⟩ [.ref a] [.ref a] _ _ hr e0 (hbind s₁ (.ref a)) (.cons rfl .nil) (hsp H hO hS)) λr s' h=>?_
  cases r with
  |error e=>exact (hCX H e s' h).elim
  |ok fl =>
   cases fl with
   |next=>exact False.elim h
   |brk=>exact False.elim h
   |cont=>exact False.elim h
   |ret u =>
    obtain ⟨v,H',os,bare,un,hok',r',q⟩:=h
    have q':v=.bl true:=q
    subst q'
    obtain rfl:u=Value.bool true:=r'
    refine ⟨rfl,OldK.of_keep λb o e=>?_,os,bare⟩
    cases q:H b with
    |none=>exact un.keep b o e q (by intro z;exact absurd (show b∈([]:List Addr) from z) (by simp)) (by simp)
    |some u =>
     rcases hO b with z | ⟨ob,xs,z⟩
     ·rw [q] at z;cases z
     ·have z2:=un.frzs b ob _ z
      obtain ⟨e1,_⟩:=hok b _ z
      obtain ⟨e2,_⟩:=hok' b _ z2
      rw [e] at e1;cases e1
      exact e2
 cases hk:K.lookup a with
 |some o =>
  -- the script is one of the module's own objects
  have e:=KX a o hk
  rw [ha] at e
  cases e
  refine core (λ_=>none) (λ_=>.inl rfl) (.inr ⟨_,vs.toArray,_,hk,rfl,rfl,rfl,by rw [List.size_toArray,lenV];exact hl,by simpa using rv⟩) (λb u z=>by have z':(none:Option HO)=some u:=z;cases z') (λb z=>absurd rfl z) λz=>absurd rfl z
 |none =>
  refine core (λb=>if b=a then some (.frz { cls:=.type "list",data:=.seq vs.toArray } (.lst (ns.map V.int))) else none) (λb=>?_) (.inl (.inr ⟨{ cls:=.type "list",data:=.seq vs.toArray },if_pos rfl⟩)) (λb u z=>?_) (λb z=>?_) λ_=>hk
  ·by_cases hb:b=a
   ·exact .inr ⟨_,_,if_pos hb⟩
   ·exact .inl (if_neg hb)
  ·by_cases hb:b=a
   ·have z':=(if_pos hb).symm.trans z
    cases z'
    subst hb
    exact ⟨ha,by rw [List.length_map];exact hl,vs,_,rv,ha⟩
   ·have z':=(if_neg hb).symm.trans z
    cases z'
  ·by_cases hb:b=a
   ·exact hb
   ·exact absurd (if_neg hb) z
end L2

namespace L2
open PySem PySem.Spec PyProof.Rows

theorem walk_of {l:PySem.W.OpenLaw} {n k:Nat} {q:Program} {loose:List Str} {XP:(Str->Option Value)->Heap->Prop} {YP:World->Heap->Prop} {d:DefRec} {K:Params->PySem.W.Frag} {CX:World->CXT} {sp:World->Sp} {x:Str}
  (hn:l.most=some n) (hn2:n<=sizeLine) (hdf:d.params.defaults=[]) (hr:Room k callerA)
  (hY:∀ (w:World) (h:Heap),YP w h->(K w.params).In h)
  (F:∀ (w:World) (mg:Str->Option Value) (fa:Addr) (h:Heap),(K w.params).In h->h.Ns mainGlobals mg->mg d.name=some (.ref fa) ->
   ∃ fd:FuncData,(∀ (s:Shared) (u:Value),BindsTo s fd ⟨[u],[]⟩ [(x,u)]) /\
    ∀ base:Heap,(K w.params).In base->base.Ns mainGlobals mg->FnOk l.prog w (K w.params) mg base (CX w) k fa fd [x] (sp w))
  (hsp:∀ (w:World) (H:Hp) (a:Addr) (ns:List Int),ns.length<=n->Only H->SqL (K w.params) H a (ns.map V.int)->sp w [.ref a] H (λv _=>v=.bl true) λ_ _ _=>False)
  (hCX:∀ (w:World) (H:Hp) (s:Shared) (e:Value) (s':Shared),CX w [] H s (λ_ _ _=>False) e s'->False) :
  PySem.W.WalkO q loose XP YP l.row.toRowW d [] (λf vs=>PySem.call f vs):=by
 refine Att.attach_call hn hdf λw s₀ s₁ mg mb fa o pm cd doc a vs ns G Y ho hd hcd hmg hobj hints hlen hg=>?_
 have KX:=hY w _ Y
 obtain ⟨fd,hb,hF⟩:=F w mg fa _ KX G.T.g hmg
 exact law_call KX G.T.g G.T.b G.T.builtins G.T.nolimit hg hobj hints (Nat.le_trans hlen hn2) hr hF hb (λH hO hS=>hsp w H a ns hlen hO hS) λH e s'=>hCX w H s₁ e s'
theorem walk_ofK {l:PySem.W.OpenLaw} {n k:Nat} {q:Program} {loose:List Str} {XP:(Str->Option Value)->Heap->Prop} {YP:World->Heap->Prop} {d:DefRec} {K:Params->PySem.W.Frag} {CX:CXT} {sp:PySem.W.Frag->Sp} {x:Str}
  (hn:l.most=some n) (hn2:n<=sizeLine) (hdf:d.params.defaults=[]) (hr:Room k callerA)
  (hY:∀ (w:World) (h:Heap),YP w h->(K w.params).In h)
  (F:∀ (w:World) (mg:Str->Option Value) (fa:Addr) (h:Heap),(K w.params).In h->h.Ns mainGlobals mg->mg d.name=some (.ref fa) ->
   ∃ fd:FuncData,(∀ (s:Shared) (u:Value),BindsTo s fd ⟨[u],[]⟩ [(x,u)]) /\
    ∀ base:Heap,(K w.params).In base->base.Ns mainGlobals mg->FnOk l.prog w (K w.params) mg base CX k fa fd [x] (sp (K w.params)))
  (hsp:∀ (K:PySem.W.Frag) (H:Hp) (a:Addr) (ns:List Int),ns.length<=n->Only H->SqL K H a (ns.map V.int)->sp K [.ref a] H (λv _=>v=.bl true) λ_ _ _=>False)
  (hCX:∀ (H:Hp) (s:Shared) (e:Value) (s':Shared),CX [] H s (λ_ _ _=>False) e s'->False) :
  PySem.W.WalkO q loose XP YP l.row.toRowW d [] (λf vs=>PySem.call f vs) :=
 walk_of (K:=K) (CX:=λ_=>CX) (sp:=λw=>sp (K w.params)) hn hn2 hdf hr hY F (λw H a ns h1 h2 h3=>hsp (K w.params) H a ns h1 h2 h3) λ_ H s e s'=>hCX H s e s'
end L2


namespace L2
open PySem PySem.Spec PyProof.Rows

def inClass (s:Stmt) (j:Nat):Stmt:=match s with
 |.ClassDef _ _ _ body _ _ _ _ _ _ _=>body.getD j (.Pass ⟨0,0,0,0⟩)
 |_=>.Pass ⟨0,0,0,0⟩
def defArgs (s:Stmt):Arguments:=match s with
 |.FunctionDef _ a _ _ _ _ _ _ _ _=>a
 |_=>{ posonlyargs:=[],args:=[],vararg:=none,kwonlyargs:=[],kw_defaults:=[],kwarg:=none,defaults:=[] }
def defBody (s:Stmt):List Stmt:=match s with
 |.FunctionDef _ _ b _ _ _ _ _ _ _=>b
 |_=>[]
def defScope (s:Stmt):Scope:=match s with
 |.FunctionDef _ _ _ _ _ _ sc _ _ _=>sc
 |_=>{ kind:=.function,names:=[],isGenerator:=false,isCoroutine:=false }

abbrev CX0:CXT:=λ_ _ _ _ _ _=>False
abbrev E0:XK:=λ_ _ _=>False
theorem pass0 {X:Cx}:Passes CX0 X E0:=λ_ _ _ _ _ _ _ h=>h.elim

structure Fun (K:PySem.W.Frag) (x qual:Str) (st:Stmt) (f:Addr) (fd:FuncData):Prop where
 ex:∃ (oc:Value) (od:Option Addr) (kV doc pm:Value) (an:Option Addr) (cdv ct:Value) (osl:Array (Option Value)),
  fd=PySem.W.fnOf x qual (defArgs st) (defBody st) (defScope st) .none kV doc pm an cdv ct/\K.lookup f=some ⟨oc,od,.func fd,osl⟩/\PySem.W.codeIn K cdv qual=true
 kp:PySem.W.keepIn K (.ref f)=true
section
variable {P:Program} {w:World} {K:PySem.W.Frag} {mg:Str->Option Value} {base:Heap}
theorem Fun.ok {x qual:Str} {st:Stmt} {f:Addr} {fd:FuncData} {N ps:List Str} {k:Nat} {sp:Sp} (F:Fun K x qual st f fd) (S:FnScope N ps (defScope st)) (len:∀ vs H Q E,sp vs H Q E->vs.length=ps.length)
  (hbody:∀ (cdv:Value) (A:Around) (outer:List Env) (s:Shared) (H:Hp) (vs:List V) (Q:VK) (E:XK),Room k (A.deeper (envOfC qual (defScope st) s.heap.objs.size f cdv))->sp vs H Q E ->
   ∃ t,PSs (cxOf CX0 P w K mg base N qual (defScope st) f cdv A outer s H E).nox (defBody st) t/\t { nx:=λ_ H'=>Q .non H',rt:=Q } (start N vs) H):FnOk P w K mg base CX0 (k+1) f fd ps sp:=by
 obtain ⟨oc,od,kV,doc,pm,an,cdv,ct,osl,rfl,lk,hcd⟩:=F.ex
 refine fn_of lk hcd S len λA outer s H vs Q E hr hsp=>?_
 obtain ⟨t,h,q⟩:=hbody cdv A outer s H vs Q E hr hsp
 exact ⟨t,h.nox,q⟩
theorem Fun.binds {x qual:Str} {st:Stmt} {f:Addr} {fd:FuncData} {ps:List Str} (F:Fun K x qual st f fd)
  (h:∀ (kV doc pm:Value) (an:Option Addr) (cdv ct:Value) (us:List Value),us.length=ps.length->bindArgs (PySem.W.fnOf x qual (defArgs st) (defBody st) (defScope st) .none kV doc pm an cdv ct) ⟨us,[]⟩=pure (ps.zip us)):Binds K fd ps []:=by
 obtain ⟨oc,od,kV,doc,pm,an,cdv,ct,osl,rfl,lk,hcd⟩:=F.ex
 exact .all (h kV doc pm an cdv ct)
theorem fun_mk {x qual:Str} {st:Stmt} {f:Addr} {oc:Value} {od an:Option Addr} {osl:Array (Option Value)} {kV doc pm cdv ct:Value} (l:K.lookup f=some ⟨oc,od,.func (PySem.W.fnOf x qual (defArgs st) (defBody st) (defScope st) .none kV doc pm an cdv ct),osl⟩)
  (c:PySem.W.codeIn K cdv qual=true) (k:PySem.W.keepIn K (.ref f)=true):Fun K x qual st f (PySem.W.fnOf x qual (defArgs st) (defBody st) (defScope st) .none kV doc pm an cdv ct):=⟨⟨oc,od,kV,doc,pm,an,cdv,ct,osl,rfl,l,c⟩,k⟩
end
theorem hu_of {A:Around} {k:Nat} (hr:Room k A):A.units+1<cLine:=Nat.lt_of_le_of_lt (Nat.add_le_add_left (by decide:1<=64) _) hr.units
theorem small1000 {n:Nat} (h:n<=1000):n<sizeLine:=Nat.lt_of_le_of_lt h (by decide)

section
variable {X:Cx}
theorem pv (i:Nat) {x:Str} {pos:Pos} (hN:X.N[i]?=some x:=by rfl) (hv:Vis X.env.scope x:=by first | exact Or.inl rfl | exact Or.inr (Or.inl rfl) | exact Or.inr (Or.inr rfl)) (hd:(x == ("__debug__":Str))=false:=by decide)
  (hcd:(x == ("__classdict__":Str))=false:=by decide):PE X (.Name x pos) (tVar i):=pe_var hN hv hd hcd
end

theorem iteF {A B:Prop} (h:B):if false=true then A else B:=by
 rw [if_neg Bool.false_ne_true]
 exact h
theorem iteT {A B:Prop} (h:A):if true=true then A else B:=by
 rw [if_pos rfl]
 exact h
def Same (H H':Hp):Prop:=∀ b o,H b=some o->H' b=some o
theorem Same.refl (H:Hp):Same H H:=λ_ _ h=>h
theorem Same.trans {H H1 H2:Hp} (a:Same H H1) (b:Same H1 H2):Same H H2:=λc o h=>b c o (a c o h)
theorem Same.free {H H':Hp} (e:Same H H') {l:Addr} (h:H' l=Option.none):H l=Option.none:=by
 cases q:H l with
 |none=>rfl
 |some o =>
  rw [e l o q] at h
  cases h
end L2


namespace L2
open PySem PySem.Spec PyProof.Rows

section
variable {κ:Type} [DecidableEq κ]
def valV (kvs:List (κ×V)) (k:κ):Option V:=(kvs.find? λkv=>decide (kv.1=k)).map (·.2)
def putK (kvs:List (κ×V)) (k:κ) (v:V):List (κ×V) :=
 if (kvs.any λkv=>decide (kv.1=k))=true then kvs.map (λkv=>if kv.1=k then (kv.1,v) else kv) else kvs++[(k,v)]
def dropK (kvs:List (κ×V)) (k:κ):List (κ×V):=kvs.filter λkv=>decide (kv.1≠k)

theorem valV_nil {k:κ}:valV ([]:List (κ×V)) k=none:=rfl
theorem valV_pos {p:κ×V} {r:List (κ×V)} {k:κ} (e:p.1=k):valV (p::r) k=some p.2:=by simp [valV,List.find?_cons,e]
theorem valV_neg {p:κ×V} {r:List (κ×V)} {k:κ} (e:¬ p.1=k):valV (p::r) k=valV r k:=by simp [valV,List.find?_cons,e]
theorem valV_any (k:κ):∀ kvs:List (κ×V),(kvs.any λkv=>decide (kv.1=k))=(valV kvs k).isSome
 |[]=>rfl
 |p::r=>by
  rw [List.any_cons]
  by_cases e:p.1=k
  ·simp only [valV_pos e,decide_eq_true e,Bool.true_or,Option.isSome_some]
  ·rw [valV_neg e,decide_eq_false e,Bool.false_or];exact valV_any k r
theorem valV_map (k j:κ) (y:V):∀ kvs:List (κ×V),valV (kvs.map λkv=>if kv.1=k then (kv.1,y) else kv) j=(valV kvs j).map λx=>if j=k then y else x
 |[]=>rfl
 |p::r=>by
  have ih:=valV_map k j y r
  rw [List.map_cons]
  by_cases h:p.1=k
  ·rw [if_pos h]
   by_cases e:p.1=j
   ·rw [valV_pos (p:=(p.1,y)) e,valV_pos e,Option.map_some,if_pos (e.symm.trans h)]
   ·rw [valV_neg (p:=(p.1,y)) e,valV_neg e,ih]
  ·rw [if_neg h]
   by_cases e:p.1=j
   ·rw [valV_pos (p:=p) e,valV_pos e,Option.map_some,if_neg (λz=>h (e.trans z))]
   ·rw [valV_neg (p:=p) e,valV_neg e,ih]
theorem valV_snoc (k j:κ) (y:V):∀ kvs:List (κ×V),valV kvs k=none->valV (kvs++[(k,y)]) j=if j=k then some y else valV kvs j
 |[],_=>by
  by_cases e:k=j
  ·rw [if_pos e.symm];exact valV_pos (p:=(k,y)) e
  ·rw [if_neg (λz=>e z.symm)];exact valV_neg (p:=(k,y)) e
 |p::r,hn=>by
  rw [List.cons_append]
  have hk:¬ p.1=k:=λz=>by rw [valV_pos z] at hn;cases hn
  rw [valV_neg hk] at hn
  have ih:=valV_snoc k j y r hn
  by_cases e:p.1=j
  ·rw [valV_pos e,valV_pos e,if_neg (λz=>hk (e.trans z))]
  ·rw [valV_neg e,valV_neg e,ih]
theorem valV_put (kvs:List (κ×V)) (k j:κ) (y:V):valV (putK kvs k y) j=if j=k then some y else valV kvs j:=by
 unfold putK
 by_cases a:(kvs.any λkv=>decide (kv.1=k))=true
 ·rw [if_pos a,valV_map]
  rw [valV_any] at a
  by_cases e:j=k
  ·obtain ⟨x,hx⟩:=Option.isSome_iff_exists.mp a
   rw [if_pos e,e,hx,Option.map_some,if_pos rfl]
  ·rw [if_neg e]
   cases valV kvs j with
   |none=>rfl
   |some x=>rw [Option.map_some,if_neg e]
 ·rw [if_neg a]
  refine valV_snoc k j y kvs ?_
  rw [valV_any] at a
  cases q:valV kvs k with
  |none=>rfl
  |some x=>rw [q] at a;exact (a rfl).elim
theorem length_putK (kvs:List (κ×V)) (k:κ) (v:V):(putK kvs k v).length<=kvs.length+1:=by
 unfold putK
 split
 ·rw [List.length_map];omega
 ·rw [List.length_append,List.length_cons,List.length_nil];omega
theorem RelO.isSome_eq {o:Option V} {u:Option Value} (r:RelO o u):o.isSome=u.isSome:=by
 cases o with
 |none=>cases u with
  |none=>rfl
  |some _=>exact (show False from r).elim
 |some _=>cases u with
  |none=>exact (show False from r).elim
  |some _=>rfl
theorem RelO.getD {o:Option V} {u:Option Value} {d:V} {d':Value} (r:RelO o u) (rd:RelV d d'):RelV (o.getD d) (u.getD d'):=by
 cases o with
 |none=>cases u with
  |none=>exact rd
  |some _=>exact (show False from r).elim
 |some _=>cases u with
  |none=>exact (show False from r).elim
  |some _=>exact r

theorem KV.val {kvs:List (κ×V)} {vs:List (κ×Value)} (r:KV kvs vs) (k:κ):RelO (valV kvs k) (valueAt vs k):=by
 unfold KV at r
 induction r with
 |nil=>exact True.intro
 |@cons p q ps qs h t ih =>
  obtain ⟨h1,h2⟩:=h
  by_cases e:p.1=k
  ·have e':q.1=k:=h1.symm.trans e
   have b:valueAt (q::qs) k=some q.2:=by simp [valueAt,List.find?_cons,e']
   rw [valV_pos e,b];exact h2
  ·have e':¬ q.1=k:=λz=>e (h1.trans z)
   have b:valueAt (q::qs) k=valueAt qs k:=by simp [valueAt,List.find?_cons,e']
   rw [valV_neg e,b];exact ih
theorem KV.any {kvs:List (κ×V)} {vs:List (κ×Value)} (r:KV kvs vs) (k:κ):(kvs.any λkv=>decide (kv.1=k))=vs.any λkv=>decide (kv.1=k):=by
 unfold KV at r
 induction r with
 |nil=>rfl
 |cons h t ih=>rw [List.any_cons,List.any_cons,ih,h.1]
theorem KV.repl {kvs:List (κ×V)} {vs:List (κ×Value)} (r:KV kvs vs) (k:κ) {y:V} {u:Value} (ry:RelV y u) :
  KV (kvs.map λkv=>if kv.1=k then (kv.1,y) else kv) (vs.map λkv=>if kv.1=k then (kv.1,u) else kv):=by
 unfold KV at r |-
 induction r with
 |nil=>exact .nil
 |@cons p q ps qs h t ih =>
  rw [List.map_cons,List.map_cons]
  refine .cons ?_ ih
  obtain ⟨h1,h2⟩:=h
  by_cases e:p.1=k
  ·rw [if_pos e,if_pos (h1.symm.trans e)];exact ⟨h1,ry⟩
  ·rw [if_neg e,if_neg (λz=>e (h1.trans z))];exact ⟨h1,h2⟩
theorem KV.put {kvs:List (κ×V)} {vs:List (κ×Value)} (r:KV kvs vs) (k:κ) {y:V} {u:Value} (ry:RelV y u):KV (putK kvs k y) (stored vs k u):=by
 unfold putK stored
 rw [r.any k]
 by_cases e:(vs.any λkv=>decide (kv.1=k))=true
 ·rw [if_pos e,if_pos e];exact r.repl k ry
 ·rw [if_neg e,if_neg e];exact Paired.snoc r ⟨rfl,ry⟩
theorem KV.drop {kvs:List (κ×V)} {vs:List (κ×Value)} (r:KV kvs vs) (k:κ):KV (dropK kvs k) (without vs k):=by
 unfold KV at r |-
 unfold dropK without
 induction r with
 |nil=>exact .nil
 |@cons p q ps qs h t ih =>
  obtain ⟨h1,h2⟩:=h
  rw [List.filter_cons,List.filter_cons]
  by_cases e:p.1=k
  ·have a:¬ decide (p.1≠k)=true:=by simp [e]
   have b:¬ decide (q.1≠k)=true:=by simp [h1.symm.trans e]
   rw [if_neg a,if_neg b];exact ih
  ·have e':¬ q.1=k:=λz=>e (h1.trans z)
   have a:decide (p.1≠k)=true:=by simp [e]
   have b:decide (q.1≠k)=true:=by simp [e']
   rw [if_pos a,if_pos b];exact .cons ⟨h1,h2⟩ ih
theorem KV.length {kvs:List (κ×V)} {vs:List (κ×Value)} (r:KV kvs vs):kvs.length=vs.length:=Paired.length r
theorem dropK_le (kvs:List (κ×V)) (k:κ):(dropK kvs k).length<=kvs.length:=List.length_filter_le _ _
end


theorem kV_is {P:Program} {w:World} {k:Key} {u:Value} (r:RelV (kV k) u):(mixKind P w).is k u=true:=by
 cases k with
 |inl i=>obtain ⟨t,e⟩:=(show ∃ t,u=Value.int i t from r);subst e;exact mixKind_int P w i t
 |inr x=>obtain ⟨t,e⟩:=(show ∃ t,u=Value.str x t from r);subst e;exact mixKind_str P w x t
theorem items_are {P:Program} {w:World}:∀ {ks:List Key} {us:List Value},Vals (ks.map kV) us->ItemsAre (mixKind P w) ks us
 |[],_,r=>by rw [List.map_nil] at r;cases r;exact .nil
 |k::ks,_,r=>by
  rw [List.map_cons] at r
  cases r with
  |cons h t=>exact .cons (kV_is h) (items_are t)

abbrev KT (H:Hp):List (List Key×V)->List (List Key×Addr×Value)->Prop:=Paired λp q=>p.1=q.1/\H q.2.1=some (.tup (p.1.map kV))/\RelV p.2 q.2.2
theorem KT.val {H:Hp} {kvs:List (List Key×V)} {xs:List (List Key×Addr×Value)} (r:KT H kvs xs) (k:List Key):RelO (valV kvs k) ((atKey xs k).map (·.2)):=by
 induction r with
 |nil=>exact True.intro
 |@cons p q ps qs h t ih =>
  obtain ⟨h1,_,h2⟩:=h
  by_cases e:p.1=k
  ·have e':q.1=k:=h1.symm.trans e
   have b:atKey (q::qs) k=some q.2:=by simp [atKey,List.find?_cons,e']
   rw [valV_pos e,b];exact h2
  ·have e':¬ q.1=k:=λz=>e (h1.trans z)
   have b:atKey (q::qs) k=atKey qs k:=by simp [atKey,List.find?_cons,e']
   rw [valV_neg e,b];exact ih
theorem KT.repl {H:Hp} {kvs:List (List Key×V)} {xs:List (List Key×Addr×Value)} (r:KT H kvs xs) (k:List Key) {y:V} {u:Value} (ry:RelV y u) :
  KT H (kvs.map λkv=>if kv.1=k then (kv.1,y) else kv) (xs.map (putAt k u)):=by
 induction r with
 |nil=>exact .nil
 |@cons p q ps qs h t ih =>
  rw [List.map_cons,List.map_cons]
  refine .cons ?_ ih
  obtain ⟨h1,h2,h3⟩:=h
  unfold putAt
  by_cases e:p.1=k
  ·rw [if_pos e,if_pos (h1.symm.trans e)];exact ⟨h1,h2,ry⟩
  ·rw [if_neg e,if_neg (λz=>e (h1.trans z))];exact ⟨h1,h2,h3⟩
theorem KT.put {H:Hp} {kvs:List (List Key×V)} {xs:List (List Key×Addr×Value)} (r:KT H kvs xs) (k:List Key) {b:Addr} {y:V} {u:Value} (hb:H b=some (.tup (k.map kV))) (ry:RelV y u) :
  KT H (putK kvs k y) (storedH xs k b u):=by
 have e:(kvs.any λkv=>decide (kv.1=k))=(atKey xs k).isSome:=by
  rw [valV_any,(r.val k).isSome_eq,Option.isSome_map]
 unfold putK storedH
 rw [e]
 by_cases q:(atKey xs k).isSome=true
 ·rw [if_pos q,if_pos q];exact r.repl k ry
 ·rw [if_neg q,if_neg q];exact Paired.snoc r ⟨rfl,hb,ry⟩
theorem KT.keeps {H H':Hp} {kvs:List (List Key×V)} {xs:List (List Key×Addr×Value)} (r:KT H kvs xs) (ht:∀ b ys,H b=some (.tup ys)->H' b=some (.tup ys)):KT H' kvs xs :=
 Paired.mapP r λ_ _ z=>⟨z.1,ht _ _ z.2.1,z.2.2⟩

section
variable {P:Program} {w:World} {H:Hp} {h:Heap} {a:Addr}
theorem rd_of {u:HO} (ok:HOk P w H h) (e:Rd H a u):ObjOk P w H h a u:=e.ok ok
theorem dk_rd {kvs:List (Key×V)} (ok:HOk P w H h) (e:Rd H a (.dK kvs)):kvs.length<=sizeLine/\(a == sysModules)=false/\∃ vs,KV kvs vs/\h.DictOf (mixKind P w) a vs :=
 show ObjOk P w H h a (.dK kvs) from rd_of ok e
theorem dk_of {kvs:List (Key×V)} (ok:HOk P w H h) (e:H a=some (.dK kvs)):kvs.length<=sizeLine/\(a == sysModules)=false/\∃ vs,KV kvs vs/\h.DictOf (mixKind P w) a vs:=dk_rd ok (.inl e)
theorem key_of {ks:List Key} (ok:HOk P w H h) (e:H a=some (.tup (ks.map kV))):(tupleKind (mixKind P w)).is h ks a:=by
 obtain ⟨_,its,r,o,h1,h2,n,h3⟩:=(show ObjOk P w H h a (.tup (ks.map kV)) from ok a _ e)
 exact ⟨o,its.toArray,n,h1,h2,h3,by simpa using items_are r⟩
theorem dt_rd {kvs:List (List Key×V)} (ok:HOk P w H h) (e:Rd H a (.dT kvs)):kvs.length<=sizeLine/\(a == sysModules)=false /\
  ∃ xs,KT H kvs xs/\h.DictOfH (tupleKind (mixKind P w)) a xs:=by
 obtain ⟨z,y,xs,r,o,es,ep,h1,h2,h3,h4,h5⟩:=(show ObjOk P w H h a (.dT kvs) from rd_of ok e)
 refine ⟨z,y,xs,r,o,es,ep,h1,h2,h3,h4,λx hx=>?_,h5⟩
 have all:∀ {l:List (List Key×V)} {m:List (List Key×Addr×Value)},KT H l m->∀ x∈m,(tupleKind (mixKind P w)).is h x.1 x.2.1:=by
  intro l m q
  induction q with
  |nil=>intro x hx;exact nomatch hx
  |@cons p q ps qs hq t ih =>
   intro x hx
   rcases List.mem_cons.mp hx with e | hx
   ·subst e
    exact key_of ok (by rw [<- hq.1];exact hq.2.1)
   ·exact ih x hx
 exact all r x hx
theorem dt_of {kvs:List (List Key×V)} (ok:HOk P w H h) (e:H a=some (.dT kvs)):kvs.length<=sizeLine/\(a == sysModules)=false /\
  ∃ xs,KT H kvs xs/\h.DictOfH (tupleKind (mixKind P w)) a xs:=dt_rd ok (.inl e)
end

def DGet (H:Hp) (a:Addr) (y:V) (r:Option V):Prop :=
 (∃ kvs k,Rd H a (.dK kvs)/\y=kV k/\r=valV kvs k)\/∃ kvs k b,Rd H a (.dT kvs)/\y=.ref b/\H b=some (.tup (k.map kV))/\r=valV kvs k
def DPut (H:Hp) (a:Addr) (y v:V) (H':Hp):Prop :=
 (∃ kvs k,H a=some (.dK kvs)/\y=kV k/\kvs.length<sizeLine/\H'=upd H a (.dK (putK kvs k v))) \/
 ∃ kvs k b,H a=some (.dT kvs)/\y=.ref b/\H b=some (.tup (k.map kV))/\kvs.length<sizeLine/\H'=upd H a (.dT (putK kvs k v))
theorem DGet.k {H:Hp} {a:Addr} {kvs:List (Key×V)} {k:Key} (e:H a=some (.dK kvs)):DGet H a (kV k) (valV kvs k):=.inl ⟨kvs,k,.inl e,rfl,rfl⟩
theorem DPut.k {H:Hp} {a:Addr} {kvs:List (Key×V)} {k:Key} {v:V} (e:H a=some (.dK kvs)) (hl:kvs.length<sizeLine):DPut H a (kV k) v (upd H a (.dK (putK kvs k v))):=.inl ⟨kvs,k,e,rfl,hl,rfl⟩
section
variable {X:Cx} {pins:List (Addr×Obj)} {σ:St} {H:Hp} {s:Shared} {a:Addr} {y v:V} {u r:Value} {o:Option V} {A:Around} {E:Value->Shared->Prop}

theorem Inv.big (I:Inv X pins σ H s):sysModules<s.heap.objs.size:=by
 have h:mainGlobals<s.heap.objs.size:=(I.mod.glob.keeps I.bk).lt
 exact Nat.lt_trans (by decide) h

theorem d_getItem {Q:Value->Shared->Prop} (hu:A.units+1<cLine) (I:Inv X pins σ H s) (g:DGet H a y (some v)) (ry:RelV y u) (h:∀ w' s',Inv X pins σ H s'->RelV v w'->Q w' s') :
  wpAny (model X.prog X.w) A (getItem (.ref a) u) Q E s:=by
 rcases g with ⟨kvs,k,e,ey,l⟩ | ⟨kvs,k,b,e,ey,eb,l⟩
 ·subst ey
  obtain ⟨z,hd,vs,rel,dd⟩:=dk_rd I.hok e
  obtain ⟨w',hw,rw'⟩:=RelO.some_of (v:=v) (o:=valueAt vs k) (by rw [l];exact rel.val k)
  exact wpAny_getItem_of (kV_is ry) dd.mapOf hw (h w' _ (I.tok _) rw')
 ·subst ey
  cases (show u=Value.ref b from ry)
  obtain ⟨z,hd,xs,rel,dd⟩:=dt_rd I.hok e
  obtain ⟨w',hw,rw'⟩:=RelO.some_of (v:=v) (o:=(atKey xs k).map (·.2)) (by rw [l];exact rel.val k)
  obtain ⟨p,hp,hp2⟩:=Option.map_eq_some_iff.mp hw
  refine wpAny_getItem_heap (tupleKind_room_in1 hu) (key_of I.hok eb) dd hp ?_
  rw [hp2]
  exact h w' _ (I.tok _) rw'
theorem d_in {Q:Value->Shared->Prop} (hu:A.units+1<cLine) (I:Inv X pins σ H s) (g:DGet H a y o) (ry:RelV y u) (h:∀ s',Inv X pins σ H s'->Q (.bool o.isSome) s') :
  wpAny (model X.prog X.w) A (compareOp .In u (.ref a)) Q E s:=by
 rcases g with ⟨kvs,k,e,ey,l⟩ | ⟨kvs,k,b,e,ey,eb,l⟩
 ·subst ey
  obtain ⟨z,hd,vs,rel,dd⟩:=dk_rd I.hok e
  refine wpAny_in_of (kV_is ry) hd dd.mapOf ?_
  rw [<- (rel.val k).isSome_eq,<- l]
  exact h _ (I.tok _)
 ·subst ey
  cases (show u=Value.ref b from ry)
  obtain ⟨z,hd,xs,rel,dd⟩:=dt_rd I.hok e
  refine wpAny_in_heap (tupleKind_room_in1 hu) (key_of I.hok eb) hd dd ?_
  have q:=(rel.val k).isSome_eq
  rw [Option.isSome_map] at q
  rw [<- q,<- l]
  exact h _ (I.tok _)
theorem d_write {h':Heap} {t':Nat} {ob:HO} (I:Inv X pins σ H s) (mu:Mut (H a)) (hs:Heap.SameBut a s.heap h') (he:∃ q,h'.get? a=some q) (new:ObjOk X.prog X.w (upd H a ob) h' a ob) :
  Inv X pins σ (upd H a ob) { s with heap:=h',toks:=t' } :=
 I.write (x:=a) (e:=a) mu (.inl rfl) (λb q hb z=>(hs.2 b hb).trans z) he new
theorem dk_new {P:Program} {w:World} {H':Hp} {h':Heap} {kvs:List (Key×V)} {vs:List (Key×Value)} (z:kvs.length<=sizeLine) (hd:(a == sysModules)=false) (rel:KV kvs vs) (dd:h'.DictOf (mixKind P w) a vs) :
  ObjOk P w H' h' a (.dK kvs):=⟨z,hd,vs,rel,dd⟩
theorem d_setItem {H':Hp} {Q:Unit->Shared->Prop} (hu:A.units+1<cLine) (I:Inv X pins σ H s) (g:DPut H a y v H') (ry:RelV y u) (rv:RelV v r) (h:∀ s',Inv X pins σ H' s'->Q () s') :
  wpAny (model X.prog X.w) A (setItem (.ref a) u r) Q E s:=by
 rcases g with ⟨kvs,k,e,ey,l,eH⟩ | ⟨kvs,k,b,e,ey,eb,l,eH⟩
 ·subst ey eH
  obtain ⟨z,hd,vs,rel,dd⟩:=dk_of I.hok e
  have hz:vs.length<=sizeLine:=by rw [<- rel.length];exact z
  have hl:(putK kvs k v).length<=sizeLine:=by have:=length_putK kvs k v;omega
  refine wpAny_setItem_pairs (hsz:=hz) (kV_is ry) dd λh' dd' hs=>h _ ?_
  have he:∃ q,h'.get? a=some q:=let ⟨q,_,_,hq,_⟩:=dd';⟨q,hq⟩
  exact d_write I (by rw [e];exact True.intro) hs he (dk_new hl hd (rel.put k rv) dd')
 ·subst ey eH
  cases (show u=Value.ref b from ry)
  obtain ⟨z,hd,xs,rel,dd⟩:=dt_of I.hok e
  have hz:xs.length<=sizeLine:=by rw [<- Paired.length rel];exact z
  have hl:(putK kvs k v).length<=sizeLine:=by have:=length_putK kvs k v;omega
  refine wpAny_setItem_heap (hsz:=hz) (tupleKind_room_in1 hu) (key_of I.hok eb) dd λh' dd' hs=>h _ ?_
  obtain ⟨q,es,ep,hq,h2,h3,h4,_,h5⟩:=dd'
  refine d_write I (by rw [e];exact True.intro) hs ⟨q,hq⟩ ⟨hl,hd,_,(rel.put k eb rv).keeps λc ys ec=>?_,q,es,ep,hq,h2,h3,h4,h5⟩
  rw [upd_ne (ne_of ec e (λz=>nomatch z))]
  exact ec
end

section
variable {X:Cx} {pins:List (Addr×Obj)} {σ:St} {H:Hp} {s:Shared} {a:Addr} {kvs:List (Key×V)} {k:Key} {u:Value} {A:Around} {E:Value->Shared->Prop}
theorem d_pop {v:V} {more:List Value} {Q:Value->Shared->Prop} (I:Inv X pins σ H s) (e:H a=some (.dK kvs)) (ry:RelV (kV k) u) (l:valV kvs k=some v) (hm:more=[]\/∃ x,more=[x])
  (h:∀ w' s',Inv X pins σ (upd H a (.dK (dropK kvs k))) s'->RelV v w'->Q w' s'):wpAny (model X.prog X.w) A (call (.builtin "dict.pop") (.ref a::u::more)) Q E s:=by
 obtain ⟨z,hd,vs,rel,dd⟩:=dk_of I.hok e
 obtain ⟨w',hw,rw'⟩:=RelO.some_of (v:=v) (o:=valueAt vs k) (by rw [<- l];exact rel.val k)
 have hp:(keyPart u).isSome=true:=by
  cases k with
  |inl i=>obtain ⟨t,q⟩:=(show ∃ t,u=Value.int i t from ry);subst q;rfl
  |inr x=>obtain ⟨t,q⟩:=(show ∃ t,u=Value.str x t from ry);subst q;rfl
 have ha:argsOk "dict.pop" ⟨.ref a::u::more,[]⟩:=by
  rcases hm with q | ⟨x,q⟩
  ·subst q;exact PySem.F.args_dict_pop_2 _ _
  ·subst q;exact PySem.F.args_dict_pop_3 _ _ _
 refine call_meetsIn PySem.F.slot_dict_pop dd.typeIs PySem.F.entry_dict_pop ha (meets_dict_pop_there (mixKind X.prog X.w) a (kV_is ry) more hm hp)
  ⟨vs,w',dd,by rw [<- rel.length];exact z,hw,λh' dd' hs=>h w' _ ?_ rw'⟩
 have he:∃ q,h'.get? a=some q:=let ⟨q,_,_,hq,_⟩:=dd';⟨q,hq⟩
 exact d_write I (by rw [e];exact True.intro) hs he (dk_new (Nat.le_trans (dropK_le kvs k) z) hd (rel.drop k) dd')
end


def NoSl (i:Expr):Prop:=∀ ov iv,subscripted i false ov iv=operate [ov,iv] (getItem ov iv)
theorem subD_of {prog:Program} {w:World} {A:Around} {E:Value->Shared->Prop} {s:Shared} {env:Env} {value slice:Expr} {pos:Pos} {T id:String} {Q:Value->Shared->Prop}
  (hl:typeLookup (.type T) "__getitem__"=pure (some (.builtin id))) (hs:NoSl slice)
  (h:wpAny (model prog w) A (eval value env) (λo s₁=>wpAny (model prog w) A (eval slice env) (λi s₂=>s₂.TypeIs o T/\wpAny (model prog w) A (getItem o i) Q E s₂) E s₁) E s) :
  wpAny (model prog w) A (eval (.Subscript value slice pos) env) Q E s:=by
 refine Subscript_ (wpAny_mono h (λo s₁ h₁=>wpAny_mono h₁ (λi s₂ h₂=>?_) λ_ _ x=>x) λ_ _ x=>x)
 obtain ⟨hT,h₂⟩:=h₂
 unfold subscriptTail
 refine wpAny_bind ?_
 rw [getitemInPython_of_ne hT.not_modules]
 refine wpAny_bind (wpAny_specialOf hT hl ?_)
 have fin:wpAny (model prog w) A (subscripted slice false o i) (λr s₃=>wpAny (model prog w) A (letTemporaryGo value o r >>= λ_=>pure r) Q E s₃) E s₂:=by
  rw [hs o i]
  exact wpAny_operating (wpAny_mono h₂ (λr s₃ h₃=>wpAny_bind (wpAny_letTemporaryGo (wpAny_pure h₃))) λ_ _ x=>x)
 first
  |exact wpAny_pure (wpAny_bind fin)
  |exact wpAny_bind (wpAny_pure (wpAny_bind fin))
  |exact wpAny_bind fin

theorem dict_typeIs {X:Cx} {pins:List (Addr×Obj)} {σ:St} {H:Hp} {s:Shared} {a:Addr} {y:V} {o:Option V} (I:Inv X pins σ H s) (g:DGet H a y o):s.TypeIs (.ref a) "dict":=by
 rcases g with ⟨kvs,k,e,_,_⟩ | ⟨kvs,k,b,e,_,_,_⟩
 ·obtain ⟨_,_,vs,_,dd⟩:=dk_rd I.hok e
  exact dd.typeIs
 ·obtain ⟨_,_,xs,_,dd⟩:=dt_rd I.hok e
  exact dd.typeIs
def tDGet (td ty:TE):TE:=λσ H Q=>td σ H λx H1=>ty σ H1 λy H2=>∃ a v,x=.ref a/\DGet H2 a y (some v)/\Q v H2
def tDIn (ty td:TE):TE:=λσ H Q=>ty σ H λy H1=>td σ H1 λx H2=>∃ a o,x=.ref a/\DGet H2 a y o/\Q (.bl o.isSome) H2
def tDNotIn (ty td:TE):TE:=λσ H Q=>ty σ H λy H1=>td σ H1 λx H2=>∃ a o,x=.ref a/\DGet H2 a y o/\Q (.bl (!o.isSome)) H2
def sDPut (td ty tv:TE):TS:=λD σ H=>tv σ H λv H1=>td σ H1 λx H2=>ty σ H2 λy H3=>∃ a H4,x=.ref a/\DPut H3 a y v H4/\D.nx σ H4
section
variable {X:Cx} {o i e value:Expr} {pos pos' tpos:Pos} {td ty tv:TE}
theorem pe_dget (hu:X.A.units+1<cLine) (ho:PE X o td) (hi:PE X i ty) (hs:NoSl i):PE X (.Subscript o i pos) (tDGet td ty):=by
 intro pins s σ H Q I h
 refine subD_of PySem.F.slot_dict_getitem.lookup hs (thn (ho pins s σ H _ I h) λu s1 ⟨x,H1,I1,rx,q1⟩=>thn (hi pins s1 σ H1 _ I1 q1) λiv s2 ⟨y,H2,I2,ry,a,v,ex,g,q2⟩=>?_)
 subst ex
 obtain rfl:u=Value.ref a:=rx
 exact ⟨dict_typeIs I2 g,d_getItem hu I2 g ry λw' s3 I3 rw'=>⟨v,H2,I3,rw',q2⟩⟩
theorem ps_dput (hu:X.A.units+1<cLine) (ho:PE X o td) (hi:PE X i ty) (hv:PE X value tv) (hs:swapsWith value (some (.Subscript o i pos')) pos.line X.env=pure false) :
  PS X (.Assign [.Subscript o i pos'] value pos) (sDPut td ty tv):=by
 intro pins s σ H D I h
 refine wpAny_Assign_Subscript (thn (hv pins s σ H _ I h) λr s1 ⟨v,H1,I1,rv,q1⟩=>thn (ho pins s1 σ H1 _ I1 q1) λu s2 ⟨x,H2,I2,rx,q2⟩=>thn (hi pins s2 σ H2 _ I2 q2) λiv s3 ⟨y,H3,I3,ry,a,H4,ex,g,q3⟩=>?_) hs
 subst ex
 obtain rfl:u=Value.ref a:=rx
 exact d_setItem hu I3 g ry rv λs4 I4=>⟨σ,H4,I4,q3⟩
end


theorem dk_empty {P:Program} {w:World} {H:Hp} (h:Heap) (hb:sysModules<h.objs.size):ObjOk P w H (h.push { cls:=.type "dict",data:=.dict #[] }) h.objs.size (.dK []) :=
 ⟨Nat.zero_le _,beq_eq_false_iff_ne.mpr (Ne.symm (Nat.ne_of_lt hb)),[],.nil,Heap.DictOf.new h⟩
def tDNewK:TE:=λ_ H Q=>∀ p,H p=none->Q (.ref p) (upd H p (.dK []))
section
variable {X:Cx} {pos:Pos}
theorem pe_dnewK:PE X (.Dict [] [] pos) tDNewK:=λpins s σ H Q I h =>
 wpAny_Dict_empty ⟨.ref s.heap.objs.size,_,I.laid (a:=s.heap.objs.size) (o:=.dK []) (t':=s.toks) (λ_ _ q=>Heap.get?_push_of_some _ q) (Nat.le_refl _) (dk_empty s.heap I.big),rfl,h _ (I.hok.fresh (Nat.le_refl _))⟩
end

def tPairs:List (TE×TE)->St->Hp->(List (V×V)->Hp->Prop)->Prop
 |[],_,H,Q=>Q [] H
 | (tk,tv)::r,σ,H,Q=>tk σ H λx H1=>tv σ H1 λy H2=>tPairs r σ H2 λps H3=>Q ((x,y)::ps) H3
abbrev VV:List (V×V)->List (Value×Value)->Prop:=Paired λp q=>RelV p.1 q.1/\RelV p.2 q.2
def PPs (X:Cx) (pos:Pos) (keys:List (Option Expr)) (values:List Expr) (trs:List (TE×TE)):Prop :=
 ∀ (pins:List (Addr×Obj)) (s:Shared) (σ:St) (H:Hp) (Q:List (V×V)->Hp->Prop),Inv X pins σ H s->tPairs trs σ H Q ->
  wpAny (model X.prog X.w) X.A (evalPairs (pairTrees keys values X.env pos)) (λvs s'=>∃ ps H',Inv X pins σ H' s'/\VV ps vs/\Q ps H') X.xe s
theorem pps_nil {X:Cx} {pos:Pos}:PPs X pos [] [] []:=λpins s σ H Q I h=>pairTrees_nil_walk ⟨[],H,I,.nil,h⟩
theorem pps_cons {X:Cx} {pos:Pos} {k v:Expr} {ks:List (Option Expr)} {vs:List Expr} {tk tv:TE} {trs:List (TE×TE)} (hk:PE X k tk) (hv:PE X v tv) (hr:PPs X pos ks vs trs) :
  PPs X pos (some k::ks) (v::vs) ((tk,tv)::trs):=λpins s σ H Q I h =>
 pairTrees_cons_walk (thn (hk pins s σ H _ I h) λu s1 ⟨x,H1,I1,rx,q1⟩=>thn (hv pins s1 σ H1 _ I1 q1) λw2 s2 ⟨y,H2,I2,ry,q2⟩ =>
  thn (hr pins s2 σ H2 _ I2 q2) λws s3 ⟨ps,H3,I3,rel,q3⟩=>⟨(x,y)::ps,H3,I3,.cons ⟨rx,ry⟩ rel,q3⟩)

def mergeK (kvs more:List (Key×V)):List (Key×V):=more.foldl (λacc kv=>putK acc kv.1 kv.2) kvs
theorem KV.merge:∀ {more:List (Key×V)} {rs:List (Key×Value)} {kvs:List (Key×V)} {vs:List (Key×Value)},KV more rs->KV kvs vs->KV (mergeK kvs more) (merged vs rs):=by
 intro more rs kvs vs r
 unfold KV at r
 induction r generalizing kvs vs with
 |nil=>intro q;exact q
 |@cons p q ps qs h t ih =>
  intro r0
  have e:KV (putK kvs p.1 p.2) (stored vs q.1 q.2):=by
   have:=r0.put p.1 h.2
   rw [<- h.1];exact this
  exact ih e
theorem length_mergeK:∀ (more kvs:List (Key×V)),(mergeK kvs more).length<=kvs.length+more.length
 |[],kvs=>by show kvs.length<=kvs.length+0;omega
 |p::r,kvs=>by
  have h1:=length_mergeK r (putK kvs p.1 p.2)
  have h2:=length_putK kvs p.1 p.2
  show (mergeK (putK kvs p.1 p.2) r).length<=_
  rw [List.length_cons];omega
theorem carries_of {P:Program} {w:World}:∀ {kvs:List (Key×V)} {ws:List (Value×Value)},VV (kvs.map λkv=>(kV kv.1,kv.2)) ws->∃ rs,Carries (mixKind P w) ws rs/\KV kvs rs
 |[],_,r=>by rw [List.map_nil] at r;cases r;exact ⟨[],True.intro,.nil⟩
 |p::kvs,_,r=>by
  rw [List.map_cons] at r
  cases r with
  |@cons a b as bs h t =>
   obtain ⟨rs,c,q⟩:=carries_of (P:=P) (w:=w) t
   obtain ⟨b1,b2⟩:=b
   exact ⟨(p.1,b2)::rs,⟨kV_is h.1,rfl,c⟩,.cons ⟨rfl,h.2⟩ q⟩
def tDisp (trs:List (TE×TE)):TE:=λσ H Q=>∀ p,H p=none->tPairs trs σ (upd H p (.dK [])) λps H2=>H2 p=some (.dK [])/\∃ kvs:List (Key×V),ps=kvs.map (λkv=>(kV kv.1,kv.2))/\kvs.length<=15/\Q (.ref p) (upd H2 p (.dK (mergeK [] kvs)))
theorem pe_disp {X:Cx} {pos:Pos} {keys:List (Option Expr)} {values:List Expr} {trs:List (TE×TE)} (h:PPs X pos keys values trs) (hall:keys.all (·.isSome)=true) (hl:keys.length=values.length) (h0:keys≠[])
  (h15:keys.length<=15):PE X (.Dict keys values pos) (tDisp trs):=by
 intro pins s σ H Q I q
 have hn:=I.hok.fresh (Nat.le_refl s.heap.objs.size)
 have I1:=I.laid (a:=s.heap.objs.size) (o:=.dK []) (h':=s.heap.push { cls:=.type "dict",data:=.dict #[] }) (t':=s.toks) (λ_ _ q=>Heap.get?_push_of_some _ q) (Nat.le_refl _) (dk_empty s.heap I.big)
 refine wpAny_Dict_walk (knd:=mixKind X.prog X.w) hall hl h0 h15 (thn (h pins _ σ _ _ I1 (q _ hn)) λws s2 ⟨ps,H2,I2,rel,e,kvs,ep,lk,q2⟩=>?_)
 subst ep
 obtain ⟨rs,c,rk⟩:=carries_of (P:=X.prog) (w:=X.w) rel
 obtain ⟨z,hd,vs0,r0,dd⟩:=dk_of I2.hok e
 cases r0
 refine ⟨rs,c,dd,λh' dd' hs=>⟨.ref s.heap.objs.size,_,?_,rfl,q2⟩⟩
 have hz:(mergeK [] kvs).length<=sizeLine:=by
  have h1:=length_mergeK kvs []
  rw [List.length_nil] at h1
  rw [sizeLine_eq];omega
 have he:∃ q,h'.get? s.heap.objs.size=some q:=let ⟨q,_,_,hq,_⟩:=dd';⟨q,hq⟩
 exact d_write I2 (by rw [e];exact True.intro) hs he (dk_new hz hd (rk.merge .nil) dd')


structure M1 (X:Cx) (o:Expr) (m:Str) (apos:Pos) (e:Expr) (cpos:Pos):Prop where
 base:attributeBase o m X.env (eval o X.env)=eval o X.env
 few:((backTo cpos (starEach [e] X.env)).all (λx=>!x.1)&&(backToKw cpos (keywordEach [] X.env)).all (λx=>x.1.isSome)
  && decide (([e]:List Expr).length+([]:List Keyword).length+(if ([]:List Keyword).isEmpty then 0 else 1)<30))=true
 line:(apos.endLine == cpos.line)=true
 trees:backTo cpos (starEach [e] X.env)=[(false,eval e X.env)]
structure M2 (X:Cx) (o:Expr) (m:Str) (apos:Pos) (e f:Expr) (cpos:Pos):Prop where
 base:attributeBase o m X.env (eval o X.env)=eval o X.env
 few:((backTo cpos (starEach [e,f] X.env)).all (λx=>!x.1)&&(backToKw cpos (keywordEach [] X.env)).all (λx=>x.1.isSome)
  && decide (([e,f]:List Expr).length+([]:List Keyword).length+(if ([]:List Keyword).isEmpty then 0 else 1)<30))=true
 line:(apos.endLine == cpos.line)=true
 trees:backTo cpos (starEach [e,f] X.env)=[(false,eval e X.env),(false,eval f X.env)]

def IsD (H:Hp) (a:Addr):Prop:=(∃ kvs,Rd H a (.dK kvs))\/∃ kvs,Rd H a (.dT kvs)
theorem isD_at {X:Cx} {pins:List (Addr×Obj)} {σ:St} {H:Hp} {s:Shared} {a:Addr} (I:Inv X pins σ H s) (d:IsD H a) :
  s.TypeIs (.ref a) "dict"/\(∀ b,Value.ref a=.ref b->∃ ob,s.heap.get? b=some ob/\ob.dict=none)/\(a == sysModules)=false:=by
 rcases d with ⟨kvs,e⟩ | ⟨kvs,e⟩
 ·obtain ⟨_,hd,vs,_,dd⟩:=dk_rd I.hok e
  refine ⟨dd.typeIs,λb q=>?_,hd⟩
  cases q
  obtain ⟨ob,_,_,h1,h2,_⟩:=dd
  exact ⟨ob,h1,h2.2.1⟩
 ·obtain ⟨_,hd,xs,_,dd⟩:=dt_rd I.hok e
  refine ⟨dd.typeIs,λb q=>?_,hd⟩
  cases q
  obtain ⟨ob,_,_,h1,h2,_⟩:=dd
  exact ⟨ob,h1,h2.2.1⟩

section
variable {X:Cx} {pins:List (Addr×Obj)} {σ:St} {H:Hp} {s:Shared} {a:Addr} {y d:V} {u r:Value} {o:Option V} {A:Around} {E:Value->Shared->Prop}
theorem d_get2 {Q:Value->Shared->Prop} (hu:A.units+1<cLine) (I:Inv X pins σ H s) (g:DGet H a y o) (ry:RelV y u) (rd:RelV d r) (h:∀ w' s',Inv X pins σ H s'->RelV (o.getD d) w'->Q w' s') :
  wpAny (model X.prog X.w) A (call (.builtin "dict.get") [.ref a,u,r]) Q E s:=by
 rcases g with ⟨kvs,k,e,ey,l⟩ | ⟨kvs,k,b,e,ey,eb,l⟩
 ·subst ey
  obtain ⟨z,hd,vs,rel,dd⟩:=dk_rd I.hok e
  refine call_meetsIn PySem.F.slot_dict_get dd.typeIs PySem.F.entry_dict_get (PySem.F.args_dict_get_3 _ _ _) (meets_dict_get_default (mixKind X.prog X.w) a (kV_is ry) hd r) ⟨_,dd.mapOf,h _ _ (I.tok _) ?_⟩
  rw [l]
  exact (rel.val k).getD rd
 ·subst ey
  cases (show u=Value.ref b from ry)
  obtain ⟨z,hd,xs,rel,dd⟩:=dt_rd I.hok e
  refine call_meetsIn PySem.F.slot_dict_get dd.typeIs PySem.F.entry_dict_get (PySem.F.args_dict_get_3 _ _ _) (meetsH_dict_get_default (tupleKind (mixKind X.prog X.w)) a b hd r) ⟨tupleKind_room_in1 hu,k,xs,key_of I.hok eb,dd,h _ _ (I.tok _) ?_⟩
  rw [l]
  exact (rel.val k).getD rd
end

def tDGet2 (td ty tx:TE):TE:=λσ H Q=>td σ H λx H1=>∃ a,x=.ref a/\IsD H1 a/\ty σ H1 λy H2=>tx σ H2 λz H3=>∃ o,DGet H3 a y o/\Q (o.getD z) H3
def tDPop1 (td ty:TE):TE:=λσ H Q=>td σ H λx H1=>∃ a,x=.ref a/\IsD H1 a/\ty σ H1 λy H2=>∃ kvs k v,H2 a=some (.dK kvs)/\y=kV k/\valV kvs k=some v/\Q v (upd H2 a (.dK (dropK kvs k)))
section
variable {X:Cx} {o e f:Expr} {apos cpos:Pos} {td ty tx:TE}
theorem pe_dget2 (hu:X.A.units+1<cLine) (ho:PE X o td) (he:PE X e ty) (hf:PE X f tx) (m:M2 X o "get" apos e f cpos):PE X (.Call (.Attribute o "get" apos) [e,f] [] cpos) (tDGet2 td ty tx):=by
 intro pins s σ H Q I h
 refine wpAny_Call_method m.base m.few m.line PySem.F.plainAttrs_dict PySem.F.slot_dict_get PySem.F.type_dict_get (thn (ho pins s σ H _ I h) λu s1 ⟨x,H1,I1,rx,a,ex,d,q1⟩=>?_)
 subst ex
 obtain rfl:u=Value.ref a:=rx
 obtain ⟨t1,t2,_⟩:=isD_at I1 d
 refine ⟨t1,t2,?_⟩
 rw [m.trees]
 refine Calls.callWith_builtin rfl (Calls.evalArgs_plain (Calls.spliced_cons (thn (he pins s1 σ H1 _ I1 q1) λiv s2 ⟨y,H2,I2,ry,q2⟩ =>
  Calls.spliced_cons (thn (hf pins s2 σ H2 _ I2 q2) λfv s3 ⟨z,H3,I3,rz,ov,g,q3⟩=>Calls.spliced_nil ?_))))
 exact d_get2 hu I3 g ry rz λw' s4 I4 rw'=>⟨_,H3,I4,rw',q3⟩
theorem pe_dpop1 (ho:PE X o td) (he:PE X e ty) (m:M1 X o "pop" apos e cpos):PE X (.Call (.Attribute o "pop" apos) [e] [] cpos) (tDPop1 td ty):=by
 intro pins s σ H Q I h
 refine wpAny_Call_method m.base m.few m.line PySem.F.plainAttrs_dict PySem.F.slot_dict_pop PySem.F.type_dict_pop (thn (ho pins s σ H _ I h) λu s1 ⟨x,H1,I1,rx,a,ex,d,q1⟩=>?_)
 subst ex
 obtain rfl:u=Value.ref a:=rx
 obtain ⟨t1,t2,_⟩:=isD_at I1 d
 refine ⟨t1,t2,?_⟩
 rw [m.trees]
 refine Calls.callWith_builtin rfl (Calls.evalArgs_plain (Calls.spliced_cons (thn (he pins s1 σ H1 _ I1 q1) λiv s2 ⟨y,H2,I2,ry,kvs,k,v,ea,ey,l,q2⟩=>Calls.spliced_nil ?_)))
 subst ey
 exact d_pop I2 ea ry l (.inl rfl) λw' s3 I3 rw'=>⟨v,_,I3,rw',q2⟩
end

section
variable {X:Cx} {pins:List (Addr×Obj)} {σ:St} {H:Hp} {s:Shared} {a:Addr} {kvs:List (Key×V)} {A:Around} {E:Value->Shared->Prop}
end


section
variable {X:Cx} {pins:List (Addr×Obj)} {σ:St} {H:Hp} {s:Shared} {a:Addr} {y:V} {u:Value} {A:Around} {E:Value->Shared->Prop}
end
end L2
namespace L2
open PySem PySem.Spec PyProof.Rows
section
variable {X:Cx}
end
section
variable {κ:Type} [DecidableEq κ]
theorem valV_not {kvs:List (κ×V)} {k:κ} (h:valV kvs k=none):¬ k∈kvs.map (·.1):=by
 intro m
 obtain ⟨p,hp,e⟩:=List.mem_map.mp m
 have q:(kvs.any λkv=>decide (kv.1=k))=true:=List.any_eq_true.mpr ⟨p,hp,decide_eq_true e⟩
 rw [valV_any,h] at q
 exact absurd q (by simp)
end
end L2

set_option maxHeartbeats 4000000
namespace L2
open PySem PySem.Spec PyProof.Rows

theorem noE {α:Type} {M:Model} {A:Around} {t:Sem α} {Q:α->Shared->Prop} {E:Value->Shared->Prop} {s:Shared} (h:wpAny M A t Q (λ_ _=>False) s):wpAny M A t Q E s :=
 wpAny_mono h (λ_ _ q=>q) λ_ _ f=>f.elim

def closL (cells:List (Str×Addr)):List (Str×NameKind)->List (Str×Addr)->List (Str×Addr)
 |[],acc=>acc
 | (n,k)::r,acc=>closL cells r (if (k == NameKind.free)=true then (n,(cells.lookup n).getD 0)::acc else acc)
theorem closL_sub {cells:List (Str×Addr)} {y:Str} {c:Addr}:∀ (names:List (Str×NameKind)) (acc:List (Str×Addr)),
  (closL cells names acc).lookup y=some c->acc.lookup y=some c\/((y,NameKind.free)∈names/\c=(cells.lookup y).getD 0)
 |[],acc,h=>.inl h
 | (n,k)::r,acc,h=>by
  rcases closL_sub r _ h with h1 | ⟨h1,h2⟩
  ·by_cases hk:(k == NameKind.free)=true
   ·rw [if_pos hk,List.lookup_cons] at h1
    by_cases e:(y == n)=true
    ·rw [e] at h1
     have e1:y=n:=by simpa using e
     have e2:k=NameKind.free:=by simpa using hk
     subst e1 e2
     exact .inr ⟨List.mem_cons_self,(Option.some.inj h1).symm⟩
    ·have e1:(y == n)=false:=by simpa using e
     rw [e1] at h1
     exact .inl h1
   ·rw [if_neg hk] at h1
    exact .inl h1
  ·exact .inr ⟨List.mem_cons_of_mem _ h1,h2⟩
theorem closL_keeps {cells:List (Str×Addr)} {y:Str}:∀ (names:List (Str×NameKind)) (acc:List (Str×Addr)),(∃ c,acc.lookup y=some c)->∃ c,(closL cells names acc).lookup y=some c
 |[],_,h=>h
 | (n,k)::r,acc,h=>by
  refine closL_keeps r _ ?_
  by_cases hk:(k == NameKind.free)=true
  ·rw [if_pos hk,List.lookup_cons]
   by_cases e:(y == n)=true
   ·rw [e];exact ⟨_,rfl⟩
   ·have e1:(y == n)=false:=by simpa using e
    rw [e1];exact h
  ·rw [if_neg hk];exact h
theorem closL_has {cells:List (Str×Addr)} {y:Str}:∀ (names:List (Str×NameKind)) (acc:List (Str×Addr)),(y,NameKind.free)∈names->∃ c,(closL cells names acc).lookup y=some c
 |[],_,h=>by simp at h
 | (n,k)::r,acc,h=>by
  rcases List.mem_cons.mp h with h | h
  ·cases h
   refine closL_keeps r _ ?_
   rw [if_pos (by rfl),List.lookup_cons,beq_self_eq_true]
   exact ⟨_,rfl⟩
  ·exact closL_has r _ h
theorem closureFor_free {scope:Scope} {env:Env} (h:∀ x,(x,NameKind.free)∈scope.names->∃ c,env.cells.lookup x=some c):closureFor scope env=pure (closL env.cells scope.names []):=by
 have go:∀ (names:List (Str×NameKind)) (acc:List (Str×Addr)),(∀ x,(x,NameKind.free)∈names->∃ c,env.cells.lookup x=some c) ->
   (forIn names acc λ(x:Str×NameKind) (cs:List (Str×Addr))=>match x with
    | (name,kind)=>if (kind == NameKind.free)=true then do let a <- cellOf env name;pure (ForInStep.yield ((name,a)::cs)) else pure (ForInStep.yield cs):Sem (List (Str×Addr)))
   = pure (closL env.cells names acc):=by
  intro names
  induction names with
  |nil=>intro acc _;rfl
  |cons x r ih =>
   intro acc hx
   obtain ⟨n,k⟩:=x
   rw [List.forIn_cons]
   by_cases hk:(k == NameKind.free)=true
   ·have e2:k=NameKind.free:=by simpa using hk
    obtain ⟨c,hc⟩:=hx n (by rw [e2];exact List.mem_cons_self)
    have hcell:cellOf env n=pure c:=by unfold cellOf;rw [hc]
    simp only [hk,if_true,hcell]
    show (forIn r ((n,c)::acc) _:Sem (List (Str×Addr)))=_
    rw [ih _ λy hy=>hx y (List.mem_cons_of_mem _ hy)]
    simp only [closL,hk,if_true,hc,Option.getD_some]
   ·simp only [hk,if_false]
    show (forIn r acc _:Sem (List (Str×Addr)))=_
    rw [ih _ λy hy=>hx y (List.mem_cons_of_mem _ hy)]
    simp only [closL,hk,if_false]
    rfl
 have:=go scope.names [] h
 unfold closureFor
 exact (congrArg (λ(t:Sem (List (Str×Addr)))=>t >>= λcs=>(pure cs:Sem (List (Str×Addr)))) this).trans rfl

theorem lookup_relabel_free {env:Env}:∀ {names:List (Str×NameKind)} {x:Str},names.lookup x=some .free ->
  (names.map λ(n,k)=>if (k == NameKind.free&&env.scope.kind == .function&&env.kindOf n == some .cell) then (n,NameKind.cell) else (n,k)).lookup x=some .cell \/
  (names.map λ(n,k)=>if (k == NameKind.free&&env.scope.kind == .function&&env.kindOf n == some .cell) then (n,NameKind.cell) else (n,k)).lookup x=some .free
 |[],_,h=>by simp at h
 | (n,k)::r,x,h=>by
  have ih:=@lookup_relabel_free env r x
  show List.lookup x ((if (k == NameKind.free&&env.scope.kind == .function&&env.kindOf n == some .cell)=true then (n,NameKind.cell) else (n,k))::_)=_\/List.lookup x ((if (k == NameKind.free&&env.scope.kind == .function&&env.kindOf n == some .cell)=true then (n,NameKind.cell) else (n,k))::_)=_
  cases hx:x == n with
  |true =>
   simp only [List.lookup_cons,hx] at h
   cases h
   by_cases hc:(NameKind.free == NameKind.free&&env.scope.kind == .function&&env.kindOf n == some .cell)=true
   ·rw [if_pos hc];left;simp [List.lookup_cons,hx]
   ·rw [if_neg hc];right;simp [List.lookup_cons,hx]
  |false =>
   simp only [List.lookup_cons,hx] at h
   by_cases hc:(k == NameKind.free&&env.scope.kind == .function&&env.kindOf n == some .cell)=true
   ·rw [if_pos hc];simp only [List.lookup_cons,hx];exact ih h
   ·rw [if_neg hc];simp only [List.lookup_cons,hx];exact ih h
theorem lookup_relabel_back {env:Env} {k:NameKind}:∀ {names:List (Str×NameKind)} {x:Str},
  (names.map λ(n,k)=>if (k == NameKind.free&&env.scope.kind == .function&&env.kindOf n == some .cell) then (n,NameKind.cell) else (n,k)).lookup x=some k ->
  names.lookup x=some k\/(k=.cell/\names.lookup x=some .free)
 |[],_,h=>by simp at h
 | (n,j)::r,x,h=>by
  have ih:=@lookup_relabel_back env k r x
  have h':List.lookup x ((if (j == NameKind.free&&env.scope.kind == .function&&env.kindOf n == some .cell)=true then (n,NameKind.cell) else (n,j))::r.map λ(n,k)=>if (k == NameKind.free&&env.scope.kind == .function&&env.kindOf n == some .cell) then (n,NameKind.cell) else (n,k))=some k:=h
  cases hx:x == n with
  |true =>
   by_cases hc:(j == NameKind.free&&env.scope.kind == .function&&env.kindOf n == some .cell)=true
   ·rw [if_pos hc] at h'
    simp only [List.lookup_cons,hx] at h' |-
    cases h'
    have e:j=NameKind.free:=by
     have:=hc
     simp only [Bool.and_eq_true] at this
     simpa using this.1.1
    rw [e]
    exact .inr ⟨rfl,rfl⟩
   ·rw [if_neg hc] at h'
    simp only [List.lookup_cons,hx] at h' |-
    exact .inl h'
  |false =>
   by_cases hc:(j == NameKind.free&&env.scope.kind == .function&&env.kindOf n == some .cell)=true
   ·rw [if_pos hc] at h';simp only [List.lookup_cons,hx] at h' |-;exact ih h'
   ·rw [if_neg hc] at h';simp only [List.lookup_cons,hx] at h' |-;exact ih h'

def compChk (sc osc:Scope) (N N':List Str) (sel:List (Option Nat)):Bool :=
 (sc.names.all λp=>match p.2 with
  |.free=>(osc.names.lookup p.1 == some .cell||osc.names.lookup p.1 == some .free)&&sc.names.lookup p.1 == some .free
  |.cell=>false
  |.local=>sc.names.lookup p.1 == some .local
  |_=>true)&&N'.length == sel.length&&((N'.zip sel).all λp=>match p.2 with
   |none=>true
   |some j=>N[j]? == some p.1&&sc.names.lookup p.1 == some .free)
def selS (sel:List (Option Nat)) (σ:St):St:=sel.map λo=>o.bind λj=>(σ[j]?).join

def cxComp (X:Cx) (N':List Str) (scope:Scope) (C:Addr) (s:Shared) (H:Hp) (fp:List Addr) (pn:List (Addr×Obj)):Cx where
 prog:=X.prog
 w:=X.w
 K:=X.K
 mg:=X.mg
 base:=X.base
 A:=X.A
 N:=N'
 s₀:=s
 H₀:=H
 env:=compEnvC scope (closL X.env.cells scope.names []) C X.env
 outer:=X.stack
 stack:=X.stack
 ex:=fp
 fn:=λx=>decide (scope.names.lookup x=some NameKind.local)
 calm:=X.calm
 pn:=pn
 xe:=λ_ _=>False

section
variable {X:Cx} {pins:List (Addr×Obj)} {σ:St} {H:Hp} {s:Shared}

structure ChkOk (X:Cx) (sc:Scope) (N':List Str) (sel:List (Option Nat)):Prop where
 fr:∀ x,(x,NameKind.free)∈sc.names->(X.env.kindOf x=some .cell\/X.env.kindOf x=some .free)/\sc.names.lookup x=some .free
 nc:∀ y∈sc.names,y.2≠NameKind.cell
 lo:∀ y∈sc.names,y.2=NameKind.local->sc.names.lookup y.1=some .local
 ln:N'.length=sel.length
 sl:∀ (i:Nat) (x:Str) (j:Nat),N'[i]?=some x->sel[i]?=some (some j)->X.N[j]?=some x/\sc.names.lookup x=some .free
theorem chk_ok {sc:Scope} {N':List Str} {sel:List (Option Nat)} (h:compChk sc X.env.scope X.N N' sel=true):ChkOk X sc N' sel:=by
 unfold compChk at h
 simp only [Bool.and_eq_true] at h
 obtain ⟨⟨h1,h2⟩,h3⟩:=h
 rw [List.all_eq_true] at h1 h3
 refine ⟨λx hx=>?_,λy hy e=>?_,λy hy e=>?_,by simpa using h2,λi x j e1 e2=>?_⟩
 ·have:=h1 _ hx
  simp only [Bool.and_eq_true,Bool.or_eq_true,beq_iff_eq] at this
  exact this
 ·have:=h1 _ hy
  rw [e] at this
  simp at this
 ·have:=h1 _ hy
  rw [e] at this
  simpa using this
 ·have hm:(x,some j)∈N'.zip sel:=by
   refine List.mem_of_getElem? (i:=i) ?_
   rw [List.getElem?_zip_eq_some]
   exact ⟨e1,e2⟩
  have:=h3 _ hm
  simp only [Bool.and_eq_true,beq_iff_eq] at this
  exact this

theorem clos_cells (I:Inv X pins σ H s) {sc:Scope} {N':List Str} {sel:List (Option Nat)} (k:ChkOk X sc N' sel) :
  (∀ x,(x,NameKind.free)∈sc.names->∃ c,X.env.cells.lookup x=some c)/\(∀ x c,(closL X.env.cells sc.names []).lookup x=some c->X.env.cells.lookup x=some c/\(x,NameKind.free)∈sc.names):=by
 have a:∀ x,(x,NameKind.free)∈sc.names->∃ c,X.env.cells.lookup x=some c:=λx hx=>I.ok.has x (k.fr x hx).1
 refine ⟨a,λx c h=>?_⟩
 rcases closL_sub _ _ h with h | ⟨h,e⟩
 ·simp at h
 ·obtain ⟨c',hc⟩:=a x h
  rw [hc] at e
  exact ⟨by rw [hc,e];rfl,h⟩

theorem inv_block (I:Inv X pins σ H s) {scope:Scope} {N':List Str} {sel:List (Option Nat)} {C:Addr} {fp:List Addr} {h₁:Heap} {t':Nat} {m:Str->Option Value} (hk:scope.kind=.function)
  (k:ChkOk X scope N' sel) (hC:s.heap.objs.size<=C) (hf:∀ b∈fp,FpOk X pins H b) (hfl:∀ b∈fp,b<s.heap.objs.size) (hns:h₁.Ns C m) (hkeep:∀ b o,s.heap.get? b=some o->h₁.get? b=some o) :
  Inv (cxComp X N' scope C s H fp (X.pn++pins)) [] (selS sel σ) H { s with heap:=h₁,toks:=t' }:=by
 obtain ⟨cl1,cl2⟩:=clos_cells I k
 have lkf:∀ x,scope.names.lookup x=some .free->(relabel scope X.env).names.lookup x=some .cell\/(relabel scope X.env).names.lookup x=some .free:=λx hx=>lookup_relabel_free hx
 have hfr:∀ x,(relabel scope X.env).names.lookup x=some .cell\/(relabel scope X.env).names.lookup x=some .free->(x,NameKind.free)∈scope.names:=λx hx=>by
  rcases hx with hx | hx
  ·rcases lookup_relabel_back hx with h | ⟨_,h⟩
   ·exact absurd rfl (k.nc _ (PySem.mem_of_lookup h))
   ·exact PySem.mem_of_lookup h
  ·rcases lookup_relabel_back hx with h | ⟨e,h⟩
   ·exact PySem.mem_of_lookup h
   ·exact PySem.mem_of_lookup h
 refine ⟨⟨I.ok.mod,hk,I.ok.glob,I.ok.blt,hC,λx y c h1 h2=>?_,λx hx=>?_,λx c h1 h2=>?_,I.ok.hd,I.ok.frames,.inl rfl,λb hb=>?_,I.bs,Nat.le_trans I.ok.bsz I.sz,λb o e hb=>?_,λb hb hb2=>?_,I.stack,I.stkFree⟩,
  rfl,I.bare,Un.kept hkeep,⟨m,hns,λi x v e1 e2 e3=>?_⟩,λx c h=>?_,I.hok.fresh hC,λx c h=>?_,λp hp=>?_,I.hok.kept hkeep,?_⟩
 ·exact I.ok.inj x y c (cl2 x c h1).1 (cl2 y c h2).1
 ·exact closL_has _ _ (hfr x hx)
 ·have h1':scope.names.lookup x=some NameKind.local:=of_decide_eq_true h1
  have:=(k.fr x (cl2 x c h2).2).2
  rw [h1'] at this
  cases this
 ·refine ⟨Nat.ne_of_lt (Nat.lt_of_lt_of_le (hfl b hb) hC),λx c h=>?_⟩
  exact (hf b hb).2.2.2.2.1 x c (cl2 x c h).1
 ·rcases (hf b hb).2.2.2.1 with z | z
  ·exact I.ok.noex b o e z
  ·exact absurd (Nat.lt_of_lt_of_le (Heap.lt_size e) (Nat.le_trans I.ok.bsz z)) (Nat.lt_irrefl _)
 ·rcases List.mem_cons.mp (I.stkSub b hb2) with z | z
  ·exact (hf b hb).2.1 z
  ·exact (hf b hb).2.2.1 z
 ·-- a free name
  have e2':sel[i]?.map (λo=>o.bind λj=>(σ[j]?).join)=some (some v):=by
   have:=e2
   unfold selS at this
   rwa [List.getElem?_map] at this
  cases hs:sel[i]? with
  |none=>rw [hs] at e2';cases e2'
  |some o =>
   rw [hs] at e2'
   cases o with
   |none=>cases e2'
   |some j =>
    have e4:(σ[j]?).join=some v:=Option.some.inj e2'
    have e5:σ[j]?=some (some v):=by
     cases q:σ[j]? with
     |none=>rw [q] at e4;cases e4
     |some r=>rw [q] at e4;rw [show r=some v from e4]
    obtain ⟨hX,hl⟩:=k.sl i x j e1 hs
    obtain ⟨kk,_⟩:=k.fr x (PySem.mem_of_lookup hl)
    obtain ⟨m0,_,hloc⟩:=I.loc
    obtain ⟨u,ru,lu⟩:=hloc j x v hX e5 (kk.elim (λz=>.inr (.inl z)) λz=>.inr (.inr z))
    refine ⟨u,ru,?_⟩
    rcases lu with ⟨z,_⟩ | ⟨_,c,hc,hcell⟩
    ·rcases kk with y | y<;>(rw [z] at y;cases y)
    ·refine .inr ⟨lkf x hl,c,?_,hcell.keeps hkeep⟩
     obtain ⟨c',hc'⟩:=closL_has (cells:=X.env.cells) scope.names [] (PySem.mem_of_lookup hl)
     have:=(cl2 x c' hc').1
     rw [hc] at this
     cases this
     exact hc'
 ·obtain ⟨v,z⟩:=I.cell x c (cl2 x c h).1
  exact ⟨v,z.keeps hkeep⟩
 ·exact I.freeC x c (cl2 x c h).1
 ·have hp':p∈X.pn++pins:=by
   have:p∈(X.pn++pins)++[]:=hp
   rwa [List.append_nil] at this
  obtain ⟨e,n,ne,nf,d⟩:=I.pin p hp'
  refine ⟨hkeep _ _ e,n,Nat.ne_of_lt (Nat.lt_of_lt_of_le (Heap.lt_size e) hC),λz=>?_,d⟩
  rcases List.mem_cons.mp (I.stkSub _ z) with z | z
  ·exact ne z
  ·exact nf z
 ·show (sel.map _).length=N'.length
  rw [List.length_map]
  exact k.ln.symm

def PTs (X:Cx) (ifs:List Expr) (t:TT):Prop :=
 ∀ (pins:List (Addr×Obj)) (s:Shared) (σ:St) (H:Hp) (Q:Bool->Hp->Prop),Inv X pins σ H s->t σ H Q ->
  wpAny (model X.prog X.w) X.A (forIn ifs true λc r=>if r=true then do let ok <- isTrue c X.env (eval c X.env);pure (ForInStep.yield ok) else pure (ForInStep.yield r)) (TP X pins σ Q) X.xe s
def tTrue:TT:=λ_ H Q=>Q true H
theorem pts_nil:PTs X [] tTrue:=λ_ _ _ H _ I h=>wpAny_tests_nil ⟨H,I,h⟩
theorem pts_one {c:Expr} {t:TT} (h:PT X c t):PTs X [c] t:=λpins s σ H Q I q=>wpAny_tests_one (h pins s σ H Q I q)

theorem compLoop_any {prog:Program} {w:World} {A:Around} {R:Result->Shared->Prop} {s:Shared} {elt target iter:Expr} {ifs:List Expr} {scope:Scope} {pos:Pos} {it acc:Value} {env:Env} (I:Nat->Shared->Prop)
  (turn:∀ n s,I n s->wpAny (model prog w) A (pyNext it) (λr s₁=>match r with
   |none=>R (.ok .next) s₁
   |some v=>wpAny (model prog w) A (letOwnedTupleGo target it v) (λ_ s₁'=>wpAny (model prog w) A (assign target env v) (λ_ s₂ =>
     wpAny (model prog w) A (forIn ifs true λc r=>if r=true then do let ok <- isTrue c env (eval c env);pure (ForInStep.yield ok) else pure (ForInStep.yield r)) (λok s₃ =>
      if ok=true then wpAny (model prog w) A (eval elt env) (λx s₄ =>
       wpAny (model prog w) A (call (.builtin "list.append") [acc,x]) (λ_ s₅=>∃ m,m<n/\I m s₅) (notedBy (model prog w) A env λe s'=>R (.error e) s') s₄) (notedBy (model prog w) A env λe s'=>R (.error e) s') s₃
      else ∃ m,m<n/\I m s₃) (notedBy (model prog w) A env λe s'=>R (.error e) s') s₂) (notedBy (model prog w) A env λe s'=>R (.error e) s') s₁') (notedBy (model prog w) A env λe s'=>R (.error e) s') s₁) (notedBy (model prog w) A env λe s'=>R (.error e) s') s)
  (n:Nat) (h:I n s) :
  codeAny (model prog w) A (.compLoop (.ListComp elt [⟨target,iter,ifs,0⟩] scope pos) 0 it acc env) R s:=by
 refine codeAny_loop rfl I (λn s hI=>?_) n h
 show wpAny _ A ((compTurn (.ListComp elt [⟨target,iter,ifs,0⟩] scope pos) 0 it acc env).onRaise (λx=>do noteFrame x env;theTreesLotGoes x)) _ _ s
 refine wpAny_noted ?_
 rw [compTurn_list]
 refine wpAny_bind (wpAny_standAt (wpAny_bind (wpAny_mono (turn n s hI) (λr s₁ h₁=>?_) λ_ _ h'=>h')))
 cases r with
 |none=>exact wpAny_pure h₁
 |some v =>
  refine wpAny_bind (wpAny_mono h₁ (λ_ s₁' h₁'=>?_) λ_ _ h'=>h')
  refine wpAny_bind (wpAny_mono h₁' (λ_ s₂ h₂=>wpAny_bind (wpAny_mono h₂ (λok s₃ h₃=>?_) λ_ _ h'=>h')) λ_ _ h'=>h')
  cases ok with
  |false=>exact wpAny_pure ⟨rfl,h₃⟩
  |true =>
   exact wpAny_bind (wpAny_bind (wpAny_mono h₃ (λx s₄ h₄=>wpAny_bind (wpAny_mono h₄ (λ_ s₅ h₅=>wpAny_pure (wpAny_pure ⟨rfl,h₅⟩)) λ_ _ h'=>h')) λ_ _ h'=>h'))

def lcTurn (sel:List (Option Nat)) (g:TG) (tt:TT) (te:TE) (σ:St) (J:It) (W:Nat->Nat->List V->Hp->Prop) (Q:List V->Hp->Prop):Prop :=
 ∀ i m ys H,W i m ys H->(J.stop i H/\Q ys H) \/
  (J.go i H/\ys.length<sizeLine/\∃ N:List V->Hp->Prop,(∀ ys' H',N ys' H'->∃ m',m'<m/\W (i+1) m' ys' H') /\
   ∀ x H',J.yld i H x H'->g x (selS sel σ) H' λσ2 H2=>tt σ2 H2 λb H3=>if b=true then te σ2 H3 λy H4=>N (ys++[y]) H4 else N ys H3)

def GKeeps (sel:List (Option Nat)) (g:TG):Prop:=∀ (σ:St) (x:V) (H:Hp) (Q:St->Hp->Prop),g x (selS sel σ) H Q->g x (selS sel σ) H λσ2 H2=>(∀ (i:Nat) v,(selS sel σ)[i]?=some (some v)->σ2[i]?=some (some v))/\Q σ2 H2
theorem sel_none {sel:List (Option Nat)} {i:Nat} {σ:St} {v:V} (h:sel[i]?=some none):¬ (selS sel σ)[i]?=some (some v):=λe=>by
 unfold selS at e
 rw [List.getElem?_map,h] at e
 cases e
theorem set_keeps {sel:List (Option Nat)} {i:Nat} {σ σ2:St} {x:V} (h:sel[i]?=some none) (k:∀ (j:Nat) v,(selS sel σ)[j]?=some (some v)->σ2[j]?=some (some v)) :
  ∀ (j:Nat) v,(selS sel σ)[j]?=some (some v)->(σ2.set i (some x))[j]?=some (some v):=λj v e=>by
 by_cases hj:i=j
 ·subst hj;exact absurd e (sel_none h)
 ·rw [List.getElem?_set_ne hj];exact k j v e
theorem gk_name {sel:List (Option Nat)} {i:Nat} (h:sel[i]?=some none):GKeeps sel (gName i):=λ_ _ _ _ q=>⟨set_keeps h λ_ _ e=>e,q⟩
theorem lc_block {elt tg iter:Expr} {ifs:List Expr} {scope:Scope} {pos:Pos} {N':List Str} {sel:List (Option Nat)} {g:TG} {tt:TT} {te:TE} {it:Addr} {fp:List Addr} {tn:Nat->Heap->Prop} {J:It}
  {W:Nat->Nat->List V->Hp->Prop} {Qe:List V->Hp->Prop} {RR:Value->Addr->Result->Shared->Prop} {E:Value->Shared->Prop} {m0:Nat}
  (hc:X.calm=true) (hk:scope.kind=.function) (k:ChkOk X scope N' sel) (I:Inv X pins σ H s) (T:Turn X.prog X.w X.K tg J fp it tn) (st:tn 0 s.heap) (f2:∀ b∈fp,FpOk X pins H b)
  (hb:∀ (C:Addr) (s:Shared) (H:Hp) (fp:List Addr) (pn:List (Addr×Obj)),PG (cxComp X N' scope C s H fp pn) tg g/\PTs (cxComp X N' scope C s H fp pn) ifs tt/\PE (cxComp X N' scope C s H fp pn) elt te)
  (hgk:GKeeps sel g) (w0:W 0 m0 [] H) (turn:lcTurn sel g tt te σ J W Qe)
  (hRR:∀ (D C:Addr) (s':Shared) (H':Hp) (ys:List V) (m:Str->Option Value),H' D=none->Inv X pins σ (upd H' D (.lst ys)) s'->s'.heap.Ns C m->FpOk X pins (upd H' D (.lst ys)) C->Qe ys H'->RR (.ref D) C (.ok .next) s') :
  wpAny (model X.prog X.w) X.A (newList []) (λacc s₃=>wpAny (model X.prog X.w) X.A (newFunctionEnv scope X.env.globals (closL X.env.cells scope.names []) [] X.env.qual none .none (some X.env)) (λcenv s₄ =>
   codeAny (model X.prog X.w) X.A (.compStart (.ListComp elt [⟨tg,iter,ifs,0⟩] scope pos) 0 (.ref it) acc { cenv with scope:=relabel scope X.env }) (RR acc cenv.locals) s₄) E s₃) E s:=by
 refine wpAny_newObj_type (wpAny_newFunctionEnv k.nc (by intro y hy;simp at hy) (λh₁ hns₁ hsb₁=>?_) hk)
 dsimp only at hns₁ hsb₁ |-
 generalize hH2:s.heap.push { cls:=.type "list",dict:=none,data:=.seq ([]:List Value).toArray }=H2 at hns₁ hsb₁ |-
 have hC:H2.objs.size=s.heap.objs.size+1:=by rw [<- hH2,Heap.size_push]
 have hDC:s.heap.objs.size≠H2.objs.size:=by rw [hC];exact Nat.ne_of_lt (Nat.lt_succ_self _)
 have hCle:s.heap.objs.size<=H2.objs.size:=by rw [hC];exact Nat.le_succ _
 have below:∀ b,b<s.heap.objs.size->b≠H2.objs.size/\b≠s.heap.objs.size:=λb hb=>⟨by rw [hC];exact Nat.ne_of_lt (Nat.lt_succ_of_lt hb),Nat.ne_of_lt hb⟩
 have old:∀ b o,s.heap.get? b=some o->h₁.get? b=some o:=λb o e=>hsb₁.extBut b o (below b (Heap.lt_size e)).1 (Heap.get?_push_of_some _ (hH2▸Heap.get?_push_of_some _ e))
 have hacc:h₁.get? s.heap.objs.size=some { cls:=.type "list",data:=.seq ([]:List Value).toArray }:=hsb₁.extBut _ _ hDC (Heap.get?_push_of_some _ (hH2▸Heap.get?_push_size _ rfl))
 have hfl:∀ b∈fp,b<s.heap.objs.size:=λb hb=>let ⟨_,e,_⟩:=T.obj 0 _ st b hb;Heap.lt_size e
 have hst₁:tn 0 h₁:=T.keep _ _ _ st λb _ o e=>old b o e
 generalize hDe:s.heap.objs.size=D at hDC hCle below hacc hfl |-
 generalize hCe:H2.objs.size=C at hns₁ hsb₁ hC hDC hCle below |-
 have fD:∀ {H':Hp},H' D=none->FpOk X pins H' D:=λhn=>I.fpOk (by rw [hDe];exact Nat.le_refl _) hn
 have fC:∀ {H':Hp},H' C=none->FpOk X pins H' C:=λhn=>I.fpOk (by rw [hDe];exact hCle) hn
 have HD:H D=none:=I.hok.fresh (by rw [hDe];exact Nat.le_refl _)
 -- the pin of the new list,in the block
 have pinD:∀ {o:Obj} {σ':St} {H':Hp} {s':Shared} {ps:List (Addr×Obj)},Inv (cxComp X N' scope C s H fp (X.pn++pins)) ps σ' H' s'->s'.heap.get? D=some o->H' D=none->(∀ v,o.data≠.cell v) ->
   Inv (cxComp X N' scope C s H fp (X.pn++pins)) (ps++[(D,o)]) σ' H' s':=λ{o σ' H' s' ps} J1 e n d=>by
  refine J1.pins_of λp hp=>?_
  rcases List.mem_append.mp hp with hp | hp
  ·exact J1.pin p (List.mem_append_right _ hp)
  ·rw [List.mem_singleton.mp hp]
   refine ⟨e,n,hDC,λz=>?_,d⟩
   rcases List.mem_cons.mp (I.stkSub D z) with z | z
   ·exact (fD HD).2.1 z
   ·exact (fD HD).2.2.1 z
 have loop:∀ s₃:Shared,s₃={ s with heap:=h₁,toks:=s.toks+([]:List (Str×Value)).length } ->
   codeAny (model X.prog X.w) X.A (.compLoop (.ListComp elt [⟨tg,iter,ifs,0⟩] scope pos) 0 (.ref it) (.ref D) (compEnvC scope (closL X.env.cells scope.names []) C X.env)) (RR (.ref D) C) s₃:=by
  rintro s₃ rfl
  have I4:Inv (cxComp X N' scope C s H fp (X.pn++pins)) [] (selS sel σ) H { s with heap:=h₁,toks:=s.toks+([]:List (Str×Value)).length } :=
   inv_block I hk k (by rw [hDe];exact hCle) f2 (λb hb=>by rw [hDe];exact hfl b hb) hns₁ old
  refine compLoop_any (λn s'=>∃ i H' ys its nn,Inv (cxComp X N' scope C s H fp (X.pn++pins)) [] (selS sel σ) H' s'/\tn i s'.heap/\(∀ b∈fp,H' b=none)/\H' D=none /\
   s'.heap.get? D=some { cls:=.type "list",data:=.seq (List.toArray its) nn }/\Vals ys its/\ys.length<=sizeLine/\W i n ys H') ?_ m0 ⟨0,H,[],[],0,I4,hst₁,λb hb=>(f2 b hb).1,HD,hacc,.nil,Nat.zero_le _,w0⟩
  rintro n s3 ⟨i,H3,ys,its,nn,I3,st3,fr3,hD3,o3,v3,z3,w3⟩
  have I3':=pinD I3 o3 hD3 (λv z=>by cases z)
  have stat:∀ {ps:List (Addr×Obj)} {H':Hp},(∀ p∈ps,p.1=D)->(∀ b∈fp,H' b=none)->∀ b∈fp,FpOk (cxComp X N' scope C s H fp (X.pn++pins)) ps H' b:=λ{ps H'} hps hn b hb=>by
   obtain ⟨a0,a1,a2,a3,a4,a5⟩:=f2 b hb
   refine ⟨hn b hb,Nat.ne_of_lt (Nat.lt_of_lt_of_le (hfl b hb) hCle),λz=>?_,.inl hb,λx c h=>a4 x c ((clos_cells I k).2 x c h).1,λp hp=>?_⟩
   ·rcases List.mem_cons.mp (I.stkSub b z) with z | z
    ·exact a1 z
    ·exact a2 z
   ·rcases List.mem_append.mp hp with hp | hp
    ·exact a5 p hp
    ·rw [hps p hp]
     exact (Nat.ne_of_lt (hfl b hb)).symm
  rcases turn i n ys H3 w3 with ⟨stop,qe⟩ | ⟨go,hz,Nn,hNn,step⟩
  ·refine noE (thn (T.done (cxComp X N' scope C s H fp (X.pn++pins)) rfl rfl rfl hc i _ s3 _ H3 _ I3' (stat (λp hp=>by have:p∈[]++[(D,_)]:=hp;rw [List.nil_append] at this;rw [List.mem_singleton.mp this]) fr3) st3 stop) λr s4 ⟨hr,J4⟩=>?_)
   subst hr
   obtain ⟨m4,n4,_⟩:=id J4.loc
   have o4:=(J4.pin (D,_) (List.mem_append_right _ (List.mem_append_right _ (List.mem_singleton.mpr rfl)))).1
   have hC4:H3 C=none:=J4.free
   have hDC':C≠D:=Ne.symm hDC
   refine hRR D C s4 H3 ys m4 hD3 (I.call' (ch:=fp) J4.os ?_ ?_ J4.bare (λb hb=>?_)) n4 (fC (by rw [upd_ne hDC'];exact hC4)) qe
   ·have u:=J4.base
    have nD:∀ b o,s.heap.get? b=some o->b≠D:=λb o e=>by rw [<- hDe];exact Nat.ne_of_lt (Heap.lt_size e)
    have nD2:∀ b o,H b=some o->b≠D:=λb o e=>ne_of_none e HD
    exact ⟨u.keep,u.slot,λb o e n hx=>by rw [upd_ne (nD b o e)];exact u.free b o e n hx,u.there,λb xs e=>by rw [upd_ne (nD2 b _ e)];exact u.tups b xs e,
     λb o w e=>by rw [upd_ne (nD2 b _ e)];exact u.frzs b o w e,λb ps e=>by rw [upd_ne (nD2 b _ e)];exact u.tbls b ps e⟩
   ·intro b o e
    by_cases hbD:b=D
    ·subst hbD
     rw [upd_same] at e
     cases e
     exact ⟨z3,its,nn,v3,o4⟩
    ·rw [upd_ne hbD] at e
     exact (J4.hok b o e).stay (λc u _ q=>q) (λc q=>by rw [upd_ne (ne_of_none q hD3)];exact q) λc xs q=>by rw [upd_ne (ne_of_none q hD3)];exact q
   ·obtain ⟨a0,a1,a2,a3,a4,a5⟩:=f2 b hb
    exact ⟨a3,a1,a4,a5⟩
  ·refine noE (thn (T.item (cxComp X N' scope C s H fp (X.pn++pins)) rfl rfl rfl hc i _ s3 _ H3 _ I3' (stat (λp hp=>by have:p∈[]++[(D,_)]:=hp;rw [List.nil_append] at this;rw [List.mem_singleton.mp this]) fr3) st3 go) λr s4 ⟨u,hr,h4⟩=>?_)
   subst hr
   refine noE (thn h4 λ_ s5 ⟨x,H5,I5,r5,y5,st5,fr5⟩=>?_)
   obtain ⟨hb1,hb2,hb3⟩:=hb C s H fp (X.pn++pins)
   have I5':=I5.pinned (stat (λp hp=>by have:p∈[]++[(D,_)]:=hp;rw [List.nil_append] at this;rw [List.mem_singleton.mp this]) fr5) (T.obj _ _ st5)
   refine noE (thn (hb1 _ s5 _ H5 x u _ I5' r5 (hgk _ _ _ _ (step x H5 y5))) λ_ s6 ⟨σ6,H6,I6,hw6,q6⟩=>?_)
   refine noE (thn (hb2 _ s6 σ6 H6 _ I6 q6) λok s7 ⟨H7,I7,q7⟩=>?_)
   -- what stands behind the turn
   have back:∀ {σ8:St} {H8:Hp} {s8:Shared},Inv (cxComp X N' scope C s H fp (X.pn++pins)) (([]++[(D,{ cls:=.type "list",data:=.seq (List.toArray its) nn })])++pinsAt fp s5.heap) σ8 H8 s8 ->
     tn (i+1) s8.heap/\(∀ b∈fp,H8 b=none)/\H8 D=none/\s8.heap.get? D=some { cls:=.type "list",data:=.seq (List.toArray its) nn }:=λ{σ8 H8 s8} J8=>by
    refine ⟨T.keep _ _ _ st5 λb hb o e=>(J8.pin (b,o) (List.mem_append_right _ (List.mem_append_right _ (mem_pinsAt hb e)))).1,λb hb=>?_,?_,?_⟩
    ·obtain ⟨o,e,d⟩:=T.obj _ _ st5 b hb
     exact (J8.pin (b,o) (List.mem_append_right _ (List.mem_append_right _ (mem_pinsAt hb e)))).2.1
    ·exact (J8.pin (D,_) (List.mem_append_right _ (List.mem_append_left _ (List.mem_append_right _ (List.mem_singleton.mpr rfl))))).2.1
    ·exact (J8.pin (D,_) (List.mem_append_right _ (List.mem_append_left _ (List.mem_append_right _ (List.mem_singleton.mpr rfl))))).1
   have weak:∀ {H8:Hp} {s8:Shared} {ps:List (Addr×Obj)},Inv (cxComp X N' scope C s H fp (X.pn++pins)) ps σ6 H8 s8->Inv (cxComp X N' scope C s H fp (X.pn++pins)) [] (selS sel σ) H8 s8:=λ{H8 s8 ps} J8 =>
    (J8.pins_of (pins':=[]) λp hp=>by simp at hp).weak (by rw [J8.len];exact I4.len) hw6
   cases ok with
   |false =>
    obtain ⟨st8,fr8,hD8,o8⟩:=back I7
    obtain ⟨m',hm,w8⟩:=hNn ys H7 q7
    exact ⟨m',hm,i+1,H7,ys,its,nn,weak I7,st8,fr8,hD8,o8,v3,z3,w8⟩
   |true =>
    refine noE (thn (hb3 _ s7 σ6 H7 _ I7 q7) λy s8 ⟨yv,H8,I8,ry,q8⟩=>?_)
    obtain ⟨st8,fr8,hD8,o8⟩:=back I8
    obtain ⟨m',hm,w8⟩:=hNn _ _ q8
    have hl:=v3.length
    refine call_meets F.slot_list_append ⟨_,o8,rfl⟩ F.entry_list_append (F.args_list_append_2 _ _) (PySem.list_append D (List.toArray its) nn y (by rw [List.size_toArray];omega)) ⟨o8,?_⟩
    have q:=PySem.IsL.update o8 (λz=>z.push y)
    rw [show (List.toArray its).push y=(its++[y]).toArray by simp] at q
    have kp:∀ b o,b≠D->s8.heap.get? b=some o->(s8.heap.update D (Obj.mapSeq λz=>z.push y)).get? b=some o:=λb o hb e=>(Heap.get?_update_other s8.heap (Obj.mapSeq λz=>z.push y) (Ne.symm hb)).trans e
    refine ⟨m',hm,i+1,H8,ys++[yv],its++[y],_,(weak I8).turned (t':=s8.toks) kp hD8 hDC (.inr (by show s.heap.objs.size<=D;rw [hDe];exact Nat.le_refl _)) (λx c h=>(fD HD).2.2.2.2.1 x c ((clos_cells I k).2 x c h).1) (λp hp=>(fD HD).2.2.2.2.2 p (by have:p∈(X.pn++pins)++[]:=hp;rwa [List.append_nil] at this)),
     T.keep _ _ _ st8 (λb hb o e=>kp b o (Nat.ne_of_lt (hfl b hb)) e),fr8,hD8,q,v3.append (.cons ry .nil),?_,w8⟩
    rw [List.length_append,List.length_singleton]
    omega
 exact codeAny_compStart_list (loop _ rfl) (T.self _ 0 _ _ _ hst₁ (loop _ rfl))

def tLc (sel:List (Option Nat)) (wi:TI) (g:TG) (tt:TT) (te:TE):TE:=λσ H Q=>wi σ H λJ H1=>∃ W:Nat->Nat->List V->Hp->Prop,(∃ m,W 0 m [] H1) /\
 lcTurn sel g tt te σ J W λys H=>∀ D,H D=none->Q (.ref D) (upd H D (.lst ys))
theorem pe_lc {elt tg iter:Expr} {ifs:List Expr} {scope:Scope} {pos:Pos} {wi:TI} {N':List Str} {sel:List (Option Nat)} {g:TG} {tt:TT} {te:TE}
  (hc:X.calm=true) (hk:scope.kind=.function) (chk:compChk scope X.env.scope X.N N' sel=true) (hi:PI X tg iter wi) (hgk:GKeeps sel g)
  (hb:∀ (C:Addr) (s:Shared) (H:Hp) (fp:List Addr) (pn:List (Addr×Obj)),PG (cxComp X N' scope C s H fp pn) tg g/\PTs (cxComp X N' scope C s H fp pn) ifs tt/\PE (cxComp X N' scope C s H fp pn) elt te)
  (hs:∀ x,foldedSetIterable iter X.env x=pure x:=by intro _;rfl):PE X (.ListComp elt [⟨tg,iter,ifs,0⟩] scope pos) (tLc sel wi g tt te):=by
 intro pins s σ H Q I h
 have k:=chk_ok chk
 rw [eval_ListComp]
 refine wpAny_comprehension_free (use:=none) rfl hs (closureFor_free (clos_cells I k).1) hk k.lo (thn (hi pins s σ H _ I h) λv s1 h1=>thn h1 λitv s2 h2=>?_)
 obtain ⟨it,fp,tn,J,H2,e,I2,T,st2,f2,W,⟨m0,w0⟩,turn⟩:=h2
 subst e
 refine lc_block (RR:=λacc C=>compPost (model X.prog X.w) X.A X.xe none (EP X pins σ Q) acc C) hc hk k I2 T st2 f2 hb hgk w0 turn ?_
 intro D C s' H' ys m hD I' hns fC q
 refine ⟨m,hns,λh' hs'=>⟨.ref D,_,I'.turned (t':=s'.toks) (λb o hb e=>(hs'.2 b hb).trans e) fC.1 fC.2.1 fC.2.2.2.1 fC.2.2.2.2.1 fC.2.2.2.2.2,rfl,q D hD⟩⟩

theorem lc_list {K:PySem.W.Frag} {a:Addr} {xs:List V} {sel:List (Option Nat)} {g:TG} {tt:TT} {te:TE} {σ:St} {H:Hp} {Qe:List V->Hp->Prop} (Pv:Nat->List V->Hp->Prop) (h0:Pv 0 [] H)
  (hl:∀ i ys H,i<=xs.length->Pv i ys H->SqL K H a xs/\ys.length<=i) (hz:xs.length<=sizeLine)
  (hs:∀ i x ys H,xs[i]?=some x->Pv i ys H->g x (selS sel σ) H λσ2 H2=>tt σ2 H2 λb H3=>if b=true then te σ2 H3 λy H4=>Pv (i+1) (ys++[y]) H4 else Pv (i+1) ys H3)
  (hd:∀ ys H,Pv xs.length ys H->Qe ys H):∃ W:Nat->Nat->List V->Hp->Prop,(∃ m,W 0 m [] H)/\lcTurn sel g tt te σ (Itl K a) W Qe:=by
 refine ⟨λi m ys H=>m=xs.length-i/\i<=xs.length/\Pv i ys H,⟨_,rfl,Nat.zero_le _,h0⟩,?_⟩
 rintro i m ys H ⟨rfl,hi,p⟩
 obtain ⟨hS,hy⟩:=hl i ys H hi p
 by_cases e:i=xs.length
 ·subst e
  exact .inl ⟨⟨xs,hS,Nat.le_refl _⟩,hd _ _ p⟩
 ·have hlt:i<xs.length:=Nat.lt_of_le_of_ne hi e
  refine .inr ⟨⟨xs,xs[i],hS,by simp [hlt]⟩,by omega,Pv (i+1),λys' H' p'=>⟨xs.length-(i+1),by omega,rfl,hlt,p'⟩,?_⟩
  rintro x H' ⟨rfl,hx⟩
  exact hs i x ys H' (hx xs hS) p
theorem lc_tup {K:PySem.W.Frag} {a:Addr} {xs:List V} {sel:List (Option Nat)} {g:TG} {tt:TT} {te:TE} {σ:St} {H:Hp} {Qe:List V->Hp->Prop} (Pv:Nat->List V->Hp->Prop) (h0:Pv 0 [] H)
  (hl:∀ i ys H,i<=xs.length->Pv i ys H->SqT K H a xs/\ys.length<=i) (hz:xs.length<=sizeLine)
  (hs:∀ i x ys H,xs[i]?=some x->Pv i ys H->g x (selS sel σ) H λσ2 H2=>tt σ2 H2 λb H3=>if b=true then te σ2 H3 λy H4=>Pv (i+1) (ys++[y]) H4 else Pv (i+1) ys H3)
  (hd:∀ ys H,Pv xs.length ys H->Qe ys H):∃ W:Nat->Nat->List V->Hp->Prop,(∃ m,W 0 m [] H)/\lcTurn sel g tt te σ (Itt K a) W Qe:=by
 refine ⟨λi m ys H=>m=xs.length-i/\i<=xs.length/\Pv i ys H,⟨_,rfl,Nat.zero_le _,h0⟩,?_⟩
 rintro i m ys H ⟨rfl,hi,p⟩
 obtain ⟨hS,hy⟩:=hl i ys H hi p
 by_cases e:i=xs.length
 ·subst e
  exact .inl ⟨⟨xs,hS,Nat.le_refl _⟩,hd _ _ p⟩
 ·have hlt:i<xs.length:=Nat.lt_of_le_of_ne hi e
  refine .inr ⟨⟨xs,xs[i],hS,by simp [hlt]⟩,by omega,Pv (i+1),λys' H' p'=>⟨xs.length-(i+1),by omega,rfl,hlt,p'⟩,?_⟩
  rintro x H' ⟨rfl,hx⟩
  exact hs i x ys H' (hx xs hS) p
theorem lc_range {lo:Int} {n:Nat} {sel:List (Option Nat)} {g:TG} {tt:TT} {te:TE} {σ:St} {H:Hp} {Qe:List V->Hp->Prop} (Pv:Nat->List V->Hp->Prop) (h0:Pv 0 [] H)
  (hl:∀ i ys H,i<=n->Pv i ys H->ys.length<=i) (hz:n<=sizeLine)
  (hs:∀ i ys H,i<n->Pv i ys H->g (.int (lo+i)) (selS sel σ) H λσ2 H2=>tt σ2 H2 λb H3=>if b=true then te σ2 H3 λy H4=>Pv (i+1) (ys++[y]) H4 else Pv (i+1) ys H3)
  (hd:∀ ys H,Pv n ys H->Qe ys H):∃ W:Nat->Nat->List V->Hp->Prop,(∃ m,W 0 m [] H)/\lcTurn sel g tt te σ (Itr lo n) W Qe:=by
 refine ⟨λi m ys H=>m=n-i/\i<=n/\Pv i ys H,⟨_,rfl,Nat.zero_le _,h0⟩,?_⟩
 rintro i m ys H ⟨rfl,hi,p⟩
 have hy:=hl i ys H hi p
 by_cases e:i=n
 ·subst e
  exact .inl ⟨Nat.le_refl _,hd _ _ p⟩
 ·have hlt:i<n:=Nat.lt_of_le_of_ne hi e
  refine .inr ⟨hlt,by omega,Pv (i+1),λys' H' p'=>⟨n-(i+1),by omega,rfl,hlt,p'⟩,?_⟩
  rintro x H' ⟨rfl,rfl⟩
  exact hs i ys H' hlt p

end
end L2
namespace L2
open PySem PySem.Spec PyProof.Rows
section
variable {X:Cx} {tg:Expr} {a b:Expr} {ta tb:TE} {pos:Pos}

def tMid (t u:TS):TS:=λD σ H=>∃ M:St->Hp->Prop,t { D with nx:=M } σ H/\∀ σ' H',M σ' H'->u D σ' H'
theorem pss_mid {st:Stmt} {rest:List Stmt} {t u:TS} (h1:PS X st t) (h2:PSs X rest u):PSs X (st::rest) (tMid t u):=by
 intro pins s σ H D I h
 obtain ⟨M,hM,hu⟩:=h
 refine wpAny_execs_cons (thn (h1 pins s σ H { D with nx:=M } I hM) λf s1 q=>?_)
 cases f with
 |next =>
  obtain ⟨σ',H',I',q⟩:=q
  exact h2 pins s1 σ' H' D I' (hu _ _ q)
 |ret v=>exact q
 |brk=>exact q
 |cont=>exact q

def Its (x:Str):It:=⟨λi _=>i<x.length,λi H v H'=>H'=H/\∃ c,x.cps.toList[i]?=some c/\v=.str ⟨#[c]⟩,λi _=>x.length<=i⟩
def iStr (tl:TE):TI:=λσ H R=>tl σ H λx H1=>∃ z,x=.str z/\R (Its z) H1
theorem call_isinst:CallR X (.builtin "isinstance") (λxs H Q=>∃ x n t b,xs=[x,.ty n]/\TyOf X.K H x t/\PySem.W.kitOne X.K t (.type n)=some b/\Q (.bl b) H):=by
 intro pins s σ H xs us Q I r h
 obtain ⟨x,n,t,b,rfl,ty,e,q⟩:=h
 obtain ⟨u,w',rfl,ru,rw'⟩:=vals2 r
 cases rw'
 exact isinst_ok I ru ty e λtk=>⟨.bl b,H,I.tok _,rfl,q⟩
def cutS (z:Str) (lo hi:Option Int):Str:=⟨((z.cps.toList.drop (HT.sIx z.length 0 lo)).take (HT.sIx z.length z.length hi-HT.sIx z.length 0 lo)).toArray⟩
def rSlS:V->Option Int->Option Int->Hp->VK->Prop:=λx lo hi H Q=>∃ z,x=.str z/\z.length<=sizeLine/\Q (.str (cutS z lo hi)) H
def rStarts:V->List V->Hp->VK->Prop:=λx vs H Q=>∃ z y,x=.str z/\vs=[.str y]/\Q (.bl (Txt.startswith z y)) H
theorem mt_startswith:MtR X "str.startswith" rStarts:=by
 intro pins s σ H x vs v us Q I rx rv h
 obtain ⟨z,y,rfl,rfl,q⟩:=h
 obtain ⟨t,rfl⟩:=rx
 obtain ⟨u,rfl,ru⟩:=vals1 rv
 obtain ⟨t',rfl⟩:=ru
 exact SC.startswith ⟨.bl _,H,I,rfl,q⟩
inductive EqD (K:PySem.W.Frag) (H:Hp):Nat->V->V->Bool->Prop
 |flat {n:Nat} {x y:V}:flatV x=true->flatV y=true->EqD K H n x y (eqV x y)
 |same {n:Nat} {a:Addr}:EqD K H n (.ref a) (.ref a) true
 |lst {n:Nat} {a b:Addr} {xs ys:List V} {e:Nat->Bool}:SqL K H a xs->SqL K H b ys->a≠b->xs.length=ys.length->(∀ i x y,xs[i]?=some x->ys[i]?=some y->EqD K H n x y (e i))->EqD K H (n+1) (.ref a) (.ref b) ((List.range xs.length).all e)
 |lstN {n:Nat} {a b:Addr} {xs ys:List V}:SqL K H a xs->SqL K H b ys->a≠b->xs.length≠ys.length->EqD K H (n+1) (.ref a) (.ref b) false
 |tup {n:Nat} {a b:Addr} {xs ys:List V} {e:Nat->Bool}:SqT K H a xs->SqT K H b ys->a≠b->(∀ i x y,xs[i]?=some x->ys[i]?=some y->EqD K H n x y (e i))->EqD K H (n+1) (.ref a) (.ref b) ((List.range (min xs.length ys.length)).all e&&xs.length == ys.length)
 |tupF {n:Nat} {a:Addr} {xs:List V} {y:V}:SqT K H a xs->flatV y=true->EqD K H n (.ref a) y false
 |fTup {n:Nat} {a:Addr} {xs:List V} {y:V}:SqT K H a xs->flatV y=true->EqD K H n y (.ref a) false
theorem item_of {xs:List V} {its:List Value} {j:Nat} (r:Vals xs its) (h:j<its.toArray.size):∃ x,xs[j]?=some x/\RelV x its.toArray[j]:=by
 have hl:=r.length
 have hj:j<xs.length:=by rw [List.size_toArray] at h;omega
 obtain ⟨u,hu,ru⟩:=r.get (i:=j) (x:=xs[j]) (by simp [hj])
 refine ⟨xs[j],by simp [hj],?_⟩
 have e:its.toArray[j]=u:=by
  have h2:j<its.length:=by rw [List.size_toArray] at h;exact h
  have:=List.getElem?_eq_getElem h2
  rw [hu] at this
  simpa using (Option.some.inj this).symm
 rw [e];exact ru
theorem _root_.PyProof.Rows.IsTup.isTuple' {h:Heap} {a:Addr} {its:Array Value} (p:IsTup h a its):h.IsTuple a its:=p
theorem EqD.at {K:PySem.W.Frag} {H:Hp} {n:Nat} {x y:V} {b:Bool} (d:EqD K H n x y b):∀ {X:Cx} {pins:List (Addr×Obj)} {σ:St} {s:Shared} {A:Around} {u v:Value},X.K=K->Inv X pins σ H s->RelV x u->RelV y v->A.units+n<cLine->SeqAt.EqAt A s u v b:=by
 induction d with
 |flat fx fy=>intro X pins σ s A u v hK I rx ry hu;exact eqAt_V rx ry fx fy
 |same=>intro X pins σ s A u v hK I rx ry hu;cases rx;cases ry;exact SeqAt.EqAt.same _
 |@lst n a b xs ys e hx hy hne hl _ ih =>
  intro X pins σ s A u v hK I rx ry hu
  subst hK
  cases rx;cases ry
  obtain ⟨ia,ra,pa,_⟩:=I.list hx
  obtain ⟨ib,rb,pb,_⟩:=I.list hy
  have la:=ra.length
  have lb:=rb.length
  have hs:ia.toArray.size=ib.toArray.size:=by rw [List.size_toArray,List.size_toArray];omega
  have q:=SeqAt.RcAt.lists (A:=A) (e:=e) pa.isList pb.isList hs (by omega) λj h1 h2=>by
   obtain ⟨x,ex,rx⟩:=item_of ra h1
   obtain ⟨y,ey,ry⟩:=item_of rb h2
   exact ih j x y ex ey rfl I rx ry (by show A.units+1+n<cLine;omega)
  rw [List.size_toArray,<- la] at q
  exact SeqAt.EqAt.of_refs hne q
 |@lstN n a b xs ys hx hy hne hl =>
  intro X pins σ s A u v hK I rx ry hu
  subst hK
  cases rx;cases ry
  obtain ⟨ia,ra,pa,_⟩:=I.list hx
  obtain ⟨ib,rb,pb,_⟩:=I.list hy
  have la:=ra.length
  have lb:=rb.length
  exact SeqAt.EqAt.of_refs hne (SeqAt.RcAt.lists_lengths pa.isList pb.isList (by rw [List.size_toArray,List.size_toArray];simp;omega) (by omega))
 |@tup n a b xs ys e hx hy hne _ ih =>
  intro X pins σ s A u v hK I rx ry hu
  subst hK
  cases rx;cases ry
  obtain ⟨ia,ra,pa,_⟩:=I.tuple hx
  obtain ⟨ib,rb,pb,_⟩:=I.tuple hy
  have la:=ra.length
  have lb:=rb.length
  have q:=SeqAt.RcAt.tuples (A:=A) (e:=e) pa.isTuple' pb.isTuple' (by omega) λj h1 h2=>by
   obtain ⟨x,ex,rx⟩:=item_of ra h1
   obtain ⟨y,ey,ry⟩:=item_of rb h2
   exact ih j x y ex ey rfl I rx ry (by show A.units+1+n<cLine;omega)
  rw [List.size_toArray,List.size_toArray,<- la,<- lb] at q
  exact SeqAt.EqAt.of_refs hne q
 |@tupF n a xs y hx fy =>
  intro X pins σ s A u v hK I rx ry hu
  subst hK
  cases rx
  obtain ⟨ia,ra,pa,_⟩:=I.tuple hx
  have hu':A.units<cLine:=by omega
  cases y with
  |non=>cases (show v=Value.none from ry);exact SeqAt.EqAt.tuple_none pa.isTuple' hu'
  |bl b=>cases (show v=Value.bool b from ry);exact SeqAt.EqAt.tuple_bool b pa.isTuple' hu'
  |int i=>obtain ⟨t,q⟩:=(show ∃ t,v=Value.int i t from ry);cases q;exact SeqAt.EqAt.tuple_int i t pa.isTuple' hu'
  |str z=>obtain ⟨t,q⟩:=(show ∃ t,v=Value.str z t from ry);cases q;exact SeqAt.EqAt.tuple_str z t pa.isTuple' hu'
  |byt b=>cases fy
  |flt b=>cases fy
  |ref a=>cases fy
  |ty n=>cases fy
 |@fTup n a xs y hx fy =>
  intro X pins σ s A u v hK I rx ry hu
  subst hK
  cases ry
  obtain ⟨ia,ra,pa,_⟩:=I.tuple hx
  have hu':A.units<cLine:=by omega
  cases y with
  |non=>cases (show u=Value.none from rx);exact SeqAt.EqAt.none_tuple pa.isTuple' hu'
  |bl b=>cases (show u=Value.bool b from rx);exact SeqAt.EqAt.bool_tuple b pa.isTuple' hu'
  |int i=>obtain ⟨t,q⟩:=(show ∃ t,u=Value.int i t from rx);cases q;exact SeqAt.EqAt.int_tuple i t pa.isTuple' hu'
  |str z=>obtain ⟨t,q⟩:=(show ∃ t,u=Value.str z t from rx);cases q;exact SeqAt.EqAt.str_tuple z t pa.isTuple' hu'
  |byt b=>cases fy
  |flt b=>cases fy
  |ref a=>cases fy
  |ty n=>cases fy
def EqIt (K:PySem.W.Frag) (H:Hp) (n:Nat) (xs ys:List V) (e:Nat->Bool):Prop:=∀ i x y,xs[i]?=some x->ys[i]?=some y->EqD K H n x y (e i)
def rEqL (K:PySem.W.Frag) (neg:Bool):R2:=λx y H Q=>∃ a b xs ys n e,x=.ref a/\y=.ref b/\SqL K H a xs/\SqL K H b ys/\n<=90/\EqIt K H n xs ys e/\Q (.bl (neg^^(decide (xs.length=ys.length)&&(List.range xs.length).all e))) H
theorem op_eqL (hu:X.A.units+100<cLine):OpR X (compareOp .Eq) (rEqL X.K false):=by
 intro pins s σ H x y v u Q I rx ry h
 obtain ⟨a,b,xs,ys,n,e,rfl,rfl,hx,hy,hn,he,q⟩:=h
 cases rx;cases ry
 obtain ⟨ia,ra,pa,_⟩:=I.list hx
 obtain ⟨ib,rb,pb,_⟩:=I.list hy
 have la:=ra.length
 have lb:=rb.length
 rw [Bool.false_xor] at q
 by_cases hl:xs.length=ys.length
 ·rw [decide_eq_true hl,Bool.true_and] at q
  refine SeqAt.eq_listAt (e:=e) pa.isList pb.isList (by rw [List.size_toArray,List.size_toArray];omega) (by omega) (λj h1 h2=>?_) ⟨.bl _,H,I,rfl,?_⟩
  ·obtain ⟨x,ex,rx⟩:=item_of ra h1
   obtain ⟨y,ey,ry⟩:=item_of rb h2
   exact (he j x y ex ey).at rfl I rx ry (by show X.A.units+1+n<cLine;omega)
  ·rw [List.size_toArray,<- la];exact q
 ·rw [decide_eq_false hl,Bool.false_and] at q
  exact SeqAt.eq_list_lengthsAt pa.isList pb.isList (by rw [List.size_toArray,List.size_toArray];simp;omega) (by omega) ⟨.bl _,H,I,rfl,q⟩
theorem op_neL (hu:X.A.units+100<cLine):OpR X (compareOp .NotEq) (rEqL X.K true):=by
 intro pins s σ H x y v u Q I rx ry h
 obtain ⟨a,b,xs,ys,n,e,rfl,rfl,hx,hy,hn,he,q⟩:=h
 cases rx;cases ry
 obtain ⟨ia,ra,pa,_⟩:=I.list hx
 obtain ⟨ib,rb,pb,_⟩:=I.list hy
 have la:=ra.length
 have lb:=rb.length
 rw [Bool.true_xor] at q
 by_cases hl:xs.length=ys.length
 ·rw [decide_eq_true hl,Bool.true_and] at q
  refine SeqAt.RcNeAt.lists (e:=e) pa.isList pb.isList (by rw [List.size_toArray,List.size_toArray];omega) (by omega) (λj h1 h2=>?_) _ _ _ _ ⟨.bl _,H,I,rfl,?_⟩
  ·obtain ⟨x,ex,rx⟩:=item_of ra h1
   obtain ⟨y,ey,ry⟩:=item_of rb h2
   exact (he j x y ex ey).at rfl I rx ry (by show X.A.units+1+n<cLine;omega)
  ·rw [List.size_toArray,<- la];exact q
 ·rw [decide_eq_false hl,Bool.false_and] at q
  exact SeqAt.RcNeAt.lists_lengths pa.isList pb.isList (by rw [List.size_toArray,List.size_toArray];simp;omega) (by omega) _ _ _ _ ⟨.bl _,H,I,rfl,q⟩
def rEqT (K:PySem.W.Frag) (neg:Bool):R2:=λx y H Q=>∃ a b xs ys n e,x=.ref a/\y=.ref b/\SqT K H a xs/\SqT K H b ys/\n<=90/\EqIt K H n xs ys e/\Q (.bl (neg^^((List.range (min xs.length ys.length)).all e&&xs.length == ys.length))) H
theorem op_eqT (hu:X.A.units+100<cLine):OpR X (compareOp .Eq) (rEqT X.K false):=by
 intro pins s σ H x y v u Q I rx ry h
 obtain ⟨a,b,xs,ys,n,e,rfl,rfl,hx,hy,hn,he,q⟩:=h
 cases rx;cases ry
 obtain ⟨ia,ra,pa,_⟩:=I.tuple hx
 obtain ⟨ib,rb,pb,_⟩:=I.tuple hy
 have la:=ra.length
 have lb:=rb.length
 rw [Bool.false_xor] at q
 refine SeqAt.eq_tupleAt (e:=e) pa.isTuple' pb.isTuple' (by omega) (λj h1 h2=>?_) ⟨.bl _,H,I,rfl,?_⟩
 ·obtain ⟨x,ex,rx⟩:=item_of ra h1
  obtain ⟨y,ey,ry⟩:=item_of rb h2
  exact (he j x y ex ey).at rfl I rx ry (by show X.A.units+1+n<cLine;omega)
 ·rw [List.size_toArray,List.size_toArray,<- la,<- lb];exact q
theorem op_neT (hu:X.A.units+100<cLine):OpR X (compareOp .NotEq) (rEqT X.K true):=by
 intro pins s σ H x y v u Q I rx ry h
 obtain ⟨a,b,xs,ys,n,e,rfl,rfl,hx,hy,hn,he,q⟩:=h
 cases rx;cases ry
 obtain ⟨ia,ra,pa,_⟩:=I.tuple hx
 obtain ⟨ib,rb,pb,_⟩:=I.tuple hy
 have la:=ra.length
 have lb:=rb.length
 rw [Bool.true_xor] at q
 refine SeqAt.RcNeAt.tuples (e:=e) pa.isTuple' pb.isTuple' (by omega) (λj h1 h2=>?_) _ _ _ _ ⟨.bl _,H,I,rfl,?_⟩
 ·obtain ⟨x,ex,rx⟩:=item_of ra h1
  obtain ⟨y,ey,ry⟩:=item_of rb h2
  exact (he j x y ex ey).at rfl I rx ry (by show X.A.units+1+n<cLine;omega)
 ·rw [List.size_toArray,List.size_toArray,<- la,<- lb];exact q
theorem hu100 {A:Around} {k:Nat} (hr:Room k A):A.units+100<cLine:=Nat.lt_of_le_of_lt (by omega) hr.un

def strsAre:List Expr->List Str->Bool
 |[],[]=>true
 |.Constant (.str x) _ _::r,z::zs=>x == z&&strsAre r zs
 |_,_=>false
def tStrs (zs:List Str):TA:=λ_ H Q=>Q (zs.map V.str) H
theorem pa_strs:∀ {es:List Expr} {zs:List Str},strsAre es zs=true->PA X es (tStrs zs):=by
 intro es
 induction es with
 |nil =>
  intro zs h
  cases zs with
  |nil=>exact pa_nil
  |cons z zs=>cases h
 |cons e r ih =>
  intro zs h
  unfold strsAre at h
  split at h
  ·exact absurd ‹e::r=[]› (List.cons_ne_nil _ _)
  ·rename_i x j p r' z zs' h1
   cases h1
   rw [Bool.and_eq_true] at h
   have hx:x=z:=by simpa using h.1
   subst hx
   exact pa_cons (X:=X) (e:=.Constant (.str x) j p) pe_str (ih h.2)
  ·cases h
end
end L2
namespace L2
open PySem PySem.Spec PyProof.Rows
set_option genInjectivity false in
structure Def (K:PySem.W.Frag) (mg:Str->Option Value) (x:Str) (st:Stmt) (ps:List Str) where
 f:Addr
 fd:FuncData
 F:Fun K x x st f fd
 hm:mg x=some (.ref f)
 b:Binds K fd ps []
theorem cxOf_K {CX:CXT} {P:Program} {w:World} {K:PySem.W.Frag} {mg:Str->Option Value} {base:Heap} {N:List Str} {qual:Str} {scope:Scope} {f:Addr} {cd:Value} {A:Around} {outer:List Env} {s:Shared} {H:Hp} {E:XK} :
  (cxOf CX P w K mg base N qual scope f cd A outer s H E).K=K:=rfl
theorem cxComp_K {X:Cx} {N:List Str} {scope:Scope} {C:Addr} {s:Shared} {H:Hp} {fp:List Addr} {pn:List (Addr×Obj)}:(cxComp X N scope C s H fp pn).K=X.K:=rfl
structure InK (K:PySem.W.Frag) (x:Str) (st:Stmt):Prop where
 ex:∃ (f:Addr) (oc:Value) (od:Option Addr) (kV doc pm:Value) (an:Option Addr) (cdv ct:Value) (osl:Array (Option Value)),
  PySem.W.nsIn K mainGlobals x=some (some (.ref f))/\K.lookup f=some ⟨oc,od,.func (PySem.W.fnOf x x (defArgs st) (defBody st) (defScope st) .none kV doc pm an cdv ct),osl⟩/\PySem.W.codeIn K cdv x=true/\PySem.W.keepIn K (.ref f)=true
theorem InK.of {K:PySem.W.Frag} {x:Str} {st:Stmt} {f:Addr} {oc:Value} {od:Option Addr} {kV doc pm:Value} {an:Option Addr} {cdv ct:Value} {osl:Array (Option Value)}
  (a:PySem.W.nsIn K mainGlobals x=some (some (.ref f))) (l:K.lookup f=some ⟨oc,od,.func (PySem.W.fnOf x x (defArgs st) (defBody st) (defScope st) .none kV doc pm an cdv ct),osl⟩) (c:PySem.W.codeIn K cdv x=true) (k:PySem.W.keepIn K (.ref f)=true):InK K x st :=
 ⟨⟨f,oc,od,kV,doc,pm,an,cdv,ct,osl,a,l,c,k⟩⟩
theorem InK.def {K:PySem.W.Frag} {mg:Str->Option Value} {h:Heap} {x:Str} {st:Stmt} {ps:List Str} (i:InK K x st) (X:K.In h) (G:h.Ns mainGlobals mg)
  (hb:∀ (kV doc pm:Value) (an:Option Addr) (cdv ct:Value) (us:List Value),us.length=ps.length->bindArgs (PySem.W.fnOf x x (defArgs st) (defBody st) (defScope st) .none kV doc pm an cdv ct) ⟨us,[]⟩=pure (ps.zip us)):Nonempty (Def K mg x st ps):=by
 obtain ⟨f,oc,od,kV,doc,pm,an,cdv,ct,osl,a,l,c,k⟩:=i.ex
 have F:=fun_mk (x:=x) (qual:=x) (st:=st) l c k
 exact ⟨⟨f,_,F,PySem.W.mg_of X G a,F.binds hb⟩⟩
def strsOf:List Str->List Value->Bool
 |[],[]=>true
 |z::zs,.str x _::r=>x == z&&strsOf zs r
 |_,_=>false
theorem strsOf_vals:∀ {zs:List Str} {us:List Value},strsOf zs us=true->Vals (zs.map V.str) us:=by
 intro zs
 induction zs with
 |nil =>
  intro us h
  cases us with
  |nil=>exact .nil
  |cons u r=>cases h
 |cons z zs ih =>
  intro us h
  cases us with
  |nil=>cases h
  |cons u r =>
   cases u with
   |str x t =>
    have h':(x == z&&strsOf zs r)=true:=h
    rw [Bool.and_eq_true] at h'
    have e:x=z:=by simpa using h'.1
    subst e
    exact .cons ⟨t,rfl⟩ (ih h'.2)
   |_=>cases h
structure InT (K:PySem.W.Frag) (x:Str) (zs:List Str):Prop where
 ex:∃ (p:Addr) (dd:Option Addr) (its:Array Value) (n:Nat) (sl:Array (Option Value)),PySem.W.nsIn K mainGlobals x=some (some (.ref p))/\K.lookup p=some ⟨.type "tuple",dd,.seq its n,sl⟩/\its.size<=sizeLine/\strsOf zs its.toList=true
theorem InT.of {K:PySem.W.Frag} {x:Str} {zs:List Str} {p:Addr} {dd:Option Addr} {its:Array Value} {n:Nat} {sl:Array (Option Value)} (a:PySem.W.nsIn K mainGlobals x=some (some (.ref p))) (l:K.lookup p=some ⟨.type "tuple",dd,.seq its n,sl⟩)
  (s:its.size<=sizeLine) (v:strsOf zs its.toList=true):InT K x zs:=⟨⟨p,dd,its,n,sl,a,l,s,v⟩⟩
theorem bt_len:bootBuiltins "len"=some (.builtin "len"):=by decide +kernel
theorem bt_isinstance:bootBuiltins "isinstance"=some (.builtin "isinstance"):=by decide +kernel
theorem bt_str:bootBuiltins "str"=some (.type "str"):=by decide +kernel
theorem bt_list:bootBuiltins "list"=some (.type "list"):=by decide +kernel
theorem bt_tuple:bootBuiltins "tuple"=some (.type "tuple"):=by decide +kernel
theorem Same.upd {H:Hp} {a:Addr} {o:HO} (h:H a=none):Same H (L2.upd H a o):=λb u e=>by rw [upd_ne (ne_of_none e h)];exact e
theorem lenV_str {K:PySem.W.Frag} {z:Str} {H:Hp} {n:Nat}:LenV K (.str z) H n↔z.length<=sizeLine/\n=z.length:=Iff.rfl
end L2
namespace L2
open PySem PySem.Spec PyProof.Rows
section
variable {X:Cx} {o e f:Expr} {apos cpos pos:Pos} {td ty tx:TE}

def DKd (P:Program) (w:World) (K:PySem.W.Frag) (a:Addr) (kvs:List (Key×V)):Prop:=(a == sysModules)=false/\∀ h:Heap,K.In h->∃ vs,KV kvs vs/\h.DictOf (mixKind P w) a vs
def tDGetK (P:Program) (w:World) (K:PySem.W.Frag) (td ty tx:TE):TE:=λσ H Q=>td σ H λx H1=>∃ a kvs,x=.ref a/\DKd P w K a kvs/\ty σ H1 λy H2=>tx σ H2 λz H3=>∃ k,y=kV k/\Q ((valV kvs k).getD z) H3
theorem pe_dgetK (ho:PE X o td) (he:PE X e ty) (hf:PE X f tx) (m:M2 X o "get" apos e f cpos):PE X (.Call (.Attribute o "get" apos) [e,f] [] cpos) (tDGetK X.prog X.w X.K td ty tx):=by
 intro pins s σ H Q I h
 refine wpAny_Call_method m.base m.few m.line PySem.F.plainAttrs_dict PySem.F.slot_dict_get PySem.F.type_dict_get (thn (ho pins s σ H _ I h) λu s1 ⟨x,H1,I1,rx,a,kvs,ex,d,q1⟩=>?_)
 subst ex
 obtain rfl:u=Value.ref a:=rx
 obtain ⟨vs1,_,dd1⟩:=d.2 s1.heap I1.kIn
 have t2:∀ b,Value.ref a=.ref b->∃ ob,s1.heap.get? b=some ob/\ob.dict=none:=by
  intro b hb
  cases hb
  obtain ⟨o,es,ep,h1,h2,_⟩:=dd1
  exact ⟨o,h1,h2.2.1⟩
 refine ⟨dd1.typeIs,t2,?_⟩
 rw [m.trees]
 refine Calls.callWith_builtin rfl (Calls.evalArgs_plain (Calls.spliced_cons (thn (he pins s1 σ H1 _ I1 q1) λiv s2 ⟨y,H2,I2,ry,q2⟩ =>
  Calls.spliced_cons (thn (hf pins s2 σ H2 _ I2 q2) λfv s3 ⟨z,H3,I3,rz,k,ey,q3⟩=>Calls.spliced_nil ?_))))
 subst ey
 obtain ⟨vs,rel,dd⟩:=d.2 s3.heap I3.kIn
 refine call_meetsIn PySem.F.slot_dict_get dd.typeIs PySem.F.entry_dict_get (PySem.F.args_dict_get_3 _ _ _) (meets_dict_get_default (mixKind X.prog X.w) a (kV_is ry) d.1 fv) ⟨_,dd.mapOf,?_⟩
 exact ⟨_,H3,I3.tok _,(rel.val k).getD rz,q3⟩

variable {K:PySem.W.Frag}
theorem ix_tupK (h:X.K=K):IxR X (rIxT K):=by subst h;exact ix_tup
end
end L2
namespace L2
open PySem PySem.Spec PyProof.Rows
section
variable {X:Cx} {pins:List (Addr×Obj)} {σ:St} {H:Hp} {s:Shared}
end
end L2
namespace L2
open PySem
def Rise (xs:Array Nat):Prop:=∀ (i j:Nat) (hi:i<xs.size) (hj:j<xs.size),i<j->xs[i]<xs[j]
theorem bel_go {xs:Array Nat} (r:Rise xs) (j:Nat):∀ (f lo hi:Nat),hi<=xs.size->lo<=hi->hi-lo<=f->(∀ i (h:i<xs.size),i<lo->xs[i]<j)->(∀ i (h:i<xs.size),hi<=i->j<=xs[i]) ->
  SetTable.below.go xs j f lo hi<=xs.size/\(∀ i (h:i<xs.size),i<SetTable.below.go xs j f lo hi->xs[i]<j)/\(∀ i (h:i<xs.size),SetTable.below.go xs j f lo hi<=i->j<=xs[i]):=by
 intro f
 induction f with
 |zero =>
  intro lo hi h1 h2 h3 h4 h5
  have e:lo=hi:=by omega
  subst e
  exact ⟨h1,h4,h5⟩
 |succ f ih =>
  intro lo hi h1 h2 h3 h4 h5
  unfold SetTable.below.go
  by_cases hl:lo<hi
  ·rw [if_pos hl]
   dsimp only
   have hm:(lo+hi) / 2<xs.size:=by omega
   have eg:xs.getD ((lo+hi) / 2) j=xs[(lo+hi) / 2]:=by simp [hm]
   rw [eg]
   by_cases hc:xs[(lo+hi) / 2]<j
   ·rw [if_pos hc]
    refine ih _ _ h1 (by omega) (by omega) (λi h hi'=>?_) h5
    by_cases q:i<(lo+hi) / 2
    ·exact Nat.lt_trans (r i _ h hm q) hc
    ·have:i=(lo+hi) / 2:=by omega
     subst this;exact hc
   ·rw [if_neg hc]
    refine ih _ _ (by omega) (by omega) (by omega) h4 (λi h hi'=>?_)
    by_cases q:(lo+hi) / 2<i
    ·have:=r _ i hm h q
     omega
    ·have:i=(lo+hi) / 2:=by omega
     subst this;omega
  ·rw [if_neg hl]
   have e:lo=hi:=by omega
   subst e
   exact ⟨h1,h4,h5⟩
theorem bel {xs:Array Nat} (r:Rise xs) (j:Nat):SetTable.below xs j<=xs.size/\(∀ i (h:i<xs.size),i<SetTable.below xs j->xs[i]<j)/\(∀ i (h:i<xs.size),SetTable.below xs j<=i->j<=xs[i]) :=
 bel_go r j _ _ _ (Nat.le_refl _) (Nat.zero_le _) (by omega) (λi _ h=>absurd h (Nat.not_lt_zero _)) (λi h q=>absurd h (by omega))
theorem bel_zero {xs:Array Nat} (r:Rise xs):SetTable.below xs 0=0:=by
 obtain ⟨h1,h2,h3⟩:=bel r 0
 by_cases h:SetTable.below xs 0=0
 ·exact h
 ·exact absurd (h2 0 (by omega) (by omega)) (Nat.not_lt_zero _)
theorem bel_next {xs:Array Nat} (r:Rise xs) {i:Nat} (hi:i<xs.size):SetTable.below xs (xs[i]+1)=i+1:=by
 obtain ⟨h1,h2,h3⟩:=bel r (xs[i]+1)
 have a:¬ SetTable.below xs (xs[i]+1)<=i:=λq=>by have:=h3 i hi q;omega
 by_cases b:i+1<SetTable.below xs (xs[i]+1)
 ·have:=h2 (i+1) (by omega) b
  have:=r i (i+1) hi (by omega) (by omega)
  omega
 ·omega
theorem rise_in {xs:Array Nat} (r:Rise xs) {j:Nat} (hn:¬ xs[SetTable.below xs j]?=some j):Rise (SetTable.insertAt xs (SetTable.below xs j) j):=by
 obtain ⟨h1,h2,h3⟩:=bel r j
 generalize SetTable.below xs j=p at h1 h2 h3 hn
 have h4:∀ i (h:i<xs.size),p<=i->j<xs[i]:=λi h q=>by
  have a:=h3 i h q
  by_cases e:i=p
  ·subst e
   have:xs[i]≠j:=λz=>hn (by rw [Array.getElem?_eq_getElem h,z])
   omega
  ·have b:=r p i (by omega) h (by omega)
   have c:=h3 p (by omega) (Nat.le_refl _)
   omega
 have sz:(SetTable.insertAt xs p j).size=xs.size+1:=by
  simp [SetTable.insertAt];omega
 have at_:∀ i (h:i<(SetTable.insertAt xs p j).size),(SetTable.insertAt xs p j)[i]=if h':i<p then xs[i]'(by omega) else if h2:i=p then j else xs[i-1]'(by rw [sz] at h;omega):=by
  intro i h
  have h':i<xs.size+1:=by rw [<- sz];exact h
  have e:(SetTable.insertAt xs p j)[i]?=(xs.toList.take p++j::xs.toList.drop p)[i]?:=by
   rw [<- Array.getElem?_toList]
   congr 1
   simp [SetTable.insertAt,List.extract_eq_take_drop,List.take_of_length_le]
  have e2:(SetTable.insertAt xs p j)[i]?=some (SetTable.insertAt xs p j)[i]:=Array.getElem?_eq_getElem h
  rw [e2] at e
  by_cases c1:i<p
  ·rw [dif_pos c1]
   rw [List.getElem?_append_left (by simp;omega),List.getElem?_take_of_lt c1,Array.getElem?_toList,Array.getElem?_eq_getElem (by omega)] at e
   exact Option.some.inj e
  ·rw [dif_neg c1]
   rw [List.getElem?_append_right (by simp;omega)] at e
   have l:(xs.toList.take p).length=p:=by simp;omega
   rw [l] at e
   by_cases c2:i=p
   ·rw [dif_pos c2]
    subst c2
    rw [Nat.sub_self,List.getElem?_cons_zero] at e
    exact Option.some.inj e
   ·rw [dif_neg c2]
    obtain ⟨k,rfl⟩:∃ k,i=p+k+1:=⟨i-p-1,by omega⟩
    rw [show p+k+1-p=k+1 by omega,List.getElem?_cons_succ,List.getElem?_drop,Array.getElem?_toList,Array.getElem?_eq_getElem (by omega)] at e
    exact Option.some.inj e
 intro a b ha hb hab
 rw [at_ a ha,at_ b hb]
 rw [sz] at ha hb
 by_cases c1:b<p
 ·rw [dif_pos c1,dif_pos (by omega)]
  exact r a b _ _ hab
 ·rw [dif_neg c1]
  by_cases c2:b=p
  ·rw [dif_pos c2,dif_pos (by omega)]
   exact h2 a _ (by omega)
  ·rw [dif_neg c2]
   by_cases c3:a<p
   ·rw [dif_pos c3]
    exact Nat.lt_trans (h2 a (by omega) c3) (h4 (b-1) (by omega) (by omega))
   ·rw [dif_neg c3]
    by_cases c4:a=p
    ·rw [dif_pos c4]
     exact h4 (b-1) (by omega) (by omega)
    ·rw [dif_neg c4]
     exact r (a-1) (b-1) _ _ (by omega)
structure Tb (t:SetTable) (led:Bool):Prop where
 rise:Rise t.place
 dum:t.dummies=#[]
 led:t.led=led
theorem Tb.fresh (b:Bool):Tb (SetTable.fresh 0 0 b) b:=⟨λi j hi=>absurd hi (by simp [SetTable.fresh]),rfl,rfl⟩
theorem Tb.slot {t:SetTable} {b:Bool} (h:Tb t b) (j:Nat):t.slot j≠.dummy/\(t.slot j=.empty->¬ t.place[SetTable.below t.place j]?=some j):=by
 unfold SetTable.slot
 dsimp only
 by_cases e:t.place[SetTable.below t.place j]?=some j
 ·have:(t.place[SetTable.below t.place j]? == some j)=true:=by rw [e];simp
  rw [if_pos this]
  exact ⟨(λz=>nomatch z),(λz=>nomatch z)⟩
 ·have:¬ (t.place[SetTable.below t.place j]? == some j)=true:=by simpa using e
  rw [if_neg this]
  have hd:SetTable.has t.dummies j=false:=by rw [h.dum];simp [SetTable.has,SetTable.below,SetTable.below.go]
  rw [hd]
  exact ⟨(λz=>nomatch z),λ_=>e⟩
end L2
namespace L2
open PySem PySem.Spec PyProof.Rows
def iv:Value->Int
 |.int n _=>n
 |_=>0
structure Se (P:Program) (w:World) (h:Heap) (a:Addr) (led:Bool) (es:Array (Int×Value)) (ep:Nat) (t:SetTable):Prop where
 at_:h.get? a=some { cls:=.type "set",data:=.set es ep t }
 el:ElemsOf (intKind P w) es.toList
 all:∀ e∈es.toList,∃ n tk,e.2=.int n tk
 nd:(es.toList.map λe=>iv e.2).Nodup
 small:es.size<scanBound
 fits:t.fits es.size=true
 tb:Tb t led
def SI (P:Program) (w:World) (h:Heap) (a:Addr) (led:Bool) (ms:List Int) (c:Nat):Prop :=
 ∃ es ep t,Se P w h a led es ep t/\(∀ k,k∈ms↔k∈es.toList.map λe=>iv e.2)/\es.size<=c
theorem ik_is {P:Program} {w:World} {k n:Int} {tk:Tok}:(intKind P w).is k (.int n tk)=true↔k=n:=by
 constructor
 ·intro h
  exact (intKind P w).inj _ _ _ h (intKind_is P w n tk)
 ·rintro rfl
  exact intKind_is P w k tk
theorem put_at {h:Heap} {a:Addr} {es es1:Array (Int×Value)} {ep:Nat} {t t1:SetTable} (e:h.get? a=some { cls:=.type "set",data:=.set es ep t }) :
  (h.update a (Obj.putSet es1 t1)).get? a=some { cls:=.type "set",data:=.set es1 (ep+1) t1 }:=by
 have q:=Heap.get?_update_self (Obj.putSet es1 t1) e (by rw [putSet_of es1 t1 rfl];rfl)
 rw [putSet_of es1 t1 rfl] at q
 exact q
end L2
namespace L2
open PySem PySem.Spec PyProof.Rows
theorem wp_choose {M:Model} {A:Around} {E:Value->Shared->Prop} {s:Shared} {src:Source} {n:Nat} {Q:Nat->Shared->Prop} (hn:n≠0) (h:∀ i,i<n->Q i { s with drawn:=s.drawn.bump src }):wpAny M A (choose src n) Q E s :=
 λ_ _ _=>⟨hn,h _ (Nat.mod_lt _ (Nat.pos_of_ne_zero hn))⟩
theorem erase_perm {α:Type}:∀ (l:List α) (i:Nat) (h:i<l.length),List.Perm (l[i]::l.eraseIdx i) l
 |[],_,h=>absurd h (Nat.not_lt_zero _)
 |x::r,0,_=>.rfl
 |x::r,i+1,h=>((List.Perm.swap _ _ _)).trans ((erase_perm r i (by simpa using h)).cons x)
theorem draw_order {M:Model} {A:Around} {E:Value->Shared->Prop} {α:Type}:∀ (n:Nat) (xs:List α) (s:Shared) (Q:List α->Shared->Prop),xs.length=n->(∀ ys d,List.Perm ys xs->Q ys { s with drawn:=d })->wpAny M A (drawOrder n xs) Q E s:=by
 intro n
 induction n with
 |zero =>
  intro xs s Q e h
  obtain rfl:=List.length_eq_zero_iff.mp e
  unfold drawOrder
  have q:=h [] s.drawn .rfl
  exact wpAny_pure (by cases s;exact q)
 |succ n ih =>
  intro xs s Q e h
  cases xs with
  |nil=>cases e
  |cons x r =>
   unfold drawOrder
   refine wpAny_bind (wp_choose (by simp) λi hi=>?_)
   have hg:(x::r)[i]?=some (x::r)[i]:=List.getElem?_eq_getElem hi
   rw [hg]
   refine wpAny_bind (ih _ _ _ (by rw [List.length_eraseIdx_of_lt hi];simpa using e) λys d p=>wpAny_pure ?_)
   exact h _ d ((p.cons _).trans (erase_perm _ _ hi))
theorem pick_perm {α:Type} (nx:Nat->Nat):∀ (n k:Nat) (l:List α) (out:Array α),l.length=n->List.Perm (pickOrder.go nx n k l out).toList (out.toList++l)
 |0,k,l,out,e=>by
  have:l=[]:=List.length_eq_zero_iff.mp e
  subst this
  unfold pickOrder.go
  simp
 |n+1,k,l,out,e=>by
  unfold pickOrder.go
  have hi:nx k%l.length<l.length:=Nat.mod_lt _ (by omega)
  rw [List.getElem?_eq_getElem hi]
  dsimp only
  refine (pick_perm nx n (k+1) _ _ (by rw [List.length_eraseIdx_of_lt hi];omega)).trans ?_
  rw [Array.toList_push,List.append_assoc]
  exact (erase_perm _ _ hi).append_left _
theorem en_sit:entryFor table "set_iterator.__next__"=some Builtin.«set_iterator.__next__»:=entryFor_of_tree (by kernel_rfl)
theorem sl_sit:Slot "set_iterator" "__next__" "set_iterator.__next__" :=
 .of (owner:="set_iterator") (n:="__next__") (by rw [typeLookup_type,builtinLookup_eq_fast];kernel_rfl) (by decide +kernel) (by decide +kernel) (by decide +kernel) (by first | exact .inl (by decide +kernel) | exact .inr (by decide +kernel)) (by rw [isSubtype_type];kernel_rfl)
theorem ar_sit (a:Value):argsOk "set_iterator.__next__" ⟨[a],[]⟩:=by unfold argsOk;kernel_rfl
theorem en_sei:entryFor table "set.__iter__"=some Builtin.«frozenset.__iter__»:=entryFor_alias (id':="frozenset.__iter__") (by kernel_rfl) rfl (by decide +kernel) (by kernel_rfl)
theorem en_sii:entryFor table "set_iterator.__iter__"=some Builtin.«dict_keyiterator.__iter__»:=entryFor_alias (id':="dict_keyiterator.__iter__") (by kernel_rfl) rfl (by decide +kernel) (by kernel_rfl)
theorem sl_sii:Slot "set_iterator" "__iter__" "set_iterator.__iter__" :=
 .of (owner:="set_iterator") (n:="__iter__") (by rw [typeLookup_type,builtinLookup_eq_fast];kernel_rfl) (by decide +kernel) (by decide +kernel) (by decide +kernel) (by first | exact .inl (by decide +kernel) | exact .inr (by decide +kernel)) (by rw [isSubtype_type];kernel_rfl)
theorem ar_sii (a:Value):argsOk "set_iterator.__iter__" ⟨[a],[]⟩:=by unfold argsOk;kernel_rfl
end L2
namespace L2
open PySem PySem.Spec PyProof.Rows
def sObj (es:Array (Int×Value)) (ep:Nat) (t:SetTable):Obj:={ cls:=.type "set",data:=.set es ep t }
def itObj (f:Value) (i:Int) (S:Addr) (n ep:Nat):Obj:={ cls:=.type "set_iterator",data:=.fields #[f,rawInt i,.ref S,rawInt n,rawInt ep] }
theorem iter_set {P:Program} {w:World} {A:Around} {E:Value->Shared->Prop} {s:Shared} {S:Addr} {es:Array (Int×Value)} {ep:Nat} {t:SetTable} {Q:Value->Shared->Prop}
  (at_:s.heap.get? S=some (sObj es ep t)) (fits:t.fits es.size=true) (small:es.size<=sizeLine)
  (h1:(!(w.params.followText "set-order")&&(!t.plain&&decide (es.size > 1)))=false->Q (.ref s.heap.objs.size) { s with heap:=s.heap.push (itObj (rawInt 0) 0 S es.size ep) })
  (h2:w.params.followText "set-order"=false->∀ (ps:List Nat) d,List.Perm ps (List.range es.size) ->
   Q (.ref (s.heap.objs.size+1)) { s with heap:=(s.heap.push { cls:=.type "tuple",data:=.seq (ps.map λ(i:Nat)=>rawInt i).toArray }).push (itObj (.ref s.heap.objs.size) 0 S es.size ep),drawn:=d }) :
  wpAny (model P w) A (pyIter (.ref S)) Q E s:=by
 have hT:s.TypeIs (.ref S) "set":=⟨_,at_,rfl⟩
 refine wpAny_pyIter_slot hT F.slot_set_iter (wpAny_call_entry F.slot_set_iter hT en_sei ?_ (F.args_set_iter_1 _))
 unfold Builtin.«frozenset.__iter__»
 refine wpAny_bind (wpAny_of_eq (a:=S) rfl ?_)
 unfold Builtin.Frozenset.sizeOf setEntries setDrawn setsByText
 refine wpAny_bind (wpAny_bind (wpAny_bind (wpAny_setState_of at_ rfl fits (wpAny_pure (wpAny_pure ?_)))))
 refine wpAny_bind (wpAny_bind (wpAny_setState_of at_ rfl fits (wpAny_bind (wpAny_bind (wpAny_askSetting (wpAny_pure (wpAny_pure ?_)))))))
 dsimp only
 split
 ·rename_i q
  have q':(!w.params.followText "set-order"&&(!t.plain&&decide (es.size > 1)))=true:=q
  have hf:w.params.followText "set-order"=false:=by
   cases z:w.params.followText "set-order" with
   |false=>rfl
   |true=>rw [z] at q';simp at q'
  refine wpAny_bind (draw_order _ _ _ _ (by simp) λps d hp=>?_)
  have hl:(ps.map λ(i:Nat)=>rawInt i).length=es.size:=by have:=hp.length_eq;simpa using this
  have hz:es.size<=sizeLine:=small
  simp only [newTuple,newFields]
  refine wpAny_bind (wpAny_newObj_type ?_ (show (ps.map λ(i:Nat)=>rawInt i).toArray.size<=sizeLine by rw [List.size_toArray,hl];exact hz))
  have at2:(s.heap.push { cls:=.type "tuple",data:=.seq (ps.map λ(i:Nat)=>rawInt i).toArray }).get? S=some (sObj es ep t):=Heap.get?_push_of_some _ at_
  refine wpAny_bind (wpAny_setEpoch_of (s:={ s with heap:=_,drawn:=d }) at2 rfl fits ?_)
  refine wpAny_bind (wpAny_newObj_type (wpAny_pure ⟨_,rfl, "set_iterator",_,⟨_,Heap.get?_push_size _ rfl,rfl⟩,sl_sit.lookup,?_⟩) (by size_fits))
  have:=h2 hf ps d hp
  have sz:(s.heap.push { cls:=.type "tuple",data:=.seq (ps.map λ(i:Nat)=>rawInt i).toArray }).objs.size=s.heap.objs.size+1:=by rw [Heap.size_push]
  rw [sz]
  exact this
 ·rename_i q
  have q':(!w.params.followText "set-order"&&(!t.plain&&decide (es.size > 1)))=false:=by
   cases z:(!w.params.followText "set-order"&&(!t.plain&&decide (es.size > 1))) with
   |false=>rfl
   |true=>exact absurd z q
  refine wpAny_bind (wpAny_pure ?_)
  simp only [newFields]
  refine wpAny_bind (wpAny_setEpoch_of at_ rfl fits ?_)
  exact wpAny_bind (wpAny_newObj_type (wpAny_pure ⟨_,rfl, "set_iterator",_,⟨_,Heap.get?_push_size _ rfl,rfl⟩,sl_sit.lookup,h1 q'⟩) (by size_fits))
end L2
namespace L2
open PySem PySem.Spec PyProof.Rows
section
variable {P:Program} {w:World} {A:Around} {E:Value->Shared->Prop} {s:Shared} {S I:Addr} {es:Array (Int×Value)} {ep:Nat} {t:SetTable}
theorem sn_text {j i:Nat} {Q:Option (Value×Nat)->Shared->Prop} (at_:s.heap.get? S=some (sObj es ep t)) (fits:t.fits es.size=true) (ht:w.params.followText "set-order"=true)
  (h:Q (((pickOrder (w.params.setOrder S ep) es)[i]?).map λe=>(e.2,j)) s):wpAny (model P w) A (setNext S j i ep) Q E s:=by
 have ht':(model P w).w.params.followText "set-order"=true:=ht
 unfold setNext setsByText setWalk
 refine wpAny_bind (wpAny_setState_of at_ rfl fits (wpAny_bind (wpAny_bind (wpAny_askSetting (wpAny_pure ?_)))))
 dsimp only
 rw [if_pos ht',if_neg (by simp)]
 unfold setsByText
 refine wpAny_bind (wpAny_bind (wpAny_setState_of at_ rfl fits (wpAny_bind (wpAny_bind (wpAny_askSetting (wpAny_pure ?_))))))
 dsimp only
 rw [if_pos ht']
 exact wpAny_bind (wpAny_askSetting (wpAny_pure (wpAny_pure h)))
theorem sn_slot {j i:Nat} {Q:Option (Value×Nat)->Shared->Prop} (at_:s.heap.get? S=some (sObj es ep t)) (fits:t.fits es.size=true) (ht:w.params.followText "set-order"=false)
  (hd:(!t.plain&&decide (es.size > 1))=false) (hl:t.led=true)
  (h:Q (match es[SetTable.below t.place j]?,t.place[SetTable.below t.place j]? with | some (_,x),some p=>some (x,p+1) | _,_=>none) s):wpAny (model P w) A (setNext S j i ep) Q E s:=by
 have ht':¬ (model P w).w.params.followText "set-order"=true:=by rw [show (model P w).w.params.followText "set-order"=false from ht];simp
 unfold setNext setsByText
 refine wpAny_bind (wpAny_setState_of at_ rfl fits (wpAny_bind (wpAny_bind (wpAny_askSetting (wpAny_pure ?_)))))
 dsimp only
 rw [if_neg ht']
 split
 ·rename_i q
  have q':(!t.plain&&decide (es.size > 1))=true:=q
  rw [hd] at q'
  cases q'
 ·refine wpAny_bind (wpAny_of_eq (a:=()) ?_ (wpAny_pure h))
  show (if (!t.led&&!es.isEmpty)=true then unsupported "set:maker-not-led" else pure ())=pure ()
  rw [hl]
  rfl
theorem it_upd {h:Heap} {f g:Value} {i i':Int} {n:Nat} (e:h.get? I=some (itObj f i S n ep)) :
  ((h.update I (Obj.mapFields (·.setIfInBounds 0 g))).update I (Obj.mapFields (·.setIfInBounds 1 (rawInt i')))).get? I=some (itObj g i' S n ep):=by
 have e1:(h.update I (Obj.mapFields (·.setIfInBounds 0 g))).get? I=some (itObj g i S n ep):=Heap.get?_update_self _ e rfl
 exact Heap.get?_update_self _ e1 rfl
theorem it_upd1 {h:Heap} {f:Value} {i i':Int} {n:Nat} (e:h.get? I=some (itObj f i S n ep)):(h.update I (Obj.mapFields (·.setIfInBounds 1 (rawInt i')))).get? I=some (itObj f i' S n ep):=Heap.get?_update_self _ e rfl
theorem stop_here {Q:Option Value->Shared->Prop} (hh:A.handled=none) (hQ:∀ h',(∀ b o,s.heap.get? b=some o->h'.get? b=some o)->Q none { s with heap:=h' }) :
  wpAny (model P w) A.in1 (newExc (Value.type "StopIteration") [] >>= λe=>raiseNew e) (λ(fin:PySem.Fin) s'=>∃ v,fin=Fin.done (Flow.ret v)/\wpAny (model P w) A (pure (some v)) Q E s')
   (λe s'=>wpAny (model P w) A (isInstance e (Value.type "StopIteration") >>= λb=>if b=true then pure none else throw e) Q E s') s:=by
 refine wpAny_bind ?_
 simp only [newExc,newTuple]
 refine wpAny_bind (wpAny_newObj_type (wpAny_bind (m:=firstArgMember _ _) (wpAny_of_eq (a:=Value.none) (by first | rfl | (simp only [firstArgMember];rfl)) (wpAny_newObj_type ?_ (by size_fits)))) (by size_fits))
 simp only [raiseNew]
 refine wpAny_bind (wpAny_handled ?_)
 rw [show A.in1.handled=none from hh]
 refine ((wpAny_bind (wpAny_pure (wpAny_throw ?_))))
 refine ((wpAny_bind (wpAny_isInstance (T:="StopIteration") (b:=true) ⟨_,Heap.get?_push_size _ rfl,rfl⟩ isSubtype_stop ?_)))
 refine (wpAny_pure ?_)
 exact hQ _ λb o e=>Heap.get?_push_of_some _ (Heap.get?_push_of_some _ e)
theorem nx_item {j i j':Nat} {x:Value} {Q:Option Value->Shared->Prop} (it:s.heap.get? I=some (itObj (rawInt j) i S es.size ep)) (at_:s.heap.get? S=some (sObj es ep t)) (fits:t.fits es.size=true)
  (sn:∀ (A:Around) (E:Value->Shared->Prop) (R:Option (Value×Nat)->Shared->Prop),R (some (x,j')) s->wpAny (model P w) A (setNext S j i ep) R E s)
  (hQ:∀ h',Heap.SameBut I s.heap h'->h'.get? I=some (itObj (rawInt j') (i+1:Nat) S es.size ep)->Q (some x) { s with heap:=h' }):wpAny (model P w) A (pyNext (.ref I)) Q E s:=by
 have hT:s.TypeIs (.ref I) "set_iterator":=⟨_,it,rfl⟩
 unfold pyNext
 refine wpAny_bind (wpAny_attempt (wpAny_callSpecial?_slot (name:=Str.ofString "__next__") hT sl_sit (wpAny_call_entry sl_sit hT en_sit ?_ (ar_sit _))))
 unfold Builtin.«set_iterator.__next__»
 refine wpAny_bind (wpAny_of_eq (a:=(Value.ref I,[])) rfl ?_)
 refine wpAny_bind (wpAny_fieldsOf it rfl ?_)
 show wpAny _ _ (setEntries S >>= _) _ _ s
 unfold setEntries
 refine wpAny_bind (wpAny_bind (wpAny_setState_of at_ rfl fits (wpAny_pure ?_)))
 dsimp only
 rw [if_neg (by simp)]
 show wpAny _ _ (setNext S j i ep >>= _) _ _ s
 refine wpAny_bind (sn _ _ _ ?_)
 dsimp only
 refine wpAny_bind (wpAny_setField it rfl (by simp) ?_)
 have it1:(s.heap.update I (Obj.mapFields (·.setIfInBounds 0 (rawInt j')))).get? I=some (itObj (rawInt j') i S es.size ep):=Heap.get?_update_self _ it rfl
 refine wpAny_bind (wpAny_setField (s:={ s with heap:=_ }) it1 rfl (by simp) (wpAny_pure ⟨_,rfl,wpAny_pure (hQ _ ?_ ?_)⟩))
 ·exact (Heap.SameBut.update _ I _).trans (Heap.SameBut.update _ I _)
 ·exact it_upd it
theorem nx_end {j i:Nat} {Q:Option Value->Shared->Prop} (hh:A.handled=none) (it:s.heap.get? I=some (itObj (rawInt j) i S es.size ep)) (at_:s.heap.get? S=some (sObj es ep t)) (fits:t.fits es.size=true)
  (sn:∀ (A:Around) (E:Value->Shared->Prop) (R:Option (Value×Nat)->Shared->Prop),R none s->wpAny (model P w) A (setNext S j i ep) R E s)
  (hQ:∀ h',(∀ b o,b≠I->s.heap.get? b=some o->h'.get? b=some o)->Q none { s with heap:=h' }):wpAny (model P w) A (pyNext (.ref I)) Q E s:=by
 have hT:s.TypeIs (.ref I) "set_iterator":=⟨_,it,rfl⟩
 unfold pyNext
 refine wpAny_bind (wpAny_attempt (wpAny_callSpecial?_slot (name:=Str.ofString "__next__") hT sl_sit (wpAny_call_entry sl_sit hT en_sit ?_ (ar_sit _))))
 unfold Builtin.«set_iterator.__next__»
 refine wpAny_bind (wpAny_of_eq (a:=(Value.ref I,[])) rfl (wpAny_bind (wpAny_fieldsOf it rfl ?_)))
 show wpAny _ _ (setEntries S >>= _) _ _ s
 unfold setEntries
 refine wpAny_bind (wpAny_bind (wpAny_setState_of at_ rfl fits (wpAny_pure ?_)))
 dsimp only
 rw [if_neg (by simp)]
 show wpAny _ _ (setNext S j i ep >>= _) _ _ s
 refine wpAny_bind (sn _ _ _ ?_)
 dsimp only
 refine wpAny_bind (wpAny_setField it rfl (by simp) ?_)
 exact stop_here hh λh' z=>hQ h' λb o hb e=>z b o ((Heap.get?_update_other _ _ (Ne.symm hb)).trans e)
end
end L2
namespace L2
open PySem PySem.Spec PyProof.Rows
section
variable {P:Program} {w:World} {A:Around} {E:Value->Shared->Prop} {s:Shared} {S I T:Addr} {es:Array (Int×Value)} {ep:Nat} {t:SetTable}
theorem self_it {f:Value} {i:Int} {n:Nat} {Q:Value->Shared->Prop} (it:s.heap.get? I=some (itObj f i S n ep)) (h:Q (.ref I) s):wpAny (model P w) A (pyIter (.ref I)) Q E s:=by
 have hT:s.TypeIs (.ref I) "set_iterator":=⟨_,it,rfl⟩
 refine wpAny_pyIter_slot hT sl_sii (wpAny_call_entry sl_sii hT en_sii ?_ (ar_sii _))
 show wpAny (model P w) _ (ret (.ref I)) _ _ s
 exact wpAny_pure ⟨_,rfl, "set_iterator",_,hT,sl_sit.lookup,h⟩
def lotObj (ps:List Nat):Obj:={ cls:=.type "tuple",data:=.seq (ps.map λ(i:Nat)=>rawInt i).toArray }
theorem lot_item {i p:Nat} {ps:List Nat} {x:Int×Value} {Q:Option Value->Shared->Prop} (it:s.heap.get? I=some (itObj (.ref T) i S es.size ep)) (at_:s.heap.get? S=some (sObj es ep t)) (fits:t.fits es.size=true)
  (tt:s.heap.get? T=some (lotObj ps)) (hp:ps[i]?=some p) (hx:es[p]?=some x) (hQ:∀ h',Heap.SameBut I s.heap h'->h'.get? I=some (itObj (.ref T) (i+1:Nat) S es.size ep)->Q (some x.2) { s with heap:=h' }) :
  wpAny (model P w) A (pyNext (.ref I)) Q E s:=by
 have hT:s.TypeIs (.ref I) "set_iterator":=⟨_,it,rfl⟩
 unfold pyNext
 refine wpAny_bind (wpAny_attempt (wpAny_callSpecial?_slot (name:=Str.ofString "__next__") hT sl_sit (wpAny_call_entry sl_sit hT en_sit ?_ (ar_sit _))))
 unfold Builtin.«set_iterator.__next__»
 refine wpAny_bind (wpAny_of_eq (a:=(Value.ref I,[])) rfl (wpAny_bind (wpAny_fieldsOf it rfl ?_)))
 show wpAny _ _ (setEntries S >>= _) _ _ s
 unfold setEntries
 refine wpAny_bind (wpAny_bind (wpAny_setState_of at_ rfl fits (wpAny_pure ?_)))
 dsimp only
 rw [if_neg (by simp)]
 show wpAny _ _ (seqItems? (.ref T) >>= _) _ _ s
 refine wpAny_bind ?_
 unfold seqItems?
 dsimp only
 refine wpAny_bind (wpAny_load tt (wpAny_pure ?_))
 have hi:(ps.map λ(i:Nat)=>rawInt i).toArray[i]?=some (rawInt p):=by simp [hp]
 show wpAny _ _ (match (ps.map λ(i:Nat)=>rawInt i).toArray[i]? with | some (Value.int place tok)=>_ | some val=>_ | none=>_) _ _ s
 rw [hi]
 show wpAny _ _ (setNextDrawn S p ep >>= _) _ _ s
 unfold setNextDrawn
 refine wpAny_bind (wpAny_bind (wpAny_setState_of at_ rfl fits ?_))
 dsimp only
 rw [if_neg (by simp),hx]
 refine wpAny_pure (wpAny_bind (wpAny_setField it rfl (by simp) (wpAny_pure ⟨_,rfl,wpAny_pure (hQ _ (Heap.SameBut.update _ I _) (it_upd1 it))⟩)))
theorem lot_end {i:Nat} {ps:List Nat} {Q:Option Value->Shared->Prop} (hh:A.handled=none) (it:s.heap.get? I=some (itObj (.ref T) i S es.size ep)) (at_:s.heap.get? S=some (sObj es ep t)) (fits:t.fits es.size=true)
  (tt:s.heap.get? T=some (lotObj ps)) (hp:ps[i]?=none) (hQ:∀ h',(∀ b o,b≠I->s.heap.get? b=some o->h'.get? b=some o)->Q none { s with heap:=h' }):wpAny (model P w) A (pyNext (.ref I)) Q E s:=by
 have hT:s.TypeIs (.ref I) "set_iterator":=⟨_,it,rfl⟩
 unfold pyNext
 refine wpAny_bind (wpAny_attempt (wpAny_callSpecial?_slot (name:=Str.ofString "__next__") hT sl_sit (wpAny_call_entry sl_sit hT en_sit ?_ (ar_sit _))))
 unfold Builtin.«set_iterator.__next__»
 refine wpAny_bind (wpAny_of_eq (a:=(Value.ref I,[])) rfl (wpAny_bind (wpAny_fieldsOf it rfl ?_)))
 show wpAny _ _ (setEntries S >>= _) _ _ s
 unfold setEntries
 refine wpAny_bind (wpAny_bind (wpAny_setState_of at_ rfl fits (wpAny_pure ?_)))
 dsimp only
 rw [if_neg (by simp)]
 show wpAny _ _ (seqItems? (.ref T) >>= _) _ _ s
 refine wpAny_bind ?_
 unfold seqItems?
 dsimp only
 refine wpAny_bind (wpAny_load tt (wpAny_pure ?_))
 have hi:(ps.map λ(i:Nat)=>rawInt i).toArray[i]?=none:=by
  rw [List.getElem?_eq_none_iff] at hp
  simp;exact hp
 show wpAny _ _ (match (ps.map λ(i:Nat)=>rawInt i).toArray[i]? with | some (Value.int place tok)=>_ | some val=>_ | none=>_) _ _ s
 rw [hi]
 dsimp only
 refine wpAny_bind (wpAny_setField it rfl (by simp) ?_)
 have it1:(s.heap.update I (Obj.mapFields (·.setIfInBounds 0 (rawInt 0)))).get? I=some (itObj (rawInt 0) i S es.size ep):=Heap.get?_update_self _ it rfl
 refine wpAny_bind (wpAny_setField (s:={ s with heap:=_ }) it1 rfl (by simp) ?_)
 exact stop_here hh λh' z=>hQ h' λb o hb e=>z b o ((Heap.get?_update_other _ _ (Ne.symm hb)).trans ((Heap.get?_update_other _ _ (Ne.symm hb)).trans e))
theorem walk_text (hh:A.handled=none) (fits:t.fits es.size=true) (ht:w.params.followText "set-order"=true) (hne:S≠I) :
  Walks P w A I [I,S] [I] es.size (λi v=>∃ e,(pickOrder (w.params.setOrder S ep) es)[i]?=some e/\v=e.2) (λi h=>h.get? I=some (itObj (rawInt (0:Nat)) i S es.size ep)/\h.get? S=some (sObj es ep t)) where
 sub:=λb hb=>by simp at hb;simp [hb]
 frame:=λi h h' st k=>⟨k I (by simp) _ st.1,k S (by simp) _ st.2⟩
 item:=λi s Q E hi st hQ=>by
  have hl:(pickOrder (w.params.setOrder S ep) es).size=es.size:=by
   have:=(pick_perm (w.params.setOrder S ep) es.size 0 es.toList #[] (by simp)).length_eq
   simpa [pickOrder] using this
  have hx:(pickOrder (w.params.setOrder S ep) es)[i]?=some (pickOrder (w.params.setOrder S ep) es)[i]:=Array.getElem?_eq_getElem (by omega)
  refine nx_item st.1 st.2 fits (x:=(pickOrder (w.params.setOrder S ep) es)[i].2) (j':=0) (λA E R q=>sn_text st.2 fits ht (by rw [hx];exact q)) λh' sb e=>?_
  exact hQ _ h' s.toks ⟨_,hx,rfl⟩ ⟨e,(sb.2 S hne).trans st.2⟩ λb o hb q=>(sb.2 b (λz=>hb (by simp [z]))).trans q
 done:=λs Q E st hQ=>by
  have hl:(pickOrder (w.params.setOrder S ep) es).size=es.size:=by
   have:=(pick_perm (w.params.setOrder S ep) es.size 0 es.toList #[] (by simp)).length_eq
   simpa [pickOrder] using this
  have hx:(pickOrder (w.params.setOrder S ep) es)[es.size]?=none:=Array.getElem?_eq_none (by omega)
  exact nx_end hh st.1 st.2 fits (λA E R q=>sn_text st.2 fits ht (by rw [hx];exact q)) λh' k=>hQ h' s.toks λb o hb q=>k b o (λz=>hb (by simp [z])) q
 self:=λi s Q E st hQ=>self_it st.1 hQ
theorem walk_slot (hh:A.handled=none) (fits:t.fits es.size=true) (ht:w.params.followText "set-order"=false) (hd:(!t.plain&&decide (es.size > 1))=false) (tb:Tb t true) (hne:S≠I) :
  Walks P w A I [I,S] [I] es.size (λi v=>∃ e,es[i]?=some e/\v=e.2) (λi h=>(∃ j:Nat,SetTable.below t.place j=i/\h.get? I=some (itObj (rawInt j) i S es.size ep))/\h.get? S=some (sObj es ep t)) where
 sub:=λb hb=>by simp at hb;simp [hb]
 frame:=λi h h' st k=>by
  obtain ⟨⟨j,hj,e⟩,q⟩:=st
  exact ⟨⟨j,hj,k I (by simp) _ e⟩,k S (by simp) _ q⟩
 item:=λi s Q E hi st hQ=>by
  obtain ⟨⟨j,hj,e⟩,q⟩:=st
  have hz:t.place.size=es.size:=by
   unfold SetTable.fits at fits
   simp at fits
   exact fits.1
  have hx:es[i]?=some es[i]:=Array.getElem?_eq_getElem hi
  have hp:t.place[i]?=some (t.place[i]'(by omega)):=Array.getElem?_eq_getElem (by omega)
  refine nx_item e q fits (x:=es[i].2) (j':=t.place[i]'(by omega)+1) (λA E R z=>sn_slot q fits ht hd tb.led (by rw [hj,hx,hp];exact z)) λh' sb e'=>?_
  exact hQ _ h' s.toks ⟨_,hx,rfl⟩ ⟨⟨_,bel_next tb.rise (by omega),e'⟩,(sb.2 S hne).trans q⟩ λb o hb z=>(sb.2 b (λy=>hb (by simp [y]))).trans z
 done:=λs Q E st hQ=>by
  obtain ⟨⟨j,hj,e⟩,q⟩:=st
  exact nx_end hh e q fits (λA E R z=>sn_slot q fits ht hd tb.led (by rw [hj,Array.getElem?_eq_none (Nat.le_refl _)];exact z)) λh' k=>hQ h' s.toks λb o hb z=>k b o (λy=>hb (by simp [y])) z
 self:=λi s Q E st hQ=>let ⟨⟨_,_,e⟩,_⟩:=st;self_it e hQ
theorem walk_lot (hh:A.handled=none) (fits:t.fits es.size=true) {ps:List Nat} (hp:List.Perm ps (List.range es.size)) (hne:S≠I) (hnt:T≠I) :
  Walks P w A I [I,S,T] [I] es.size (λi v=>∃ p e,ps[i]?=some p/\es[p]?=some e/\v=e.2) (λi h=>h.get? I=some (itObj (.ref T) i S es.size ep)/\h.get? S=some (sObj es ep t)/\h.get? T=some (lotObj ps)) where
 sub:=λb hb=>by simp at hb;simp [hb]
 frame:=λi h h' st k=>⟨k I (by simp) _ st.1,k S (by simp) _ st.2.1,k T (by simp) _ st.2.2⟩
 item:=λi s Q E hi st hQ=>by
  have hl:ps.length=es.size:=by have:=hp.length_eq;simpa using this
  have h1:ps[i]?=some (ps[i]'(by omega)):=List.getElem?_eq_getElem (by omega)
  have h2:ps[i]'(by omega)<es.size:=List.mem_range.mp (hp.mem_iff.mp (List.getElem_mem _))
  have h3:es[ps[i]'(by omega)]?=some (es[ps[i]'(by omega)]'h2):=Array.getElem?_eq_getElem h2
  refine lot_item st.1 st.2.1 fits st.2.2 h1 h3 λh' sb e=>?_
  exact hQ _ h' s.toks ⟨_,_,h1,h3,rfl⟩ ⟨e,(sb.2 S hne).trans st.2.1,(sb.2 T hnt).trans st.2.2⟩ λb o hb q=>(sb.2 b (λz=>hb (by simp [z]))).trans q
 done:=λs Q E st hQ=>by
  have hl:ps.length=es.size:=by have:=hp.length_eq;simpa using this
  exact lot_end hh st.1 st.2.1 fits st.2.2 (List.getElem?_eq_none (by omega)) λh' k=>hQ h' s.toks λb o hb q=>k b o (λz=>hb (by simp [z])) q
 self:=λi s Q E st hQ=>self_it st.1 hQ
end
end L2
namespace L2
open PySem PySem.Spec PyProof.Rows
theorem en_sul:entryFor table "set.update.loop"=some Builtin.«set.update.loop»:=entryFor_of_tree (by kernel_rfl)
theorem pl_sul:plainId "set.update.loop"=true:=by decide +kernel
end L2
namespace L2
open PySem PySem.Spec PyProof.Rows
section
variable {P:Program} {w:World} {A:Around} {E:Value->Shared->Prop} {s:Shared}
theorem code_setnew (a:Value) {R:Value->Shared->Prop} {led:Bool} (hled:led=!w.params.followText "set-order") (h:R (.ref s.heap.objs.size) { s with heap:=s.heap.push { cls:=.type "set",dict:=none,data:=.set #[] 0 (.fresh 0 0 led) } }) :
  codeAny (model P w) A (.call (.builtin "set.__new__") ⟨[.type "set",a],[]⟩) (wants R E) s:=by
 refine codeAny_of_tree (?_:wpAny _ A.in1 (do checkBuiltinCall "set.__new__" ⟨[.type "set",a],[]⟩;again (.builtin "set.__new__" ⟨[.type "set",a],[]⟩)) _ _ s)
 refine wpAny_bind (wpAny_of_eq (PySem.F.newCall_set_1 a) (wpAny_pure ⟨plainId_quiet PySem.F.plain_set_new _,codeAny_builtin PySem.F.entry_set_new ?_⟩))
 rw [Around.under_plainId PySem.F.plain_set_new _]
 unfold Builtin.«set.__new__» Builtin.Frozenset.newClass
 have sub:=sub_set_self
 obtain ⟨hp,g,d,tk,os⟩:=s
 dsimp only
 wp_walk
 refine wpAny_askSetting (wpAny_pure ?_)
 dsimp only
 simp only [newObj]
 subst hled
 exact wpAny_bind (wpAny_alloc (wpAny_pure (wpAny_pure h)))
end
end L2
namespace L2
open PySem PySem.Spec PyProof.Rows
section
variable {P:Program} {w:World} {A:Around} {E:Value->Shared->Prop} {s:Shared}
theorem hint_set {r:Addr} {Q:Bool->Shared->Prop} (hT:s.TypeIs (.ref r) "set") (h:Q false s):wpAny (model P w) A (Builtin.List.listLengthHint (.ref r)) Q E s:=by
 unfold Builtin.List.listLengthHint
 refine wpAny_bind (wpAny_specialOf hT PySem.F.slot_set_len.lookup ?_)
 generalize eid:("set.__len__":String)=id0
 wp_delta
 rw [show splitId id0=some ("set", "__len__") from by subst eid;decide +kernel]
 subst eid
 refine wpAny_bind (wpAny_isInstance (T:="set") (b:=true) hT sub_set_self ?_)
 refine wpAny_ite_split (λq=>absurd q (by decide)) (λ_=>wpAny_ite_split (λ_=>?_) (λq=>absurd (by decide +kernel) q))
 exact wpAny_bind (wpAny_typeOf hT (wpAny_pure h))
theorem perm_items {Pv:Nat->Value->Prop} {acc:Array Value} {n:Nat} {Z:List Value} (h:ItemsOf Pv acc n) (hz:Z.length=n) (hp:∀ i v,Pv i v->Z[i]?=some v):acc.toList=Z:=by
 refine List.ext_getElem? λi=>?_
 rw [Array.getElem?_toList]
 by_cases hi:i<acc.size
 ·have e:=Array.getElem?_eq_getElem hi
  rw [e,hp i _ (h.2 i _ e)]
 ·rw [Array.getElem?_eq_none (by omega),List.getElem?_eq_none (by have:=h.1;omega)]
def Iterates (P:Program) (w:World) (A:Around) (s:Shared) (S:Addr) (n:Nat) (Z:List Value):Prop:=∀ (E:Value->Shared->Prop) (Q:Value->Shared->Prop),
 (∀ (I:Addr) (fp:List Addr) (Pv:Nat->Value->Prop) (St:Nat->Heap->Prop) (h':Heap) (d:Drawn),s.heap.objs.size<=I->(∀ b∈fp,b=S\/s.heap.objs.size<=b)->Walks P w A I fp [I] n Pv St->St 0 h' ->
  (∀ b o,s.heap.get? b=some o->h'.get? b=some o)->(∀ acc:Array Value,ItemsOf Pv acc n->List.Perm acc.toList Z)->Q (.ref I) { s with heap:=h',drawn:=d })->wpAny (model P w) A (pyIter (.ref S)) Q E s
theorem iter_gen {S:Addr} {led:Bool} {es:Array (Int×Value)} {ep:Nat} {t:SetTable} (hh:A.handled=none) (at_:s.heap.get? S=some (sObj es ep t)) (fits:t.fits es.size=true) (small:es.size<scanBound) (tbl:Tb t led) (hled:led=!w.params.followText "set-order"):Iterates P w A s S es.size (es.toList.map (·.2)):=by
 intro E Q h
 have hlt:S<s.heap.objs.size:=Heap.lt_size at_
 have hlen:(es.toList.map (·.2)).length=es.size:=by simp
 refine iter_set at_ fits (fits_of_scanBound small) (λq=>?_) (λhf ps d hp=>?_)
 ·cases ht:w.params.followText "set-order" with
  |true =>
   have hpm:=pick_perm (w.params.setOrder S ep) es.size 0 es.toList #[] (by simp)
   have e1:(pickOrder (w.params.setOrder S ep) es).toList.Perm es.toList:=by simpa [pickOrder] using hpm
   refine h _ [s.heap.objs.size,S] _ _ _ s.drawn (Nat.le_refl _) (λb hb=>?_) (walk_text (ep:=ep) hh fits ht (Nat.ne_of_lt hlt)) ⟨Heap.get?_push_size _ rfl,Heap.get?_push_of_some _ at_⟩ (λb o e=>Heap.get?_push_of_some _ e) λacc ha=>?_
   ·simp at hb
    rcases hb with e | e
    ·exact .inr (by rw [e];exact Nat.le_refl _)
    ·exact .inl e
   ·rw [perm_items (Z:=(pickOrder (w.params.setOrder S ep) es).toList.map (·.2)) ha (by rw [List.length_map,e1.length_eq];simp) λi v hv=>by
     obtain ⟨e,he,rfl⟩:=hv
     rw [List.getElem?_map,Array.getElem?_toList,he];rfl]
    exact e1.map _
  |false =>
   rw [ht] at q hled
   have hd:(!t.plain&&decide (es.size > 1))=false:=by simpa using q
   have tb:Tb t true:=by have:=tbl;rw [hled] at this;exact this
   refine h _ [s.heap.objs.size,S] _ _ _ s.drawn (Nat.le_refl _) (λb hb=>?_) (walk_slot (ep:=ep) hh fits ht hd tb (Nat.ne_of_lt hlt)) ⟨⟨0,bel_zero tb.rise,Heap.get?_push_size _ rfl⟩,Heap.get?_push_of_some _ at_⟩ (λb o e=>Heap.get?_push_of_some _ e) λacc ha=>?_
   ·simp at hb
    rcases hb with e | e
    ·exact .inr (by rw [e];exact Nat.le_refl _)
    ·exact .inl e
   ·rw [perm_items (Z:=es.toList.map (·.2)) ha hlen λi v hv=>by
     obtain ⟨e,he,rfl⟩:=hv
     rw [List.getElem?_map,Array.getElem?_toList,he];rfl]
 ·have hl:ps.length=es.size:=by have:=hp.length_eq;simpa using this
  refine h _ [s.heap.objs.size+1,S,s.heap.objs.size] _ _ _ d (Nat.le_succ _) (λb hb=>?_) (walk_lot (T:=s.heap.objs.size) (ep:=ep) hh fits hp (Nat.ne_of_lt (Nat.lt_succ_of_lt hlt)) (Nat.ne_of_lt (Nat.lt_succ_self _))) ⟨?_,?_,?_⟩ (λb o e=>Heap.get?_push_of_some _ (Heap.get?_push_of_some _ e)) λacc ha=>?_
  ·simp at hb
   rcases hb with e | e | e
   ·exact .inr (by rw [e];exact Nat.le_succ _)
   ·exact .inl e
   ·exact .inr (by rw [e];exact Nat.le_refl _)
  ·have:=Heap.get?_push_size (s.heap.push { cls:=.type "tuple",data:=.seq (ps.map λ(i:Nat)=>rawInt i).toArray }) (o:=itObj (.ref s.heap.objs.size) 0 S es.size ep) rfl
   rw [Heap.size_push] at this
   exact this
  ·exact Heap.get?_push_of_some _ (Heap.get?_push_of_some _ at_)
  ·exact Heap.get?_push_of_some _ (Heap.get?_push_size _ rfl)
  ·have e1:(ps.filterMap λp=>es[p]?).Perm es.toList:=by
    refine (hp.filterMap _).trans ?_
    rw [filterMap_getElem?_range]
   have e2:∀ (qs:List Nat),(∀ p∈qs,p<es.size)->∀ (i p:Nat),qs[i]?=some p->(qs.filterMap λp=>es[p]?)[i]?=es[p]?:=by
    intro qs
    induction qs with
    |nil=>intro _ i p e;simp at e
    |cons a r ih =>
     intro hq i p e
     have ha:a<es.size:=hq a (by simp)
     rw [List.filterMap_cons_some (Array.getElem?_eq_getElem ha)]
     cases i with
     |zero=>simp at e;rw [List.getElem?_cons_zero,<- e,Array.getElem?_eq_getElem ha]
     |succ i=>rw [List.getElem?_cons_succ];exact ih (λp hp=>hq p (by simp [hp])) i p (by simpa using e)
   rw [perm_items (Z:=(ps.filterMap λp=>es[p]?).map (·.2)) ha (by rw [List.length_map,e1.length_eq];simp) λi v hv=>by
    obtain ⟨p,e,h1,h2,rfl⟩:=hv
    rw [List.getElem?_map,e2 ps (λp hp'=>List.mem_range.mp (hp.mem_iff.mp hp')) i p h1,h2];rfl]
   exact e1.map _
theorem ext_of {R:Result->Shared->Prop} {S L:Addr} {n:Nat} {Z:List Value} {c:Nat} (hn:n<=sizeLine) (hT:s.TypeIs (.ref S) "set") (hS:S<s.heap.objs.size) (hLS:L≠S) (it:Iterates P w A.in1 s S n Z) (hL:s.heap.get? L=some { cls:=.type "list",data:=.seq #[] c })
  (hR:∀ h' tk d acc c',(∀ b o,b≠L->s.heap.get? b=some o->h'.get? b=some o)->h'.get? L=some { cls:=.type "list",dict:=none,data:=.seq acc c',slots:=#[] }->List.Perm acc.toList Z->R (.ok (.ret (.ref L))) { s with heap:=h',toks:=tk,drawn:=d }) :
  wpAny (model P w) A.in1 (Builtin.List.listExtendWith (.ref L) (.ref S) (.ref L)) (λfin s'=>match fin with | .done f=>R (.ok f) s' | .again c'=>c'.quiet=true/\codeAny (model P w) A c' R s') (λe s'=>R (.error e) s') s:=by
 unfold Builtin.List.listExtendWith
 refine wpAny_bind (wpAny_typeOf (T:="set") hT ?_)
 have h1:Builtin.List.listSameRef (.ref L) (.ref S)=false:=by simp [Builtin.List.listSameRef,hLS]
 have h2:(Value.type "set" == Value.type "list")=false:=by decide
 have h3:(Value.type "set" == Value.type "tuple")=false:=by decide
 simp only [h1,h2,h3,Bool.or_false,Bool.false_eq_true,if_false]
 refine wpAny_bind (it _ _ λI fp Pv St h' d hI hfp W st kp pm=>?_)
 have hlL:L<s.heap.objs.size:=Heap.lt_size hL
 have hLf:L∉fp:=λz=>(hfp L z).elim (λe=>hLS e) λe=>absurd hlL (Nat.not_lt.mpr e)
 have hL1:=kp _ _ hL
 have hT1:Shared.TypeIs { s with heap:=h',drawn:=d } (.ref S) "set":=by
  obtain ⟨o,e,c⟩:=hT
  exact ⟨o,kp _ _ e,c⟩
 refine wpAny_bind (wpAny_holding (hint_set hT1 ?_))
 have key:∀ (h1:Heap) (c1 tk:Nat),St 0 h1->(∀ b o,b≠L->s.heap.get? b=some o->h1.get? b=some o)->h1.get? L=some { cls:=.type "list",data:=.seq #[] c1 } ->
   codeAny (model P w) A (.builtin "list.extend.loop" ⟨[.ref L,.ref I,.ref L],[]⟩) R { s with heap:=h1,toks:=tk,drawn:=d }:=by
  intro h1 c1 tk st1 k1 hL1
  refine codeAny_extend_loopS W.toS hn L hLf (.ref L) n 0 _ #[] c1 rfl (Nat.zero_le _) st1 hL1 (ItemsOf.nil _) λs' acc' c' hm hL' hacc=>?_
  obtain ⟨h2,g2,d2,tk2,os2⟩:=s'
  have eg:g2=s.gens:=hm.gens
  have ed:d2=d:=hm.drawn
  have eo:os2=s.os:=hm.os
  subst eg;subst ed;subst eo
  refine hR h2 tk2 d2 acc' c' (λb o hb e=>hm.heap b o (λz=>?_) (k1 b o hb e)) hL' (pm _ hacc)
  rcases List.mem_cons.mp z with z | z
  ·exact hb z
  ·rw [List.mem_singleton.mp z] at e
   exact absurd (Heap.lt_size e) (Nat.not_lt.mpr hI)
 refine wpAny_ite_split (λ_=>?_) (λ_=>wpAny_pure ⟨plainId_quiet PySem.F.plain_extend_loop _,key _ c _ st (λb o _ e=>kp b o e) hL1⟩)
 refine wpAny_bind (wpAny_rule (wpAny_bind (?_:wpAny _ _ (updateSeq L (·.push .none) >>= λ_=>updateSeq L (·.pop)) _ _ _)))
 refine wpAny_bind (wpAny_updateSeq hL1 rfl ?_)
 have hL2:=Heap.get?_update_self (Obj.mapSeq (·.push Value.none)) hL1 rfl
 refine wpAny_updateSeq (hz:=by seq_fits) hL2 rfl ?_
 have hL3:=Heap.get?_update_self (Obj.mapSeq (·.pop)) hL2 rfl
 refine wpAny_pure ⟨plainId_quiet PySem.F.plain_extend_loop _,key _ _ _ (W.frame 0 _ _ st λb hb o e=>?_) (λb o hb e=>?_) hL3⟩
 ·have hbL:b≠L:=λz=>hLf (z▸hb)
  exact (Heap.get?_update_other _ _ (Ne.symm hbL)).trans ((Heap.get?_update_other _ _ (Ne.symm hbL)).trans e)
 ·exact (Heap.get?_update_other _ _ (Ne.symm hb)).trans ((Heap.get?_update_other _ _ (Ne.symm hb)).trans (kp b o e))
end
end L2
namespace L2
open PySem PySem.Spec PyProof.Rows
section
variable {P:Program} {w:World} {A:Around} {E:Value->Shared->Prop} {s:Shared}
theorem col_of {S:Addr} {n:Nat} {Z:List Value} {R:List Value->Shared->Prop} (hn:n<=sizeLine) (hS:s.TypeIs (.ref S) "set") (hlt:S<s.heap.objs.size)
  (it:∀ s':Shared,(∀ b o,s.heap.get? b=some o->s'.heap.get? b=some o)->Iterates P w A.in1 s' S n Z)
  (h:∀ h' tk d vs,(∀ b o,s.heap.get? b=some o->h'.get? b=some o)->s.heap.objs.size<h'.objs.size->List.Perm vs Z->R vs { s with heap:=h',toks:=tk,drawn:=d }):wpAny (model P w) A (collect (.ref S)) R E s:=by
 unfold collect
 refine wpAny_bind (wpAny_runValue (codeAny_builtin entry_proto_collect' ?_))
 rw [Around.under_plainId PySem.F.plain_proto_collect _]
 refine wpAny_bind (m:=newList []) (wpAny_newObj_type (wpAny_pure ⟨plainId_quiet PySem.F.plain_list_iadd _,codeAny_builtin entry_list_iadd' ?_⟩))
 rw [Around.under_plainId PySem.F.plain_list_iadd _]
 have hL:(s.heap.push { cls:=.type "list",data:=.seq ([]:List Value).toArray }).get? s.heap.objs.size=some { cls:=.type "list",data:=.seq #[] }:=Heap.get?_push_size _ rfl
 have kp:∀ b o,s.heap.get? b=some o->(s.heap.push { cls:=.type "list",data:=.seq ([]:List Value).toArray }).get? b=some o:=λb o e=>Heap.get?_push_of_some _ e
 have hT1:Shared.TypeIs { s with heap:=s.heap.push { cls:=.type "list",data:=.seq ([]:List Value).toArray } } (.ref S) "set":=by
  obtain ⟨o,e,c⟩:=hS
  exact ⟨o,kp _ _ e,c⟩
 have key:=ext_of (A:=A) (s:={ s with heap:=s.heap.push { cls:=.type "list",data:=.seq ([]:List Value).toArray } })
  (R:=λ(q:Result) (s':Shared)=>∃ h' tk d acc c',q=.ok (.ret (.ref s.heap.objs.size))/\s'={ s with heap:=h',toks:=tk,drawn:=d }/\(∀ b o,s.heap.get? b=some o->h'.get? b=some o) /\
   h'.get? s.heap.objs.size=some { cls:=.type "list",dict:=none,data:=.seq acc c',slots:=#[] }/\List.Perm acc.toList Z)
  hn hT1 (by show S<(s.heap.push _).objs.size;rw [Heap.size_push];exact Nat.lt_succ_of_lt hlt) (Nat.ne_of_gt hlt) (it _ kp) hL
  (λh' tk d acc c' k1 hL' p=>⟨h',tk,d,acc,c',rfl,rfl,λb o e=>k1 b o (Nat.ne_of_lt (Heap.lt_size e)) (kp b o e),hL',p⟩)
 refine wpAny_mono key (λfin s' x=>?_) λe s' x=>?_
 ·cases fin with
  |done f =>
   obtain ⟨h',tk,d,acc,c',e,rfl,k1,hL',p⟩:=x
   cases e
   refine wpAny_bind (m:=load s.heap.objs.size) (wpAny_load hL' ?_)
   exact wpAny_pure (h h' tk d _ k1 (Heap.lt_size hL') p)
  |again c1 =>
   refine ⟨x.1,codeAny_mono x.2 λq s2 y=>?_⟩
   obtain ⟨h',tk,d,acc,c',rfl,rfl,k1,hL',p⟩:=y
   refine wpAny_bind (m:=load s.heap.objs.size) (wpAny_load hL' ?_)
   exact wpAny_pure (h h' tk d _ k1 (Heap.lt_size hL') p)
 ·obtain ⟨_,_,_,_,_,e',_⟩:=x
  cases e'
end
end L2
namespace L2
open PySem PySem.Spec PyProof.Rows
theorem bt_sorted:bootBuiltins "sorted"=some (.builtin "sorted"):=by decide +kernel
theorem bt_set:bootBuiltins "set"=some (.type "set"):=by decide +kernel
section
variable {X:Cx} {pins:List (Addr×Obj)} {σ:St} {H:Hp} {s:Shared}
theorem Inv.laidD {a:Addr} {o:HO} {h':Heap} {t':Nat} {d':Drawn} (I:Inv X pins σ H s) (k:∀ b u,s.heap.get? b=some u->h'.get? b=some u) (hp:s.heap.objs.size<=a) (new:ObjOk X.prog X.w (upd H a o) h' a o) :
  Inv X pins σ (upd H a o) { s with heap:=h',toks:=t',drawn:=d' }:=by
 have I1:=I.laid (t':=t') k hp new
 exact ⟨I1.ok,I1.os,I1.bare,I1.base,I1.loc,I1.cell,I1.free,I1.freeC,I1.pin,I1.hok,I1.len⟩
end
end L2
namespace L2
open PySem PySem.Spec PyProof.Rows
section
variable {X:Cx}
end
section
variable {P:Program} {w:World} {K:PySem.W.Frag} {mg:Str->Option Value} {base:Heap}
end
section
variable {P:Program} {w:World} {K:PySem.W.Frag} {mg:Str->Option Value} {base:Heap}
end
end L2
namespace L2
open PySem PySem.Spec PyProof.Rows
end L2
namespace L2
open PySem PySem.Spec PyProof.Rows
section
variable {X:Cx}
end
end L2
namespace L2
open PySem PySem.Spec PyProof.Rows
structure InC (K:PySem.W.Frag) (x:Str) (C:Addr):Prop where
 a:PySem.W.nsIn K mainGlobals x=some (some (.ref C))
 pg:PySem.W.plainGet K C Str.empty=true
 hd:PySem.W.hasDictIn K C=true
 po:PySem.W.plainOver K C=true
 sa:PySem.W.findIn K (.ref C) "__setattr__"=some (some (.builtin "object.__setattr__"))
 mak:PySem.W.makesIn K C=true
 kp:PySem.W.keepIn K (.ref C)=true
theorem InC.cls {K:PySem.W.Frag} {x:Str} {C:Addr} (i:InC K x C):Cls K C:=⟨i.pg,i.hd,i.po,i.sa⟩
structure InM (K:PySem.W.Frag) (C:Addr) (m q:Str) (st:Stmt):Prop where
 ex:∃ (f:Addr) (oc:Value) (od:Option Addr) (kV doc pm:Value) (an:Option Addr) (cdv ct:Value) (osl:Array (Option Value)),
  PySem.W.findIn K (.ref C) m=some (some (.ref f))/\PySem.W.isFn K (.ref f)=true/\K.lookup f=some ⟨oc,od,.func (PySem.W.fnOf m q (defArgs st) (defBody st) (defScope st) .none kV doc pm an cdv ct),osl⟩/\PySem.W.codeIn K cdv q=true/\PySem.W.keepIn K (.ref f)=true
theorem InM.of {K:PySem.W.Frag} {C:Addr} {m q:Str} {st:Stmt} {f:Addr} {oc:Value} {od:Option Addr} {kV doc pm:Value} {an:Option Addr} {cdv ct:Value} {osl:Array (Option Value)}
  (a:PySem.W.findIn K (.ref C) m=some (some (.ref f))) (i:PySem.W.isFn K (.ref f)=true) (l:K.lookup f=some ⟨oc,od,.func (PySem.W.fnOf m q (defArgs st) (defBody st) (defScope st) .none kV doc pm an cdv ct),osl⟩) (c:PySem.W.codeIn K cdv q=true) (k:PySem.W.keepIn K (.ref f)=true):InM K C m q st :=
 ⟨⟨f,oc,od,kV,doc,pm,an,cdv,ct,osl,a,i,l,c,k⟩⟩
set_option genInjectivity false in
structure MDef (K:PySem.W.Frag) (C:Addr) (m q:Str) (st:Stmt) (ps:List Str) where
 f:Addr
 fd:FuncData
 F:Fun K m q st f fd
 me:Meth K C m f
 b:Binds K fd ps []
theorem InM.def {K:PySem.W.Frag} {C:Addr} {m q:Str} {st:Stmt} {ps:List Str} (i:InM K C m q st)
  (hb:∀ (kV doc pm:Value) (an:Option Addr) (cdv ct:Value) (us:List Value),us.length=ps.length->bindArgs (PySem.W.fnOf m q (defArgs st) (defBody st) (defScope st) .none kV doc pm an cdv ct) ⟨us,[]⟩=pure (ps.zip us)):Nonempty (MDef K C m q st ps):=by
 obtain ⟨f,oc,od,kV,doc,pm,an,cdv,ct,osl,a,i,l,c,k⟩:=i.ex
 have F:=fun_mk (x:=m) (qual:=q) (st:=st) l c k
 exact ⟨⟨f,_,F,⟨a,i,k⟩,F.binds hb⟩⟩
def unV (u:Value):V:=(absV u).getD .non
theorem unV_of {x:V} {u:Value} (r:RelV x u):unV u=x:=by
 cases x with
 |non=>cases (show u=Value.none from r);rfl
 |bl b=>cases (show u=Value.bool b from r);rfl
 |int i=>obtain ⟨t,q⟩:=(show ∃ t,u=Value.int i t from r);cases q;rfl
 |str z=>obtain ⟨t,q⟩:=(show ∃ t,u=Value.str z t from r);cases q;rfl
 |byt b=>obtain ⟨t,q⟩:=(show ∃ t,u=Value.bytes b t from r);cases q;rfl
 |flt b=>obtain ⟨t,q⟩:=(show ∃ t,u=Value.float b t from r);cases q;rfl
 |ref a=>cases (show u=Value.ref a from r);rfl
 |ty n=>cases (show u=Value.type n from r);rfl
theorem any_abs {e:V->Bool}:∀ {xs:List V} {us:List Value},Vals xs us->us.any (λu=>e (unV u))=xs.any e
 |_,_,.nil=>rfl
 |_,_,.cons r t=>by rw [List.any_cons,List.any_cons,unV_of r,any_abs t]
theorem mem_vals:∀ {xs:List V} {us:List Value} {u:Value},Vals xs us->u∈us->∃ x∈xs,RelV x u
 |_,_,_,.nil,h=>by cases h
 |_,_,_,.cons r t,h=>by
  rcases List.mem_cons.mp h with rfl | h
  ·exact ⟨_,List.mem_cons_self,r⟩
  ·obtain ⟨x,hx,rx⟩:=mem_vals t h
   exact ⟨x,List.mem_cons_of_mem _ hx,rx⟩
section
variable {X:Cx}
def rInD (K:PySem.W.Frag) (neg:Bool):R2:=λx y H Q=>∃ p xs n,∃ e:V->Bool,y=.ref p/\SqL K H p xs/\n<=90/\(∀ z∈xs,EqD K H n z x (e z))/\Q (.bl (neg^^xs.any e)) H
theorem op_notInD (hu:X.A.units+100<cLine):OpR X (compareOp .NotIn) (rInD X.K true):=by
 intro pins s σ H x y v u Q I rx ry h
 obtain ⟨p,xs,n,e,rfl,hq,hn,he,q⟩:=h
 cases ry
 obtain ⟨its,r,pl,hz⟩:=I.list hq
 refine SeqAt.notIn_listAt (λu=>e (unV u)) pl.isList (λw hw=>?_) ⟨.bl _,H,I,rfl,?_⟩
 ·obtain ⟨z,hz,rz⟩:=mem_vals r (by simpa using hw)
  rw [unV_of rz]
  exact (he z hz).at rfl I rz rx (by show X.A.units+1+n<cLine;omega)
 ·rw [show its.toArray.any (λu=>e (unV u))=its.any (λu=>e (unV u)) by simp,any_abs r]
  rw [Bool.true_xor] at q
  exact q
end
end L2
namespace HT
open PySem PySem.Spec PyProof.Rows
section
variable {prog:Program} {w:World} {A:Around} {E:Value->Shared->Prop} {s:Shared}
theorem getItem_tuple_whole {t sl:Addr} {items:Array Value} {vl vu:Value} {lo hi:Option Int} {Q:Value->Shared->Prop} (ht:IsTup s.heap t items) (hs:s.heap.IsSliceOf sl vl vu .none) (pl:IsPart vl lo) (pu:IsPart vu hi)
  (hw:sIx items.size 0 lo=0/\sIx items.size items.size hi=items.size) (h:Q (.ref t) s):wpAny (model prog w) A (getItem (.ref t) (.ref sl)) Q E s:=by
 obtain ⟨os,hos,hcs,hds⟩:=id hs
 have hTs:s.TypeIs (.ref sl) "slice":=⟨os,hos,hcs⟩
 unfold getItem
 try with_reducible refine wpAny_holding ?_
 first | refine wpAny_bind (wpAny_pure ?_) | skip
 refine wpAny_bind (wpAny_sequenceKey ht.typeIs (by decide) ?_)
 refine wpAny_bind (wpAny_callSpecial?_slot (name:=Str.ofString "__getitem__") ht.typeIs PyProof.Rows.slot_tuple_getitem
  (wpAny_call_entry PyProof.Rows.slot_tuple_getitem ht.typeIs entry_tuple_getitem ?_ (args_tuple_getitem _ _)))
 show wpAny _ _ (Builtin.Tuple.tupleItemsOf (.ref t) >>= _) _ _ s
 refine wpAny_bind (tupleItemsOf_ ht ?_)
 refine wpAny_bind (wpAny_typeOf hTs ?_)
 rw [if_pos (by decide)]
 refine wpAny_bind (sliceApplied_gen hs pl pu ?_)
 dsimp only
 rw [if_pos (by rw [hw.1,hw.2];simp)]
 unfold Builtin.Tuple.tupleIsExact
 refine wpAny_bind (wpAny_bind (wpAny_typeOf ht.typeIs (wpAny_pure ?_)))
 rw [if_pos (by decide)]
 refine wpAny_bind (wpAny_rule (wpAny_pure ?_))
 exact ⟨_,rfl,wpAny_pure h⟩
end
end HT
namespace L2
open PySem PySem.Spec PyProof.Rows
section
variable {X:Cx}
def rSlTW (K:PySem.W.Frag):V->Option Int->Option Int->Hp->VK->Prop:=λx lo hi H Q=>∃ a xs,x=.ref a/\SqT K H a xs /\
 ((HT.sIx xs.length 0 lo=0/\HT.sIx xs.length xs.length hi=xs.length)->Q x H)/\(¬ (HT.sIx xs.length 0 lo=0/\HT.sIx xs.length xs.length hi=xs.length)->∀ p,H p=none->Q (.ref p) (upd H p (.tup (cutV xs lo hi))))
theorem sl_tupW:SlR X (rSlTW X.K):=by
 intro pins s σ H x v vl vu lo hi sl Q I rx hs pl pu h
 obtain ⟨a,xs,e,hx,q1,q2⟩:=h
 by_cases hw:HT.sIx xs.length 0 lo=0/\HT.sIx xs.length xs.length hi=xs.length
 ·subst e
  cases rx
  obtain ⟨its,r,ht,hz⟩:=I.tuple hx
  have hlen:its.toArray.size=xs.length:=by rw [List.size_toArray];exact r.length.symm
  refine ⟨"tuple",_,PyProof.Rows.slot_tuple_getitem.lookup,ht.typeIs,?_⟩
  exact HT.getItem_tuple_whole ht hs pl pu (by rw [hlen];exact hw) ⟨.ref a,H,I,rfl,q1 hw⟩
 ·exact sl_tup pins s σ H x v vl vu lo hi sl Q I rx hs pl pu ⟨a,xs,e,hx,hw,q2 hw⟩
end
end L2
namespace L2
open PySem PySem.Spec PyProof.Rows
structure FunD (K:PySem.W.Frag) (x qual:Str) (st:Stmt) (dV:Value) (f:Addr) (fd:FuncData):Prop where
 ex:∃ (oc:Value) (od:Option Addr) (kV doc pm:Value) (an:Option Addr) (cdv ct:Value) (osl:Array (Option Value)),
  fd=PySem.W.fnOf x qual (defArgs st) (defBody st) (defScope st) dV kV doc pm an cdv ct/\K.lookup f=some ⟨oc,od,.func fd,osl⟩/\PySem.W.codeIn K cdv qual=true
 kp:PySem.W.keepIn K (.ref f)=true
theorem FunD.ok {P:Program} {w:World} {K:PySem.W.Frag} {mg:Str->Option Value} {base:Heap} {x qual:Str} {st:Stmt} {dV:Value} {f:Addr} {fd:FuncData} {N ps:List Str} {k:Nat} {sp:Sp} (F:FunD K x qual st dV f fd) (S:FnScope N ps (defScope st)) (len:∀ vs H Q E,sp vs H Q E->vs.length=ps.length)
  (hbody:∀ (cdv:Value) (A:Around) (outer:List Env) (s:Shared) (H:Hp) (vs:List V) (Q:VK) (E:XK),Room k (A.deeper (envOfC qual (defScope st) s.heap.objs.size f cdv))->sp vs H Q E ->
   ∃ t,PSs (cxOf CX0 P w K mg base N qual (defScope st) f cdv A outer s H E).nox (defBody st) t/\t { nx:=λ_ H'=>Q .non H',rt:=Q } (start N vs) H):FnOk P w K mg base CX0 (k+1) f fd ps sp:=by
 obtain ⟨oc,od,kV,doc,pm,an,cdv,ct,osl,rfl,lk,hcd⟩:=F.ex
 refine fn_of lk hcd S len λA outer s H vs Q E hr hsp=>?_
 obtain ⟨t,h,q⟩:=hbody cdv A outer s H vs Q E hr hsp
 exact ⟨t,h.nox,q⟩
structure CMeth (K:PySem.W.Frag) (C:Addr) (m:Str) (f:Addr):Prop where
 ga:PySem.W.specialIn K (.ref C) "__getattribute__"=some (some (.builtin "type.__getattribute__"))
 rd:PySem.W.readsIn K C (.type "type")=true
 fi:PySem.W.findCls K (.ref C) (.type "type") m=some (.val (.ref f))
 kp:PySem.W.keepIn K (.ref f)=true
structure InMD (K:PySem.W.Frag) (C:Addr) (m q:Str) (st:Stmt):Prop where
 ex:∃ (f T:Addr) (oc:Value) (od:Option Addr) (kV doc pm:Value) (an:Option Addr) (cdv ct:Value) (osl:Array (Option Value)) (dd:Option Addr) (n:Nat) (sl:Array (Option Value)),
  PySem.W.findIn K (.ref C) m=some (some (.ref f))/\PySem.W.isFn K (.ref f)=true/\K.lookup f=some ⟨oc,od,.func (PySem.W.fnOf m q (defArgs st) (defBody st) (defScope st) (.ref T) kV doc pm an cdv ct),osl⟩/\PySem.W.codeIn K cdv q=true/\PySem.W.keepIn K (.ref f)=true /\
   K.lookup T=some ⟨.type "tuple",dd,.seq #[.none] n,sl⟩/\CMeth K C m f
theorem InMD.of {K:PySem.W.Frag} {C:Addr} {m q:Str} {st:Stmt} {f T:Addr} {oc:Value} {od:Option Addr} {kV doc pm:Value} {an:Option Addr} {cdv ct:Value} {osl:Array (Option Value)} {dd:Option Addr} {n:Nat} {sl:Array (Option Value)}
  (a:PySem.W.findIn K (.ref C) m=some (some (.ref f))) (i:PySem.W.isFn K (.ref f)=true) (l:K.lookup f=some ⟨oc,od,.func (PySem.W.fnOf m q (defArgs st) (defBody st) (defScope st) (.ref T) kV doc pm an cdv ct),osl⟩) (c:PySem.W.codeIn K cdv q=true) (k:PySem.W.keepIn K (.ref f)=true)
  (d:K.lookup T=some ⟨.type "tuple",dd,.seq #[.none] n,sl⟩) (ga:PySem.W.specialIn K (.ref C) "__getattribute__"=some (some (.builtin "type.__getattribute__"))) (rd:PySem.W.readsIn K C (.type "type")=true) (fi:PySem.W.findCls K (.ref C) (.type "type") m=some (.val (.ref f))):InMD K C m q st :=
 ⟨⟨f,T,oc,od,kV,doc,pm,an,cdv,ct,osl,dd,n,sl,a,i,l,c,k,d,ga,rd,fi,k⟩⟩
set_option genInjectivity false in
structure MDefD (K:PySem.W.Frag) (C:Addr) (m q:Str) (st:Stmt) (ps:List Str) where
 f:Addr
 fd:FuncData
 dV:Value
 F:FunD K m q st dV f fd
 me:Meth K C m f
 b:Binds K fd ps []
 b1:Binds K fd ps [.none]
 cm:CMeth K C m f
theorem InMD.def {K:PySem.W.Frag} {C:Addr} {m q:Str} {st:Stmt} {ps:List Str} (i:InMD K C m q st)
  (h0:∀ (T:Addr) (kV doc pm:Value) (an:Option Addr) (cdv ct:Value) (us:List Value),us.length=ps.length->∃ k,bindArgs (PySem.W.fnOf m q (defArgs st) (defBody st) (defScope st) (.ref T) kV doc pm an cdv ct) ⟨us,[]⟩=seqItems? (.ref T) >>= k/\k (some #[.none])=pure (ps.zip us))
  (h1:∀ (T:Addr) (kV doc pm:Value) (an:Option Addr) (cdv ct:Value) (us:List Value),us.length+1=ps.length->∃ k,bindArgs (PySem.W.fnOf m q (defArgs st) (defBody st) (defScope st) (.ref T) kV doc pm an cdv ct) ⟨us,[]⟩=seqItems? (.ref T) >>= k/\k (some #[.none])=pure (ps.zip (us++[Value.none]))):Nonempty (MDefD K C m q st ps):=by
 obtain ⟨f,T,oc,od,kV,doc,pm,an,cdv,ct,osl,dd,n,sl,a,i,l,c,k,d,cm⟩:=i.ex
 refine ⟨⟨f,PySem.W.fnOf m q (defArgs st) (defBody st) (defScope st) (.ref T) kV doc pm an cdv ct,.ref T,⟨⟨oc,od,kV,doc,pm,an,cdv,ct,osl,rfl,l,c⟩,k⟩,⟨a,i,k⟩,λs us X hl=>?_,λs us X hl=>?_,cm⟩⟩
 ·rw [List.append_nil] at hl |-
  obtain ⟨kk,e1,e2⟩:=h0 T kV doc pm an cdv ct us hl
  exact BindsTo.of_defaults (T:=T) (items:=#[.none]) rfl (X T _ d) rfl e1 e2
 ·obtain ⟨kk,e1,e2⟩:=h1 T kV doc pm an cdv ct us (by rw [List.length_append] at hl;exact hl)
  exact BindsTo.of_defaults (T:=T) (items:=#[.none]) rfl (X T _ d) rfl e1 e2
section
variable {X:Cx} {CX:CXT} {k:Nat} {f C:Addr} {fd:FuncData} {ps:List Str} {sp:Sp} {dvs:List V} {ds:List Value} {E:XK} {x m:Str} {p pos apos:Pos} {e o:Expr} {es:List Expr} {ta:TE} {t:TA}
def tCMeth (C:Addr) (sp:Sp) (dvs:List V) (E:XK) (ta:TE) (t:TA):TE:=λσ H Q=>ta σ H λx H1=>x=.ref C/\t σ H1 λvs H2=>sp (vs++dvs) H2 Q E
theorem pe_cmeth {pl:Sem Bool} (he:PE X o ta) (hm:CMeth X.K C m f) (F:FnOk X.prog X.w X.K X.mg X.base CX k f fd ps sp) (hr:Room k X.A) (hb:Binds X.K fd ps ds) (hd:Vals dvs ds) (hx:Passes CX X E) (ha:PA X (e::es) t)
  (hst:starEach (e::es) X.env=(false,eval e X.env)::starEach es X.env:=by rfl) (hpl:(backTo pos (starEach es X.env)).any (·.1)=false:=by rfl)
  (ht:eval (.Call (.Attribute o m apos) (e::es) [] pos) X.env=(do
   let ov <- eval o X.env
   standAt apos.atName
   let (f,first) <- holding [ov] (getMethod ov m pl)
   callWith pos f first (backTo pos (starEach (e::es) X.env)) (backToKw pos (keywordEach [] X.env))):=by rfl) :
  PE X (.Call (.Attribute o m apos) (e::es) [] pos) (tCMeth C sp dvs E ta t):=by
 intro pins s σ H Q I h
 refine PySem.W.methodCall_KW (pl:=pl) (thn (he pins s σ H _ I h) λu s1 ⟨x,H1,I1,rx,ex,q⟩=>?_) ht
 subst ex
 obtain rfl:u=Value.ref C:=rx
 refine PySem.W.method_cls I1.kIn hm.ga (PySem.W.cls_value I1.kIn hm.rd hm.fi rfl ?_)
 have I1':=I1.tok (s1.toks+1)
 refine PySem.W.callWith_K (first:=[]) (h₀:=X.base) I.ok.mod.kin hm.kp (thn (ha pos pins _ σ H1 _ I1' q) λus s2 ⟨vs,H2,I2,r,q2⟩=>⟨I2.kIn,?_⟩) hst hpl
 exact run_fn (us:=us) (vs:=vs) F hr hb hd hx I2 r q2
theorem op_eqM (hu:X.A.units+100<cLine):OpR X (compareOp .Eq) (λx y H Q=>rEq x y H Q\/rEqT X.K false x y H Q):=by
 intro pins s σ H x y v u Q I rx ry h
 rcases h with h | h
 ·exact op_eq pins s σ H x y v u Q I rx ry h
 ·exact op_eqT hu pins s σ H x y v u Q I rx ry h
end
end L2
namespace L2
open PySem PySem.Spec PyProof.Rows
section
variable {X:Cx}
end
section
variable {X:Cx} {pins:List (Addr×Obj)} {σ:St} {H:Hp} {s:Shared} {a:Addr} {kvs:List (Key×V)} {k:Key} {u r:Value} {v:V} {A:Around} {E:Value->Shared->Prop}
end
end L2
namespace L2
open PySem PySem.W PyProof.Rows
def ansd {α:Type} (lt:Nat->Nat->Bool):KasT α->α
 |.ret a=>a
 |.ask i j k=>ansd lt (k (lt i j))
theorem ansd_bind {α β:Type} (lt:Nat->Nat->Bool) (f:α->KasT β):∀ t:KasT α,ansd lt (t.bind f)=ansd lt (f (ansd lt t))
 |.ret _=>rfl
 |.ask i j k=>ansd_bind lt f (k (lt i j))
section
variable {n:Nat} {k:Nat->Int}
end
def RngP {α:Type} (n:Nat) (P:α->Prop):KasT α->Prop
 |.ret a=>P a
 |.ask i j k=>i<n/\j<n/\∀ b,RngP n P (k b)
theorem RngP.bind {α β:Type} {n:Nat} {P:α->Prop} {P':β->Prop} {f:α->KasT β} (hf:∀ a,P a->RngP n P' (f a)):∀ {t:KasT α},RngP n P t->RngP n P' (t.bind f)
 |.ret a,h=>hf a h
 |.ask _ _ _,h=>⟨h.1,h.2.1,λb=>RngP.bind hf (h.2.2 b)⟩
def AllLt (n:Nat) (p:Array Nat):Prop:=∀ x,x∈p->x<n
theorem AllLt.at {n:Nat} {p:Array Nat} (hn:0<n) (h:AllLt n p) (i:Nat):p.getD i 0<n:=by
 by_cases hi:i<p.size
 ·have e:p.getD i 0=p[i]:=by simp [Array.getD,hi]
  rw [e]
  exact h _ (Array.getElem_mem hi)
 ·have e:p.getD i 0=0:=by simp [Array.getD,hi]
  rw [e]
  exact hn
theorem AllLt.swap {n:Nat} {p:Array Nat} (h:AllLt n p) (i j:Nat):AllLt n (p.swapIfInBounds i j):=by
 intro x hx
 rw [Array.swapIfInBounds_def] at hx
 split at hx
 ·split at hx
  ·exact h x ((Array.Perm.mem_iff (Array.swap_perm _ _)).mp hx)
  ·exact h x hx
 ·exact h x hx
theorem AllLt.swaps {n:Nat} (u v:Nat->Nat):∀ (l:List Nat) {p:Array Nat},AllLt n p->AllLt n (l.foldl (λa k=>a.swapIfInBounds (u k) (v k)) p)
 |[],_,h=>h
 |k::l,_,h=>AllLt.swaps u v l (h.swap (u k) (v k))
theorem AllLt.rev {n:Nat} {p:Array Nat} (h:AllLt n p) (i j:Nat):AllLt n (kas_rev p i j):=AllLt.swaps (λk=>i+k) (λk=>j-1-k) _ h
theorem AllLt.bub {n:Nat} {p:Array Nat} (h:AllLt n p) (k m:Nat):AllLt n (bubble p k m):=AllLt.swaps (λi=>k-i) (λi=>k-i-1) _ h
section
variable {n:Nat} (hn:0<n)
include hn
theorem rng_asc {p:Array Nat} (h:AllLt n p):∀ f m,RngP n (λ_=>True) (kas_asc p f m)
 |0,_=>trivial
 |f+1,m=>⟨h.at hn _,h.at hn _,λb=>by
  cases b
  ·exact rng_asc h f (m+1)
  ·trivial⟩
theorem rng_desc:∀ f {p:Array Nat} (m q:Nat),AllLt n p->RngP n (λr=>AllLt n r.1) (kas_desc f p m q)
 |0,_,_,_,h=>h
 |f+1,p,m,q,h=>⟨h.at hn _,h.at hn _,λb=>by
  cases b
  ·refine ⟨h.at hn _,h.at hn _,λd=>?_⟩
   cases d
   ·exact rng_desc f _ _ h
   ·exact h
  ·show RngP n _ (if q > 0 then _ else _)
   split
   ·exact rng_desc f _ _ (h.rev _ _)
   ·exact rng_desc f _ _ h⟩
theorem rng_tail3 {p:Array Nat} (h:AllLt n p) (m nr:Nat):RngP n (λr=>AllLt n r.2) (kas_tail3 m nr p):=by
 refine (rng_asc hn (h.rev 0 m) _ _).bind λ_ _=>?_
 exact h.rev 0 m
theorem rng_descPart {p:Array Nat} (h:AllLt n p) (m nr:Nat):RngP n (λr=>AllLt n r.2) (kas_descPart m nr p):=by
 refine (rng_desc hn _ _ _ h).bind λr hr=>?_
 split
 ·exact rng_tail3 hn (hr.rev _ _) _ _
 ·exact rng_tail3 hn hr _ _
theorem rng_count {p:Array Nat} (h:AllLt n p) (nr:Nat):RngP n (λr=>AllLt n r.2) (kas_count nr p):=by
 refine (rng_asc hn h _ _).bind λm _=>?_
 split
 ·exact h
 ·split
  ·refine ⟨h.at hn _,h.at hn _,λb=>?_⟩
   cases b
   ·exact rng_descPart hn (h.rev _ _) _ _
   ·exact h
  ·exact rng_descPart hn h _ _
theorem rng_place {p:Array Nat} (h:AllLt n p) (k:Nat):∀ f l r,RngP n (λ_=>True) (kas_place p k f l r)
 |0,_,_=>trivial
 |f+1,l,r=>by
  rw [kas_place]
  split
  ·trivial
  ·refine ⟨h.at hn _,h.at hn _,λb=>?_⟩
   cases b
   ·exact rng_place h k f _ _
   ·exact rng_place h k f _ _
end
theorem ansd_wpR {α:Type} {n:Nat} {P:α->Prop} {lt:Nat->Nat->Bool} {cmp:Nat->Nat->(Bool->Shared->Prop)->Shared->Prop} {Q:α->Shared->Prop} {s:Shared} (hc:∀ i j C,i<n->j<n->C (lt i j) s->cmp i j C s) :
  ∀ t:KasT α,RngP n P t->Q (ansd lt t) s->t.kasWp cmp Q s
 |.ret _,_,h=>h
 |.ask i j k,r,h=>hc i j _ r.1 r.2.1 (ansd_wpR hc (k (lt i j)) (r.2.2 _) h)
end L2
namespace L2
open PySem PySem.Spec PyProof.Rows
def Itv (K:PySem.W.Frag) (a:Addr) (xs:List V):It :=
 ⟨λi H=>SqL K H a xs/\i<xs.length,λi H v H'=>H'=H/\xs[xs.length-1-i]?=some v,λi _=>i=xs.length⟩
theorem turn_rev {P:Program} {w:World} {K:PySem.W.Frag} {tg:Expr} (a it:Addr) (xs:List V):Turn P w K tg (Itv K a xs) [it] it (λi h=>h.IsRevIter it a ((xs.length:Int)-1-i)) where
 mem:=by simp
 obj:=λi h st b hb=>by
  have e:b=it:=by simpa using hb
  subst e
  obtain ⟨o,e,c,d⟩:=st
  exact ⟨o,e,λv z=>by rw [d] at z;cases z⟩
 keep:=λi h h' st k=>st.at λo e=>k it (by simp) o e
 item:=by
  intro X hP hw hK hc i pins s σ H E I hf st hg
  subst hP hw hK
  obtain ⟨hq,hi⟩:=hg
  have hx:xs[xs.length-1-i]?=some xs[xs.length-1-i]:=by rw [List.getElem?_eq_getElem]
  obtain ⟨its,rv,p,hz⟩:=I.list hq
  obtain ⟨u,hu,ru⟩:=rv.get hx
  obtain ⟨f0,f1,f2,f3,f4,f5⟩:=hf it (by simp)
  have e1:((xs.length:Int)-1-i)=((xs.length-1-i:Nat):Int):=by omega
  rw [e1] at st
  refine wpAny_pyNext_rev_item st p.isList (x:=u) (by simpa using hu) λh' st' sb=>?_
  have I1:Inv X pins σ H { s with heap:=h' }:=I.turned (t':=s.toks) (λb o hb e=>(sb.2 b hb).trans e) f0 f1 f3 f4 f5
  obtain ⟨o,e,c,d⟩:=id st'
  have e2:((xs.length:Int)-1-((i+1:Nat):Int))=((xs.length-1-i:Nat):Int)-1:=by omega
  exact ⟨u,rfl,go_of (s:={ s with heap:=h' }) e c d (by decide) ⟨_,H,I1,ru,⟨rfl,hx⟩,by rw [e2];exact st',λb hb=>(hf b hb).1⟩⟩
 done:=by
  intro X hP hw hK hc i pins s σ H E I hf st hg
  subst hP hw hK
  have hg':i=xs.length:=hg
  obtain ⟨f0,f1,f2,f3,f4,f5⟩:=hf it (by simp)
  have e1:((xs.length:Int)-1-i)=-1:=by omega
  rw [e1] at st
  exact wpAny_pyNext_rev_end (I.ok.hd hc) st λh' eb=>⟨rfl,I.turned (t':=s.toks) (λb o hb e=>eb b o hb e) f0 f1 f3 f4 f5⟩
 self:=λ_ _ _ _ _ st h=>wpAny_pyIter_revIter st h
def iRev (K:PySem.W.Frag) (ta:TA):TI:=λσ H R=>ta σ H λvs H1=>∃ (a:Addr) (xs:List V),vs=[.ref a]/\SqL K H1 a xs/\R (Itv K a xs) H1
theorem pi_rev {X:Cx} {tg a:Expr} {ta:TA} {p pos:Pos} (hg:Gl X "reversed") (hm:X.mg "reversed"=none) (ha:PA X [a] ta) (hs:starEach [a] X.env=[(false,eval a X.env)]:=by rfl):PI X tg (.Call (.Name "reversed" p) [a] [] pos) (iRev X.K ta):=by
 intro pins s σ H R I h
 refine Call_ (ld_blt I hg hm boot_reversed (PyProof.Rows.callWith_type1 (thn (ha pos pins s σ H _ I h) λus s1 ⟨vs,H1,I1,r1,q1⟩=>?_) hs rfl))
 obtain ⟨l,xs,q0,hq,q⟩:=q1
 subst q0
 cases r1 with
 |cons r rr =>
  cases rr
  cases r
  obtain ⟨its,rv,pl,hz⟩:=I1.list hq
  have hl:=rv.length
  refine call_reversed_list pl.isList (wpAny_pyIter_revIter (it:=s1.heap.objs.size) (l:=l) (i:=(its.toArray.size:Int)-1) ⟨_,Heap.get?_push_size _ rfl,rfl,rfl⟩ ?_)
  refine ⟨s1.heap.objs.size,[s1.heap.objs.size],_,_,H1,rfl,I1.kept (t':=s1.toks) λb o e=>Heap.get?_push_of_some _ e,turn_rev l _ xs,⟨_,Heap.get?_push_size _ rfl,rfl,?_⟩,λb hb=>?_,q⟩
  ·show Data.fields #[.ref l,rawInt ((its.toArray.size:Int)-1)]=_
   rw [List.size_toArray,<- hl];simp
  ·have e:b=s1.heap.objs.size:=by simpa using hb
   subst e
   exact I1.fpOk (Nat.le_refl _) (I1.hok.fresh (Nat.le_refl _))
theorem for_rev {K:PySem.W.Frag} {a:Addr} {xs:List V} {g:TG} {tb:TS} {D:Ends} {σ:St} {H:Hp} (Pv:Nat->St->Hp->Prop) (h0:Pv 0 σ H) (hl:∀ i σ H,i<=xs.length->Pv i σ H->SqL K H a xs)
  (hs:∀ i x σ H,xs[xs.length-1-i]?=some x->i<xs.length->Pv i σ H->g x σ H λσ2 H2=>tb { D with nx:=Pv (i+1),ct:=Pv (i+1),bk:=D.nx } σ2 H2) (hd:∀ σ H,Pv xs.length σ H->D.nx σ H) :
  ∃ W:Nat->Nat->St->Hp->Prop,(∃ m,W 0 m σ H)/\∀ i m σ H,W i m σ H ->
   ((Itv K a xs).stop i H/\D.nx σ H)\/((Itv K a xs).go i H/\∃ N:St->Hp->Prop,(∀ σ' H',N σ' H'->∃ m',m'<m/\W (i+1) m' σ' H')/\∀ x H',(Itv K a xs).yld i H x H'->g x σ H' λσ2 H2=>tb { D with nx:=N,ct:=N,bk:=D.nx } σ2 H2):=by
 refine ⟨λi m σ H=>m=xs.length-i/\i<=xs.length/\Pv i σ H,⟨xs.length,by simp,Nat.zero_le _,h0⟩,?_⟩
 rintro i m σ H ⟨rfl,hi,p⟩
 have q:=hl i σ H hi p
 by_cases hlt:i<xs.length
 ·refine .inr ⟨⟨q,hlt⟩,Pv (i+1),λσ' H' p'=>⟨xs.length-(i+1),by omega,rfl,hlt,p'⟩,λx H' y=>?_⟩
  obtain ⟨e,y⟩:=y
  subst e
  exact hs i x σ _ y hlt p
 ·have e:i=xs.length:=by omega
  exact .inl ⟨e,hd σ H (by rw [<- e];exact p)⟩
end L2
namespace L2
open PySem PySem.Spec PyProof.Rows
end L2
namespace L2
open PySem PySem.Spec PyProof.Rows
end L2
namespace L2
open PySem PySem.Spec PyProof.Rows
section
variable {X:Cx}
theorem pe_any {ι:Type} {e:Expr} {t:ι->TE} (h:∀ i,PE X e (t i)):PE X e (λσ H Q=>∃ i,t i σ H Q):=λpins s σ H Q I ⟨i,q⟩=>h i pins s σ H Q I q
end
end L2
namespace L2
open PySem PySem.Spec PyProof.Rows
section
variable {prog:Program} {w:World} {A:Around} {E:Value->Shared->Prop} {s:Shared}
theorem pyHash_non {Q:Int->Shared->Prop} (h:Q 0xFCA86420 { s with toks:=s.toks+1 }):wpAny (model prog w) A (pyHash .none) Q E s:=by
 unfold pyHash
 have hv:[Value.none].any Value.onHeap=false:=rfl
 refine wpAny_bind ?_
 rw [cRoomFor,if_neg (by rw [hv];exact Bool.false_ne_true)];refine wpAny_pure ?_
 refine wpAny_bind (wpAny_specialOf (typeIs_none s) PySem.F.slot_NoneType_hash.lookup ?_)
 show wpAny _ _ (if (some (Value.builtin "NoneType.__hash__") == some Value.none)=true then _ else _) Q E s
 rw [if_neg (by rw [beq_builtin_none];exact Bool.false_ne_true)]
 refine wpAny_bind (wpAny_specialOf (typeIs_none s) PySem.F.slot_NoneType_hash.lookup ?_)
 show wpAny _ _ (callSpecialIfBoundUnlessNone? .none "__hash__" _ >>= _) Q E s
 refine wpAny_bind (wpAny_callSpecialIfBoundUnlessNone?_slot (typeIs_none s) PySem.F.slot_NoneType_hash
  (wpAny_call_entry PySem.F.slot_NoneType_hash (typeIs_none s) PySem.F.entry_NoneType_hash
   (show wpAny _ _ (do ret (<- mkInt 0xFCA86420)) _ _ s from wpAny_ret_mkInt ?_) (PySem.F.args_NoneType_hash_1 _)))
 exact wpAny_pure h
end
def isN:Option Key->Value->Bool
 |none,.none=>true
 |none,_=>false
 |some k,v=>keyIs k v
theorem isN_none {v:Value} (h:isN none v=true):v=.none:=by
 cases v with
 |none=>rfl
 |_=>cases h
theorem isN_key {k:Key} {v:Value} (h:keyIs k v=true):isN none v=false:=by
 rcases keyIs_shape h with ⟨i,t,rfl,rfl⟩ | ⟨x,t,rfl,rfl⟩<;>rfl
def nonKind (prog:Program) (w:World):PySem.KeyKind prog w (Option Key) where
 is:=isN
 hash:=λk=>match k with | none=>0xFCA86420 | some k=>keyH w k
 inj:=λv a b ha hb=>by
  cases a with
  |none =>
   cases b with
   |none=>rfl
   |some k=>rw [isN_key hb] at ha;cases ha
  |some k =>
   cases b with
   |none=>rw [isN_key ha] at hb;cases hb
   |some k'=>rw [(mixKind prog w).inj v k k' ha hb]
 byValue:=λk v h=>by
  cases k with
  |none=>rw [isN_none h];rfl
  |some k=>exact (mixKind prog w).byValue k v h
 pyHash:=λ{A E s k v Q} hv h=>by
  cases k with
  |none=>rw [isN_none hv];exact pyHash_non h
  |some k=>exact (mixKind prog w).pyHash (k:=k) hv h
 eqBool:=λ{A E s a b u v Q} hu hv h=>by
  cases a with
  |none =>
   have eu:=isN_none hu
   subst eu
   cases b with
   |none =>
    have ev:=isN_none hv
    subst ev
    rw [decide_eq_true rfl] at h
    unfold eqBool
    rw [if_pos (show (Value.none == Value.none)=true from rfl)]
    exact wpAny_bind (wpAny_rule (wpAny_pure (by simpa using h)))
   |some k =>
    rw [decide_eq_false (λz=>nomatch z)] at h
    rcases keyIs_shape hv with ⟨i,t,rfl,rfl⟩ | ⟨x,t,rfl,rfl⟩
    ·exact SeqAt.EqAt.none_int i t _ _ _ _ h
    ·exact SeqAt.EqAt.none_str x t _ _ _ _ h
  |some k =>
   cases b with
   |none =>
    have ev:=isN_none hv
    subst ev
    rw [decide_eq_false (λz=>nomatch z)] at h
    rcases keyIs_shape hu with ⟨i,t,rfl,rfl⟩ | ⟨x,t,rfl,rfl⟩
    ·exact SeqAt.EqAt.int_none i t _ _ _ _ h
    ·exact SeqAt.EqAt.str_none x t _ _ _ _ h
   |some k' =>
    refine (mixKind prog w).eqBool (a:=k) (b:=k') hu hv ?_
    have e:decide ((some k:Option Key)=some k')=decide (k=k'):=by
     by_cases q:k=k'
     ·subst q;simp
     ·rw [decide_eq_false q,decide_eq_false (λz=>q (Option.some.inj z))]
    rw [e] at h
    exact h
 «strs»:=λk x t v h=>by
  cases k with
  |none=>cases h
  |some k=>exact (mixKind prog w).strs k x t v h
theorem map_non {prog:Program} {w:World} {h:Heap} {a:Addr} {f:Key->Option Value} (hm:h.MapOf (mixKind prog w) a f):h.MapOf (nonKind prog w) a (λk=>match k with | none=>none | some k=>f k):=by
 obtain ⟨o,es,ep,ho,hx,hd,hk,hf⟩:=hm
 refine ⟨o,es,ep,ho,hx,hd,λe he=>?_,λk=>?_⟩
 ·obtain ⟨k,h1,h2⟩:=hk e he
  exact ⟨some k,h1,h2⟩
 ·cases k with
  |some k=>exact hf k
  |none =>
   show findBy isN es none=none
   unfold findBy
   have e:(es.find? λe=>isN none e.key)=none:=by
    rw [Array.find?_eq_none]
    intro e he
    obtain ⟨k,h1,_⟩:=hk e he
    rw [isN_key h1]
    exact Bool.false_ne_true
   rw [e]
   rfl
def DGetN (H:Hp) (a:Addr) (y:V) (o:Option V):Prop:=DGet H a y o\/(y=.non/\(∃ kvs,Rd H a (.dK kvs))/\o=none)
section
variable {X:Cx} {pins:List (Addr×Obj)} {σ:St} {H:Hp} {s:Shared} {A:Around} {E:Value->Shared->Prop}
theorem d_inN {a:Addr} {y:V} {o:Option V} {u:Value} {Q:Value->Shared->Prop} (hu:A.units+1<cLine) (I:Inv X pins σ H s) (g:DGetN H a y o) (ry:RelV y u) (h:∀ s',Inv X pins σ H s'->Q (.bool o.isSome) s') :
  wpAny (model X.prog X.w) A (compareOp .In u (.ref a)) Q E s:=by
 rcases g with g | ⟨rfl,⟨kvs,e⟩,rfl⟩
 ·exact d_in hu I g ry h
 ·obtain rfl:u=Value.none:=ry
  obtain ⟨z,hd,vs,rel,dd⟩:=dk_rd I.hok e
  exact wpAny_in_of (k:=none) (show (nonKind X.prog X.w).is none .none=true from rfl) hd (map_non dd.mapOf) (h _ (I.tok _))
def tDInN (ty td:TE):TE:=λσ H Q=>ty σ H λy H1=>td σ H1 λx H2=>∃ a o,x=.ref a/\DGetN H2 a y o/\Q (.bl o.isSome) H2
theorem pc_dinN {i o:Expr} {ty td:TE} (hu:X.A.units+1<cLine) (hi:PE X i ty) (ho:PE X o td):PC X .In i o (tDInN ty td):=by
 intro pins s σ H Q I h
 refine thn (hi pins s σ H _ I h) λiv s1 ⟨y,H1,I1,ry,q1⟩=>thn (ho pins s1 σ H1 _ I1 q1) λu s2 ⟨x,H2,I2,rx,a,ov,ex,g,q2⟩=>?_
 subst ex
 obtain rfl:u=Value.ref a:=rx
 exact d_inN hu I2 g ry λs3 I3=>⟨.bl ov.isSome,H2,I3,rfl,q2⟩
end
end L2
namespace L2
open PySem PySem.Spec PyProof.Rows
end L2
namespace L2
open PySem PySem.Spec PyProof.Rows
theorem op_neN {X:Cx} (hu:X.A.units+100<cLine):OpR X (compareOp .NotEq) (λx y H Q=>rEqT X.K true x y H Q\/∃ b ys,x=.non/\y=.ref b/\SqT X.K H b ys/\Q (.bl true) H):=by
 intro pins s σ H x y v u Q I rx ry h
 rcases h with h | ⟨b,ys,rfl,rfl,hy,q⟩
 ·exact op_neT hu pins s σ H x y v u Q I rx ry h
 ·cases rx
  cases ry
  obtain ⟨ib,rb,pb,_⟩:=I.tuple hy
  exact SeqAt.RcNeAt.none_tuple pb.isTuple' (by omega) _ _ _ _ ⟨.bl _,H,I,rfl,q⟩
section
variable {prog:Program} {w:World} {A:Around} {E:Value->Shared->Prop} {s:Shared}
end
def ItdR (n:Nat):It:=⟨λi _=>i<n,λi H x H'=>H'=H/\x=.int ((n:Int)-1-i),λi _=>n<=i⟩
def iRrg (ta:TA):TI:=λσ H R=>ta σ H λvs H1=>∃ j:Int,vs=[.int j]/\0<=j/\j<2 ^ 62/\R (ItdR j.toNat) H1
end L2
namespace L2
open PySem PySem.Spec PyProof.Rows
end L2
namespace L2
open PySem PySem.W PyProof.Rows
section
variable {lt:Nat->Nat->Bool}
structure Ord (lt:Nat->Nat->Bool):Prop where
 tr:∀ i j k,lt j i=false->lt k j=false->lt k i=false
 as:∀ i j,lt i j=true->lt j i=false
def UpA (lt:Nat->Nat->Bool) (p:Array Nat) (m:Nat):Prop:=∀ i j,i<j->j<m->lt (p.getD j 0) (p.getD i 0)=false
def DnA (lt:Nat->Nat->Bool) (p:Array Nat) (m:Nat):Prop:=∀ i j,i<j->j<m->lt (p.getD i 0) (p.getD j 0)=false
def EqA (lt:Nat->Nat->Bool) (p:Array Nat) (a b:Nat):Prop:=∀ i j,a<=i->i<b->a<=j->j<b->lt (p.getD i 0) (p.getD j 0)=false
theorem UpA.succ (o:Ord lt) {p:Array Nat} {n:Nat} (h:UpA lt p n) (h1:1<=n) (q:lt (p.getD n 0) (p.getD (n-1) 0)=false):UpA lt p (n+1):=λi j hij hj=>by
 by_cases e:j=n
 ·subst e
  by_cases e2:i=j-1
  ·rw [e2];exact q
  ·exact o.tr _ _ _ (h i (j-1) (by omega) (by omega)) q
 ·exact h i j hij (by omega)
theorem DnA.succ (o:Ord lt) {p:Array Nat} {n:Nat} (h:DnA lt p n) (h1:1<=n) (q:lt (p.getD (n-1) 0) (p.getD n 0)=false):DnA lt p (n+1):=λi j hij hj=>by
 by_cases e:j=n
 ·subst e
  by_cases e2:i=j-1
  ·rw [e2];exact q
  ·exact o.tr _ _ _ q (h i (j-1) (by omega) (by omega))
 ·exact h i j hij (by omega)
theorem so_asc (o:Ord lt) {p:Array Nat}:∀ f n,1<=n->UpA lt p n->∃ m,ansd lt (kas_asc p f n)=m/\n<=m/\m<=n+f/\UpA lt p m/\(m<n+f->lt (p.getD m 0) (p.getD (m-1) 0)=true)
 |0,n,_,h=>⟨n,rfl,Nat.le_refl _,Nat.le_refl _,h,λz=>absurd z (by omega)⟩
 |f+1,n,h1,h=>by
  rw [kas_asc]
  simp only [ansd]
  cases c:lt (p.getD n 0) (p.getD (n-1) 0) with
  |true=>exact ⟨n,rfl,Nat.le_refl _,by omega,h,λ_=>c⟩
  |false =>
   obtain ⟨m,e,a1,a2,a3,a4⟩:=so_asc o f (n+1) (by omega) (h.succ o h1 c)
   exact ⟨m,e,by omega,by omega,a3,λz=>a4 (by omega)⟩
theorem rev_get {p:Array Nat} {i j:Nat} (hj:j<=p.size) (k:Nat):(kas_rev p i j).getD k 0=if i<=k/\k<j then p.getD (i+j-1-k) 0 else p.getD k 0:=by
 have h:=getElem?_mirror_all (xs:=p) (i:=i) hj k
 have g:∀ (q:Array Nat) t,q.getD t 0=(q[t]?).getD 0:=λq t=>by simp [Array.getD_eq_getD_getElem?]
 rw [g,g,g]
 show ((mirror p i j ((j-i) / 2))[k]?).getD 0=_
 rw [h]
 split<;>rfl
theorem rev_size {p:Array Nat} {i j:Nat}:(kas_rev p i j).size=p.size:=mirror_size _ _ _ _
theorem rev_perm {p:Array Nat} {i j:Nat}:(kas_rev p i j).Perm p:=mirror_perm _ _ _ _
theorem DnA.eqv (o:Ord lt) {p q:Array Nat} {n:Nat} (h:DnA lt p n) (e:∀ k,k<n->lt (q.getD k 0) (p.getD k 0)=false/\lt (p.getD k 0) (q.getD k 0)=false):DnA lt q n:=λi j hij hj=>by
 have a:=e i (by omega)
 have b:=e j hj
 exact o.tr _ _ _ b.2 (o.tr _ _ _ (h i j hij hj) a.1)
theorem rev_eqv {p:Array Nat} {a b n:Nat} (hb:b<=p.size) (he:EqA lt p a b) (ir:∀ i,lt i i=false):∀ k,k<n->lt ((kas_rev p a b).getD k 0) (p.getD k 0)=false/\lt (p.getD k 0) ((kas_rev p a b).getD k 0)=false:=λk _=>by
 rw [rev_get hb]
 split
 ·rename_i h
  exact ⟨he _ _ (by omega) (by omega) h.1 h.2,he _ _ h.1 h.2 (by omega) (by omega)⟩
 ·exact ⟨ir _,ir _⟩
theorem Ord.ir (o:Ord lt):∀ i,lt i i=false:=λi=>by
 cases h:lt i i with
 |false=>rfl
 |true=>have:=o.as i i h;rw [h] at this;cases this
theorem so_desc (o:Ord lt):∀ f (p:Array Nat) n q,1<=n->q+1<=n->n+f<=p.size->DnA lt p n->EqA lt p (n-(q+1)) n ->
  ∃ p' n' q',ansd lt (kas_desc f p n q)=(p',n',q')/\p'.size=p.size/\p'.Perm p/\n<=n'/\n'<=n+f/\q'+1<=n'/\DnA lt p' n'/\EqA lt p' (n'-(q'+1)) n'
 |0,p,n,q,_,hq,_,h,he=>⟨p,n,q,rfl,rfl,Array.Perm.refl _,Nat.le_refl _,Nat.le_refl _,hq,h,he⟩
 |f+1,p,n,q,h1,hq,hs,h,he=>by
  rw [kas_desc]
  simp only [ansd]
  have one:∀ (p:Array Nat),EqA lt p (n+1-(0+1)) (n+1):=λp i j a1 a2 a3 a4=>by
   obtain rfl:i=n:=by omega
   obtain rfl:j=i:=by omega
   exact o.ir _
  cases c:lt (p.getD n 0) (p.getD (n-1) 0) with
  |true =>
   have d:=h.succ o h1 (o.as _ _ c)
   simp only [if_true]
   by_cases z:q > 0
   ·rw [if_pos z]
    have d2:DnA lt (kas_rev p (n-(q+1)) n) (n+1):=d.eqv o (rev_eqv (by omega) he o.ir)
    obtain ⟨p',n',q',e,a1,a2,a3,a4,a5,a6,a7⟩:=so_desc o f (kas_rev p (n-(q+1)) n) (n+1) 0 (by omega) (by omega) (by rw [rev_size];omega) d2 (one _)
    exact ⟨p',n',q',e,a1.trans rev_size,a2.trans rev_perm,by omega,by omega,a5,a6,a7⟩
   ·rw [if_neg z]
    obtain ⟨p',n',q',e,a1,a2,a3,a4,a5,a6,a7⟩:=so_desc o f p (n+1) 0 (by omega) (by omega) (by omega) d (one _)
    exact ⟨p',n',q',e,a1,a2,by omega,by omega,a5,a6,a7⟩
  |false =>
   simp only [Bool.false_eq_true,if_false,ansd]
   cases c2:lt (p.getD (n-1) 0) (p.getD n 0) with
   |true=>exact ⟨p,n,q,rfl,rfl,Array.Perm.refl _,Nat.le_refl _,by omega,hq,h,he⟩
   |false =>
    simp only [Bool.false_eq_true,if_false]
    have he2:EqA lt p (n+1-(q+1+1)) (n+1):=λi j a1 a2 a3 a4=>by
     have to:∀ t,n-(q+1)<=t->t<n->lt (p.getD t 0) (p.getD n 0)=false/\lt (p.getD n 0) (p.getD t 0)=false:=λt t1 t2 =>
      ⟨o.tr _ _ _ c2 (he t (n-1) t1 t2 (by omega) (by omega)),o.tr _ _ _ (he (n-1) t (by omega) (by omega) t1 t2) c⟩
     by_cases z1:i=n
     ·by_cases z2:j=n
      ·rw [z1,z2];exact o.ir _
      ·rw [z1];exact (to j (by omega) (by omega)).2
     ·by_cases z2:j=n
      ·rw [z2];exact (to i (by omega) (by omega)).1
      ·exact he i j (by omega) (by omega) (by omega) (by omega)
    obtain ⟨p',n',q',e,a1,a2,a3,a4,a5,a6,a7⟩:=so_desc o f p (n+1) (q+1) (by omega) (by omega) (by omega) (h.succ o h1 c2) he2
    exact ⟨p',n',q',e,a1,a2,by omega,by omega,a5,a6,a7⟩
theorem so_tail3 (o:Ord lt) {p:Array Nat} {n nrem:Nat} (h1:1<=n) (hn:n<=nrem) (hs:nrem<=p.size) (h:DnA lt p n):∃ m p',ansd lt (kas_tail3 n nrem p)=(m,p')/\p'.size=p.size/\p'.Perm p/\1<=m/\m<=nrem/\UpA lt p' m:=by
 have u:UpA lt (kas_rev p 0 n) n:=λi j hij hj=>by
  rw [rev_get (by omega),rev_get (by omega),if_pos (by omega),if_pos (by omega)]
  exact h _ _ (by omega) (by omega)
 obtain ⟨m,e,a1,a2,a3,_⟩:=so_asc o (nrem-n) n h1 u
 refine ⟨m,kas_rev p 0 n,?_,rev_size,rev_perm,by omega,by omega,a3⟩
 rw [kas_tail3,ansd_bind,e];rfl
theorem so_descPart (o:Ord lt) {p:Array Nat} {n nrem:Nat} (h1:1<=n) (hn:n<nrem) (hs:nrem<=p.size) (h:DnA lt p (n+1)):∃ m p',ansd lt (kas_descPart n nrem p)=(m,p')/\p'.size=p.size/\p'.Perm p/\1<=m/\m<=nrem/\UpA lt p' m:=by
 obtain ⟨p',n',q',e,a1,a2,a3,a4,a5,a6,a7⟩:=so_desc o (nrem-(n+1)) p (n+1) 0 (by omega) (by omega) (by omega) h (λi j b1 b2 b3 b4=>by
  obtain rfl:i=n:=by omega
  obtain rfl:j=i:=by omega
  exact o.ir _)
 rw [kas_descPart,ansd_bind,e]
 by_cases z:q' > 0
 ·simp only [if_pos z]
  obtain ⟨m,p2,e2,b1,b2,b3,b4,b5⟩:=so_tail3 o (p:=kas_rev p' (n'-(q'+1)) n') (n:=n') (nrem:=nrem) (by omega) (by omega) (by rw [rev_size];omega) (a6.eqv o (rev_eqv (by omega) a7 o.ir))
  exact ⟨m,p2,e2,b1.trans (rev_size.trans a1),b2.trans (rev_perm.trans a2),b3,b4,b5⟩
 ·simp only [if_neg z]
  obtain ⟨m,p2,e2,b1,b2,b3,b4,b5⟩:=so_tail3 o (p:=p') (n:=n') (nrem:=nrem) (by omega) (by omega) (by omega) a6
  exact ⟨m,p2,e2,b1.trans a1,b2.trans a2,b3,b4,b5⟩
theorem so_count (o:Ord lt) {p:Array Nat} {n:Nat} (h1:1<=n) (hs:n<=p.size):∃ m p',ansd lt (kas_count n p)=(m,p')/\p'.size=p.size/\p'.Perm p/\1<=m/\m<=n/\UpA lt p' m:=by
 obtain ⟨m,e,a1,a2,a3,a4⟩:=so_asc o (p:=p) (n-1) 1 (Nat.le_refl _) (λi j a b=>by omega)
 rw [kas_count,ansd_bind,e]
 by_cases z:(m == n)=true
 ·rw [if_pos z]
  exact ⟨m,p,rfl,rfl,Array.Perm.refl _,a1,by omega,a3⟩
 ·rw [if_neg z]
  have mn:m<n:=by
   have:m≠n:=by simpa using z
   omega
  have l:=a4 (by omega)
  by_cases y:m > 1
  ·rw [if_pos y]
   simp only [ansd]
   cases c:lt (p.getD 0 0) (p.getD (m-1) 0) with
   |true=>exact ⟨m,p,rfl,rfl,Array.Perm.refl _,a1,by omega,a3⟩
   |false =>
    simp only [Bool.false_eq_true,if_false]
    have le:∀ i j,i<=j->j<m->lt (p.getD j 0) (p.getD i 0)=false:=λi j a b=>by
     by_cases e:i=j
     ·rw [e];exact o.ir _
     ·exact a3 i j (by omega) b
    have eqs:EqA lt p 0 m:=λi j _ b1 _ b2 =>
     o.tr _ _ _ (o.tr _ _ _ (le j (m-1) (by omega) (by omega)) c) (le 0 i (Nat.zero_le _) b1)
    have d:DnA lt p m:=λi j a b=>eqs i j (by omega) (by omega) (by omega) b
    have d1:=d.succ o a1 (o.as _ _ l)
    have d2:DnA lt (kas_rev p 0 m) (m+1):=d1.eqv o (rev_eqv (by omega) eqs o.ir)
    obtain ⟨m',p',e',b1,b2,b3,b4,b5⟩:=so_descPart o (p:=kas_rev p 0 m) (n:=m) (nrem:=n) a1 mn (by rw [rev_size];omega) d2
    exact ⟨m',p',e',b1.trans rev_size,b2.trans rev_perm,b3,b4,b5⟩
  ·rw [if_neg y]
   obtain rfl:m=1:=by omega
   have d1:DnA lt p (1+1):=DnA.succ o (λi j a b=>by omega) (Nat.le_refl _) (o.as _ _ l)
   exact so_descPart o (p:=p) (n:=1) (nrem:=n) (Nat.le_refl _) mn hs d1
theorem so_place (o:Ord lt) {p:Array Nat} {k:Nat} (up:UpA lt p k):∀ f l r,l<=r->r<=k->r-l<=f->(∀ i,i<l->lt (p.getD k 0) (p.getD i 0)=false)->(∀ i,r<=i->i<k->lt (p.getD k 0) (p.getD i 0)=true) ->
  ∃ L,ansd lt (kas_place p k f l r)=L/\L<=k/\(∀ i,i<L->lt (p.getD k 0) (p.getD i 0)=false)/\∀ i,L<=i->i<k->lt (p.getD k 0) (p.getD i 0)=true
 |0,l,r,h1,h2,h3,a,b=>by
  obtain rfl:l=r:=by omega
  exact ⟨l,rfl,h2,a,b⟩
 |f+1,l,r,h1,h2,h3,a,b=>by
  rw [kas_place]
  by_cases c:l ≥ r
  ·rw [if_pos c]
   obtain rfl:l=r:=by omega
   exact ⟨l,rfl,h2,a,b⟩
  ·rw [if_neg c]
   simp only [ansd]
   have le:∀ i j,i<=j->j<k->lt (p.getD j 0) (p.getD i 0)=false:=λi j a b=>by
    by_cases e:i=j
    ·rw [e];exact o.ir _
    ·exact up i j (by omega) b
   cases d:lt (p.getD k 0) (p.getD ((l+r) / 2) 0) with
   |true =>
    simp only [if_true]
    refine so_place o up f l _ (by omega) (by omega) (by omega) a λi h4 h5=>?_
    cases z:lt (p.getD k 0) (p.getD i 0) with
    |true=>rfl
    |false =>
     have:=o.tr _ _ _ (le ((l+r) / 2) i h4 h5) z
     rw [d] at this;cases this
   |false =>
    simp only [Bool.false_eq_true,if_false]
    exact so_place o up f _ r (by omega) h2 (by omega) (λi h4=>o.tr _ _ _ (le i ((l+r) / 2) (by omega) (by omega)) d) b
theorem bub_get {p:Array Nat} {k d:Nat} (hk:k<p.size) (hd:d<=k) (t:Nat):(bubble p k d).getD t 0=if t=k-d then p.getD k 0 else if k-d<t/\t<=k then p.getD (t-1) 0 else p.getD t 0:=by
 have h:=getElem?_bubble (xs:=p) hk d hd t
 have g:∀ (q:Array Nat) t,q.getD t 0=(q[t]?).getD 0:=λq t=>by simp [Array.getD_eq_getD_getElem?]
 rw [g,g,g,g,h]
 split
 ·rfl
 ·split<;>rfl
theorem so_bin (o:Ord lt):∀ f (p:Array Nat) k,k+f=p.size->UpA lt p k->∃ p',ansd lt (kas_bin f p k)=p'/\p'.size=p.size/\p'.Perm p/\UpA lt p' p.size
 |0,p,k,hs,h=>⟨p,rfl,rfl,Array.Perm.refl _,by rw [<- hs];exact h⟩
 |f+1,p,k,hs,h=>by
  obtain ⟨L,e,l1,l2,l3⟩:=so_place o h k 0 k (Nat.zero_le _) (Nat.le_refl _) (by omega) (λi z=>by omega) (λi z1 z2=>by omega)
  rw [kas_bin,ansd_bind,e]
  have hk:k<p.size:=by omega
  have g:=bub_get hk (show k-L<=k by omega)
  have ek:k-(k-L)=L:=by omega
  rw [ek] at g
  have u:UpA lt (bubble p k (k-L)) (k+1):=λi j hij hj=>by
   have gi:=g i
   have gj:=g j
   by_cases z1:i=L
   ·rw [if_pos z1] at gi
    rw [if_neg (by omega),if_pos (by omega)] at gj
    rw [gi,gj]
    exact o.as _ _ (l3 (j-1) (by omega) (by omega))
   ·rw [if_neg z1] at gi
    by_cases z2:L<i
    ·rw [if_pos (by omega)] at gi
     rw [if_neg (by omega),if_pos (by omega)] at gj
     rw [gi,gj]
     exact h (i-1) (j-1) (by omega) (by omega)
    ·rw [if_neg (by omega)] at gi
     by_cases z3:j=L
     ·rw [if_pos z3] at gj
      rw [gi,gj]
      exact l2 i (by omega)
     ·rw [if_neg z3] at gj
      by_cases z4:L<j
      ·rw [if_pos (by omega)] at gj
       rw [gi,gj]
       exact h i (j-1) (by omega) (by omega)
      ·rw [if_neg (by omega)] at gj
       rw [gi,gj]
       exact h i j hij (by omega)
  obtain ⟨p',e',a1,a2,a3⟩:=so_bin o f (bubble p k (k-L)) (k+1) (by rw [bubble_size];omega) u
  rw [bubble_size] at a1 a3
  exact ⟨p',e',a1,a2.trans (bubble_perm _ _ _),a3⟩
theorem so_sort (o:Ord lt) {n:Nat} (h1:1<=n):∃ p,ansd lt (kas_sort n)=p/\p.size=n/\p.Perm (List.toArray (List.range n))/\UpA lt p n:=by
 have sz:(List.toArray (List.range n)).size=n:=by simp
 obtain ⟨m,p,e,a1,a2,a3,a4,a5⟩:=so_count o (p:=List.toArray (List.range n)) h1 (by rw [sz];exact Nat.le_refl _)
 rw [sz] at a1
 rw [kas_sort,ansd_bind,e]
 by_cases z:m<n
 ·simp only [if_pos z]
  have em:max m 1=m:=by omega
  rw [em]
  obtain ⟨p',e',b1,b2,b3⟩:=so_bin o (n-m) p m (by omega) a5
  rw [a1] at b1 b3
  exact ⟨p',e',b1,b2.trans a2,b3⟩
 ·simp only [if_neg z]
  obtain rfl:m=n:=by omega
  exact ⟨p,rfl,a1,a2,a5⟩
end
end L2
namespace L2
open PySem PySem.Spec PyProof.Rows
theorem len_sub {α:Type} [DecidableEq α]:∀ {l u:List α},l.Nodup->(∀ x∈l,x∈u)->l.length<=u.length
 |[],_,_,_=>Nat.zero_le _
 |a::r,u,h,s=>by
  rw [List.nodup_cons] at h
  have ha:=s a List.mem_cons_self
  have:=len_sub (u:=u.erase a) h.2 λx hx=>(List.mem_erase_of_ne (λe:x=a=>h.1 (by rw [<- e];exact hx))).mpr (s x (List.mem_cons_of_mem _ hx))
  rw [List.length_erase_of_mem ha] at this
  have:=List.length_pos_of_mem ha
  simp only [List.length_cons]
  omega
theorem least_of {p:Nat->Prop} [DecidablePred p]:∀ n,p n->∃ m,m<=n/\p m/\∀ k,k<m->¬ p k:=by
 intro n
 induction n using Nat.strongRecOn with
 |_ n ih =>
  intro h
  by_cases q:∃ k,k<n/\p k
  ·obtain ⟨k,hk,hp⟩:=q
   obtain ⟨m,h1,h2,h3⟩:=ih k hk hp
   exact ⟨m,by omega,h2,h3⟩
  ·exact ⟨n,Nat.le_refl _,h,λk hk hp=>q ⟨k,hk,hp⟩⟩
def AtT (t:SetTable) (es:Array (Int×Value)) (j:Nat) (e:Int×Value):Prop:=∃ i:Nat,t.place[i]?=some j/\es[i]?=some e
theorem slot_live {t:SetTable} {b:Bool} (h:Tb t b) {i j:Nat} (e:t.place[i]?=some j):t.slot j=.live i:=by
 obtain ⟨h1,h2,h3⟩:=bel h.rise j
 obtain ⟨hi,ei⟩:=Array.getElem?_eq_some_iff.mp e
 have e1:SetTable.below t.place j=i:=by
  rcases Nat.lt_trichotomy i (SetTable.below t.place j) with q | q | q
  ·have:=h2 i hi q
   omega
  ·exact q.symm
  ·have a:=h3 (SetTable.below t.place j) (by omega) (Nat.le_refl _)
   have b:=h.rise (SetTable.below t.place j) i (by omega) hi q
   omega
 unfold SetTable.slot
 dsimp only
 rw [e1,e]
 simp
theorem slot_none {t:SetTable} {b:Bool} (h:Tb t b) {j:Nat} (e:∀ i:Nat,t.place[i]?≠some j):t.slot j=.empty:=by
 cases q:t.slot j with
 |empty=>rfl
 |dummy=>exact absurd q (h.slot j).1
 |live i =>
  unfold SetTable.slot at q
  dsimp only at q
  split at q
  ·rename_i c
   exact absurd (by simpa using c) (e _)
  ·split at q<;>cases q
theorem slot_of {t:SetTable} {b:Bool} (h:Tb t b) (j:Nat):(∃ i:Nat,t.place[i]?=some j/\t.slot j=.live i)\/((∀ i:Nat,t.place[i]?≠some j)/\t.slot j=.empty):=by
 by_cases q:∃ i:Nat,t.place[i]?=some j
 ·obtain ⟨i,e⟩:=q
  exact .inl ⟨i,e,slot_live h e⟩
 ·exact .inr ⟨λi e=>q ⟨i,e⟩,slot_none h λi e=>q ⟨i,e⟩⟩
def nxp (p:Nat×Nat):Nat×Nat:=((p.1*5+1+p.2 / 32)%8,p.2 / 32)
def pth (x:Int):Nat->Nat×Nat
 |0=>(SetTable.bits x%8,SetTable.bits x)
 |n+1=>nxp (pth x n)
def prb (x:Int) (n:Nat):SetTable.Probe:={ j:=(pth x n).1,more:=0,i:=(pth x n).1,perturb:=(pth x n).2,dummy:=none }
theorem prb_start {t:SetTable} (hm:t.mask=7) (x:Int):t.probeStart x=prb x 0:=by
 unfold SetTable.probeStart SetTable.runEnd
 rw [hm]
 have:¬ SetTable.bits x%(7+1)+9<=7:=by omega
 simp only [if_neg this,Nat.sub_self]
 rfl
theorem prb_adv {t:SetTable} (hm:t.mask=7) (x:Int) (n:Nat):t.advance (prb x n)=prb x (n+1):=by
 unfold SetTable.advance SetTable.leap SetTable.runEnd
 rw [hm]
 have h0:¬ (prb x n).more > 0:=by show ¬ (0 > 0);omega
 rw [if_neg h0]
 have:¬ ((prb x n).i*5+1+(prb x n).perturb / 32)%(7+1)+9<=7:=by omega
 simp only [if_neg this,Nat.sub_self]
 rfl
theorem probe_to {t:SetTable} {b:Bool} (h:Tb t b) (hm:t.mask=7) {ha:Nat->Int} {x:Int} {M:Nat} (ne:∀ m,m<M->t.slot (pth x m).1≠.empty) (hM:t.slot (pth x M).1=.empty\/∃ i,t.slot (pth x M).1=.live i/\ha i=x) :
  ∀ f k,k<=M->M-k<f->(∃ m i,k<=m/\m<=M/\t.slot (pth x m).1=.live i/\ha i=x/\SetTable.probe.go t ha x f (prb x k)=some (.candidate (pth x m).1 i (prb x (m+1))))\/(t.slot (pth x M).1=.empty/\SetTable.probe.go t ha x f (prb x k)=some (.empty (pth x M).1 none)):=by
 intro f
 induction f with
 |zero=>intro k _ z;omega
 |succ f ih =>
  intro k hk hf
  unfold SetTable.probe.go
  cases q:t.slot (pth x k).1 with
  |empty =>
   have e:k=M:=by
    rcases Nat.lt_or_ge k M with z | z
    ·exact absurd q (ne k z)
    ·omega
   subst e
   refine .inr ⟨q,?_⟩
   show (match t.slot (pth x k).1 with | .empty=>_ | .dummy=>_ | .live i=>_)=_
   rw [q];rfl
  |dummy=>exact absurd q (h.slot _).1
  |live i =>
   by_cases e:ha i=x
   ·refine .inl ⟨k,i,Nat.le_refl _,hk,q,e,?_⟩
    show (match t.slot (pth x k).1 with | .empty=>_ | .dummy=>_ | .live i=>_)=_
    rw [q]
    show (if (ha i == x)=true then _ else _)=_
    rw [if_pos (by simp [e]),prb_adv hm];rfl
   ·have lt:k<M:=by
     rcases Nat.lt_or_ge k M with z | z
     ·exact z
     ·have e2:k=M:=by omega
      rcases hM with z2 | ⟨i',z2,z3⟩
      ·rw [<- e2,q] at z2;cases z2
      ·rw [<- e2,q] at z2
       injection z2 with z2
       rw [z2] at e
       exact absurd z3 e
    have st:SetTable.probe.go t ha x (f+1) (prb x k)=SetTable.probe.go t ha x f (prb x (k+1)):=by
     conv=>lhs;unfold SetTable.probe.go
     show (match t.slot (pth x k).1 with | .empty=>_ | .dummy=>_ | .live i=>_)=_
     rw [q]
     show (if (ha i == x)=true then _ else _)=_
     rw [if_neg (by simp [e]),prb_adv hm]
    have st2:=st
    conv at st2=>lhs;unfold SetTable.probe.go
    rw [st2]
    rcases ih (k+1) lt (by omega) with ⟨m,i2,a1,a2,a3,a4,a5⟩ | z
    ·exact .inl ⟨m,i2,by omega,a2,a3,a4,a5⟩
    ·exact .inr z
theorem pth_div (x:Int):∀ n,(pth x n).2=SetTable.bits x / 32 ^ n
 |0=>by simp [pth]
 |n+1=>by
  show (pth x n).2 / 32=_
  rw [pth_div x n,Nat.div_div_eq_div_mul,Nat.pow_succ]
theorem pth_lt (x:Int):∀ n,(pth x n).1<8
 |0=>Nat.mod_lt _ (by decide)
 |n+1=>Nat.mod_lt _ (by decide)
theorem bits_lt (x:Int):SetTable.bits x<2 ^ 64:=by
 unfold SetTable.bits
 omega
def itr:Nat->Nat->Nat
 |0,i=>i
 |r+1,i=>(itr r i*5+1)%8
theorem pth_tail (x:Int):∀ r,pth x (13+r)=(itr r (pth x 13).1,0)
 |0=>by
  have h:(pth x 13).2=0:=by
   rw [pth_div]
   exact Nat.div_eq_of_lt (Nat.lt_of_lt_of_le (bits_lt x) (by decide))
  exact Prod.ext rfl h
 |r+1=>by
  show nxp (pth x (13+r))=_
  rw [pth_tail x r]
  simp [nxp,itr]
theorem itr_all:∀ i,i<8->∀ j,j<8->∃ r,r<8/\itr r i=j:=by decide
theorem pth_all (x:Int) {j:Nat} (hj:j<8):∃ n,n<=21/\(pth x n).1=j:=by
 obtain ⟨r,hr,e⟩:=itr_all _ (pth_lt x 13) j hj
 exact ⟨13+r,by omega,by rw [pth_tail];exact e⟩
theorem first_free {t:SetTable} {b:Bool} (h:Tb t b) (hz:t.place.size<8) (x:Int):∃ N,N<=21/\t.slot (pth x N).1=.empty/\∀ m,m<N->t.slot (pth x m).1≠.empty:=by
 have ex:∃ j,j<8/\t.slot j=.empty:=by
  by_cases q:∃ j,j<8/\t.slot j=.empty
  ·exact q
  ·have:=len_sub (l:=List.range 8) (u:=t.place.toList) List.nodup_range λj hj=>by
    have hj:=List.mem_range.mp hj
    rcases slot_of h j with ⟨i,e,_⟩ | ⟨_,e⟩
    ·exact Array.mem_toList_iff.mpr (Array.mem_of_getElem? e)
    ·exact absurd ⟨j,hj,e⟩ q
   simp at this
   omega
 obtain ⟨j,hj,e⟩:=ex
 obtain ⟨n,hn,en⟩:=pth_all x hj
 obtain ⟨m,h1,h2,h3⟩:=least_of (p:=λn=>t.slot (pth x n).1=.empty) n (by rw [en];exact e)
 exact ⟨m,by omega,h2,h3⟩
theorem inz_get {α:Type} (xs:Array α) {p:Nat} (hp:p<=xs.size) (v:α) (k:Nat):(SetTable.insertAt xs p v)[k]?=if k<p then xs[k]? else if k=p then some v else xs[k-1]?:=by
 unfold SetTable.insertAt
 rw [Array.getElem?_append]
 have s1:((xs.extract 0 p).push v).size=p+1:=by simp;omega
 rw [s1]
 by_cases a:k<p
 ·rw [if_pos (by omega),if_pos a,Array.getElem?_push]
  have:¬ k=(xs.extract 0 p).size:=by simp;omega
  rw [if_neg this,Array.getElem?_extract]
  rw [if_pos (by omega)]
  simp
 ·rw [if_neg a]
  by_cases c:k=p
  ·rw [if_pos (by omega),if_pos c,Array.getElem?_push]
   have:k=(xs.extract 0 p).size:=by simp;omega
   rw [if_pos this]
  ·rw [if_neg (by omega),if_neg c,Array.getElem?_extract]
   by_cases d:k-(p+1)<xs.size-p
   ·rw [if_pos (by omega)]
    congr 1;omega
   ·rw [if_neg (by omega)]
    exact (Array.getElem?_eq_none (by omega)).symm
theorem ins_at {t:SetTable} {b:Bool} (h:Tb t b) {es:Array (Int×Value)} (hz:t.place.size=es.size) {j0:Nat} (e0:Int×Value) {j:Nat} {e:Int×Value}:AtT (t.put j0).1 (SetTable.insertAt es (t.put j0).2 e0) j e↔AtT t es j e\/(j=j0/\e=e0):=by
 have hp:SetTable.below t.place j0<=t.place.size:=(bel h.rise j0).1
 show (∃ i:Nat,(SetTable.insertAt t.place (SetTable.below t.place j0) j0)[i]?=some j/\(SetTable.insertAt es (SetTable.below t.place j0) e0)[i]?=some e)↔_
 generalize SetTable.below t.place j0=p at hp
 constructor
 ·rintro ⟨i,h1,h2⟩
  rw [inz_get _ hp] at h1
  rw [inz_get _ (by omega)] at h2
  by_cases a:i<p
  ·rw [if_pos a] at h1 h2
   exact .inl ⟨i,h1,h2⟩
  ·rw [if_neg a] at h1 h2
   by_cases c:i=p
   ·rw [if_pos c] at h1 h2
    cases h1;cases h2
    exact .inr ⟨rfl,rfl⟩
   ·rw [if_neg c] at h1 h2
    exact .inl ⟨i-1,h1,h2⟩
 ·rintro (⟨i,h1,h2⟩ | ⟨rfl,rfl⟩)
  ·by_cases a:i<p
   ·exact ⟨i,by rw [inz_get _ hp,if_pos a];exact h1,by rw [inz_get _ (by omega),if_pos a];exact h2⟩
   ·exact ⟨i+1,by rw [inz_get _ hp,if_neg (by omega),if_neg (by omega)];exact h1,by rw [inz_get _ (by omega),if_neg (by omega),if_neg (by omega)];exact h2⟩
  ·exact ⟨p,by rw [inz_get _ hp,if_neg (by omega),if_pos rfl],by rw [inz_get _ (by omega),if_neg (by omega),if_pos rfl]⟩
theorem put_tb {t:SetTable} {b:Bool} (h:Tb t b) {j:Nat} (e:t.slot j=.empty):Tb (t.put j).1 b:=by
 refine ⟨rise_in h.rise ((h.slot j).2 e),?_,h.led⟩
 show (if SetTable.has t.dummies j then _ else t.dummies)=_
 have hd:SetTable.has t.dummies j=false:=by rw [h.dum];simp [SetTable.has,SetTable.below,SetTable.below.go]
 rw [hd]
 exact h.dum
theorem ins_size {α:Type} (xs:Array α) {p:Nat} (hp:p<=xs.size) (v:α):(SetTable.insertAt xs p v).size=xs.size+1:=by
 unfold SetTable.insertAt
 simp
 omega
theorem put_slot {t:SetTable} {b:Bool} (h:Tb t b) {j j':Nat} (e:t.slot j=.empty) (q:t.slot j'≠.empty):(t.put j).1.slot j'≠.empty:=by
 rcases slot_of h j' with ⟨i,e1,_⟩ | ⟨_,e1⟩
 ·have hp:SetTable.below t.place j<=t.place.size:=(bel h.rise j).1
  have hi:=(Array.getElem?_eq_some_iff.mp e1).1
  have:∃ i:Nat,(t.put j).1.place[i]?=some j':=by
   show ∃ i:Nat,(SetTable.insertAt t.place (SetTable.below t.place j) j)[i]?=some j'
   by_cases a:i<SetTable.below t.place j
   ·exact ⟨i,by rw [inz_get _ hp,if_pos a];exact e1⟩
   ·exact ⟨i+1,by rw [inz_get _ hp,if_neg (by omega),if_neg (by omega)];exact e1⟩
  obtain ⟨i2,e2⟩:=this
  rw [slot_live (put_tb h e) e2]
  exact λz=>nomatch z
 ·exact absurd e1 q
end L2
namespace L2
open PySem PySem.Spec PyProof.Rows
section
variable {P:Program} {w:World} {A:Around} {E:Value->Shared->Prop} {s:Shared}
abbrev TK (P:Program) (w:World) (h:Heap) (ks:List Str) (b:Addr):Prop:=IsTupleKey (PySem.strKind P w) h ks b
abbrev hk (P:Program) (w:World) (ks:List Str):Int:=tupleKeyHash (PySem.strKind P w) ks
open Classical in
noncomputable def tkey (P:Program) (w:World) (h:Heap) (v:Value):List Str:=if q:∃ ks b,v=.ref b/\TK P w h ks b then Classical.choose q else []
theorem tkey_eq {h:Heap} {ks:List Str} {b:Addr} (q:TK P w h ks b):tkey P w h (.ref b)=ks:=by
 have ex:∃ ks b',(Value.ref b)=.ref b'/\TK P w h ks b':=⟨ks,b,rfl,q⟩
 unfold tkey
 rw [dif_pos ex]
 obtain ⟨b',e,z⟩:=Classical.choose_spec ex
 injection e with e
 subst e
 exact z.inj q
theorem items_str:∀ {ks:List Str} {vs:List Value},ItemsAre (PySem.strKind P w) ks vs->∀ v∈vs,∃ k tk,v=.str k tk
 |_,_,.nil,_,h=>nomatch h
 |_,_,.cons h1 r,v,h=>by
  rcases List.mem_cons.mp h with rfl | h
  ·obtain ⟨tk,e⟩:=Value.isStrOf_shape h1
   exact ⟨_,tk,e⟩
  ·exact items_str r v h
theorem ofcls_no {ks:List Str} {x:Addr} {Q:Bool->Shared->Prop} (hx:TK P w s.heap ks x) (h:Q false s):wpAny (model P w) A (ofAClassStatement 8 (.ref x)) Q E s:=by
 have hT:=hx.typeIs
 obtain ⟨o,items,n,ho,_,hd,hi⟩:=hx
 unfold ofAClassStatement
 refine wpAny_bind (wpAny_typeOf hT ?_)
 dsimp only
 refine wpAny_bind (wpAny_pure ?_)
 simp only [Bool.not_true,Bool.false_eq_true,if_false]
 refine wpAny_bind (wpAny_seqItems ho hd ?_)
 dsimp only
 refine wpAny_bind ?_
 rw [<- Array.forIn_toList]
 refine wpAny_forIn_list _ (λrest r s'=>r.1=none/\s'=s/\∀ v∈rest,∃ k tk,v=Value.str k tk) _ ?_ ?_ _ _ ⟨rfl,rfl,items_str hi⟩
 ·rintro v rest r s' ⟨hr,rfl,hall⟩
  obtain ⟨k,tk,rfl⟩:=hall v List.mem_cons_self
  refine wpAny_bind (wpAny_pure ?_)
  exact wpAny_pure ⟨rfl,rfl,λu hu'=>hall u (List.mem_cons_of_mem _ hu')⟩
 ·rintro ⟨r1,r2⟩ s' ⟨hr,rfl,_⟩
  simp only at hr
  subst hr
  exact wpAny_pure h
theorem seen_no {ks:List Str} {x:Addr} {stored:List Value} {Q:Bool->Shared->Prop} (hx:TK P w s.heap ks x) (hs:∀ y∈stored,∃ ks' b,y=.ref b/\TK P w s.heap ks' b) (h:Q false s):wpAny (model P w) A (searchCouldBeSeen (.ref x) stored) Q E s:=by
 unfold searchCouldBeSeen
 refine wpAny_bind ?_
 refine wpAny_forIn_list _ (λrest r s'=>r.1=none/\s'=s/\∀ y∈rest,∃ ks' b,y=.ref b/\TK P w s.heap ks' b) _ ?_ ?_ _ _ ⟨rfl,rfl,hs⟩
 ·rintro v rest r s' ⟨hr,rfl,hall⟩
  obtain ⟨ks',b,rfl,hb⟩:=hall v List.mem_cons_self
  have fin:wpAny (model P w) A (pure (ForInStep.yield (none,PUnit.unit)):Sem (ForInStep (Option Bool×PUnit))) (λst s''=>match st with | .yield r=>r.1=none/\s''=s'/\∀ y∈rest,∃ ks' b,y=.ref b/\TK P w s'.heap ks' b | .done r=>True) E s':=wpAny_pure ⟨rfl,rfl,λu hu'=>hall u (List.mem_cons_of_mem _ hu')⟩
  dsimp only
  split
  ·exact wpAny_pure ⟨rfl,rfl,λu hu'=>hall u (List.mem_cons_of_mem _ hu')⟩
  ·refine wpAny_bind (wpAny_eqIsQuiet_tuple hx ?_)
   simp only [Bool.not_true,Bool.false_eq_true,if_false]
   refine wpAny_bind (wpAny_eqIsQuiet_tuple hb ?_)
   simp only [Bool.not_true,Bool.false_eq_true,if_false]
   refine wpAny_bind (ofcls_no hx ?_)
   simp only [Bool.false_eq_true,if_false]
   refine wpAny_bind (ofcls_no hb ?_)
   simp only [Bool.false_eq_true,if_false]
   exact wpAny_pure ⟨rfl,rfl,λu hu'=>hall u (List.mem_cons_of_mem _ hu')⟩
 ·rintro ⟨r1,r2⟩ s' ⟨hr,rfl,_⟩
  simp only at hr
  subst hr
  exact wpAny_pure h
theorem hbv_no {x:Addr} {ks:List Str} {Q:Bool->Shared->Prop} (hx:TK P w s.heap ks x) (hn:ks≠[]) (h:Q false s):wpAny (model P w) A (hashByValue 8 (.ref x)) Q E s:=by
 have hT:=hx.typeIs
 obtain ⟨o,items,n,ho,_,hd,hi⟩:=hx
 unfold hashByValue
 refine wpAny_bind (wpAny_specialOf hT F.slot_tuple_hash.lookup ?_)
 dsimp only
 refine wpAny_bind (wpAny_seqItems ho hd ?_)
 dsimp only [Option.getD_some]
 refine wpAny_bind ?_
 rw [<- Array.forIn_toList]
 cases e:items.toList with
 |nil =>
  rw [e] at hi
  cases hi
  exact absurd rfl hn
 |cons v r =>
  obtain ⟨k,tk,rfl⟩:=items_str hi v (by rw [e];exact List.mem_cons_self)
  simp only [List.forIn_cons]
  refine wpAny_bind (wpAny_bind (wpAny_pure ?_))
  simp only [Bool.not_false,if_true]
  exact wpAny_pure (wpAny_pure (wpAny_pure h))
structure SeP (P:Program) (w:World) (h:Heap) (a:Addr) (led:Bool) (es:Array (Int×Value)) (ep:Nat) (t:SetTable):Prop where
 at_:h.get? a=some { cls:=.type "set",data:=.set es ep t }
 el:∀ e∈es.toList,∃ ks b,e.2=.ref b/\TK P w h ks b/\e.1=hk P w ks
 nd:(es.toList.map λe=>tkey P w h e.2).Nodup
 small:es.size<=4
 fits:t.fits es.size=true
 mask:t.mask=7
 tb:Tb t led
 path:∀ j e,AtT t es j e->∃ m,m<=21/\(pth e.1 m).1=j/\∀ m',m'<m->t.slot (pth e.1 m').1≠.empty
theorem SeP.sz {h:Heap} {a:Addr} {led:Bool} {es:Array (Int×Value)} {ep:Nat} {t:SetTable} (se:SeP P w h a led es ep t):t.place.size=es.size:=by
 have:=se.fits
 simp only [SetTable.fits,Bool.and_eq_true,beq_iff_eq] at this
 exact this.1
theorem search_tup {a x:Addr} {led:Bool} {es:Array (Int×Value)} {ep:Nat} {t:SetTable} {ks:List Str} {Q:SetFound->Shared->Prop} (se:SeP P w s.heap a led es ep t) (hu:A.units<cLine) (hx:TK P w s.heap ks x)
  (h1:(ks∈es.toList.map λe=>tkey P w s.heap e.2)->Q (.there none) s)
  (h2:(ks∉es.toList.map λe=>tkey P w s.heap e.2)->∀ N,N<=21->t.slot (pth (hk P w ks) N).1=.empty->(∀ m,m<N->t.slot (pth (hk P w ks) m).1≠.empty)->Q (.free (pth (hk P w ks) N).1 false) s) :
  wpAny (model P w) A (setSearch a (.ref x) (hk P w ks) true) Q E s:=by
 have sz:=se.sz
 have toE:∀ (i:Nat) (e:Int×Value),es[i]?=some e->e∈es.toList:=λi e q=>Array.mem_toList_iff.mpr (Array.mem_of_getElem? q)
 have main:∀ M,M<=21->(∀ m,m<M->t.slot (pth (hk P w ks) m).1≠.empty) ->
   (t.slot (pth (hk P w ks) M).1=.empty/\(ks∉es.toList.map λe=>tkey P w s.heap e.2)\/∃ i e,t.slot (pth (hk P w ks) M).1=.live i/\es[i]?=some e/\e.1=hk P w ks/\tkey P w s.heap e.2=ks) ->
   ∀ f k stand,k<=M->M-k<f->stand.getD (t.probeStart (hk P w ks))=prb (hk P w ks) k->wpAny (model P w) A (setSearchFrom a (.ref x) (hk P w ks) true f stand) Q E s:=by
  intro M hM ne at_ f
  induction f with
  |zero=>intro k stand _ z;omega
  |succ f ih =>
   intro k stand hk' hf est
   unfold setSearchFrom
   refine wpAny_bind (wpAny_setState_of se.at_ rfl se.fits ?_)
   dsimp only
   have gw:t.gaveWay=false:=by unfold SetTable.gaveWay;rw [se.mask];rfl
   rw [gw]
   simp only [Bool.false_eq_true,if_false]
   rw [est]
   have pr:=probe_to se.tb se.mask (ha:=λi=>(es[i]?.map (·.1)).getD 0) (x:=hk P w ks) ne (at_.imp (·.1) λ⟨i,e,a1,a2,a3,a4⟩=>⟨i,a1,by simp [a2,a3]⟩) (10*SetTable.turns t.mask) k hk' (by rw [se.mask];show _<220;omega)
   rcases pr with ⟨m,i,a1,a2,a3,a4,a5⟩ | ⟨a1,a2⟩
   ·generalize hz:t.probe _ (hk P w ks) (prb (hk P w ks) k)=z
    obtain rfl:z=_:=hz.symm.trans a5
    dsimp only
    have sl:t.place[i]?=some (pth (hk P w ks) m).1:=by
     rcases slot_of se.tb (pth (hk P w ks) m).1 with ⟨i',z1,z2⟩ | ⟨_,z2⟩
     ·rw [a3] at z2
      injection z2 with z2
      rw [z2];exact z1
     ·rw [a3] at z2;cases z2
    have hi:i<es.size:=by rw [<- sz];exact (Array.getElem?_eq_some_iff.mp sl).1
    obtain ⟨e,ee⟩:∃ e,es[i]?=some e:=⟨es[i],Array.getElem?_eq_getElem hi⟩
    obtain ⟨ks',b,eb,hb,eh⟩:=se.el e (toE i e ee)
    obtain ⟨eh',y⟩:=e
    dsimp only at eb eh
    subst eb
    have go:wpAny (model P w) A (do
      let equal <- holding [.ref b] (eqBool (.ref b) (Value.ref x))
      let __x <- setState a
      if (true&&equal)=true then pure (SetFound.there none)
       else
        match __x.2.snd.sameMemory t.moves t.mask with
        |some same =>
         match if same=true then __x.2.snd.slot (pth (hk P w ks) m).1 else SetTable.Slot.empty with
         |SetTable.Slot.live i' =>
          match __x.fst[i']? with
          |some (_,y')=>do
           let __do_lift <- isSame y' (.ref b)
           let still <- pure (if __do_lift=true then some i' else none)
           match still with
            |none=>do
             rule "set.search.anew"
             setSearchFrom a (Value.ref x) (hk P w ks) true f none
            |some i' =>
             if equal=true then pure (SetFound.there (some i'))
             else setSearchFrom a (Value.ref x) (hk P w ks) true f (some (prb (hk P w ks) (m+1)))
          |none=>do
           let still <- pure none
           match still with
            |none=>do
             rule "set.search.anew"
             setSearchFrom a (Value.ref x) (hk P w ks) true f none
            |some i' =>
             if equal=true then pure (SetFound.there (some i'))
             else setSearchFrom a (Value.ref x) (hk P w ks) true f (some (prb (hk P w ks) (m+1)))
         |_=>do
          let still <- pure none
          match still with
           |none=>do
            rule "set.search.anew"
            setSearchFrom a (Value.ref x) (hk P w ks) true f none
           |some i' =>
            if equal=true then pure (SetFound.there (some i'))
            else setSearchFrom a (Value.ref x) (hk P w ks) true f (some (prb (hk P w ks) (m+1)))
        |_=>unsupported "set.changed-during-lookup:is-the-new-block-at-the-old-address") Q E s:=by
     refine wpAny_bind (wpAny_holding (wpAny_eqBool_tuple hu hb hx ?_))
     refine wpAny_bind (wpAny_setState_of se.at_ rfl se.fits ?_)
     by_cases q:ks'=ks
     ·subst q
      simp only [decide_true,Bool.and_self,if_true]
      exact wpAny_pure (h1 (List.mem_map.mpr ⟨_,toE i _ ee,tkey_eq hb⟩))
     ·simp only [decide_eq_false q,Bool.and_false,Bool.false_eq_true,if_false]
      have sm:t.sameMemory t.moves t.mask=some true:=by unfold SetTable.sameMemory;simp
      rw [sm]
      simp only [if_true]
      rw [a3]
      dsimp only
      rw [ee]
      dsimp only
      refine wpAny_bind (wpAny_isSame_ref_self (wpAny_bind (wpAny_pure ?_)))
      simp only [if_true]
      have lt:m<M:=by
       rcases Nat.lt_or_ge m M with z | z
       ·exact z
       ·have em:m=M:=by omega
        subst em
        rcases at_ with ⟨z1,_⟩ | ⟨i2,e2,z1,z2,z3,z4⟩
        ·rw [a3] at z1;cases z1
        ·rw [a3] at z1
         injection z1 with z1
         rw [<- z1,ee] at z2
         injection z2 with z2
         rw [<- z2] at z4
         exact absurd ((tkey_eq hb).symm.trans z4) q
      exact ih (m+1) _ (by omega) (by omega) rfl
    have fl:∀ y∈((es.filter λz=>z.fst == hk P w ks).toList.map λz=>z.snd),∃ ks' b,y=Value.ref b/\TK P w s.heap ks' b:=λy hy=>by
     obtain ⟨z,hz1,rfl⟩:=List.mem_map.mp hy
     have hz2:z∈es.toList:=by
      have:=Array.mem_toList_iff.mp hz1
      exact Array.mem_toList_iff.mpr (Array.mem_filter.mp this).1
     obtain ⟨ks',b,e1,e2,_⟩:=se.el z hz2
     exact ⟨ks',b,e1,e2⟩
    split
    ·refine wpAny_bind (seen_no hx fl ?_)
     simp only [Bool.false_eq_true,if_false]
     rw [ee]
     exact go
    ·rw [ee]
     exact go
   ·generalize hz:t.probe _ (hk P w ks) (prb (hk P w ks) k)=z
    obtain rfl:z=_:=hz.symm.trans a2
    dsimp only
    refine wpAny_pure (h2 ?_ M hM a1 ne)
    rcases at_ with ⟨_,z⟩ | ⟨i2,e2,z1,_⟩
    ·exact z
    ·rw [a1] at z1;cases z1
 unfold setSearch
 by_cases q:ks∈es.toList.map λe=>tkey P w s.heap e.2
 ·obtain ⟨e,he,ek⟩:=List.mem_map.mp q
  obtain ⟨i,hi,ei⟩:=List.getElem_of_mem he
  have ee:es[i]?=some e:=by
   rw [<- ei]
   simp at hi
   simp [hi]
  obtain ⟨ks',b,eb,hb,eh⟩:=se.el e he
  have ek2:ks'=ks:=by
   rw [eb,tkey_eq hb] at ek
   exact ek
  subst ek2
  have hi':i<t.place.size:=by rw [sz];simpa using hi
  have pl:t.place[i]?=some t.place[i]:=Array.getElem?_eq_getElem hi'
  obtain ⟨m,m1,m2,m3⟩:=se.path _ e ⟨i,pl,ee⟩
  rw [eh] at m2 m3
  exact main m m1 m3 (.inr ⟨i,e,by rw [m2];exact slot_live se.tb pl,ee,eh,ek⟩) 100000 0 none (Nat.zero_le _) (by omega) (by rw [Option.getD_none];exact prb_start se.mask _)
 ·obtain ⟨N,n1,n2,n3⟩:=first_free se.tb (by have:=se.small;omega) (hk P w ks)
  exact main N n1 n3 (.inl ⟨n2,q⟩) 100000 0 none (Nat.zero_le _) (by omega) (by rw [Option.getD_none];exact prb_start se.mask _)
end
end L2
namespace L2
open PySem PySem.Spec PyProof.Rows
section
variable {P:Program} {w:World} {A:Around} {E:Value->Shared->Prop} {s:Shared}
theorem ins_perm {α:Type} (xs:Array α) {p:Nat} (hp:p<=xs.size) (v:α):(SetTable.insertAt xs p v).toList.Perm (xs.toList++[v]):=by
 have:=SetTable.insertAt_perm xs p v
 rwa [Array.toList_push] at this
theorem TK.keep {h h':Heap} {ks:List Str} {b:Addr} (q:TK P w h ks b) (k:∀ o,o.cls=.type "tuple"->h.get? b=some o->h'.get? b=some o):TK P w h' ks b:=by
 obtain ⟨o,items,n,ho,hc,hd,hi⟩:=q
 exact ⟨o,items,n,k o hc ho,hc,hd,hi⟩
theorem TK.but {h h':Heap} {a b:Addr} {ks:List Str} {es:Array (Int×Value)} {ep:Nat} {t:SetTable} (q:TK P w h ks b) (ha:h.get? a=some { cls:=.type "set",data:=.set es ep t }) (sb:Heap.SameBut a h h'):TK P w h' ks b :=
 q.keep λo hc ho=>(sb.2 b (λe=>by
  subst e
  rw [ha] at ho
  obtain rfl:=Option.some.inj ho
  exact absurd hc (by show ¬ Value.type "set"=Value.type "tuple";decide))).trans ho
def SPt (P:Program) (w:World) (h:Heap) (a:Addr) (led:Bool) (ms:List (List Str)) (Z:Addr->Prop):Prop:=∃ es ep t,SeP P w h a led es ep t/\(∀ k,k∈ms↔k∈es.toList.map λe=>tkey P w h e.2)/\∀ e∈es.toList,∃ b,e.2=.ref b/\Z b
theorem add_tup {a x:Addr} {led:Bool} {ms U:List (List Str)} {Z:Addr->Prop} {ks:List Str} {Q:Bool->Shared->Prop} (hS:SPt P w s.heap a led ms Z) (hz:Z x) (hu:A.units<cLine) (hx:TK P w s.heap ks x) (hn:ks≠[]) (hm:∀ k∈ms,k∈U) (hks:ks∈U) (hl:U.length<=4)
  (hQ:∀ b h',Heap.SameBut a s.heap h'->SPt P w h' a led (ms++[ks]) Z->Q b { s with heap:=h' }):wpAny (model P w) A (setAddHashed a (.ref x) (hk P w ks)) Q E s:=by
 obtain ⟨es,ep,t,se,mem,mz⟩:=hS
 have sz:=se.sz
 unfold setAddHashed setAddHashedIn
 refine wpAny_holding (wpAny_bind (wpAny_setState_of se.at_ rfl se.fits ?_))
 dsimp only
 have bs:byScan (.ref x) es=false:=rfl
 rw [bs]
 simp only [Bool.false_eq_true,if_false]
 refine wpAny_bind (search_tup se hu hx (λq=>?_) λq N n1 n2 n3=>?_)
 ·dsimp only
  refine wpAny_pure ?_
  have z:=hQ false s.heap (Heap.SameBut.refl a s.heap) ⟨es,ep,t,se,λk=>?_,mz⟩
  ·cases s;exact z
  ·rw [List.mem_append,List.mem_singleton,mem k]
   exact ⟨λz=>z.elim id λe=>by rw [e];exact q,.inl⟩
 ·dsimp only
  refine wpAny_bind (wpAny_setState_of se.at_ rfl se.fits ?_)
  dsimp only
  have hp:(t.put (pth (hk P w ks) N).1).2<=es.size:=by rw [<- sz];exact (bel se.tb.rise _).1
  have main:∀ t2:SetTable,t2.place=(t.put (pth (hk P w ks) N).1).1.place->t2.dummies=#[]->t2.mask=7->t2.led=led->wpAny (model P w) A (do
    storeSet a (SetTable.insertAt es (t.put (pth (hk P w ks) N).1).2 (hk P w ks,.ref x)) t2
    if (!false&&t2.tooFull)=true then do
      setRelay a (SetTable.grown (es.size+1))
      pure true
     else pure true) Q E s:=by
   intro t2 e1 e2 e3 e4
   have tb2:Tb t2 led:=⟨by rw [e1];exact (put_tb se.tb n2).rise,e2,e4⟩
   have s1:(SetTable.insertAt es (t.put (pth (hk P w ks) N).1).2 (hk P w ks,Value.ref x)).size=es.size+1:=ins_size _ hp _
   have s2:t2.place.size=es.size+1:=by
    rw [e1]
    show (SetTable.insertAt t.place _ _).size=_
    rw [ins_size _ (bel se.tb.rise _).1,sz]
   have s4:=se.small
   have pm:=ins_perm es hp (hk P w ks,Value.ref x)
   have sb:∀ f,Heap.SameBut a s.heap (s.heap.update a f):=λf=>Heap.SameBut.update s.heap a f
   refine wpAny_bind (wpAny_storeSet_of se.at_ rfl ?_ (by rw [s1,sizeLine_eq];omega))
   have keys:∀ e∈es.toList++[(hk P w ks,Value.ref x)],∃ ks' b,e.2=.ref b/\TK P w s.heap ks' b/\e.1=hk P w ks':=λe he=>by
    rcases List.mem_append.mp he with z | z
    ·exact se.el e z
    ·rw [List.mem_singleton.mp z]
     exact ⟨ks,x,rfl,hx,rfl⟩
   have tks:∀ f,∀ e∈es.toList++[(hk P w ks,Value.ref x)],tkey P w (s.heap.update a f) e.2=tkey P w s.heap e.2:=λf e he=>by
    obtain ⟨ks',b,z1,z2,_⟩:=keys e he
    rw [z1,tkey_eq z2,tkey_eq (z2.but se.at_ (sb f))]
   have nd1:((es.toList++[(hk P w ks,Value.ref x)]).map λe=>tkey P w s.heap e.2).Nodup:=by
    rw [List.map_append,List.nodup_append]
    refine ⟨se.nd,by simp,λy hy z hz e=>?_⟩
    have:z=ks:=by simpa [tkey_eq hx] using hz
    rw [e,this] at hy
    exact q hy
   have small:es.size+1<=4:=by
    have:=len_sub nd1 (u:=U) λk hk'=>by
     rw [List.map_append,List.mem_append] at hk'
     rcases hk' with z | z
     ·exact hm k ((mem k).mpr z)
     ·have:k=ks:=by simpa [tkey_eq hx] using z
      rw [this];exact hks
    simp at this
    omega
   have tf:t2.tooFull=false:=by
    unfold SetTable.tooFull SetTable.fill
    rw [e2,e3,s2]
    simp
    omega
   have fin:SPt P w (s.heap.update a (Obj.putSet (SetTable.insertAt es (t.put (pth (hk P w ks) N).1).2 (hk P w ks,Value.ref x)) t2)) a led (ms++[ks]) Z:=by
    refine ⟨_,_,_,⟨put_at se.at_,λe he=>?_,?_,by omega,?_,e3,tb2,λj e hj=>?_⟩,λk=>?_,λe he=>?_⟩
    ·obtain ⟨ks',b,z1,z2,z3⟩:=keys e (pm.mem_iff.mp he)
     exact ⟨ks',b,z1,z2.but se.at_ (sb _),z3⟩
    ·rw [(pm.map _).nodup_iff,List.map_congr_left (tks _)]
     exact nd1
    ·unfold SetTable.fits SetTable.fill
     rw [e2,e3,s2,s1]
     simp
     omega
    ·have hj':AtT (t.put (pth (hk P w ks) N).1).1 (SetTable.insertAt es (t.put (pth (hk P w ks) N).1).2 (hk P w ks,Value.ref x)) j e:=by
      obtain ⟨i,z1,z2⟩:=hj
      rw [e1] at z1
      exact ⟨i,z1,z2⟩
     have sl:∀ j',t2.slot j'=(t.put (pth (hk P w ks) N).1).1.slot j':=λj'=>by
      unfold SetTable.slot
      rw [e1,e2,(put_tb se.tb n2).dum]
     rcases (ins_at se.tb sz _).mp hj' with z | ⟨z1,z2⟩
     ·obtain ⟨m,m1,m2,m3⟩:=se.path j e z
      exact ⟨m,m1,m2,λm' hm'=>by rw [sl];exact put_slot se.tb n2 (m3 m' hm')⟩
     ·subst z2
      exact ⟨N,n1,z1.symm,λm' hm'=>by rw [sl];exact put_slot se.tb n2 (n3 m' hm')⟩
    ·rw [(pm.map _).mem_iff,List.map_congr_left (tks _),List.map_append,List.mem_append,List.mem_append,mem k]
     simp [tkey_eq hx]
    ·rcases List.mem_append.mp (pm.mem_iff.mp he) with z | z
     ·exact mz e z
     ·rw [List.mem_singleton.mp z];exact ⟨x,rfl,hz⟩
   rw [tf]
   simp only [Bool.and_false,Bool.false_eq_true,if_false]
   exact wpAny_pure (hQ true _ (sb _) fin)
  split
  ·rename_i pl
   refine wpAny_bind (hbv_no hx hn ?_)
   simp only [Bool.false_eq_true,if_false]
   exact main { (t.put (pth (hk P w ks) N).1).1 with plain:=false } rfl (put_tb se.tb n2).dum se.mask (put_tb se.tb n2).led
  ·refine wpAny_bind (wpAny_pure ?_)
   simp only [if_true]
   exact main _ rfl (put_tb se.tb n2).dum se.mask (put_tb se.tb n2).led
theorem SPt.at {h h':Heap} {S:Addr} {led:Bool} {ms:List (List Str)} {Z:Addr->Prop} (x:SPt P w h S led ms Z) (k1:∀ o,h.get? S=some o->h'.get? S=some o) (k:∀ b o,o.cls=.type "tuple"->h.get? b=some o->h'.get? b=some o):SPt P w h' S led ms Z:=by
 obtain ⟨es,ep,t,se,r,rz⟩:=x
 have tks:∀ e∈es.toList,tkey P w h' e.2=tkey P w h e.2:=λe he=>by
  obtain ⟨ks',b,z1,z2,_⟩:=se.el e he
  rw [z1,tkey_eq z2,tkey_eq (z2.keep λo hc ho=>k b o hc ho)]
 refine ⟨es,ep,t,⟨k1 _ se.at_,λe he=>?_,?_,se.small,se.fits,se.mask,se.tb,se.path⟩,λj=>?_,rz⟩
 ·obtain ⟨ks',b,z1,z2,z3⟩:=se.el e he
  exact ⟨ks',b,z1,z2.keep λo hc ho=>k b o hc ho,z3⟩
 ·rw [List.map_congr_left tks];exact se.nd
 ·rw [List.map_congr_left tks];exact r j
theorem SPt.ne {h:Heap} {S b:Addr} {led:Bool} {ms:List (List Str)} {Z:Addr->Prop} (x:SPt P w h S led ms Z) {o:Obj} (hc:o.cls=.type "tuple") (ho:h.get? b=some o):b≠S:=λe=>by
 obtain ⟨es,ep,t,se,r⟩:=x
 subst e
 rw [se.at_] at ho
 obtain rfl:=Option.some.inj ho
 exact absurd hc (by show ¬ Value.type "set"=Value.type "tuple";decide)
end
theorem sul_loopP {P:Program} {w:World} {A:Around} {R:Result->Shared->Prop} {I:Addr} {fp wr:List Addr} {n:Nat} {Pv:Nat->Value->Prop} {St:Nat->Heap->Prop} {led:Bool} (W:Walks P w A.in1 I fp wr n Pv St) (S:Addr) (hSf:S∉fp)
  {U:List (List Str)} {Z:Addr->Prop} (val:Nat->List Str) (hw:∀ i h b,St i h->b∈wr->∀ o,h.get? b=some o->o.cls≠.type "tuple") (hv:∀ i,i<n->val i≠[]/\val i∈U) (hl:U.length<=4) (hu:A.in1.units<cLine) :
  ∀ (k i:Nat) (s:Shared),n-i=k->i<=n->St i s.heap->(∀ i v,Pv i v->∃ b,v=.ref b/\Z b/\TK P w s.heap (val i) b)->SPt P w s.heap S led ((List.range i).map val) Z ->
   (∀ h' tk,(∀ b o,b∉S::wr->s.heap.get? b=some o->h'.get? b=some o)->SPt P w h' S led ((List.range n).map val) Z->R (.ok (.ret .none)) { s with heap:=h',toks:=tk }) ->
   codeAny (model P w) A (.builtin "set.update.loop" ⟨[.ref S,.ref I],[]⟩) R s:=by
 have hSw:S∉wr:=λz=>hSf (W.sub _ z)
 intro k
 induction k with
 |zero =>
  intro i s hk hi st hval hS hR
  obtain rfl:i=n:=by omega
  refine codeAny_builtin en_sul ?_
  rw [Around.under_plainId pl_sul _]
  refine wpAny_bind (m:=pyNext (.ref I)) (W.done s _ _ st λh' tk kp=>?_)
  exact wpAny_pure (hR h' tk (λb o hb e=>kp b o (λz=>hb (List.mem_cons_of_mem _ z)) e) (hS.at (λo e=>kp S o hSw e) λb o hc e=>kp b o (λz=>hw _ _ b st z o e hc) e))
 |succ k ih =>
  intro i s hk hi st hval hS hR
  refine codeAny_builtin en_sul ?_
  rw [Around.under_plainId pl_sul _]
  refine wpAny_bind (m:=pyNext (.ref I)) (W.item i s _ _ (by omega) st λv h' tk hP st' kp=>?_)
  have kT:∀ b o,o.cls=.type "tuple"->s.heap.get? b=some o->h'.get? b=some o:=λb o hc e=>kp b o (λz=>hw _ _ b st z o e hc) e
  obtain ⟨x,rfl,hz,hx⟩:=hval i v hP
  have hx':TK P w h' (val i) x:=hx.keep λo hc e=>kT x o hc e
  have hS':SPt P w h' S led ((List.range i).map val) Z:=hS.at (λo e=>kp S o hSw e) kT
  refine wpAny_bind (m:=holding [Value.ref x] (setAdd S (.ref x))) (wpAny_holding ?_)
  unfold setAdd
  refine wpAny_holding (wpAny_bind (wpAny_pyHash_tuple hu hx' ?_))
  obtain ⟨v1,v2⟩:=hv i (by omega)
  refine add_tup (s:={ s with heap:=h',toks:=tk+((val i).length+1) }) (U:=U) hS' hz hu hx' v1 (λk hk'=>by
   obtain ⟨j,hj,rfl⟩:=List.mem_map.mp hk'
   exact (hv j (by have:=List.mem_range.mp hj;omega)).2) v2 hl λb h2 sb hS2=>?_
  have kT2:∀ b o,o.cls=.type "tuple"->h'.get? b=some o->h2.get? b=some o:=λb o hc e=>(sb.2 b (hS'.ne hc e)).trans e
  rw [show (List.range i).map val++[val i]=(List.range (i+1)).map val by rw [List.range_succ,List.map_append];rfl] at hS2
  refine wpAny_pure ⟨plainId_quiet pl_sul _,ih (i+1) _ (by omega) (by omega) (W.frame _ _ _ st' λb hb o e=>?_) (λj v hj=>?_) hS2 λh3 tk3 k3 s3=>?_⟩
  ·rw [sb.2 b (λz:b=S=>hSf (by rw [<- z];exact hb))];exact e
  ·obtain ⟨y,rfl,hz',hy⟩:=hval j v hj
   exact ⟨y,rfl,hz',hy.keep λo hc e=>kT2 y o hc (kT y o hc e)⟩
  ·refine hR h3 tk3 (λb o hb e=>k3 b o hb ?_) s3
   rw [sb.2 b (λz:b=S=>hb (by rw [z];exact List.mem_cons_self))]
   exact kp b o (λz=>hb (List.mem_cons_of_mem _ z)) e
section
variable {P:Program} {w:World} {A:Around} {E:Value->Shared->Prop} {s:Shared}
set_option maxHeartbeats 3200000 in
theorem call_setTp {l:Addr} {items:Array Value} {ns U:List (List Str)} {Z:Addr->Prop} {Q:Value->Shared->Prop} {led:Bool} (hled:led=!w.params.followText "set-order") (hh:A.handled=none) (hl:s.heap.IsList l items) (hi:∀ (i:Nat) v,items[i]?=some v->∃ b,v=.ref b/\Z b/\TK P w s.heap (ns.getD i []) b) (hv:∀ i,i<items.size->ns.getD i []≠[]/\ns.getD i []∈U) (hU:U.length<=4) (hu:A.units+20<cLine)
  (h:∀ (h':Heap) (tk:Nat),SPt P w h' s.heap.objs.size led ((List.range items.size).map λi=>ns.getD i []) Z->(∀ b o,s.heap.get? b=some o->h'.get? b=some o)->Q (.ref s.heap.objs.size) { s with heap:=h',toks:=tk }) :
  wpAny (model P w) A (call (.type "set") [.ref l]) Q E s:=by
 obtain ⟨c,tl,hmro⟩:=PySem.F.called_set.mro
 have hmade:=PySem.F.called_set.made
 have hsub:=PySem.F.called_set.sub
 refine wpAny_call (codeAny_of_tree (?_:wpAny _ _ (callAny (.type "set") _) _ _ _))
 refine wpAny_pure ⟨Code.quiet_builtin _ (by decide +kernel),codeAny_builtin PySem.F.entry_type_call ?_⟩
 rw [Around.under_plain (weight_type_call_type "set" [.ref l] []) rfl]
 have h1:=PySem.F.called_set.notType
 have h2:=PySem.F.called_set.canCreate
 have hct:=PySem.F.typeCall_set_1 (.ref l)
 repeat any_goals (first | assumption | wp_step)
 refine codeAny_mono (code_setnew (.ref l) (E:=E) hled (R:=λob s1=>ob=.ref s.heap.objs.size/\s1={ s with heap:=s.heap.push { cls:=.type "set",dict:=none,data:=.set #[] 0 (.fresh 0 0 led) } }) ⟨rfl,rfl⟩) λr s1 hr=>?_
 cases r with
 |error e=>exact hr
 |ok fl =>
  cases fl with
  |ret ob =>
   obtain ⟨rfl,rfl⟩:=hr
   have oS:(s.heap.push { cls:=.type "set",dict:=none,data:=.set #[] 0 (.fresh 0 0 led) }).get? s.heap.objs.size=some { cls:=.type "set",dict:=none,data:=.set #[] 0 (.fresh 0 0 led) }:=Heap.get?_push_size _ rfl
   have tS:Shared.TypeIs { s with heap:=s.heap.push { cls:=.type "set",dict:=none,data:=.set #[] 0 (.fresh 0 0 led) } } (.ref s.heap.objs.size) "set":=⟨_,oS,rfl⟩
   have li:=PySem.F.called_set.init.lookup
   have bi:=PySem.F.called_set.init.bind (.ref s.heap.objs.size)
   repeat any_goals (first | assumption | wp_step)
   refine codeAny_mono (codeAny_call_builtin (R:=wants (λr s2=>r=.none/\∃ h' tk,s2={ s with heap:=h',toks:=tk }/\SPt P w h' s.heap.objs.size led ((List.range items.size).map λi=>ns.getD i []) Z /\
     (∀ b o,s.heap.get? b=some o->h'.get? b=some o)) E) PySem.F.called_set.init.plain PySem.F.entry_set_init (check_set_init_1 tS ?_)) λr2 s2 hr2=>?_
   ·obtain ⟨ol,ho,hc,nl,hd⟩:=hl
    obtain ⟨ocls,odict,odata,oslots⟩:=ol
    simp only at hc hd
    subst hc;subst hd
    have ho1:(s.heap.push { cls:=.type "set",dict:=none,data:=.set #[] 0 (.fresh 0 0 led) }).get? l=some { cls:=.type "list",dict:=odict,data:=.seq items nl,slots:=oslots }:=Heap.get?_push_of_some _ ho
    have n1:=PySem.F.sub_list_set
    have n2:=PySem.F.sub_list_frozenset
    have n3:(Value.type "list" == Value.type "dict")=false:=by decide
    have hl1:(s.heap.push { cls:=.type "set",dict:=none,data:=.set #[] 0 (.fresh 0 0 led) }).IsList l items:=⟨_,ho1,rfl,nl,rfl⟩
    unfold Builtin.«set.__init__» noKeywords Builtin.Frozenset.updateFrom
    generalize ePI:pyIter=PI
    wp_walk
    subst ePI
    refine wpAny_pyIter_list hl1 (wpAny_bind (wpAny_runValue ?_))
    have hlS:l<s.heap.objs.size:=Heap.lt_size ho
    have hh3:A.in1.in1.in1.handled=none:=by simp [hh]
    have hne:l≠(s.heap.push { cls:=.type "set",dict:=none,data:=.set #[] 0 (.fresh 0 0 led) }).objs.size:=by
     rw [Heap.size_push];exact Nat.ne_of_lt (Nat.lt_succ_of_lt hlS)
    have hSf:s.heap.objs.size∉[(s.heap.push { cls:=.type "set",dict:=none,data:=.set #[] 0 (.fresh 0 0 led) }).objs.size,l]:=by
     rw [Heap.size_push];simp only [List.mem_cons,List.not_mem_nil,or_false,not_or]
     exact ⟨Nat.ne_of_lt (Nat.lt_succ_self _),Nat.ne_of_gt hlS⟩
    refine sul_loopP (led:=led) (Walks.list hh3 _ l hne items) s.heap.objs.size hSf (U:=U) (Z:=Z) (λi=>ns.getD i []) (λi h b st hb o ho hc=>?wr) hv hU ?un (items.size-0) 0 _ (by omega) (Nat.zero_le _)
     ⟨⟨_,Heap.get?_push_size _ rfl,rfl,rfl⟩,(hl1.push _)⟩ (λi v hv'=>?vl) ?s0 ?sR
    case un=>simp;omega
    case wr =>
     obtain ⟨⟨o',e1,c1,_⟩,_⟩:=st
     obtain rfl:=List.mem_singleton.mp hb
     rw [e1] at ho
     obtain rfl:=Option.some.inj ho
     rw [c1] at hc
     exact absurd hc (by decide)
    case vl =>
     obtain ⟨b,rfl,hz,hb⟩:=hi i v hv'
     exact ⟨b,rfl,hz,hb.keep λo _ e=>Heap.get?_push_of_some _ (Heap.get?_push_of_some _ e)⟩
    case s0 =>
     refine ⟨#[],0,.fresh 0 0 led,⟨Heap.get?_push_of_some _ oS,λe he=>by simp at he,by simp,by decide,rfl,rfl,Tb.fresh led,λj e hj=>?_⟩,λk=>by simp,λe he=>by simp at he⟩
     obtain ⟨i,_,z⟩:=hj
     simp at z
    case sR =>
     intro h' tk kp hS'
     refine wpAny_pure ?_
     exact wpAny_pure ⟨rfl,h',tk,rfl,hS',λb o e=>kp b o (by
      have hb:=Heap.lt_size e
      rw [Heap.size_push];simp only [List.mem_cons,List.not_mem_nil,or_false,not_or]
      exact ⟨Nat.ne_of_lt hb,Nat.ne_of_lt (Nat.lt_succ_of_lt hb)⟩) (Heap.get?_push_of_some _ (Heap.get?_push_of_some _ e))⟩
   ·cases r2 with
    |error e=>exact hr2
    |ok fl2 =>
     cases fl2 with
     |ret r =>
      obtain ⟨rfl,h',tk,rfl,hS',k'⟩:=hr2
      repeat any_goals (first | assumption | wp_step)
      exact h _ _ hS' k'
     |_=>exact False.elim hr2
  |_=>exact False.elim hr
end
end L2
namespace L2
open PySem PySem.Spec PyProof.Rows PySem.W
section
variable {n:Nat} (hn:0<n)
include hn
theorem rng_binA:∀ f {p:Array Nat} (k:Nat),AllLt n p->RngP n (AllLt n) (kas_bin f p k)
 |0,_,_,h=>h
 |f+1,p,k,h=>(rng_place hn h k _ _ _).bind λl _=>rng_binA f _ (h.bub _ _)
theorem rng_sortA:RngP n (AllLt n) (kas_sort n):=by
 have h0:AllLt n (List.toArray (List.range n)):=λx hx=>by simpa using hx
 refine (rng_count hn h0 n).bind λr hr=>?_
 split
 ·exact rng_binA hn _ _ hr
 ·exact hr
end
theorem ansd_all {α:Type} {n:Nat} {P:α->Prop} {lt:Nat->Nat->Bool}:∀ t:KasT α,RngP n P t->P (ansd lt t)
 |.ret _,h=>h
 |.ask i j k,h=>ansd_all (k (lt i j)) (h.2.2 _)
def PairT (h:Heap) (v:Value) (x y:Str):Prop:=∃ a o t u m,v=.ref a/\h.get? a=some o/\o.cls=.type "tuple"/\o.data=.seq #[.str x t,.str y u] m
def ltS (a b:Str×Str):Bool:=if a.1=b.1 then (if a.2=b.2 then false else decide (a.2.cps.toList<b.2.cps.toList)) else decide (a.1.cps.toList<b.1.cps.toList)
section
variable {P:Program} {w:World} {A:Around} {E:Value->Shared->Prop} {s:Shared}
theorem lt_pairS {v v':Value} {x y x' y':Str} {Q:Bool->Shared->Prop} (p:PairT s.heap v x y) (p':PairT s.heap v' x' y') (q:Q (ltS (x,y) (x',y')) s):wpAny (model P w) A (keyLt' (tuples' true) v v') Q E s:=by
 obtain ⟨a,o,t,u,m,rfl,h1,h2,h3⟩:=p
 obtain ⟨a',o',t',u',m',rfl,k1,k2,k3⟩:=p'
 refine kat_lt h1 h3 k1 k3 ?_
 show KatLex P w A true (decide (2<2)) Q [(Value.str x t,Value.str x' t'),(Value.str y u,Value.str y' u')] 0 s
 refine kat_cons (SeqAt.EqAt.str_str x t x' t' _ _ _ _ ?_)
 refine kat_go (λe=>kat_yes (kat_cons (SeqAt.EqAt.str_str y u y' u' _ _ _ _ (kat_go (λe2=>kat_yes (kat_nil ?_)) λe2=>kat_no (kat_one _ _ (lt_str ?_)))))) λe=>kat_no (oneLt_str ?_)
 ·have e:x=x':=by simpa using e
  have e2:y=y':=by simpa using e2
  simpa [ltS,e,e2] using q
 ·have e:x=x':=by simpa using e
  have e2:¬ y=y':=by simpa using e2
  show Q (decide (y.cps.toList<y'.cps.toList)) s
  simpa [ltS,e,e2] using q
 ·have e:¬ x=x':=by simpa using e
  simpa [ltS,e] using q
theorem PairT.keep {h h':Heap} {v:Value} {x y:Str} (p:PairT h v x y) (k:∀ b o,(∃ t u m,o.data=.seq #[.str x t,.str y u] m/\o.cls=.type "tuple")->h.get? b=some o->h'.get? b=some o):PairT h' v x y:=by
 obtain ⟨a,o,t,u,m,rfl,h1,h2,h3⟩:=p
 exact ⟨a,o,t,u,m,rfl,k a o ⟨t,u,m,h3,h2⟩ h1,h2,h3⟩
theorem tups_ofS {h:Heap}:∀ {vs:List Value},(∀ v∈vs,∃ x y,PairT h v x y)->∃ fs,KatTups h vs fs/\fs.length=vs.length/\∀ f∈fs,∃ x t,f=Value.str x t
 |[],_=>⟨[],KatTups.nil,rfl,λ_ h=>nomatch h⟩
 |v::r,hv=>by
  obtain ⟨fs,h1,h2,h3⟩:=tups_ofS (vs:=r) λv h=>hv v (List.mem_cons_of_mem _ h)
  obtain ⟨x,y,a,o,t,u,m,rfl,g1,g2,g3⟩:=hv v List.mem_cons_self
  refine ⟨.str x t::fs,KatTups.cons g1 g2 g3 rfl h1,by simp [h2],λf hf=>?_⟩
  rcases List.mem_cons.mp hf with rfl | hf
  ·exact ⟨x,t,rfl⟩
  ·exact h3 f hf
theorem sort_pairsS {a:Addr} {vs:List Value} {n0:Nat} {kz:Nat->Str×Str} {Q:PySem.Fin->Shared->Prop} (hO:Ord λi j=>ltS (kz i) (kz j)) (ho:s.heap.get? a=some (seqObj "list" vs.toArray n0)) (h64:vs.length<64) (hp:∀ i,i<vs.length->PairT s.heap (vs.getD i Value.none) (kz i).1 (kz i).2)
  (done:∀ (p:List Nat) e h2,p.Perm (List.range vs.length)->(p.Pairwise λi j=>ltS (kz j) (kz i)=false)->(∀ b o,b≠a->s.heap.get? b=some o->h2.get? b=some o)->h2.get? a=some (seqObj "list" (List.toArray (p.map λi=>vs.getD i Value.none)) e)->Q (.done (.ret .none)) { s with heap:=h2 }) :
  wpAny (model P w) A (Builtin.«list.sort» ⟨[.ref a],[]⟩) Q E s:=by
 have b1:=Heap.SameBut.update s.heap a (Obj.mapSeq λ_=>(#[]:Array Value))
 obtain ⟨e1,o1⟩:∃ e1,(s.heap.update a (Obj.mapSeq λ_=>(#[]:Array Value))).get? a=some (seqObj "list" #[] e1):=⟨_,get?_update_seq ho λ_=>#[]⟩
 rw [list_sort_plain]
 refine wpAny_bind (listItems_at ho rfl (wpAny_bind (listUpdate_at ho rfl ?_ (by rw [List.size_toArray,sizeLine_eq];omega) (Nat.zero_le _))))
 refine wpAny_bind (seqEpoch_at o1 rfl (wpAny_bind (wpAny_newTuple (wpAny_bind (wpAny_newList (wpAny_holding ?_) (Nat.zero_le _))) (by show vs.length<=_;rw [sizeLine_eq];omega))))
 have kp0:∀ b o,b≠a->s.heap.get? b=some o->(((s.heap.update a (Obj.mapSeq λ_=>(#[]:Array Value))).push (seqObj "tuple" vs.toArray 0)).push (seqObj "list" #[] 0)).get? b=some o:=λb o n q=>Heap.get?_push_of_some _ (Heap.get?_push_of_some _ ((b1.2 b n).trans q))
 have oa0:(((s.heap.update a (Obj.mapSeq λ_=>(#[]:Array Value))).push (seqObj "tuple" vs.toArray 0)).push (seqObj "list" #[] 0)).get? a=some (seqObj "list" #[] e1):=Heap.get?_push_of_some _ (Heap.get?_push_of_some _ o1)
 show wpAny (model P w) A _ Q E { s with heap:=((s.heap.update a (Obj.mapSeq λ_=>(#[]:Array Value))).push (seqObj "tuple" vs.toArray 0)).push (seqObj "list" #[] 0) }
 generalize ((s.heap.update a (Obj.mapSeq λ_=>(#[]:Array Value))).push (seqObj "tuple" vs.toArray 0)).push (seqObj "list" #[] 0)=h0 at kp0 oa0 |-
 have hk:∀ i,i<vs.length->PairT h0 (vs.getD i Value.none) (kz i).1 (kz i).2:=λi hi=>by
  refine (hp i hi).keep λb o ⟨t,u,m,_,hc⟩ q=>kp0 b o (λz=>?_) q
  subst z
  rw [ho] at q
  obtain rfl:=Option.some.inj q
  exact absurd hc (by show ¬ Value.type "list"=Value.type "tuple";decide)
 have hp0:∀ v∈vs,∃ x y,PairT h0 v x y:=λv hv=>by
  obtain ⟨i,hi,rfl⟩:=List.getElem_of_mem hv
  have:=hk i hi
  rw [List.getD_eq_getElem?_getD,List.getElem?_eq_getElem hi] at this
  exact ⟨_,_,this⟩
 have tail:∀ (p:List Nat),p.Perm (List.range vs.length)->(p.Pairwise λi j=>ltS (kz j) (kz i)=false)->wpAny (model P w) A (do
   let touched:=(<- seqEpoch a) != e1
   Builtin.List.listUpdate (.ref a) λ_=>List.toArray (p.map λi=>vs.getD i Value.none)
   if touched then rule "list.sort.modified";raiseError "ValueError" "list modified during sort"
   ret .none) Q E { s with heap:=h0 }:=by
  intro p h1 h2
  refine wpAny_bind (seqEpoch_at oa0 rfl (wpAny_bind (listUpdate_at oa0 rfl ?_ (Nat.zero_le _) (by show (List.toArray _).size<=_;rw [List.size_toArray,List.length_map,h1.length_eq,List.length_range,sizeLine_eq];omega))))
  simp only [bne_self_eq_false,Bool.false_eq_true,if_false]
  have b2:=Heap.SameBut.update h0 a (Obj.mapSeq λ_=>List.toArray (p.map λi=>vs.getD i Value.none))
  exact wpAny_pure (done p _ _ h1 h2 (λb o n q=>(b2.2 b n).trans (kp0 b o n q)) (get?_update_seq oa0 λ_=>List.toArray (p.map λi=>vs.getD i Value.none)))
 dsimp only
 by_cases one:vs.toArray.size<2
 ·rw [if_pos one,if_pos one]
  refine wpAny_bind (wpAny_pure (wpAny_bind (wpAny_pure ?_)))
  have hl:vs.length<2:=by simpa using one
  have es:(arrOf (SortSt.mk' general' (vs.toArray.zip vs.toArray) #[] 7 none)).map (·.2)=List.toArray ((List.range vs.length).map λi=>vs.getD i Value.none):=by
   clear tail hp0 done hp ho h64 one
   match vs,hl with
   |[],_=>simp [arrOf,SortSt.mk']
   |[v],_=>simp [arrOf,SortSt.mk']
  dsimp only
  rw [es]
  exact tail (List.range vs.length) (List.Perm.refl _) (by
   clear tail es hk hp hp0 done ho h64 one
   match vs,hl with
   |[],_=>exact List.Pairwise.nil
   |[v],_=>exact List.pairwise_singleton _ _)
 ·rw [if_neg one,if_neg one]
  have n2:2<=vs.length:=by simpa using one
  obtain ⟨fs,k1,k2,k3⟩:=tups_ofS hp0
  refine wpAny_bind (kat_kind (s:={ s with heap:=h0 }) (T:=.type "str") k1 (by omega) (λv hv=>?_) rfl ?_)
  ·obtain ⟨x,t,rfl⟩:=k3 v hv
   intro A Q E s _ q
   exact wpAny_typeOf (typeIs_str s x t) q
  have al:=ansd_all (lt:=λi j=>ltS (kz i) (kz j)) _ (rng_sortA (n:=vs.length) (by omega))
  obtain ⟨pa,epa,sz,pm,up⟩:=so_sort hO (n:=vs.length) (by omega)
  have pw:pa.toList.Pairwise λi j=>ltS (kz j) (kz i)=false:=by
   rw [List.pairwise_iff_getElem]
   intro i j hi hj hij
   have:=up i j hij (by simpa [sz] using hj)
   have hi':i<pa.size:=by simpa using hi
   have hj':j<pa.size:=by simpa using hj
   have gi:pa.getD i 0=pa[i]:=by simp [Array.getD,hi']
   have gj:pa.getD j 0=pa[j]:=by simp [Array.getD,hj']
   have this:ltS (kz (pa.getD j 0)) (kz (pa.getD i 0))=false:=this
   rw [gi,gj] at this
   simpa using this
  have pm':pa.toList.Perm (List.range vs.length):=by simpa using pm.toList
  refine wpAny_bind (wpAny_mono (kat_run (ks:=vs) (vs:=vs) (κ:=tuples' true) (Q:=λst' s'=>s'={ s with heap:=h0 }/\failedOf st'=none/\∃ p:List Nat,p.Perm (List.range vs.length)/\(p.Pairwise λi j=>ltS (kz j) (kz i)=false)/\(arrOf st').map (·.2)=List.toArray (p.map λi=>vs.getD i Value.none))
   (G:=λp s'=>s'={ s with heap:=h0 }/\p=pa) rfl n2 h64 (λp st' s' hs ha hf ⟨es,ep⟩=>⟨es,hf,p.toList,by rw [ep];exact pm',by rw [ep];exact pw,kat_snds rfl ha⟩)
   (ansd_wpR (n:=vs.length) (P:=AllLt vs.length) (lt:=λi j=>ltS (kz i) (kz j)) (λi j C hi hj hC=>lt_pairS (hk i hi) (hk j hj) hC) _ (rng_sortA (by omega)) ⟨rfl,epa⟩)) ?_ λ_ _ x=>x)
  rintro ⟨⟨⟩,st'⟩ s' ⟨rfl,hf,p,hl,ha,hm⟩
  dsimp only
  rw [hm,hf]
  exact tail p hl ha
end
end L2
namespace L2
open PySem PySem.Spec PyProof.Rows PySem.W
theorem skS (P:Program) (w:World) (k:Str) (tk:Tok):(PySem.strKind P w).is k (.str k tk)=true:=by
 show Value.isStrOf k (.str k tk)=true
 simp [Value.isStrOf,Value.isStr]
theorem pw_one {α:Type} [DecidableEq α] {r:α->α->Prop}:∀ {l m:List α},(∀ a∈l,∀ b∈l,r a b->r b a->a=b)->l.Perm m->l.Pairwise r->m.Pairwise r->l=m
 |[],m,_,p,_,_=>by rw [p.nil_eq]
 |x::l,[],_,p,_,_=>by have:=p.length_eq;simp at this
 |x::l,y::m,an,p,h1,h2=>by
  rw [List.pairwise_cons] at h1 h2
  have hx:x∈y::m:=p.subset List.mem_cons_self
  have hy:y∈x::l:=p.symm.subset List.mem_cons_self
  have e:x=y:=by
   rcases List.mem_cons.mp hx with z | z
   ·exact z
   ·rcases List.mem_cons.mp hy with z' | z'
    ·exact z'.symm
    ·exact an x List.mem_cons_self y hy (h1.1 y z') (h2.1 x z)
  subst e
  rw [pw_one (λa ha b hb=>an a (List.mem_cons_of_mem _ ha) b (List.mem_cons_of_mem _ hb)) ((List.perm_cons x).mp p) h1.2 h2.2]
theorem nd_perm {α:Type} [DecidableEq α]:∀ {l m:List α},l.Nodup->m.Nodup->(∀ k,k∈l↔k∈m)->l.Perm m
 |[],m,_,_,h=>by
  cases m with
  |nil=>exact List.Perm.refl _
  |cons a r=>exact absurd ((h a).mpr List.mem_cons_self) (by simp)
 |a::r,m,h1,h2,h=>by
  rw [List.nodup_cons] at h1
  have ha:a∈m:=(h a).mp List.mem_cons_self
  refine List.Perm.trans ((List.perm_cons a).mpr (nd_perm h1.2 (h2.erase a) λk=>?_)) (List.perm_cons_erase ha).symm
  by_cases e:k=a
  ·subst e
   exact ⟨λz=>absurd z h1.1,λz=>absurd z (h2.not_mem_erase)⟩
  ·rw [List.mem_erase_of_ne e,<- h k,List.mem_cons]
   exact ⟨.inr,λz=>z.resolve_left e⟩
theorem vals_refs:∀ {ps:List Addr} {us:List Value},Vals (ps.map V.ref) us->us=ps.map Value.ref
 |[],_,.nil=>rfl
 |p::r,_,.cons h t=>by
  obtain rfl:=(show _=Value.ref p from h)
  rw [List.map_cons,vals_refs t]
def PrA (H:Hp) (ps:List Addr) (ks:List (Str×Str)):Prop:=ps.length=ks.length/\∀ (i:Nat) p k,ps[i]?=some p->ks[i]?=some k->H p=some (.tup [.str k.1,.str k.2])
structure UOk (U:List (Str×Str)):Prop where
 ne:U≠[]
 len:U.length<=4
 nd:U.Nodup
 up:U.Pairwise λa b=>ltS b a=false
 tr:∀ a∈U,∀ b∈U,∀ c∈U,ltS b a=false->ltS c b=false->ltS c a=false
 as:∀ a∈U,∀ b∈U,ltS a b=true->ltS b a=false
 an:∀ a∈U,∀ b∈U,ltS b a=false->ltS a b=false->a=b
def kzv (kz:Addr->Str×Str):Value->Str×Str
 |.ref b=>kz b
 |_=>(⟨#[]⟩,⟨#[]⟩)
structure SeH (h:Heap) (S:Addr) (led:Bool) (ps:List Addr) (kz:Addr->Str×Str) (es:Array (Int×Value)) (ep:Nat) (t:SetTable):Prop where
 at_:h.get? S=some { cls:=.type "set",data:=.set es ep t }
 small:es.size<=4
 fits:t.fits es.size=true
 tb:Tb t led
 el:∀ e∈es.toList,∃ b,b∈ps/\e.2=.ref b
 nd:(es.toList.map λe=>kzv kz e.2).Nodup
 all:∀ p∈ps,kz p∈es.toList.map λe=>kzv kz e.2
def setHOp (w:World) (S:Addr) (ps:List Addr) (kz:Addr->Str×Str):HO:=.ext λh=>∃ es ep t,SeH h S (!w.params.followText "set-order") ps kz es ep t
def KzOk (ps:List Addr) (ks:List (Str×Str)) (kz:Addr->Str×Str):Prop:=∀ (i:Nat) p k,ps[i]?=some p->ks[i]?=some k->kz p=k
section
variable {X:Cx} {pins:List (Addr×Obj)} {σ:St} {H:Hp} {s:Shared}
theorem pair_raw (I:Inv X pins σ H s) {p:Addr} {k:Str×Str} (h:H p=some (.tup [.str k.1,.str k.2])):PairT s.heap (.ref p) k.1 k.2/\TK X.prog X.w s.heap [k.1,k.2] p:=by
 obtain ⟨_,us,ru,o,g1,g2,m,g3⟩:=(show ObjOk X.prog X.w H s.heap p (.tup [.str k.1,.str k.2]) from I.hok _ _ h)
 obtain ⟨k1,k2,rfl,⟨t,rfl⟩,⟨t',rfl⟩⟩:=vals2 ru
 exact ⟨⟨p,o,t,t',m,rfl,g1,g2,g3⟩,⟨o,_,m,g1,g2,g3,.cons (skS _ _ _ _) (.cons (skS _ _ _ _) .nil)⟩⟩
theorem call_setPr {w:World} (ew:X.w=w) (hc:X.calm=true) (hu:X.A.units+20<cLine):CallR X (.type "set") (λxs H Q=>∃ (l:Addr) (ps:List Addr) (ks U:List (Str×Str)),xs=[.ref l]/\H l=some (.lst (ps.map V.ref))/\PrA H ps ks/\(∀ k∈ks,k∈U)/\U.length<=4 /\
  ∀ S kz,H S=none->KzOk ps ks kz->Q (.ref S) (upd H S (setHOp w S ps kz))):=by
 subst ew
 intro pins s σ H xs us Q I r h
 obtain ⟨l,ps,ks,U,rfl,hl,⟨len,hp⟩,hU,h4,q⟩:=h
 obtain ⟨u,rfl,rx⟩:=vals1 r
 cases rx
 obtain ⟨z,its,n,rv,lv,e⟩:=I.lstM hl
 obtain rfl:=vals_refs rv
 have at_i:∀ i,i<ps.length->∃ p k,ps[i]?=some p/\ks[i]?=some k:=λi hi=>⟨_,_,List.getElem?_eq_getElem hi,List.getElem?_eq_getElem (by omega)⟩
 refine call_setTp (led:=!X.w.params.followText "set-order") (ns:=ks.map λk=>[k.1,k.2]) (U:=U.map λk=>[k.1,k.2]) (Z:=λb=>b∈ps) rfl (I.ok.hd hc) ⟨_,e,rfl,_,rfl⟩ (λi v hv=>?_) (λi hi=>?_) (by simpa using h4) hu λh' tk hS k=>?_
 ·have hv':(ps.map Value.ref)[i]?=some v:=by simpa using hv
  rw [List.getElem?_map] at hv'
  cases ep:ps[i]? with
  |none=>rw [ep] at hv';cases hv'
  |some p =>
   rw [ep] at hv'
   cases hv'
   have hi:=(List.getElem?_eq_some_iff.mp ep).1
   obtain ⟨p',k,e1,e2⟩:=at_i i hi
   rw [ep] at e1
   cases e1
   refine ⟨p,rfl,List.mem_of_getElem? ep,?_⟩
   have:(ks.map λk=>[k.1,k.2]).getD i []=[k.1,k.2]:=by simp [e2]
   rw [this]
   exact (pair_raw I (hp i p k ep e2)).2
 ·obtain ⟨p',k,e1,e2⟩:=at_i i (by simpa using hi)
  have:(ks.map λk=>[k.1,k.2]).getD i []=[k.1,k.2]:=by simp [e2]
  rw [this]
  exact ⟨by simp,List.mem_map.mpr ⟨k,hU k (List.mem_of_getElem? e2),rfl⟩⟩
 ·obtain ⟨es,ep,t,se,mem,mz⟩:=hS
  have tkp:∀ (i:Nat) p k,ps[i]?=some p->ks[i]?=some k->tkey X.prog X.w h' (.ref p)=[k.1,k.2]:=λi p k' e1 e2=>tkey_eq ((pair_raw I (hp i p k' e1 e2)).2.keep λo _ ho=>‹∀ b o,s.heap.get? b=some o->h'.get? b=some o› p o ho)
  have kzk:∀ p∈ps,∃ (i:Nat) (k:Str×Str),ps[i]?=some p/\ks[i]?=some k/\tkey X.prog X.w h' (.ref p)=[k.1,k.2]:=λp hp'=>by
   obtain ⟨i,hi,e1⟩:=List.getElem_of_mem hp'
   obtain ⟨p',k',e2,e3⟩:=at_i i hi
   have:p'=p:=by rw [List.getElem?_eq_getElem hi,e1] at e2;exact (Option.some.inj e2).symm
   subst this
   exact ⟨i,k',e2,e3,tkp i _ k' e2 e3⟩
  let toP:List Str->Str×Str:=λz=>match z with | [a,b]=>(a,b) | _=>(⟨#[]⟩,⟨#[]⟩)
  let kz:Addr->Str×Str:=λp=>toP (tkey X.prog X.w h' (.ref p))
  have elk:∀ e∈es.toList,∃ b,b∈ps/\e.2=.ref b/\tkey X.prog X.w h' e.2=[(kz b).1,(kz b).2]:=λe he=>by
   obtain ⟨b,e1,hb⟩:=mz e he
   obtain ⟨i,k',_,_,e4⟩:=kzk b hb
   refine ⟨b,hb,e1,?_⟩
   rw [e1,e4]
   show [k'.1,k'.2]=[(toP (tkey X.prog X.w h' (.ref b))).1,(toP (tkey X.prog X.w h' (.ref b))).2]
   rw [e4]
  have hz:SeH h' s.heap.objs.size (!X.w.params.followText "set-order") ps kz es ep t:=by
   refine ⟨se.at_,se.small,se.fits,se.tb,λe he=>?_,?_,λp hp'=>?_⟩
   ·obtain ⟨b,h1,h2,_⟩:=elk e he
    exact ⟨b,h1,h2⟩
   ·have:(es.toList.map λe=>kzv kz e.2)=(es.toList.map λe=>tkey X.prog X.w h' e.2).map toP:=by
     rw [List.map_map]
     refine List.map_congr_left λe he=>?_
     obtain ⟨b,h1,h2,_⟩:=elk e he
     show kzv kz e.2=toP (tkey X.prog X.w h' e.2)
     rw [h2];rfl
    rw [this]
    refine List.Pairwise.map _ (R:=λa b=>a≠b/\(∃ x y,a=[x,y])/\∃ x y,b=[x,y]) (λa b ⟨n1,⟨x,y,e1⟩,⟨x',y',e2⟩⟩ e3=>n1 ?_) ?_
    ·rw [e1,e2] at e3 |-
     have e4:(x,y)=(x',y'):=e3
     cases e4;rfl
    ·refine List.Pairwise.imp_of_mem (λ{a b} ha hb n1=>⟨n1,?_,?_⟩) se.nd
     ·obtain ⟨e,he,rfl⟩:=List.mem_map.mp ha
      obtain ⟨b',_,_,h3⟩:=elk e he
      exact ⟨_,_,h3⟩
     ·obtain ⟨e,he,rfl⟩:=List.mem_map.mp hb
      obtain ⟨b',_,_,h3⟩:=elk e he
      exact ⟨_,_,h3⟩
   ·obtain ⟨i,k',e1,e2,e3⟩:=kzk p hp'
    have:[k'.1,k'.2]∈(List.range (List.toArray (ps.map Value.ref)).size).map λi=>(ks.map λk=>[k.1,k.2]).getD i []:=List.mem_map.mpr ⟨i,List.mem_range.mpr (by simpa using (List.getElem?_eq_some_iff.mp e1).1),by simp [e2]⟩
    obtain ⟨e,he,e5⟩:=List.mem_map.mp ((mem _).mp this)
    refine List.mem_map.mpr ⟨e,he,?_⟩
    obtain ⟨b,h1,h2,h3⟩:=elk e he
    rw [h2]
    show toP (tkey X.prog X.w h' (.ref b))=toP (tkey X.prog X.w h' (.ref p))
    rw [e3,<- h2,e5]
  refine ⟨.ref s.heap.objs.size,_,I.laidD (t':=tk) (d':=s.drawn) k (Nat.le_refl _) (show ObjOk X.prog X.w _ h' _ (setHOp X.w s.heap.objs.size ps kz) from ⟨⟨es,ep,t,hz⟩,⟨_,se.at_⟩,λh1 h2 z k2=>?_⟩),rfl,q _ kz (I.hok.fresh (Nat.le_refl _)) λi p k' e1 e2=>?_⟩
  ·obtain ⟨es,ep,t,z⟩:=z
   exact ⟨es,ep,t,k2 _ z.at_,z.small,z.fits,z.tb,z.el,z.nd,z.all⟩
  ·show toP (tkey X.prog X.w h' (.ref p))=k'
   rw [tkp i p k' e1 e2]
theorem call_sortedPr {w:World} (ew:X.w=w) (hc:X.calm=true):CallR X (.builtin "sorted") (λxs H Q=>∃ (S:Addr) (ps:List Addr) (ks U:List (Str×Str)) (kz:Addr->Str×Str),xs=[.ref S]/\H S=some (setHOp w S ps kz)/\PrA H ps ks/\KzOk ps ks kz/\UOk U/\(∀ k∈ks,k∈U) /\
  ∀ r qs,H r=none->PrA H qs (U.filter λk=>decide (k∈ks))->Q (.ref r) (upd H r (.lst (qs.map V.ref)))):=by
 subst ew
 intro pins s σ H xs us Q I r h
 obtain ⟨S,ps,ks,U,kz,rfl,hq,⟨len,hp⟩,hkz,hU,hks,q⟩:=h
 obtain ⟨u,rfl,rx⟩:=vals1 r
 cases rx
 obtain ⟨⟨es,ep,t,se⟩,_,_⟩:=(show ObjOk X.prog X.w H s.heap S (setHOp X.w S ps kz) from I.hok S _ hq)
 have hlt:S<s.heap.objs.size:=Heap.lt_size se.at_
 have s4:=se.small
 have hs:es.size<scanBound:=Nat.lt_of_le_of_lt s4 (by decide)
 have kzk:∀ p∈ps,∃ i k,ps[i]?=some p/\ks[i]?=some k/\kz p=k/\k∈ks:=λp hp'=>by
  obtain ⟨i,hi,e1⟩:=List.getElem_of_mem hp'
  have e2:ps[i]?=some p:=by rw [List.getElem?_eq_getElem hi,e1]
  have e3:ks[i]?=some ks[i]:=List.getElem?_eq_getElem (by omega)
  exact ⟨i,ks[i],e2,e3,hkz i p _ e2 e3,List.mem_of_getElem? e3⟩
 have kzU:∀ p∈ps,kz p∈U:=λp hp'=>by
  obtain ⟨i,k,_,_,e,hk'⟩:=kzk p hp'
  rw [e];exact hks k hk'
 refine Calls.call_function_entry kind_sorted plain_sorted entry_sorted (args_sorted1 _) ?_
 unfold Builtin.«sorted»
 refine wpAny_bind (m:=checkCount "sorted" 1 1 _) (wpAny_pure (wpAny_bind (col_of (n:=es.size) (Z:=es.toList.map (·.2)) (fits_of_scanBound hs) ⟨_,se.at_,rfl⟩ hlt (λs' k=>iter_gen (by simp [I.ok.hd hc]) (k _ _ se.at_) se.fits hs se.tb rfl) λh' tk d vs k1 ksz p=>?_)))
 have vb:∀ v∈vs,∃ b,b∈ps/\v=.ref b:=λv hv=>by
  obtain ⟨e,he,rfl⟩:=List.mem_map.mp (p.mem_iff.mp hv)
  exact se.el e he
 obtain ⟨bs,hbs,hbp⟩:∃ bs:List Addr,vs=bs.map Value.ref/\∀ b∈bs,b∈ps:=by
  clear p
  induction vs with
  |nil=>exact ⟨[],rfl,λ_ h=>nomatch h⟩
  |cons v r ih =>
   obtain ⟨bs,h1,h2⟩:=ih λv hv=>vb v (List.mem_cons_of_mem _ hv)
   obtain ⟨b,hb,e⟩:=vb v List.mem_cons_self
   refine ⟨b::bs,by rw [e,h1];rfl,λc hc'=>?_⟩
   rcases List.mem_cons.mp hc' with rfl | z
   ·exact hb
   ·exact h2 c z
 subst hbs
 have pk:List.Perm (bs.map kz) (es.toList.map λe=>kzv kz e.2):=by
  have:=p.map (kzv kz)
  rw [List.map_map,List.map_map] at this
  exact this
 have nd:(bs.map kz).Nodup:=pk.nodup_iff.mpr se.nd
 have me:∀ k,k∈bs.map kz↔k∈ks:=λk=>by
  constructor
  ·intro z
   obtain ⟨b,hb,rfl⟩:=List.mem_map.mp z
   obtain ⟨i,k,_,_,e,hk'⟩:=kzk b (hbp b hb)
   rw [e];exact hk'
  ·intro z
   obtain ⟨i,hi,e1⟩:=List.getElem_of_mem z
   have e2:ps[i]?=some ps[i]:=List.getElem?_eq_getElem (by omega)
   have e3:ks[i]?=some k:=by rw [List.getElem?_eq_getElem hi,e1]
   have:=se.all ps[i] (List.getElem_mem _)
   rw [hkz i _ _ e2 e3] at this
   exact pk.mem_iff.mpr this
 have lb:bs.length<=4:=by
  have:=p.length_eq
  simp at this
  omega
 obtain ⟨u0,hu0⟩:=List.exists_mem_of_ne_nil _ hU.ne
 have inU:∀ i,(bs.map kz).getD i u0∈U:=λi=>by
  rw [List.getD_eq_getElem?_getD]
  cases e:(bs.map kz)[i]? with
  |none=>exact hu0
  |some k =>
   obtain ⟨b,hb,rfl⟩:=List.mem_map.mp (List.mem_of_getElem? e)
   exact kzU b (hbp b hb)
 have raw:∀ b∈ps,PairT h' (.ref b) (kz b).1 (kz b).2:=λb hb=>by
  obtain ⟨i,k,e1,e2,e,_⟩:=kzk b hb
  rw [e]
  exact (pair_raw I (hp i b k e1 e2)).1.keep λb o _ ho=>k1 b o ho
 refine wpAny_bind (wpAny_newList ?_ (by rw [sizeLine_eq,List.length_map];omega))
 have hoL:(h'.push (seqObj "list" (bs.map Value.ref).toArray 0)).get? h'.objs.size=some (seqObj "list" (bs.map Value.ref).toArray 0):=Heap.get?_push_size _ rfl
 refine wpAny_bind (wpAny_holding (wpAny_call_entry slot_list_sort ⟨_,hoL,rfl⟩ entry_list_sort (sort_pairsS (kz:=λi=>(bs.map kz).getD i u0) (s:={ s with heap:=h'.push (seqObj "list" (bs.map Value.ref).toArray 0),toks:=tk,drawn:=d }) ⟨λi j k=>hU.tr _ (inU i) _ (inU j) _ (inU k),λi j=>hU.as _ (inU i) _ (inU j)⟩ hoL (by rw [List.length_map];omega) (λi hi=>?_) λpm e h2 h1 hlt2 kk o2=>⟨_,rfl,wpAny_pure ⟨_,rfl,?_⟩⟩) (args_list_sort _)))
 ·have hi':i<bs.length:=by simpa using hi
  have e1:(bs.map Value.ref).getD i Value.none=.ref bs[i]:=by simp [hi']
  have e2:(bs.map kz).getD i u0=kz bs[i]:=by simp [hi']
  rw [e1,e2]
  exact (raw _ (hbp _ (List.getElem_mem _))).keep λb o _ ho=>Heap.get?_push_of_some _ ho
 ·have lp:pm.length=bs.length:=by simpa using h1.length_eq
  have hltp:∀ i∈pm,i<bs.length:=λi hi=>by simpa using h1.subset hi
  have e1:(pm.map λi=>(bs.map Value.ref).getD i Value.none)=(pm.map λi=>bs.getD i 0).map Value.ref:=by
   rw [List.map_map]
   refine List.map_congr_left λi hi=>?_
   have:i<bs.length:=hltp i hi
   simp [this]
  have mkV:∀ ps:List Addr,Vals (ps.map V.ref) (ps.map Value.ref):=λps=>by
   induction ps with
   |nil=>exact .nil
   |cons p r ih=>exact .cons rfl ih
  rw [e1] at o2
  have pm2:(pm.map λi=>(bs.map kz).getD i u0).Perm (bs.map kz):=by
   have hr:(List.range bs.length).map (λi=>(bs.map kz).getD i u0)=bs.map kz:=by
    refine List.ext_getElem (by simp) λi h1 h2=>?_
    have:i<bs.length:=by simpa using h1
    simp [this]
   have h1':pm.Perm (List.range bs.length):=by simpa using h1
   have:=h1'.map (λi=>(bs.map kz).getD i u0)
   rwa [hr] at this
  have nd2:(pm.map λi=>(bs.map kz).getD i u0).Nodup:=pm2.nodup_iff.mpr nd
  have fin:(pm.map λi=>(bs.map kz).getD i u0)=U.filter λk=>decide (k∈ks):=by
   have ndF:(U.filter λk=>decide (k∈ks)).Nodup:=hU.nd.filter _
   refine pw_one (r:=λa b=>ltS b a=false) (λa ha b hb=>?_) (nd_perm nd2 ndF λk=>?_) (by rw [List.pairwise_map];exact hlt2) (hU.up.filter _)
   ·have ha':=hks a ((me a).mp (pm2.mem_iff.mp ha))
    have hb':=hks b ((me b).mp (pm2.mem_iff.mp hb))
    exact hU.an a ha' b hb'
   ·rw [pm2.mem_iff,me k,List.mem_filter]
    exact ⟨λz=>⟨hks k z,by simpa using z⟩,λz=>by simpa using z.2⟩
  have kp:∀ b o,s.heap.get? b=some o->h2.get? b=some o:=λb o z=>kk b o (Nat.ne_of_lt (Heap.lt_size (k1 b o z))) (Heap.get?_push_of_some _ (k1 b o z))
  refine ⟨.ref h'.objs.size,_,I.laidD (a:=h'.objs.size) (o:=.lst ((pm.map λi=>bs.getD i 0).map V.ref)) (t':=tk) (d':=d) kp (Nat.le_of_lt ksz) ⟨by rw [List.length_map,List.length_map,sizeLine_eq];omega,_,e,mkV _,o2⟩,rfl,q _ (pm.map λi=>bs.getD i 0) (I.hok.fresh (Nat.le_of_lt ksz)) ?_⟩
  rw [<- fin]
  refine ⟨by simp,λi b k hb hk'=>?_⟩
  rw [List.getElem?_map] at hb hk'
  cases ej:pm[i]? with
  |none=>rw [ej] at hb;cases hb
  |some j =>
   rw [ej] at hb hk'
   cases hb
   cases hk'
   have hj:=hltp j (List.mem_of_getElem? ej)
   have e2:bs.getD j 0=bs[j]:=by simp [hj]
   have e3:(bs.map kz).getD j u0=kz bs[j]:=by simp [hj]
   show H (bs.getD j 0)=some (.tup [.str ((bs.map kz).getD j u0).1,.str ((bs.map kz).getD j u0).2])
   rw [e2,e3]
   obtain ⟨i',k',z1,z2,z3,_⟩:=kzk bs[j] (hbp _ (List.getElem_mem _))
   rw [z3]
   exact hp i' _ k' z1 z2
end
end L2
namespace L2
open PySem PySem.Spec PyProof.Rows
section
variable {X:Cx} {tg:Expr}
def iSq (K:PySem.W.Frag) (tl:TE):TI:=λσ H R=>tl σ H λx H1=>∃ a,x=.ref a/\((∃ xs,SqT K H1 a xs)/\R (Itt K a) H1\/(∃ xs,SqL K H1 a xs)/\R (Itl K a) H1)
theorem pi_sq {l:Expr} {tl:TE} (hl:PE X l tl):PI X tg l (iSq X.K tl):=by
 intro pins s σ H R I h
 refine thn (hl pins s σ H _ I h) λv s1 ⟨x,H1,I1,r1,q1⟩=>?_
 obtain ⟨a,e,q1⟩:=q1
 subst e
 cases r1
 rcases q1 with ⟨⟨xs,hq⟩,q⟩ | ⟨⟨xs,hq⟩,q⟩
 ·obtain ⟨its,rv,p,hz⟩:=I1.tuple hq
  refine wpAny_pyIter_tuple (show s1.heap.IsTuple a its.toArray from p) ?_
  refine ⟨s1.heap.objs.size,[s1.heap.objs.size],_,_,H1,rfl,I1.kept (t':=s1.toks) λb o e=>Heap.get?_push_of_some _ e,turn_tuple a _,⟨_,Heap.get?_push_size _ rfl,rfl,rfl⟩,λb hb=>?_,q⟩
  have e:b=s1.heap.objs.size:=by simpa using hb
  subst e
  exact I1.fpOk (Nat.le_refl _) (I1.hok.fresh (Nat.le_refl _))
 ·obtain ⟨its,rv,p,hz⟩:=I1.list hq
  refine wpAny_pyIter_list p.isList ?_
  refine ⟨s1.heap.objs.size,[s1.heap.objs.size],_,_,H1,rfl,I1.kept (t':=s1.toks) λb o e=>Heap.get?_push_of_some _ e,turn_list a _,⟨_,Heap.get?_push_size _ rfl,rfl,rfl⟩,λb hb=>?_,q⟩
  have e:b=s1.heap.objs.size:=by simpa using hb
  subst e
  exact I1.fpOk (Nat.le_refl _) (I1.hok.fresh (Nat.le_refl _))
end
theorem op_notInDK {X:Cx} {K:PySem.W.Frag} (h:X.K=K) (hu:X.A.units+100<cLine):OpR X (compareOp .NotIn) (rInD K true):=by subst h;exact op_notInD hu
def SqE (K:PySem.W.Frag) (tp:Bool) (H:Hp) (a:Addr) (xs:List V):Prop:=if tp=true then SqT K H a xs else SqL K H a xs
theorem for_sq {K:PySem.W.Frag} {a:Addr} {xs:List V} {g:TG} {tb:TS} {D:Ends} {σ:St} {H:Hp} (tp:Bool) (Pv:Nat->St->Hp->Prop) (h0:Pv 0 σ H) (hl:∀ i σ H,i<=xs.length->Pv i σ H->SqE K tp H a xs)
  (hs:∀ i x σ H,xs[i]?=some x->Pv i σ H->g x σ H λσ2 H2=>tb { D with nx:=Pv (i+1),ct:=Pv (i+1),bk:=D.nx } σ2 H2) (hd:∀ σ H,Pv xs.length σ H->D.nx σ H) :
  ((∃ xs,SqT K H a xs)/\∃ W:Nat->Nat->St->Hp->Prop,(∃ m,W 0 m σ H)/\∀ i m σ H,W i m σ H ->
   ((Itt K a).stop i H/\D.nx σ H)\/((Itt K a).go i H/\∃ N:St->Hp->Prop,(∀ σ' H',N σ' H'->∃ m',m'<m/\W (i+1) m' σ' H')/\∀ x H',(Itt K a).yld i H x H'->g x σ H' λσ2 H2=>tb { D with nx:=N,ct:=N,bk:=D.nx } σ2 H2)) \/
  ((∃ xs,SqL K H a xs)/\∃ W:Nat->Nat->St->Hp->Prop,(∃ m,W 0 m σ H)/\∀ i m σ H,W i m σ H ->
   ((Itl K a).stop i H/\D.nx σ H)\/((Itl K a).go i H/\∃ N:St->Hp->Prop,(∀ σ' H',N σ' H'->∃ m',m'<m/\W (i+1) m' σ' H')/\∀ x H',(Itl K a).yld i H x H'->g x σ H' λσ2 H2=>tb { D with nx:=N,ct:=N,bk:=D.nx } σ2 H2)):=by
 cases tp with
 |true =>
  have hl':∀ i σ H,i<=xs.length->Pv i σ H->SqT K H a xs:=λi σ H h p=>by have:=hl i σ H h p;unfold SqE at this;rw [if_pos rfl] at this;exact this
  exact .inl ⟨⟨xs,hl' 0 σ H (Nat.zero_le _) h0⟩,for_tup Pv h0 hl' hs hd⟩
 |false =>
  have hl':∀ i σ H,i<=xs.length->Pv i σ H->SqL K H a xs:=λi σ H h p=>by have:=hl i σ H h p;unfold SqE at this;rw [if_neg Bool.false_ne_true] at this;exact this
  exact .inr ⟨⟨xs,hl' 0 σ H (Nat.zero_le _) h0⟩,for_list Pv h0 hl' hs hd⟩
end L2
namespace K55
open PySem L2
theorem ifT {c A B:Prop} [Decidable c] (hc:c) (h:A):if decide c=true then A else B:=by
 rw [if_pos (decide_eq_true hc)];exact h
theorem ifF {c A B:Prop} [Decidable c] (hc:¬ c) (h:B):if decide c=true then A else B:=by
 rw [if_neg (by rw [decide_eq_false hc];exact Bool.false_ne_true)];exact h
def WORDS:List Str:=["wait", "hear", "take", "ask"]
theorem bT {x:Bool} {A B:Prop} (h:x=true) (a:A):if x=true then A else B:=by rw [if_pos h];exact a
theorem bF {x:Bool} {A B:Prop} (h:x=false) (b:B):if x=true then A else B:=by rw [h,if_neg Bool.false_ne_true];exact b
@[elab_as_elim] theorem len1 {α:Type} {P:List α->Prop} {us:List α} (h:us.length=1) (k:∀ a,P [a]):P us:=by
 match us,h with
 |[a],_=>exact k a
theorem lenC {α:Type} {P:List α->Prop} {us:List α} {n:Nat} (h:us.length=n+1) (k:∀ a r,r.length=n->P (a::r)):P us:=by
 cases us with
 |nil=>cases h
 |cons a r=>exact k a r (Nat.succ.inj h)
@[elab_as_elim] theorem len2 {α:Type} {P:List α->Prop} {us:List α} (h:us.length=2) (k:∀ a b,P [a,b]):P us:=lenC h λa _ h=>len1 (P:=λr=>P (a::r)) h (k a)
@[elab_as_elim] theorem len3 {α:Type} {P:List α->Prop} {us:List α} (h:us.length=3) (k:∀ a b c,P [a,b,c]):P us:=lenC h λa _ h=>len2 (P:=λr=>P (a::r)) h (k a)
@[elab_as_elim] theorem len4 {α:Type} {P:List α->Prop} {us:List α} (h:us.length=4) (k:∀ a b c d,P [a,b,c,d]):P us:=lenC h λa _ h=>len3 (P:=λr=>P (a::r)) h (k a)
@[elab_as_elim] theorem len5 {α:Type} {P:List α->Prop} {us:List α} (h:us.length=5) (k:∀ a b c d e,P [a,b,c,d,e]):P us:=lenC h λa _ h=>len4 (P:=λr=>P (a::r)) h (k a)
def QL:List Str:=["let", "when", "repeat", "keep", "try", "do"]
def places (z:Str):List Nat :=
 if z="group" then [3] else if z="limit" then [3,4] else if z="keep" then [2] else if z="try" then [2,4] else if z="do" then [2,3] else if z="when" then [4] else if z="repeat" then [3] else []
def lenOf (z:Str):Nat :=
 if z="group" then 4 else if z="limit" then 5 else if z="keep" then 3 else if z="try" then 5 else if z="do" then 4 else if z="when" then 5 else if z="repeat" then 4 else 0
theorem places_cases (z:Str):(z="group"/\places z=[3]/\lenOf z=4)\/(z="limit"/\places z=[3,4]/\lenOf z=5)\/(z="keep"/\places z=[2]/\lenOf z=3)\/(z="try"/\places z=[2,4]/\lenOf z=5) \/
  (z="do"/\places z=[2,3]/\lenOf z=4)\/(z="when"/\places z=[4]/\lenOf z=5)\/(z="repeat"/\places z=[3]/\lenOf z=4) \/
  (places z=[]/\z≠"group"/\z≠"limit"/\z≠"keep"/\z≠"try"/\z≠"do"/\z≠"when"/\z≠"repeat"):=by
 by_cases h1:z="group"
 ·subst h1;exact .inl ⟨rfl,by decide +kernel,by decide +kernel⟩
 by_cases h2:z="limit"
 ·subst h2;exact .inr (.inl ⟨rfl,by decide +kernel,by decide +kernel⟩)
 by_cases h3:z="keep"
 ·subst h3;exact .inr (.inr (.inl ⟨rfl,by decide +kernel,by decide +kernel⟩))
 by_cases h4:z="try"
 ·subst h4;exact .inr (.inr (.inr (.inl ⟨rfl,by decide +kernel,by decide +kernel⟩)))
 by_cases h5:z="do"
 ·subst h5;exact .inr (.inr (.inr (.inr (.inl ⟨rfl,by decide +kernel,by decide +kernel⟩))))
 by_cases h6:z="when"
 ·subst h6;exact .inr (.inr (.inr (.inr (.inr (.inl ⟨rfl,by decide +kernel,by decide +kernel⟩)))))
 by_cases h7:z="repeat"
 ·subst h7;exact .inr (.inr (.inr (.inr (.inr (.inr (.inl ⟨rfl,by decide +kernel,by decide +kernel⟩))))))
 ·refine .inr (.inr (.inr (.inr (.inr (.inr (.inr ⟨?_,h1,h2,h3,h4,h5,h6,h7⟩))))))
  unfold places
  rw [if_neg h1,if_neg h2,if_neg h3,if_neg h4,if_neg h5,if_neg h6,if_neg h7]
def rowParts:List V->List V
 |.str z::r=>(places z).filterMap λi=>(V.str z::r)[i]?
 |_=>[]
theorem rowParts_str (z:Str) (r:List V):rowParts (.str z::r)=(places z).filterMap λi=>(V.str z::r)[i]?:=rfl
theorem places_in {z:Str} {r:List V} (h:places z≠[]->r.length+1=lenOf z):∀ p∈places z,p<(V.str z::r).length:=by
 intro p hp
 rw [List.length_cons]
 rcases places_cases z with ⟨_,ep,el⟩ | ⟨_,ep,el⟩ | ⟨_,ep,el⟩ | ⟨_,ep,el⟩ | ⟨_,ep,el⟩ | ⟨_,ep,el⟩ | ⟨_,ep,el⟩ | ⟨ep,_⟩
 all_goals
  rw [ep] at hp h
  simp only [List.mem_cons,List.not_mem_nil,or_false] at hp
 all_goals
  have h':=h (by simp)
  rw [el] at h'
  omega
theorem snoc_fm {α β:Type} {f:α->Option β} {xs:List α} {i:Nat} {x:α} {y:β} (h:xs[i]?=some x) (hf:f x=some y):(xs.take i).filterMap f++[y]=(xs.take (i+1)).filterMap f:=by
 rw [List.take_succ,h,List.filterMap_append]
 simp [hf]
theorem same_set {H H2:Hp} {l:Addr} {o:HO} (s:Same H H2) (h:H l=none):Same H (upd H2 l o):=λb u e=>by rw [upd_ne (ne_of_none e h)];exact s b u e
theorem pick {xs:List V} {m:Int} (h0:0<=m) (h1:m<xs.length):∃ v,atI xs m=some v/\v∈xs:=by
 have hlt:m.toNat<xs.length:=by omega
 refine ⟨xs[m.toNat],?_,List.getElem_mem hlt⟩
 have hat:=atI_nat (xs:=xs) (j:=m.toNat) (v:=xs[m.toNat]) (by simp [hlt])
 rw [show ((m.toNat:Nat):Int)=m by omega] at hat
 exact hat
theorem ixAny {K:PySem.W.Frag} {H:Hp} {p:Addr} {xs:List V} {m:Int} {Q:VK} (hp:SqL K H p xs) (h0:0<=m) (h1:m<xs.length) (k:∀ v∈xs,Q v H):rIxL K (.ref p) (.int m) H Q:=by
 obtain ⟨v,e,hv⟩:=pick h0 h1
 exact ⟨p,_,_,_,rfl,rfl,hp,e,k v hv⟩
theorem mod_lt {x:Int} {n:Nat} (h:1<=n):0<=x%(n:Int)/\x%(n:Int)<n:=⟨Int.emod_nonneg _ (by omega),Int.emod_lt_of_pos _ (by omega)⟩
def intsOf:List Nat->List Value->Bool
 |[],[]=>true
 |i::r,.int j _::us=>j == (i:Int)&&intsOf r us
 |_,_=>false
theorem intsOf_vals:∀ {is:List Nat} {us:List Value},intsOf is us=true->Vals (is.map λi=>V.int (i:Nat)) us:=by
 intro is
 induction is with
 |nil =>
  intro us h
  cases us with
  |nil=>exact .nil
  |cons u r=>cases h
 |cons i r ih =>
  intro us h
  cases us with
  |nil=>cases h
  |cons u us =>
   cases u with
   |int j t =>
    have h':(j == (i:Int)&&intsOf r us)=true:=h
    rw [Bool.and_eq_true] at h'
    have e:j=(i:Int):=by simpa using h'.1
    subst e
    exact .cons ⟨t,rfl⟩ (ih h'.2)
   |_=>cases h
structure InI (K:PySem.W.Frag) (b:Addr) (is:List Nat):Prop where
 ex:∃ (dd:Option Addr) (its:Array Value) (n:Nat) (sl:Array (Option Value)),K.lookup b=some ⟨.type "tuple",dd,.seq its n,sl⟩/\its.size<=sizeLine/\intsOf is its.toList=true
theorem InI.of {K:PySem.W.Frag} {b:Addr} {is:List Nat} {dd:Option Addr} {its:Array Value} {n:Nat} {sl:Array (Option Value)} (l:K.lookup b=some ⟨.type "tuple",dd,.seq its n,sl⟩) (s:its.size<=sizeLine) (v:intsOf is its.toList=true):InI K b is:=⟨⟨dd,its,n,sl,l,s,v⟩⟩
theorem InI.sq {K:PySem.W.Frag} {b:Addr} {is:List Nat} (i:InI K b is) (H:Hp):SqT K H b (is.map λi=>V.int (i:Nat)):=by
 obtain ⟨dd,its,n,sl,l,s,v⟩:=i.ex
 exact .inr ⟨_,its,n,l,rfl,rfl,s,intsOf_vals v⟩
structure InPP (w:World) (K:PySem.W.Frag):Prop where
 ex:∃ (p b1 b2 b3 b4 b5 b6 b7:Addr) (t1 t2 t3 t4 t5 t6 t7:Tok) (ep:Nat),PySem.W.nsIn K mainGlobals "PART_PLACES"=some (some (.ref p))/\(p == sysModules)=false /\
  K.lookup p=some ⟨.type "dict",none,.dict #[⟨PyData.keyHash w.params "group",.str "group" t1,.ref b1⟩,⟨PyData.keyHash w.params "limit",.str "limit" t2,.ref b2⟩,⟨PyData.keyHash w.params "keep",.str "keep" t3,.ref b3⟩,⟨PyData.keyHash w.params "try",.str "try" t4,.ref b4⟩,⟨PyData.keyHash w.params "do",.str "do" t5,.ref b5⟩,⟨PyData.keyHash w.params "when",.str "when" t6,.ref b6⟩,⟨PyData.keyHash w.params "repeat",.str "repeat" t7,.ref b7⟩] ep,#[]⟩ /\
  InI K b1 [3]/\InI K b2 [3,4]/\InI K b3 [2]/\InI K b4 [2,4]/\InI K b5 [2,3]/\InI K b6 [4]/\InI K b7 [3]
theorem InPP.of {w:World} {K:PySem.W.Frag} {p b1 b2 b3 b4 b5 b6 b7:Addr} {t1 t2 t3 t4 t5 t6 t7:Tok} {ep:Nat} (a:PySem.W.nsIn K mainGlobals "PART_PLACES"=some (some (.ref p))) 
  (l:K.lookup p=some ⟨.type "dict",none,.dict #[⟨PyData.keyHash w.params "group",.str "group" t1,.ref b1⟩,⟨PyData.keyHash w.params "limit",.str "limit" t2,.ref b2⟩,⟨PyData.keyHash w.params "keep",.str "keep" t3,.ref b3⟩,⟨PyData.keyHash w.params "try",.str "try" t4,.ref b4⟩,⟨PyData.keyHash w.params "do",.str "do" t5,.ref b5⟩,⟨PyData.keyHash w.params "when",.str "when" t6,.ref b6⟩,⟨PyData.keyHash w.params "repeat",.str "repeat" t7,.ref b7⟩] ep,#[]⟩)
  (s:(p == sysModules)=false) (q1:InI K b1 [3]) (q2:InI K b2 [3,4]) (q3:InI K b3 [2]) (q4:InI K b4 [2,4]) (q5:InI K b5 [2,3]) (q6:InI K b6 [4]) (q7:InI K b7 [3]):InPP w K :=
 ⟨⟨p,b1,b2,b3,b4,b5,b6,b7,t1,t2,t3,t4,t5,t6,t7,ep,a,s,l,q1,q2,q3,q4,q5,q6,q7⟩⟩
theorem InPP.get {P:Program} {w:World} {K:PySem.W.Frag} {mg:Str->Option Value} {h:Heap} (i:InPP w K) (X:K.In h) (G:h.Ns mainGlobals mg):∃ (pp:Addr) (pkv:List (Key×V)),mg "PART_PLACES"=some (.ref pp)/\DKd P w K pp pkv /\
  ∀ z:Str,(places z=[]->valV pkv (.inr z)=none)/\(places z≠[]->∃ b,valV pkv (.inr z)=some (.ref b)/\∀ H:Hp,SqT K H b ((places z).map λi=>V.int (i:Nat))):=by
 obtain ⟨p,b1,b2,b3,b4,b5,b6,b7,t1,t2,t3,t4,t5,t6,t7,ep,a,s,l,q1,q2,q3,q4,q5,q6,q7⟩:=i.ex
 refine ⟨p,[(.inr "group",.ref b1),(.inr "limit",.ref b2),(.inr "keep",.ref b3),(.inr "try",.ref b4),(.inr "do",.ref b5),(.inr "when",.ref b6),(.inr "repeat",.ref b7)],PySem.W.mg_of X G a,⟨s,λh' X'=>⟨[(.inr "group",.ref b1),(.inr "limit",.ref b2),(.inr "keep",.ref b3),(.inr "try",.ref b4),(.inr "do",.ref b5),(.inr "when",.ref b6),(.inr "repeat",.ref b7)],?_,_,_,_,X' _ _ l,⟨rfl,rfl,rfl⟩,rfl,?_,?_,?_⟩⟩,λz=>?_⟩
 ·exact .cons ⟨rfl,rfl⟩ (.cons ⟨rfl,rfl⟩ (.cons ⟨rfl,rfl⟩ (.cons ⟨rfl,rfl⟩ (.cons ⟨rfl,rfl⟩ (.cons ⟨rfl,rfl⟩ (.cons ⟨rfl,rfl⟩ .nil))))))
 ·intro e he
  have he':=Array.mem_toList_iff.mpr he
  simp only [List.mem_cons,List.not_mem_nil,or_false] at he'
  rcases he' with rfl | rfl | rfl | rfl | rfl | rfl | rfl
  ·exact ⟨.inr "group",keyIs_str _ t1,rfl⟩
  ·exact ⟨.inr "limit",keyIs_str _ t2,rfl⟩
  ·exact ⟨.inr "keep",keyIs_str _ t3,rfl⟩
  ·exact ⟨.inr "try",keyIs_str _ t4,rfl⟩
  ·exact ⟨.inr "do",keyIs_str _ t5,rfl⟩
  ·exact ⟨.inr "when",keyIs_str _ t6,rfl⟩
  ·exact ⟨.inr "repeat",keyIs_str _ t7,rfl⟩
 ·exact .cons (keyIs_str _ t1) rfl (.cons (keyIs_str _ t2) rfl (.cons (keyIs_str _ t3) rfl (.cons (keyIs_str _ t4) rfl (.cons (keyIs_str _ t5) rfl (.cons (keyIs_str _ t6) rfl (.cons (keyIs_str _ t7) rfl .nil))))))
 ·show ([.inr "group",.inr "limit",.inr "keep",.inr "try",.inr "do",.inr "when",.inr "repeat"]:List Key).Nodup
  decide +kernel
 ·have ne:∀ {y z:Str},y≠z->decide ((Sum.inr y:Key)=Sum.inr z)=false:=λh=>decide_eq_false λe=>h (Sum.inr.inj e)
  have eq:∀ (y:Str),decide ((Sum.inr y:Key)=Sum.inr y)=true:=λy=>decide_eq_true rfl
  unfold valV
  rcases places_cases z with ⟨rfl,ep,_⟩ | ⟨rfl,ep,_⟩ | ⟨rfl,ep,_⟩ | ⟨rfl,ep,_⟩ | ⟨rfl,ep,_⟩ | ⟨rfl,ep,_⟩ | ⟨rfl,ep,_⟩ | ⟨ep,n1,n2,n3,n4,n5,n6,n7⟩
  ·refine ⟨λh=>absurd (ep.symm.trans h) (by decide),λ_=>⟨b1,?_,λH=>by rw [ep];exact q1.sq H⟩⟩
   rw [List.find?_cons,eq];rfl
  ·refine ⟨λh=>absurd (ep.symm.trans h) (by decide),λ_=>⟨b2,?_,λH=>by rw [ep];exact q2.sq H⟩⟩
   rw [List.find?_cons,ne (by decide +kernel),List.find?_cons,eq];rfl
  ·refine ⟨λh=>absurd (ep.symm.trans h) (by decide),λ_=>⟨b3,?_,λH=>by rw [ep];exact q3.sq H⟩⟩
   rw [List.find?_cons,ne (by decide +kernel),List.find?_cons,ne (by decide +kernel),List.find?_cons,eq];rfl
  ·refine ⟨λh=>absurd (ep.symm.trans h) (by decide),λ_=>⟨b4,?_,λH=>by rw [ep];exact q4.sq H⟩⟩
   rw [List.find?_cons,ne (by decide +kernel),List.find?_cons,ne (by decide +kernel),List.find?_cons,ne (by decide +kernel),List.find?_cons,eq];rfl
  ·refine ⟨λh=>absurd (ep.symm.trans h) (by decide),λ_=>⟨b5,?_,λH=>by rw [ep];exact q5.sq H⟩⟩
   rw [List.find?_cons,ne (by decide +kernel),List.find?_cons,ne (by decide +kernel),List.find?_cons,ne (by decide +kernel),List.find?_cons,ne (by decide +kernel),List.find?_cons,eq];rfl
  ·refine ⟨λh=>absurd (ep.symm.trans h) (by decide),λ_=>⟨b6,?_,λH=>by rw [ep];exact q6.sq H⟩⟩
   rw [List.find?_cons,ne (by decide +kernel),List.find?_cons,ne (by decide +kernel),List.find?_cons,ne (by decide +kernel),List.find?_cons,ne (by decide +kernel),List.find?_cons,ne (by decide +kernel),List.find?_cons,eq];rfl
  ·refine ⟨λh=>absurd (ep.symm.trans h) (by decide),λ_=>⟨b7,?_,λH=>by rw [ep];exact q7.sq H⟩⟩
   rw [List.find?_cons,ne (by decide +kernel),List.find?_cons,ne (by decide +kernel),List.find?_cons,ne (by decide +kernel),List.find?_cons,ne (by decide +kernel),List.find?_cons,ne (by decide +kernel),List.find?_cons,ne (by decide +kernel),List.find?_cons,eq];rfl
  ·refine ⟨λ_=>?_,λh=>absurd ep h⟩
   rw [List.find?_cons,ne (Ne.symm n1),List.find?_cons,ne (Ne.symm n2),List.find?_cons,ne (Ne.symm n3),List.find?_cons,ne (Ne.symm n4),List.find?_cons,ne (Ne.symm n5),List.find?_cons,ne (Ne.symm n6),List.find?_cons,ne (Ne.symm n7)];rfl

def top (i:Nat):Stmt:=PySem.Challenge.pw_nightwatch_k55_what_it_might.main.body.getD i (.Pass ⟨0,0,0,0⟩)
inductive Kd where
 |frame | rounds | kept | tried | cleaned | limited | grouped
deriving DecidableEq
inductive Fl where
 |rows | line | scope | begun | named | held | left | fault | others | cleaning | told
deriving DecidableEq
def Fl.name:Fl->Str
 |.rows=>"rows" | .line=>"line" | .scope=>"scope" | .begun=>"begun_rows" | .named=>"named" | .held=>"held" | .left=>"rounds_left" | .fault=>"fault" | .others=>"others" | .cleaning=>"cleaning" | .told=>"told_faults"
def qHides:Kd->Str
 |.kept=>"Kept.hides" | .cleaned=>"Cleaned.hides" | _=>"Frame.hides"
def sHides:Kd->Stmt
 |.kept=>inClass (top 4) 0 | .cleaned=>inClass (top 6) 2 | _=>inClass (top 2) 3
def qOver:Kd->Str
 |.rounds=>"Rounds.over" | .cleaned=>"Cleaned.over" | .grouped=>"Grouped.over" | _=>"Frame.over"
def sOver:Kd->Stmt
 |.rounds=>inClass (top 3) 1 | .cleaned=>inClass (top 6) 3 | .grouped=>inClass (top 8) 3 | _=>inClass (top 2) 4
def qMeets:Kd->Str
 |.tried=>"Tried.meets" | .cleaned=>"Cleaned.meets" | .limited=>"Limited.meets" | .grouped=>"Grouped.meets" | _=>"Frame.meets"
def sMeets:Kd->Stmt
 |.tried=>inClass (top 5) 1 | .cleaned=>inClass (top 6) 4 | .limited=>inClass (top 7) 1 | .grouped=>inClass (top 8) 4 | _=>inClass (top 2) 5
def qBehind:Kd->Str
 |.rounds=>"Rounds.behind" | .tried=>"Tried.behind" | .cleaned=>"Cleaned.behind" | .limited=>"Limited.behind" | _=>"Frame.behind"
def sBehind:Kd->Stmt
 |.rounds=>inClass (top 3) 2 | .tried=>inClass (top 5) 2 | .cleaned=>inClass (top 6) 5 | .limited=>inClass (top 7) 2 | _=>inClass (top 2) 7

set_option genInjectivity false in
structure Tx (P:Program) (w:World) (K:PySem.W.Frag) (mg:Str->Option Value) where
 d_parts:Def K mg "parts" (top 11) ["row"]
 d_walk:Def K mg "walk" (top 12) ["rows"]
 d_might_of:Def K mg "might_of" (top 15) ["rows"]
 d_is_name_of_value:Def K mg "is_name_of_value" (top 16) ["value"]
 d_l_held:Def K mg "_law_held" (top 20) ["_law_held_here"]
 d_l_mixed:Def K mg "_law_mixed" (top 21) ["_law_cell", "_law_k"]
 d_l_pick:Def K mg "_law_pick" (top 22) ["_law_state", "_law_many"]
 d_l_line:Def K mg "_law_line" (top 23) ["_law_state"]
 d_l_value:Def K mg "_law_value" (top 24) ["_law_state"]
 d_l_clean:Def K mg "_law_clean" (top 25) ["_law_state"]
 d_l_simple:Def K mg "_law_simple" (top 26) ["_law_state", "_law_groups"]
 d_l_block:Def K mg "_law_block" (top 27) ["_law_state", "_law_deep", "_law_groups"]
 d_l_rows:Def K mg "_law_rows" (top 28) ["_law_state", "_law_deep", "_law_groups"]
 d_l_might:Def K mg "_law_might" (top 29) ["_law_rows_here"]
 C_Machine:Addr
 k_Machine:Cls K C_Machine
 h_Machine:mg "Machine"=some (.ref C_Machine)
 n_Machine_frames:NoAttr K C_Machine "frames"
 n_Machine_last_scope:NoAttr K C_Machine "last_scope"
 n_Machine_named_values:NoAttr K C_Machine "named_values"
 n_Machine_given:NoAttr K C_Machine "given"
 n_Machine_marks:NoAttr K C_Machine "marks"
 n_Machine_signal:NoAttr K C_Machine "signal"
 n_Machine_struck:NoAttr K C_Machine "struck"
 n_Machine_want:NoAttr K C_Machine "want"
 n_Machine_ending:NoAttr K C_Machine "ending"
 m_Machine___init__:MDef K C_Machine "__init__" "Machine.__init__" (inClass (top 17) 0) ["self", "rows"]
 m_Machine_waiting:MDef K C_Machine "waiting" "Machine.waiting" (inClass (top 17) 1) ["self"]
 m_Machine_target:MDef K C_Machine "target" "Machine.target" (inClass (top 17) 5) ["self"]
 m_Machine_might:MDef K C_Machine "might" "Machine.might" (inClass (top 17) 7) ["self"]
 m_Machine_go:MDefD K C_Machine "go" "Machine.go" (inClass (top 17) 10) ["self", "value"]
 m_Machine_joined:MDef K C_Machine "joined" "Machine.joined" (inClass (top 17) 12) ["self", "faults"]
 m_Machine_step:MDef K C_Machine "step" "Machine.step" (inClass (top 17) 13) ["self"]
 m_Machine_go_on:MDef K C_Machine "go_on" "Machine.go_on" (inClass (top 17) 14) ["self"]
 m_Machine_leave_innermost:MDef K C_Machine "leave_innermost" "Machine.leave_innermost" (inClass (top 17) 15) ["self"]
 m_Machine_wait_at:MDef K C_Machine "wait_at" "Machine.wait_at" (inClass (top 17) 16) ["self", "want"]
 m_Machine_leave_group:MDef K C_Machine "leave_group" "Machine.leave_group" (inClass (top 17) 17) ["self", "frame"]
 m_Machine_begin_clean_up:MDef K C_Machine "begin_clean_up" "Machine.begin_clean_up" (inClass (top 17) 18) ["self", "frame", "signal"]
 m_Machine_end_with:MDef K C_Machine "end_with" "Machine.end_with" (inClass (top 17) 19) ["self", "outcome"]
 m_Machine_send_out:MDef K C_Machine "send_out" "Machine.send_out" (inClass (top 17) 20) ["self"]
 m_Machine_halt_at:MDef K C_Machine "halt_at" "Machine.halt_at" (inClass (top 17) 21) ["self", "frame", "signal"]
 m_Machine_value_of:MDef K C_Machine "value_of" "Machine.value_of" (inClass (top 17) 22) ["self", "value"]
 m_Machine_group_scope:MDef K C_Machine "group_scope" "Machine.group_scope" (inClass (top 17) 23) ["self", "name"]
 m_Machine_do_row:MDef K C_Machine "do_row" "Machine.do_row" (inClass (top 17) 24) ["self", "row"]
 m_Machine_enter_scope:MDef K C_Machine "enter_scope" "Machine.enter_scope" (inClass (top 17) 25) ["self", "row"]
 m_Machine_do_quietly:MDef K C_Machine "do_quietly" "Machine.do_quietly" (inClass (top 17) 26) ["self", "row"]
 M_Machine:Mk K C_Machine m_Machine___init__.f
 pp:Addr
 ppm:mg "PART_PLACES"=some (.ref pp)
 pkv:List (Key×V)
 pd:DKd P w K pp pkv
 pv:∀ z:Str,(places z=[]->valV pkv (.inr z)=none)/\(places z≠[]->∃ b,valV pkv (.inr z)=some (.ref b)/\∀ H:Hp,SqT K H b ((places z).map λi=>V.int (i:Nat)))
 ww:Addr
 wwm:mg "WAITING_WORDS"=some (.ref ww)
 wws:∀ H:Hp,SqT K H ww (WORDS.map V.str)
 C:Kd->Addr
 cl:∀ c,Cls K (C c)
 na:∀ c l,NoAttr K (C c) (Fl.name l)
 m_next_row:∀ c,MDef K (C c) "next_row" "Frame.next_row" (inClass (top 2) 1) ["self"]
 m_begin_anew:∀ c,MDef K (C c) "begin_anew" "Frame.begin_anew" (inClass (top 2) 2) ["self", "rows"]
 m_rest:∀ c,MDef K (C c) "rest" "Frame.rest" (inClass (top 2) 6) ["self"]
 m_behind:∀ c,MDef K (C c) "behind" (qBehind c) (sBehind c) ["self"]
 m_hides:∀ c,MDef K (C c) "hides" (qHides c) (sHides c) ["self"]
 m_over:∀ c,MDef K (C c) "over" (qOver c) (sOver c) ["self"]
 m_meets:∀ c,MDef K (C c) "meets" (qMeets c) (sMeets c) ["self", "signal"]
 m_halt:MDef K (C .grouped) "halt" "Grouped.halt" (inClass (top 8) 1) ["self", "signal"]
 m_tell_joined:MDef K (C .grouped) "tell_joined" "Grouped.tell_joined" (inClass (top 8) 2) ["self", "faults"]
 m_clean:MDef K (C .cleaned) "clean" "Cleaned.clean" (inClass (top 6) 1) ["self", "signal"]
 h_frame:mg "Frame"=some (.ref (C .frame))
 h_rounds:mg "Rounds"=some (.ref (C .rounds))
 h_kept:mg "Kept"=some (.ref (C .kept))
 h_tried:mg "Tried"=some (.ref (C .tried))
 h_cleaned:mg "Cleaned"=some (.ref (C .cleaned))
 h_limited:mg "Limited"=some (.ref (C .limited))
 h_grouped:mg "Grouped"=some (.ref (C .grouped))
 i_frame:MDefD K (C .frame) "__init__" "Frame.__init__" (inClass (top 2) 0) ["self", "rows", "line", "scope"]
 i_rounds:MDef K (C .rounds) "__init__" "Rounds.__init__" (inClass (top 3) 0) ["self", "rows", "line", "many"]
 i_kept:MDefD K (C .kept) "__init__" "Frame.__init__" (inClass (top 2) 0) ["self", "rows", "line", "scope"]
 i_tried:MDef K (C .tried) "__init__" "Tried.__init__" (inClass (top 5) 0) ["self", "rows", "line", "fault", "others"]
 i_cleaned:MDef K (C .cleaned) "__init__" "Cleaned.__init__" (inClass (top 6) 0) ["self", "rows", "line", "others"]
 i_limited:MDef K (C .limited) "__init__" "Limited.__init__" (inClass (top 7) 0) ["self", "rows", "line", "scope", "others"]
 i_grouped:MDef K (C .grouped) "__init__" "Grouped.__init__" (inClass (top 8) 0) ["self", "rows", "line", "scope", "named"]
 M_frame:Mk K (C .frame) i_frame.f
 M_rounds:Mk K (C .rounds) i_rounds.f
 M_kept:Mk K (C .kept) i_kept.f
 M_tried:Mk K (C .tried) i_tried.f
 M_cleaned:Mk K (C .cleaned) i_cleaned.f
 M_limited:Mk K (C .limited) i_limited.f
 M_grouped:Mk K (C .grouped) i_grouped.f
 n_len:mg "len"=none
 n_range:mg "range"=none
 n_tuple:mg "tuple"=none
 n_list:mg "list"=none
 n_isinstance:mg "isinstance"=none
 n_reversed:mg "reversed"=none
 n_str:mg "str"=none
 n_set:mg "set"=none
 n_sorted:mg "sorted"=none
section
variable {P:Program} {w:World} {K:PySem.W.Frag} {mg:Str->Option Value} {base:Heap}
local macro_rules
  | `(tactic| walk_at $s:str) => do
  let e <- match s.getString with
   |"sx"=>pure ""
   |"sd"=>pure "tLst tTup tDNewK tDGet "
   |"sy"=>pure "tLst tTup tDNewK "
   |"sw"=>pure "tLst tTup tDNewK tLc iList iStr iTup "
   |_=>Lean.Macro.throwUnsupported
  let a:=((e++"L2.start cxOf_K cxComp_K tSeq tAsg gName tRet tRetN tDrop tIfS tTest tB tNot tAnd tOr tAndV tOrV tNotV tOp tUn tVar tC tCons tNil tStrs tCB tCall tChain tBM tBM0 tPart tNoPart tSl tIf tNext tTrue selS Option.bind_none Option.bind_some Option.join_some if_true rI rI0 rU rEq rNe rStarts rSlS lenV_str tyV List.map_cons List.map_nil List.length_cons List.length_nil List.replicate List.cons_append List.nil_append List.append_nil Nat.reduceAdd Nat.reduceSub Nat.zero_add Nat.add_zero Nat.sub_self List.getElem?_cons_zero List.getElem?_cons_succ List.set_cons_zero List.set_cons_succ Option.some.injEq V.int.injEq V.str.injEq V.ref.injEq V.bl.injEq V.ty.injEq List.cons.injEq exists_eq_left exists_eq_left' exists_eq_right exists_and_left exists_eq and_true true_and and_self and_assoc iRrg tMeth tMake tCMeth tDIn tDNotIn tDPop1 tNever iRev tDInN iSq").splitOn " ").toArray.map λx=>Lean.mkIdent x.toName
  `(tactic| simp only [$[$a:term],*])




seal PE PT PW PA PS PSs PG PGs PI PC PTs PO
abbrev Pr:=Str×Str
def UU:List Pr:=[("begin", "err"),("ring", "bell"),("send", "box")]
inductive All2 {α β:Type} (R:α->β->Prop):List α->List β->Prop
 |nil:All2 R [] []
 |cons {a:α} {b:β} {l:List α} {m:List β}:R a b->All2 R l m->All2 R (a::l) (b::m)
theorem All2.imp {α β:Type} {R S:α->β->Prop} (h:∀ a b,R a b->S a b):∀ {l:List α} {m:List β},All2 R l m->All2 S l m
 |_,_,.nil=>.nil
 |_,_,.cons a b=>.cons (h _ _ a) (b.imp h)
theorem All2.len {α β:Type} {R:α->β->Prop}:∀ {l:List α} {m:List β},All2 R l m->l.length=m.length
 |_,_,.nil=>rfl
 |_,_,.cons _ b=>by rw [List.length_cons,List.length_cons,b.len]
theorem All2.get {α β:Type} {R:α->β->Prop}:∀ {l:List α} {m:List β} {i:Nat} {a:α},All2 R l m->l[i]?=some a->∃ b,m[i]?=some b/\R a b
 |_,_,_,_,.nil,h=>by cases h
 |_,_,0,_,.cons r _,h=>by cases h;exact ⟨_,rfl,r⟩
 |_,_,i+1,_,.cons _ b,h=>b.get (i:=i) h
theorem All2.app {α β:Type} {R:α->β->Prop}:∀ {l l':List α} {m m':List β},All2 R l m->All2 R l' m'->All2 R (l++l') (m++m')
 |_,_,_,_,.nil,h=>h
 |_,_,_,_,.cons a b,h=>.cons a (b.app h)
theorem All2.drop {α β:Type} {R:α->β->Prop}:∀ (n:Nat) {l:List α} {m:List β},All2 R l m->All2 R (l.drop n) (m.drop n)
 |0,_,_,h=>h
 |_+1,_,_,.nil=>.nil
 |n+1,_,_,.cons _ b=>b.drop n
def Val (v:V):Prop:=(∃ n:Int,v=.int n)\/∃ z:Str,v=.str z
inductive Shp (RS:V->List Pr->Prop):List V->List Pr->Prop
 |wait (ln n:Int):Shp RS [.str "wait",.int ln,.int n] []
 |hear (ln:Int):Shp RS [.str "hear",.int ln,.str "bell"] []
 |take (ln:Int):Shp RS [.str "take",.int ln,.str "box",.str "x"] []
 |ask (ln:Int) (z:Str):Shp RS [.str "ask",.int ln,.str "la",.str z] []
 |raise (ln:Int) (z:Str):Shp RS [.str "raise",.int ln,.str z] []
 |begin (ln:Int) (g:Str) (n:Int):Shp RS [.str "begin",.int ln,.str "la",.str "err",.str g,.int n] [("begin", "err")]
 |off (ln:Int) (z:Str):Shp RS [.str "off",.int ln,.str z] []
 |let_ (ln:Int) (z:Str) (v:V):Val v->Shp RS [.str "let",.int ln,.str z,v] []
 |ring (ln:Int):Shp RS [.str "ring",.int ln,.str "bell"] [("ring", "bell")]
 |send (ln:Int) (v:V):Val v->Shp RS [.str "send",.int ln,.str "box",v] [("send", "box")]
 |group (ln:Int) (z:Str) (a:Addr) (m:List Pr):RS (.ref a) m->Shp RS [.str "group",.int ln,.str z,.ref a] m
 |limit (ln n:Int) (a b:Addr) (m m':List Pr):RS (.ref a) m->RS (.ref b) m'->Shp RS [.str "limit",.int ln,.int n,.ref a,.ref b] (m++m')
 |keep (ln:Int) (a:Addr) (m:List Pr):RS (.ref a) m->Shp RS [.str "keep",.int ln,.ref a] m
 |try_ (ln:Int) (z:Str) (a b:Addr) (m m':List Pr):RS (.ref a) m->RS (.ref b) m'->Shp RS [.str "try",.int ln,.ref a,.str z,.ref b] (m++m')
 |do_ (ln:Int) (a b:Addr) (m m':List Pr):RS (.ref a) m->RS (.ref b) m'->Shp RS [.str "do",.int ln,.ref a,.ref b] (m++m')
 |when (ln:Int) (z:Str) (v:V) (a:Addr) (m:List Pr):Val v->RS (.ref a) m->Shp RS [.str "when",.int ln,.str z,v,.ref a] m
 |repeat_ (ln n:Int) (a:Addr) (m:List Pr):RS (.ref a) m->Shp RS [.str "repeat",.int ln,.int n,.ref a] m
theorem Shp.imp {RS RS':V->List Pr->Prop} (h:∀ v m,RS v m->RS' v m) {xs:List V} {m:List Pr} (s:Shp RS xs m):Shp RS' xs m:=by
 cases s with
 |wait=>exact .wait _ _
 |hear=>exact .hear _
 |take=>exact .take _
 |ask=>exact .ask _ _
 |raise=>exact .raise _ _
 |begin=>exact .begin _ _ _
 |off=>exact .off _ _
 |let_ _ _ _ a=>exact .let_ _ _ _ a
 |ring=>exact .ring _
 |send _ _ a=>exact .send _ _ a
 |group _ _ _ _ a=>exact .group _ _ _ _ (h _ _ a)
 |limit _ _ _ _ _ _ a b=>exact .limit _ _ _ _ _ _ (h _ _ a) (h _ _ b)
 |keep _ _ _ a=>exact .keep _ _ _ (h _ _ a)
 |try_ _ _ _ _ _ _ a b=>exact .try_ _ _ _ _ _ _ (h _ _ a) (h _ _ b)
 |do_ _ _ _ _ _ a b=>exact .do_ _ _ _ _ _ (h _ _ a) (h _ _ b)
 |when _ _ _ _ _ v a=>exact .when _ _ _ _ _ v (h _ _ a)
 |repeat_ _ _ _ _ a=>exact .repeat_ _ _ _ _ (h _ _ a)
def RowV (H:Hp) (RS:V->List Pr->Prop) (v:V) (m:List Pr):Prop:=∃ q xs,v=.ref q/\H q=some (.tup xs)/\Shp RS xs m
def RowsM (H:Hp):Nat->V->List Pr->Prop
 |0,_,_=>False
 |n+1,v,m=>∃ a vs ms,v=.ref a/\H a=some (.tup vs)/\vs.length<=3/\All2 (RowV H (RowsM H n)) vs ms/\m=ms.flatten
def KT (H H':Hp):Prop:=∀ (a:Addr) (xs:List V),H a=some (.tup xs)->H' a=some (.tup xs)
theorem KT.of {H H':Hp} (s:Same H H'):KT H H':=λa xs h=>s a _ h
theorem KT.trans {H H1 H2:Hp} (a:KT H H1) (b:KT H1 H2):KT H H2:=λc xs h=>b c xs (a c xs h)
theorem RowV.imp {H H':Hp} {RS RS':V->List Pr->Prop} (k:KT H H') (h:∀ v m,RS v m->RS' v m) (v:V) (m:List Pr) (r:RowV H RS v m):RowV H' RS' v m:=by
 obtain ⟨q,xs,e,hq,s⟩:=r
 exact ⟨q,xs,e,k _ _ hq,s.imp h⟩
theorem RowsM.kt {H H':Hp} (k:KT H H'):∀ {n:Nat} {v:V} {m:List Pr},RowsM H n v m->RowsM H' n v m
 |0,_,_,h=>h
 |n+1,v,m,h=>by
  obtain ⟨a,vs,ms,e,ha,hl,hm,em⟩:=h
  exact ⟨a,vs,ms,e,k _ _ ha,hl,hm.imp (RowV.imp k λv m=>RowsM.kt k),em⟩
theorem RowsM.up {H:Hp}:∀ {n:Nat} {v:V} {m:List Pr},RowsM H n v m->RowsM H (n+1) v m
 |0,_,_,h=>h.elim
 |n+1,v,m,h=>by
  obtain ⟨a,vs,ms,e,ha,hl,hm,em⟩:=h
  exact ⟨a,vs,ms,e,ha,hl,hm.imp (RowV.imp (λ_ _ h=>h) λv m=>RowsM.up),em⟩
theorem RowsM.le {H:Hp} {v:V} {m:List Pr} {n k:Nat} (h:RowsM H n v m) (l:n<=k):RowsM H k v m:=by
 induction l with
 |refl=>exact h
 |step _ ih=>exact ih.up
abbrev RowM (H:Hp) (n:Nat):V->List Pr->Prop:=RowV H (RowsM H n)
theorem RowM.kt {H H':Hp} (k:KT H H') {n:Nat} {v:V} {m:List Pr} (r:RowM H n v m):RowM H' n v m:=RowV.imp k (λ_ _=>RowsM.kt k) _ _ r
theorem RowM.le {H:Hp} {v:V} {m:List Pr} {n k:Nat} (h:RowM H n v m) (l:n<=k):RowM H k v m:=RowV.imp (λ_ _ h=>h) (λ_ _ h=>h.le l) _ _ h
theorem rows_kt {H H':Hp} (k:KT H H') {n:Nat} {vs:List V} {ms:List (List Pr)} (h:All2 (RowM H n) vs ms):All2 (RowM H' n) vs ms:=h.imp λ_ _=>RowM.kt k
inductive Own:List V->List Pr->Prop
 |ring {z y:Str} {ln:V} {r:List V}:z="ring"\/z="send"->Own (.str z::ln::.str y::r) [(z,y)]
 |begin {y:Str} {ln x:V} {r:List V}:Own (.str "begin"::ln::x::.str y::r) [("begin",y)]
 |none {z:Str} {r:List V}:z≠"ring"->z≠"send"->z≠"begin"->Own (.str z::r) []
inductive WL (H:Hp):List V->List Pr->Prop
 |nil:WL H [] []
 |cons {q:Addr} {xs:List V} {o:List Pr} {r:List V} {m:List Pr}:H q=some (.tup xs)->Own xs o->WL H r m->WL H (.ref q::r) (o++m)
theorem WL.kt {H H':Hp} (k:KT H H'):∀ {l:List V} {m:List Pr},WL H l m->WL H' l m
 |_,_,.nil=>.nil
 |_,_,.cons a b c=>.cons (k _ _ a) b (c.kt k)
theorem WL.app {H:Hp}:∀ {l l':List V} {m m':List Pr},WL H l m->WL H l' m'->WL H (l++l') (m++m')
 |_,_,_,_,.nil,h=>h
 |_,_,_,_,.cons a b c,h=>by rw [List.cons_append,List.append_assoc];exact .cons a b (c.app h)
inductive TL (RS:V->List Pr->Prop):List V->List Pr->Prop
 |nil:TL RS [] []
 |flat {v:V} {r:List V} {m:List Pr}:flatV v=true->TL RS r m->TL RS (v::r) m
 |part {a:Addr} {r:List V} {m m':List Pr}:RS (.ref a) m->TL RS r m'->TL RS (.ref a::r) (m++m')
theorem Val.flat {v:V} (h:Val v):flatV v=true:=by
 rcases h with ⟨n,rfl⟩ | ⟨z,rfl⟩<;>rfl
theorem snoc_m {RS:V->List Pr->Prop} {a:Addr} {m:List Pr} (h:RS (.ref a) m):TL RS [.ref a] m:=by
 have:=TL.part h (.nil:TL RS [] [])
 rw [List.append_nil] at this
 exact this
theorem all1 {RS:V->List Pr->Prop} {a:Addr} {m:List Pr} (h:RS (.ref a) m):∃ ms,All2 RS [.ref a] ms/\m=ms.flatten:=⟨[m],.cons h .nil,by simp⟩
theorem all2 {RS:V->List Pr->Prop} {a b:Addr} {m m':List Pr} (h:RS (.ref a) m) (h':RS (.ref b) m'):∃ ms,All2 RS [.ref a,.ref b] ms/\m++m'=ms.flatten:=⟨[m,m'],.cons h (.cons h' .nil),by simp⟩
structure Prt (RS:V->List Pr->Prop) (xs:List V) (m:List Pr):Prop where
 ex:∃ z ln r o m',xs=.str z::.int ln::r/\(places z≠[]->r.length+2=lenOf z)/\r.length<=4/\Own xs o/\TL RS r m'/\m=o++m'/\∃ ms,All2 RS (rowParts xs) ms/\m'=ms.flatten
theorem Shp.prt {RS:V->List Pr->Prop} {xs:List V} {m:List Pr} (s:Shp RS xs m):Prt RS xs m:=by
 cases s with
 |wait=>exact ⟨_,_,_,[],[],rfl,λh=>absurd (by decide +kernel) h,by simp,.none (by decide +kernel) (by decide +kernel) (by decide +kernel),.flat rfl .nil,rfl,[],.nil,rfl⟩
 |hear=>exact ⟨_,_,_,[],[],rfl,λh=>absurd (by decide +kernel) h,by simp,.none (by decide +kernel) (by decide +kernel) (by decide +kernel),.flat rfl .nil,rfl,[],.nil,rfl⟩
 |take=>exact ⟨_,_,_,[],[],rfl,λh=>absurd (by decide +kernel) h,by simp,.none (by decide +kernel) (by decide +kernel) (by decide +kernel),.flat rfl (.flat rfl .nil),rfl,[],.nil,rfl⟩
 |ask=>exact ⟨_,_,_,[],[],rfl,λh=>absurd (by decide +kernel) h,by simp,.none (by decide +kernel) (by decide +kernel) (by decide +kernel),.flat rfl (.flat rfl .nil),rfl,[],.nil,rfl⟩
 |raise=>exact ⟨_,_,_,[],[],rfl,λh=>absurd (by decide +kernel) h,by simp,.none (by decide +kernel) (by decide +kernel) (by decide +kernel),.flat rfl .nil,rfl,[],.nil,rfl⟩
 |begin=>exact ⟨_,_,_,_,[],rfl,λh=>absurd (by decide +kernel) h,by simp,.begin,.flat rfl (.flat rfl (.flat rfl (.flat rfl .nil))),rfl,[],.nil,rfl⟩
 |off=>exact ⟨_,_,_,[],[],rfl,λh=>absurd (by decide +kernel) h,by simp,.none (by decide +kernel) (by decide +kernel) (by decide +kernel),.flat rfl .nil,rfl,[],.nil,rfl⟩
 |let_ _ _ _ a=>exact ⟨_,_,_,[],[],rfl,λh=>absurd (by decide +kernel) h,by simp,.none (by decide +kernel) (by decide +kernel) (by decide +kernel),.flat rfl (.flat a.flat .nil),rfl,[],.nil,rfl⟩
 |ring=>exact ⟨_,_,_,_,[],rfl,λh=>absurd (by decide +kernel) h,by simp,.ring (.inl rfl),.flat rfl .nil,rfl,[],.nil,rfl⟩
 |send _ _ a=>exact ⟨_,_,_,_,[],rfl,λh=>absurd (by decide +kernel) h,by simp,.ring (.inr rfl),.flat rfl (.flat a.flat .nil),rfl,[],.nil,rfl⟩
 |group _ _ _ _ a=>exact ⟨_,_,_,[],_,rfl,λ_=>(show 4=lenOf "group" by decide +kernel),by simp,.none (by decide +kernel) (by decide +kernel) (by decide +kernel),.flat rfl (snoc_m a),rfl,all1 a⟩
 |limit _ _ _ _ _ _ a b=>exact ⟨_,_,_,[],_,rfl,λ_=>(show 5=lenOf "limit" by decide +kernel),by simp,.none (by decide +kernel) (by decide +kernel) (by decide +kernel),.flat rfl (.part a (snoc_m b)),rfl,all2 a b⟩
 |keep _ _ _ a=>exact ⟨_,_,_,[],_,rfl,λ_=>(show 3=lenOf "keep" by decide +kernel),by simp,.none (by decide +kernel) (by decide +kernel) (by decide +kernel),snoc_m a,rfl,all1 a⟩
 |try_ _ _ _ _ _ _ a b=>exact ⟨_,_,_,[],_,rfl,λ_=>(show 5=lenOf "try" by decide +kernel),by simp,.none (by decide +kernel) (by decide +kernel) (by decide +kernel),.part a (.flat rfl (snoc_m b)),rfl,all2 a b⟩
 |do_ _ _ _ _ _ a b=>exact ⟨_,_,_,[],_,rfl,λ_=>(show 4=lenOf "do" by decide +kernel),by simp,.none (by decide +kernel) (by decide +kernel) (by decide +kernel),.part a (snoc_m b),rfl,all2 a b⟩
 |when _ _ _ _ _ v a=>exact ⟨_,_,_,[],_,rfl,λ_=>(show 5=lenOf "when" by decide +kernel),by simp,.none (by decide +kernel) (by decide +kernel) (by decide +kernel),.flat rfl (.flat v.flat (snoc_m a)),rfl,all1 a⟩
 |repeat_ _ _ _ _ a=>exact ⟨_,_,_,[],_,rfl,λ_=>(show 4=lenOf "repeat" by decide +kernel),by simp,.none (by decide +kernel) (by decide +kernel) (by decide +kernel),.flat rfl (snoc_m a),rfl,all1 a⟩
def cn:Nat->Nat
 |0=>0
 |n+1=>3*(1+2*cn n)
theorem flat_le {ms:List (List Pr)} {c:Nat} (h:∀ m∈ms,m.length<=c):ms.flatten.length<=ms.length*c:=by
 induction ms with
 |nil=>simp
 |cons m r ih =>
  have h1:=h m List.mem_cons_self
  have h2:=ih λx hx=>h x (List.mem_cons_of_mem _ hx)
  rw [List.flatten_cons,List.length_append,List.length_cons,Nat.succ_mul]
  omega
theorem rowParts_le (xs:List V):(rowParts xs).length<=2:=by
 cases xs with
 |nil=>exact Nat.zero_le _
 |cons v r =>
  cases v with
  |str z =>
   rw [rowParts_str]
   refine Nat.le_trans (List.length_filterMap_le _ _) ?_
   rcases places_cases z with ⟨_,ep,_⟩ | ⟨_,ep,_⟩ | ⟨_,ep,_⟩ | ⟨_,ep,_⟩ | ⟨_,ep,_⟩ | ⟨_,ep,_⟩ | ⟨_,ep,_⟩ | ⟨ep,_⟩<;>rw [ep]<;>decide
  |_=>exact Nat.zero_le _
theorem All2.mem {α β:Type} {R:α->β->Prop}:∀ {l:List α} {m:List β},All2 R l m->∀ b∈m,∃ a∈l,R a b
 |_,_,.nil,_,h=>by cases h
 |_,_,.cons a b,x,h=>by
  rcases List.mem_cons.mp h with rfl | h
  ·exact ⟨_,List.mem_cons_self,a⟩
  ·obtain ⟨y,hy,r⟩:=b.mem x h
   exact ⟨y,List.mem_cons_of_mem _ hy,r⟩
theorem shp_uu {RS:V->List Pr->Prop} {xs:List V} {m:List Pr} (h:∀ v m,RS v m->∀ k∈m,k∈UU) (s:Shp RS xs m):∀ k∈m,k∈UU:=by
 cases s with
 |begin=>intro k hk;rw [List.mem_singleton.mp hk];exact List.mem_cons_self
 |ring=>intro k hk;rw [List.mem_singleton.mp hk];exact List.mem_cons_of_mem _ List.mem_cons_self
 |send=>intro k hk;rw [List.mem_singleton.mp hk];exact List.mem_cons_of_mem _ (List.mem_cons_of_mem _ List.mem_cons_self)
 |group _ _ _ _ a=>exact h _ _ a
 |limit _ _ _ _ _ _ a b=>intro k hk;rcases List.mem_append.mp hk with q | q;exact h _ _ a k q;exact h _ _ b k q
 |keep _ _ _ a=>exact h _ _ a
 |try_ _ _ _ _ _ _ a b=>intro k hk;rcases List.mem_append.mp hk with q | q;exact h _ _ a k q;exact h _ _ b k q
 |do_ _ _ _ _ _ a b=>intro k hk;rcases List.mem_append.mp hk with q | q;exact h _ _ a k q;exact h _ _ b k q
 |when _ _ _ _ _ v a=>exact h _ _ a
 |repeat_ _ _ _ _ a=>exact h _ _ a
 |_=>intro k hk;cases hk
theorem all_uu {H:Hp} {RS:V->List Pr->Prop} (h:∀ v m,RS v m->∀ k∈m,k∈UU) {vs:List V} {ms:List (List Pr)} (a:All2 (RowV H RS) vs ms):∀ k∈ms.flatten,k∈UU:=by
 intro k hk
 obtain ⟨m,hm,hkm⟩:=List.mem_flatten.mp hk
 obtain ⟨v,_,q,xs,_,_,s⟩:=a.mem m hm
 exact shp_uu h s k hkm
theorem RowsM.uu {H:Hp}:∀ {n:Nat} {v:V} {m:List Pr},RowsM H n v m->∀ k∈m,k∈UU
 |0,_,_,h=>h.elim
 |n+1,v,m,h=>by
  obtain ⟨a,vs,ms,e,ha,hl,hm,em⟩:=h
  rw [em]
  exact all_uu (λ_ _ h=>RowsM.uu h) hm
theorem rows_uu {H:Hp} {n:Nat} {vs:List V} {ms:List (List Pr)} (a:All2 (RowM H n) vs ms):∀ k∈ms.flatten,k∈UU:=all_uu (λ_ _ h=>h.uu) a
theorem name_inj:∀ a b:Fl,a.name=b.name->a=b:=by
 intro a b
 cases a<;>cases b<;>first
  | (intro _;rfl)
  | (intro h;exact absurd h (by decide +kernel))
def setG (g:Fl->Option V) (l:Fl) (v:V):Fl->Option V:=λx=>if x=l then some v else g x
def But (d:Addr) (H H':Hp):Prop:=∀ c o,c≠d->H c=some o->H' c=some o
theorem But.refl (d:Addr) (H:Hp):But d H H:=λ_ _ _ h=>h
theorem But.trans {d:Addr} {H H1 H2:Hp} (a:But d H H1) (b:But d H1 H2):But d H H2:=λc o n h=>b c o n (a c o n h)
theorem But.of {d:Addr} {H H':Hp} (s:Same H H'):But d H H':=λc o _ h=>s c o h
theorem But.tup {d:Addr} {H H':Hp} {C dx:Addr} {fs:List (Str×V)} {a:Addr} {xs:List V} (b:But d H H') (e:H d=some (.ins C dx fs)) (h:H a=some (.tup xs)):H' a=some (.tup xs):=b _ _ (ne_of h e (λz=>nomatch z)) h
structure FrAt (T:Tx P w K mg) (n:Nat) (c:Kd) (H:Hp) (p:Addr) (g:Fl->Option V):Prop where
 ex:∃ dx fs,H p=some (.ins (T.C c) dx fs)/\fs.length<=n/\(∀ l:Fl,fs.lookup l.name=g l)/\∀ m:Str,(∀ l:Fl,l.name≠m)->fs.lookup m=none
theorem FrAt.same {T:Tx P w K mg} {n:Nat} {c:Kd} {H H':Hp} {p:Addr} {g:Fl->Option V} (F:FrAt T n c H p g) (s:Same H H'):FrAt T n c H' p g:=by
 obtain ⟨dx,fs,h1,h2⟩:=F.ex
 exact ⟨dx,fs,s _ _ h1,h2⟩
theorem FrAt.mono {T:Tx P w K mg} {n m:Nat} {c:Kd} {H:Hp} {p:Addr} {g:Fl->Option V} (F:FrAt T n c H p g) (h:n<=m):FrAt T m c H p g:=by
 obtain ⟨dx,fs,h1,h2,h3⟩:=F.ex
 exact ⟨dx,fs,h1,Nat.le_trans h2 h,h3⟩
theorem FrAt.new {T:Tx P w K mg} {c:Kd} {H:Hp} {p dx:Addr} (h:H p=some (.ins (T.C c) dx [])):FrAt T 0 c H p (λ_=>none):=⟨dx,[],h,Nat.le_refl _,λ_=>rfl,λ_ _=>rfl⟩
theorem FrAt.fld {T:Tx P w K mg} {n:Nat} {c:Kd} {H:Hp} {p:Addr} {g:Fl->Option V} (F:FrAt T n c H p g) {l:Fl} {v:V} {σ:St} {i:Nat} {R:VK} (hσ:σ[i]?=some (some (.ref p))) (e:g l=some v) (k:R v H):tFld K (tVar i) l.name σ H R:=by
 obtain ⟨dx,fs,h1,_,h3,_⟩:=F.ex
 exact ⟨_,hσ,p,_,dx,fs,v,rfl,h1,T.cl c,T.na c l,(h3 l).trans e,k⟩
theorem len_putF_old {f:Str} {v:V}:∀ {fs:List (Str×V)},fs.lookup f≠none->(putF f v fs).length=fs.length
 |[],h=>absurd rfl h
 | (g,x)::r,h=>by
  show (if g=f then (g,v)::r else (g,x)::putF f v r).length=_
  by_cases e:g=f
  ·rw [if_pos e];rfl
  ·rw [if_neg e]
   show (putF f v r).length+1=r.length+1
   rw [len_putF_old]
   intro z
   apply h
   rw [List.lookup_cons]
   have:(f == g)=false:=by simp [Ne.symm e]
   rw [this];exact z
theorem FrAt.put {T:Tx P w K mg} {n:Nat} {c:Kd} {H:Hp} {p:Addr} {g:Fl->Option V} (F:FrAt T n c H p g) (l:Fl) (v:V):∃ dx fs,H p=some (.ins (T.C c) dx fs)/\fs.length<=n /\
  FrAt T (n+1) c (upd H p (.ins (T.C c) dx (putF l.name v fs))) p (setG g l v)/\(g l≠none->FrAt T n c (upd H p (.ins (T.C c) dx (putF l.name v fs))) p (setG g l v)):=by
 obtain ⟨dx,fs,h1,h2,h3,h4⟩:=F.ex
 have q1:∀ x:Fl,(putF l.name v fs).lookup x.name=setG g l v x:=λx=>by
  rw [lookup_putF]
  unfold setG
  by_cases e:x=l
  ·rw [if_pos (by rw [e]),if_pos e]
  ·rw [if_neg (λz=>e (name_inj _ _ z)),if_neg e,h3]
 have q2:∀ m:Str,(∀ l:Fl,l.name≠m)->(putF l.name v fs).lookup m=none:=λm hm=>by
  rw [lookup_putF,if_neg (Ne.symm (hm l)),h4 m hm]
 refine ⟨dx,fs,h1,h2,⟨dx,_,upd_same,?_,q1,q2⟩,λhg=>⟨dx,_,upd_same,?_,q1,q2⟩⟩
 ·have:=length_putF l.name v fs;omega
 ·rw [len_putF_old (by rw [h3];exact hg)];exact h2
def stG (K:PySem.W.Frag) (i:Nat) (l:Fl) (y:V) (N:Hp->Prop) (σ:St) (H:Hp):Prop:=tVar i σ H λx H2=>∃ a C dx fs,x=.ref a/\H2 a=some (.ins C dx fs)/\Cls K C/\NoAttr K C l.name/\fs.length<1000/\N (upd H2 a (.ins C dx (putF l.name y fs)))
theorem FrAt.st {T:Tx P w K mg} {n:Nat} {c:Kd} {H:Hp} {p:Addr} {g:Fl->Option V} (F:FrAt T n c H p g) (hn:n<900) {l:Fl} {y:V} {N:Hp->Prop} {σ:St} {i:Nat} (hσ:σ[i]?=some (some (.ref p))) (k:∀ H2,But p H H2->FrAt T (n+1) c H2 p (setG g l y)->N H2):stG K i l y N σ H:=by
 obtain ⟨dx,fs,h1,h2,h3,_⟩:=F.put l y
 exact ⟨_,hσ,p,_,dx,fs,rfl,h1,T.cl c,T.na c l,by omega,k _ (λb o nb e=>by rw [upd_ne nb];exact e) h3⟩
theorem FrAt.re {T:Tx P w K mg} {n:Nat} {c:Kd} {H:Hp} {p:Addr} {g:Fl->Option V} (F:FrAt T n c H p g) (hn:n<900) {l:Fl} {y:V} {N:Hp->Prop} {σ:St} {i:Nat} (hσ:σ[i]?=some (some (.ref p))) (hg:g l≠none) (k:∀ H2,But p H H2->FrAt T n c H2 p (setG g l y)->N H2):stG K i l y N σ H:=by
 obtain ⟨dx,fs,h1,h2,_,h3⟩:=F.put l y
 exact ⟨_,hσ,p,_,dx,fs,rfl,h1,T.cl c,T.na c l,by omega,k _ (λb o nb e=>by rw [upd_ne nb];exact e) (h3 hg)⟩
structure Sf where
 line:Int
 ra:Addr
 rows:List V
 oa:Addr
 others:List V
 sc:V
 place:Nat
 left:Int
 fault:Str
 cleaning:Bool
 named:V
 held:V
 told:V
def gOf (c:Kd) (s:Sf):Fl->Option V
 |.rows=>some (.ref s.ra)
 |.line=>some (.int s.line)
 |.scope=>some s.sc
 |.begun=>some (.int (s.place:Nat))
 |.named=>some s.named
 |.held=>some s.held
 |.left=>if c=.rounds then some (.int s.left) else none
 |.fault=>if c=.tried then some (.str s.fault) else none
 |.others=>if c=.tried\/c=.cleaned\/c=.limited then some (.ref s.oa) else none
 |.cleaning=>if c=.cleaned then some (.bl s.cleaning) else none
 |.told=>if c=.grouped then some s.told else none
structure FAt (T:Tx P w K mg) (c:Kd) (H:Hp) (p:Addr) (s:Sf):Prop where
 fr:FrAt T 11 c H p (gOf c s)
 rs:H s.ra=some (.tup s.rows)
 os:H s.oa=some (.tup s.others)
 pl:s.place<=s.rows.length
 rl:s.rows.length<=10
 ol:s.others.length<=10
theorem FAt.same {T:Tx P w K mg} {c:Kd} {H H':Hp} {p:Addr} {s:Sf} (F:FAt T c H p s) (e:Same H H'):FAt T c H' p s:=⟨F.fr.same e,e _ _ F.rs,e _ _ F.os,F.pl,F.rl,F.ol⟩
theorem FAt.but {T:Tx P w K mg} {c:Kd} {H H':Hp} {p a:Addr} {s:Sf} {xs:List V} (F:FAt T c H p s) (b:But p H H') (h:H a=some (.tup xs)):H' a=some (.tup xs):=by
 obtain ⟨dx,fs,h1,_⟩:=F.fr.ex
 exact b.tup h1 h
def hidesF (c:Kd) (s:Sf):Bool:=if c=.kept then true else if c=.cleaned then s.cleaning else false
def overF (c:Kd) (s:Sf):Str:=if c=.rounds then (if s.left<1 then "out" else "on") else if c=.cleaned then (if s.cleaning=true then "out" else "clean") else if c=.grouped then (if s.told=.non then "join" else "leave") else "out"
def overS (c:Kd) (s:Sf):Sf:=if c=.rounds/\¬ s.left<1 then { s with left:=s.left-1,place:=0 } else s
theorem overS_no {c:Kd} {s:Sf} (h:c≠.rounds):overS c s=s:=by unfold overS;rw [if_neg (λz=>h z.1)]
inductive Sig where
 |strike (n:Int)
 |faults (a:Str) (r:List Str)
def SigAt (H:Hp) (t:Addr):Sig->Prop
 |.strike n=>H t=some (.tup [.str "strike",.int n])
 |.faults a r=>∃ u,H t=some (.tup [.str "faults",.ref u])/\H u=some (.tup (.str a::r.map V.str))
theorem SigAt.same {H H':Hp} {t:Addr} {g:Sig} (h:SigAt H t g) (s:Same H H'):SigAt H' t g:=by
 cases g with
 |strike n=>exact s _ _ h
 |faults a r =>
  obtain ⟨u,h1,h2⟩:=h
  exact ⟨u,s _ _ h1,s _ _ h2⟩
def meetsF (c:Kd) (s:Sf) (g:Sig):Str :=
 if c=.tried then (match g with
  |.faults a _=>if s.fault="any"\/s.fault=a then "caught" else "out"
  |.strike _=>"out")
 else if c=.cleaned then (if s.cleaning=true then "out" else "clean")
 else if c=.limited then (match g with
  |.strike n=>if s.sc=.int n then "late" else "out"
  |.faults _ _=>"out")
 else if c=.grouped then "halt" else "out"
def spFInit (T:Tx P w K mg):Sp:=λvs H Q _=>∃ (c:Kd) (p a:Addr) (xs:List V) (ln sc:V),vs=[.ref p,.ref a,ln,sc]/\FrAt T 0 c H p (λ_=>none)/\H a=some (.tup xs) /\
 ∀ H',But p H H'->FrAt T 6 c H' p (λl=>match l with | .rows=>some (.ref a) | .line=>some ln | .scope=>some sc | .begun=>some (.int 0) | .named=>some .non | .held=>some .non | _=>none)->Q .non H'
def spNext (T:Tx P w K mg):Sp:=λvs H Q _=>∃ (c:Kd) (p:Addr) (s:Sf),vs=[.ref p]/\FAt T c H p s/\(s.place=s.rows.length->Q .non H)/\(∀ v,s.rows[s.place]?=some v->∀ H',But p H H'->FAt T c H' p { s with place:=s.place+1 }->Q v H')
def spAnew (T:Tx P w K mg):Sp:=λvs H Q _=>∃ (c:Kd) (p a:Addr) (s:Sf) (xs:List V),vs=[.ref p,.ref a]/\FAt T c H p s/\H a=some (.tup xs)/\xs.length<=10/\∀ H',But p H H'->FAt T c H' p { s with ra:=a,rows:=xs,place:=0 }->Q .non H'
def spHides (T:Tx P w K mg) (c:Kd):Sp:=λvs H Q _=>∃ (p:Addr) (s:Sf),vs=[.ref p]/\FAt T c H p s/\Q (.bl (hidesF c s)) H
def spOver (T:Tx P w K mg) (c:Kd):Sp:=λvs H Q _=>∃ (p:Addr) (s:Sf),vs=[.ref p]/\FAt T c H p s/\∀ H',But p H H'->FAt T c H' p (overS c s)->Q (.str (overF c s)) H'
def spMeets (T:Tx P w K mg) (c:Kd):Sp:=λvs H Q _=>∃ (p t:Addr) (s:Sf) (g:Sig),vs=[.ref p,.ref t]/\FAt T c H p s/\SigAt H t g/\(c=.limited->∃ n,s.sc=.int n)/\∀ H',Same H H'->Q (.str (meetsF c s g)) H'
def spClean (T:Tx P w K mg):Sp:=λvs H Q _=>∃ (p:Addr) (s:Sf) (v:V),vs=[.ref p,v]/\FAt T .cleaned H p s/\∀ H',But p H H'->FAt T .cleaned H' p { s with ra:=s.oa,rows:=s.others,place:=0,cleaning:=true,held:=v }->Q .non H'
def haltS (s:Sf) (a t:Addr) (g:Sig):Sf:={ s with ra:=a,rows:=[],place:=0,held:=(match g with | .strike _=>.ref t | .faults _ _=>.non) }
def cleanS (s:Sf) (v:V):Sf:={ s with ra:=s.oa,rows:=s.others,place:=0,cleaning:=true,held:=v }
def spTell (T:Tx P w K mg):Sp:=λvs H Q _=>∃ (p a:Addr) (s:Sf) (xs:List V),vs=[.ref p,.ref a]/\FAt T .grouped H p s/\H a=some (.tup xs)/\∀ H',But p H H'->FAt T .grouped H' p { s with told:=.ref a }->Q .non H'
def spHalt (T:Tx P w K mg):Sp:=λvs H Q _=>∃ (p t:Addr) (s:Sf) (g:Sig),vs=[.ref p,.ref t]/\FAt T .grouped H p s/\SigAt H t g/\∀ H' a,(∀ c o,c≠p->H c=some o->H' c=some o)->FAt T .grouped H' p { s with ra:=a,rows:=[],place:=0,held:=(match g with | .strike _=>.ref t | .faults _ _=>.non) }->Q .non H'
theorem FAt.mt {T:Tx P w K mg} {c:Kd} {H:Hp} {p:Addr} {s:Sf} (F:FAt T c H p s) {m:Str} (hm:∀ l:Fl,l.name≠m) {N:Prop} (k:N):∃ (x:Addr) (x_1:List (Str×V)),H p=some (.ins (T.C c) x x_1)/\List.lookup m x_1=none/\N:=by
 obtain ⟨dx,fs,h1,_,_,h4⟩:=F.fr.ex
 exact ⟨dx,fs,h1,h4 m hm,k⟩
theorem nf_anew:∀ l:Fl,l.name≠"begin_anew":=by intro l;cases l<;>decide +kernel
theorem nf_next:∀ l:Fl,l.name≠"next_row":=by intro l;cases l<;>decide +kernel
theorem nf_hides:∀ l:Fl,l.name≠"hides":=by intro l;cases l<;>decide +kernel
theorem nf_over:∀ l:Fl,l.name≠"over":=by intro l;cases l<;>decide +kernel
theorem nf_meets:∀ l:Fl,l.name≠"meets":=by intro l;cases l<;>decide +kernel
theorem nf_clean:∀ l:Fl,l.name≠"clean":=by intro l;cases l<;>decide +kernel
theorem FAt.re {T:Tx P w K mg} {c:Kd} {H:Hp} {p:Addr} {s s':Sf} (F:FAt T c H p s) {l:Fl} {y:V} {N:Hp->Prop} {σ:St} {i:Nat} (hσ:σ[i]?=some (some (.ref p))) (hg:gOf c s l≠none) (e:setG (gOf c s) l y=gOf c s')
  (h1:H s'.ra=some (.tup s'.rows)) (h2:H s'.oa=some (.tup s'.others)) (h3:s'.place<=s'.rows.length) (h4:s'.rows.length<=10) (h5:s'.others.length<=10) (k:∀ H2,But p H H2->FAt T c H2 p s'->N H2):stG K i l y N σ H :=
 F.fr.re (by decide) hσ hg λH2 b2 F2=>k H2 b2 ⟨by rw [<- e];exact F2,F.but b2 h1,F.but b2 h2,h3,h4,h5⟩
theorem cut_from (xs:List V) (n:Nat):cutV xs (some (n:Nat)) none=xs.drop n:=by
 unfold cutV
 rw [HT.sIx_none,HT.sIx_nat,List.take_of_length_le (by rw [List.length_drop];omega)]
 by_cases h:n<=xs.length
 ·rw [Nat.min_eq_left h]
 ·rw [Nat.min_eq_right (by omega),List.drop_eq_nil_of_le (by omega),List.drop_eq_nil_of_le (by omega)]
theorem slFrom {K:PySem.W.Frag} {G:Hp} {a:Addr} {xs:List V} {n:Nat} {R:VK} (h:G a=some (.tup xs)) (k:∀ q G',Same G G'->G' q=some (.tup (xs.drop n))->R (.ref q) G'):rSlTW K (.ref a) (some (n:Nat)) none G R:=by
 refine ⟨a,xs,rfl,SqT.of h,λhw=>?_,λhw q hq=>?_⟩
 ·rw [HT.sIx_none,HT.sIx_nat] at hw
  refine k a G (Same.refl G) ?_
  rw [h]
  have:n=0\/xs=[]:=by
   by_cases e:xs=[]
   ·exact .inr e
   ·have:0<xs.length:=List.length_pos_iff.mpr e
    left;omega
  rcases this with e | e
  ·rw [e];rfl
  ·rw [e];simp
 ·refine k q _ (Same.upd hq) ?_
  rw [upd_same,cut_from]
def newS (c:Kd) (s:Sf):Prop:=s.place=0/\s.held=.non/\(c≠.grouped->s.named=.non)/\(c=.rounds\/c=.tried\/c=.cleaned->s.sc=.non)/\(c=.cleaned->s.cleaning=false)/\(c=.grouped->s.told=.non)
def argsI (c:Kd) (s:Sf):List V :=
 match c with
 |.rounds=>[.ref s.ra,.int s.line,.int (s.left+1)]
 |.tried=>[.ref s.ra,.int s.line,.str s.fault,.ref s.oa]
 |.cleaned=>[.ref s.ra,.int s.line,.ref s.oa]
 |.limited=>[.ref s.ra,.int s.line,s.sc,.ref s.oa]
 |.grouped=>[.ref s.ra,.int s.line,s.sc,s.named]
 |_=>[.ref s.ra,.int s.line,s.sc]
def spI (T:Tx P w K mg) (c:Kd):Sp:=λvs H Q _=>∃ (p:Addr) (s:Sf),vs=.ref p::argsI c s/\newS c s/\FrAt T 0 c H p (λ_=>none)/\H s.ra=some (.tup s.rows)/\H s.oa=some (.tup s.others)/\s.rows.length<=10/\s.others.length<=10/\∀ H',But p H H'->FAt T c H' p s->Q .non H'
theorem FrAt.tup {T:Tx P w K mg} {n:Nat} {c:Kd} {H H':Hp} {p a:Addr} {g:Fl->Option V} {xs:List V} (F:FrAt T n c H p g) (b:But p H H') (h:H a=some (.tup xs)):H' a=some (.tup xs):=by
 obtain ⟨dx,fs,h1,_⟩:=F.ex
 exact b.tup h1 h
theorem mk_new {T:Tx P w K mg} {c:Kd} {H:Hp} {x dx:Addr} (nx:H x=none) (ndx:H dx=none) (nex:dx≠x):FrAt T 0 c (upd (upd H dx (.own x)) x (.ins (T.C c) dx [])) x (λ_=>none)/\Same H (upd (upd H dx (.own x)) x (.ins (T.C c) dx [])) :=
 ⟨.new upd_same,(Same.upd ndx).trans (Same.upd (by rw [upd_ne (Ne.symm nex)];exact nx))⟩
theorem same_new {H H1 H':Hp} {x:Addr} (nx:H x=none) (s:Same H H1) (b:But x H1 H'):Same H H':=λc o e=>b c o (ne_of_none e nx) (s c o e)
def behindF (c:Kd) (s:Sf):List V :=
 if c=.rounds/\0<s.left then s.rows
 else if c=.tried\/c=.limited\/(c=.cleaned/\s.cleaning=false) then s.rows.drop s.place++s.others
 else s.rows.drop s.place
def spRest (T:Tx P w K mg):Sp:=λvs H Q _=>∃ (c:Kd) (p:Addr) (s:Sf),vs=[.ref p]/\FAt T c H p s/\∀ l H',H l=none->Same H H'->H' l=some (.lst (s.rows.drop s.place))->Q (.ref l) H'
def spBehind (T:Tx P w K mg) (c:Kd):Sp:=λvs H Q _=>∃ (p:Addr) (s:Sf),vs=[.ref p]/\FAt T c H p s/\∀ l H',H l=none->Same H H'->H' l=some (.lst (behindF c s))->Q (.ref l) H'
theorem nf_rest:∀ l:Fl,l.name≠"rest":=by intro l;cases l<;>decide +kernel
theorem nf_behind:∀ l:Fl,l.name≠"behind":=by intro l;cases l<;>decide +kernel
theorem behind_len {c:Kd} {s:Sf} (h1:s.rows.length<=10) (h2:s.others.length<=10):(behindF c s).length<=20:=by
 unfold behindF
 split
 ·omega
 ·split
  ·rw [List.length_append,List.length_drop];omega
  ·rw [List.length_drop];omega
theorem neSame {K:PySem.W.Frag} {H:Hp} {a b:Addr} {xs:List V} {R:VK} (ha:H a=some (.lst xs)) (hb:H b=some (.lst xs)) (h:∀ x∈xs,x=.non\/∃ r,x=V.ref r) (k:R (.bl false) H):rEqL K true (.ref a) (.ref b) H R:=by
 refine ⟨a,b,_,_,0,λ_=>true,rfl,rfl,SqL.of ha,SqL.of hb,by decide,λi x y ex ey=>?_,?_⟩
 ·rw [ex] at ey
  cases ey
  rcases h x (List.mem_of_getElem? ex) with rfl | ⟨r,rfl⟩
  ·exact .flat rfl rfl
  ·exact .same
 ·have e:((List.range xs.length).all λ_=>true)=true:=by rw [List.all_eq_true];intros;rfl
  rw [e,decide_eq_true rfl]
  exact k


inductive Ml where
 |frames | lastS | values | given | marks | signal | struck | want | ending
deriving DecidableEq
def Ml.name:Ml->Str
 |.frames=>"frames" | .lastS=>"last_scope" | .values=>"named_values" | .given=>"given" | .marks=>"marks" | .signal=>"signal" | .struck=>"struck" | .want=>"want" | .ending=>"ending"
def Ml.ix:Ml->Fin 9
 |.frames=>0 | .lastS=>1 | .values=>2 | .given=>3 | .marks=>4 | .signal=>5 | .struck=>6 | .want=>7 | .ending=>8
def MLS:List Ml:=[.frames,.lastS,.values,.given,.marks,.signal,.struck,.want,.ending]
theorem mls_nd:(MLS.map Ml.name).Nodup:=by decide +kernel
theorem mls_all (l:Ml):MLS[l.ix.val]?=some l:=by cases l<;>rfl
theorem mname_inj (a b:Ml) (h:a.name=b.name):a=b:=by
 have ha:=mls_all a
 have hb:=mls_all b
 have e1:(MLS.map Ml.name)[a.ix.val]?=some a.name:=by rw [List.getElem?_map,ha];rfl
 have e2:(MLS.map Ml.name)[b.ix.val]?=some a.name:=by rw [List.getElem?_map,hb,h];rfl
 have l1:=(List.getElem?_eq_some_iff.mp e1).1
 have e:=(List.getElem?_inj l1 mls_nd).mp (e1.trans e2.symm)
 rw [e] at ha
 exact Option.some.inj (ha.symm.trans hb)
theorem Tx.nm (T:Tx P w K mg) (l:Ml):NoAttr K T.C_Machine l.name:=match l with
 |.frames=>T.n_Machine_frames | .lastS=>T.n_Machine_last_scope | .values=>T.n_Machine_named_values | .given=>T.n_Machine_given | .marks=>T.n_Machine_marks | .signal=>T.n_Machine_signal | .struck=>T.n_Machine_struck | .want=>T.n_Machine_want | .ending=>T.n_Machine_ending
def setM (g:Ml->Option V) (l:Ml) (v:V):Ml->Option V:=λx=>if x=l then some v else g x
structure ObAt (T:Tx P w K mg) (n:Nat) (H:Hp) (p:Addr) (g:Ml->Option V):Prop where
 ex:∃ dx fs,H p=some (.ins (T.C_Machine) dx fs)/\fs.length<=n/\(∀ l:Ml,fs.lookup l.name=g l)/\∀ m:Str,(∀ l:Ml,l.name≠m)->fs.lookup m=none
theorem ObAt.same {T:Tx P w K mg} {n:Nat} {H H':Hp} {p:Addr} {g:Ml->Option V} (F:ObAt T n H p g) (s:Same H H'):ObAt T n H' p g:=by
 obtain ⟨dx,fs,h1,h2⟩:=F.ex
 exact ⟨dx,fs,s _ _ h1,h2⟩
theorem ObAt.new {T:Tx P w K mg} {H:Hp} {p dx:Addr} (h:H p=some (.ins (T.C_Machine) dx [])):ObAt T 0 H p (λ_=>none):=⟨dx,[],h,Nat.le_refl _,λ_=>rfl,λ_ _=>rfl⟩
theorem ObAt.fld {T:Tx P w K mg} {n:Nat} {H:Hp} {p:Addr} {g:Ml->Option V} (F:ObAt T n H p g) {l:Ml} {v:V} {σ:St} {i:Nat} {R:VK} (hσ:σ[i]?=some (some (.ref p))) (e:g l=some v) (k:R v H):tFld K (tVar i) l.name σ H R:=by
 obtain ⟨dx,fs,h1,_,h3,_⟩:=F.ex
 exact ⟨_,hσ,p,_,dx,fs,v,rfl,h1,T.k_Machine,T.nm l,(h3 l).trans e,k⟩
theorem ObAt.put {T:Tx P w K mg} {n:Nat} {H:Hp} {p:Addr} {g:Ml->Option V} (F:ObAt T n H p g) (l:Ml) (v:V):∃ dx fs,H p=some (.ins (T.C_Machine) dx fs)/\fs.length<=n /\
  ObAt T (n+1) (upd H p (.ins (T.C_Machine) dx (putF l.name v fs))) p (setM g l v)/\(g l≠none->ObAt T n (upd H p (.ins (T.C_Machine) dx (putF l.name v fs))) p (setM g l v)):=by
 obtain ⟨dx,fs,h1,h2,h3,h4⟩:=F.ex
 have q1:∀ x:Ml,(putF l.name v fs).lookup x.name=setM g l v x:=λx=>by
  rw [lookup_putF]
  unfold setM
  by_cases e:x=l
  ·rw [if_pos (by rw [e]),if_pos e]
  ·rw [if_neg (λz=>e (mname_inj _ _ z)),if_neg e,h3]
 have q2:∀ m:Str,(∀ l:Ml,l.name≠m)->(putF l.name v fs).lookup m=none:=λm hm=>by
  rw [lookup_putF,if_neg (Ne.symm (hm l)),h4 m hm]
 refine ⟨dx,fs,h1,h2,⟨dx,_,upd_same,?_,q1,q2⟩,λhg=>⟨dx,_,upd_same,?_,q1,q2⟩⟩
 ·have:=length_putF l.name v fs;omega
 ·rw [len_putF_old (by rw [h3];exact hg)];exact h2
def mtG (K:PySem.W.Frag) (i:Nat) (l:Ml) (y:V) (N:Hp->Prop) (σ:St) (H:Hp):Prop:=tVar i σ H λx H2=>∃ a C dx fs,x=.ref a/\H2 a=some (.ins C dx fs)/\Cls K C/\NoAttr K C l.name/\fs.length<1000/\N (upd H2 a (.ins C dx (putF l.name y fs)))
theorem ObAt.st {T:Tx P w K mg} {n:Nat} {H:Hp} {p:Addr} {g:Ml->Option V} (F:ObAt T n H p g) {l:Ml} {y:V} {N:Hp->Prop} {σ:St} {i:Nat} (hσ:σ[i]?=some (some (.ref p))) (k:∀ H2,But p H H2->ObAt T (n+1) H2 p (setM g l y)->N H2) (hn:n<900:=by decide):mtG K i l y N σ H:=by
 obtain ⟨dx,fs,h1,h2,h3,_⟩:=F.put l y
 exact ⟨_,hσ,p,_,dx,fs,rfl,h1,T.k_Machine,T.nm l,by omega,k _ (λb o nb e=>by rw [upd_ne nb];exact e) h3⟩
theorem ObAt.re {T:Tx P w K mg} {n:Nat} {H:Hp} {p:Addr} {g:Ml->Option V} (F:ObAt T n H p g) {l:Ml} {y:V} {N:Hp->Prop} {σ:St} {i:Nat} (hσ:σ[i]?=some (some (.ref p))) (hg:g l≠none) (k:∀ H2,But p H H2->ObAt T n H2 p (setM g l y)->N H2) (hn:n<900:=by decide):mtG K i l y N σ H:=by
 obtain ⟨dx,fs,h1,h2,_,h3⟩:=F.put l y
 exact ⟨_,hσ,p,_,dx,fs,rfl,h1,T.k_Machine,T.nm l,by omega,k _ (λb o nb e=>by rw [upd_ne nb];exact e) (h3 hg)⟩
theorem noml {z:Str} (h:(MLS.map Ml.name).contains z=false) (l:Ml):l.name≠z:=λe=>by
 have m:l.name∈MLS.map Ml.name:=List.mem_map.mpr ⟨l,List.mem_of_getElem? (mls_all l),rfl⟩
 rw [e] at m
 rw [List.contains_eq_mem,decide_eq_true m] at h
 cases h
theorem ObAt.call {T:Tx P w K mg} {n:Nat} {H:Hp} {p:Addr} {g:Ml->Option V} (F:ObAt T n H p g) {z:Str} {A:Prop} (k:A) (h:(MLS.map Ml.name).contains z=false:=by decide +kernel):∃ x y,H p=some (.ins (T.C_Machine) x y)/\y.lookup z=none/\A:=by
 obtain ⟨dx,fs,h1,_,_,h4⟩:=F.ex
 exact ⟨dx,fs,h1,h4 z (noml h),k⟩
set_option genInjectivity false in
structure Mc where
 fl:Addr
 nv:Addr
 mr:Addr
 ls:Int
 gv:V
 sg:V
 st:Bool
 wt:V
 en:V
def Mc.g (m:Mc):Ml->Option V
 |.frames=>some (.ref m.fl) | .lastS=>some (.int m.ls) | .values=>some (.ref m.nv) | .given=>some m.gv | .marks=>some (.ref m.mr) | .signal=>some m.sg | .struck=>some (.bl m.st) | .want=>some m.wt | .ending=>some m.en
set_option genInjectivity false in
structure Fm where
 a:Addr
 c:Kd
 s:Sf
structure MAt (T:Tx P w K mg) (H:Hp) (p:Addr) (stk:List Fm) (kv mk:List (Key×V)) (m:Mc):Prop where
 ob:ObAt T 9 H p m.g
 fl:H m.fl=some (.lst (stk.map λx=>V.ref x.a))
 fr:∀ x∈stk,FAt T x.c H x.a x.s
 nd:(p::stk.map (·.a)).Nodup
 nv:H m.nv=some (.dK kv)
 mr:H m.mr=some (.dK mk)
 ne:m.nv≠m.mr
 sc:∀ x∈stk,x.s.sc=.non\/∃ i,x.s.sc=.int i
theorem MAt.same {T:Tx P w K mg} {H H':Hp} {p:Addr} {stk:List Fm} {kv mk:List (Key×V)} {m:Mc} (M:MAt T H p stk kv mk m) (s:Same H H'):MAt T H' p stk kv mk m :=
 ⟨M.ob.same s,s _ _ M.fl,λx hx=>(M.fr x hx).same s,M.nd,s _ _ M.nv,s _ _ M.mr,M.ne,M.sc⟩
def inM (mk:List (Key×V)):V->Bool
 |.int i=>(valV mk (Sum.inl i:Key)).isSome
 |_=>false
def targR (mk:List (Key×V)):List Fm->V->V
 |[],found=>found
 |x::r,found=>if hidesF x.c x.s=true then found else targR mk r (if inM mk x.s.sc=true then x.s.sc else found)
def spTarget (T:Tx P w K mg):Sp:=λvs H Q _=>∃ (p:Addr) (stk:List Fm) (kv mk:List (Key×V)) (m:Mc),vs=[.ref p]/\MAt T H p stk kv mk m/\Q (targR mk stk.reverse .non) H
def spWaiting (T:Tx P w K mg):Sp:=λvs H Q _=>∃ (p:Addr) (m:Mc),vs=[.ref p]/\ObAt T 9 H p m.g/\Q m.wt H
theorem FAt.off {T:Tx P w K mg} {c:Kd} {H H':Hp} {a p C dx:Addr} {fs:List (Str×V)} {s:Sf} (F:FAt T c H a s) (b:But p H H') (n:a≠p) (hp:H p=some (.ins C dx fs)):FAt T c H' a s:=by
 obtain ⟨dy,gs,h1,h2⟩:=F.fr.ex
 exact ⟨⟨dy,gs,b _ _ n h1,h2⟩,b.tup hp F.rs,b.tup hp F.os,F.pl,F.rl,F.ol⟩
theorem MAt.byP {T:Tx P w K mg} {H H':Hp} {p:Addr} {stk:List Fm} {kv mk:List (Key×V)} {m m':Mc} (M:MAt T H p stk kv mk m) (b:But p H H') (ob:ObAt T 9 H' p m'.g) (e1:m'.fl=m.fl) (e2:m'.nv=m.nv) (e3:m'.mr=m.mr):MAt T H' p stk kv mk m':=by
 obtain ⟨dx,fs,h1,_⟩:=M.ob.ex
 refine ⟨ob,?_,λx hx=>(M.fr x hx).off b (λz=>(List.nodup_cons.mp M.nd).1 (z▸List.mem_map.mpr ⟨x,hx,rfl⟩)) h1,M.nd,?_,?_,?_,M.sc⟩
 ·rw [e1];exact b _ _ (ne_of M.fl h1 (λz=>nomatch z)) M.fl
 ·rw [e2];exact b _ _ (ne_of M.nv h1 (λz=>nomatch z)) M.nv
 ·rw [e3];exact b _ _ (ne_of M.mr h1 (λz=>nomatch z)) M.mr
 ·rw [e2,e3];exact M.ne
theorem g_wt (m:Mc) (v:V):setM m.g .want v={ m with wt:=v }.g:=by funext l;cases l<;>rfl
theorem g_sg (m:Mc) (v:V):setM m.g .signal v={ m with sg:=v }.g:=by funext l;cases l<;>rfl
theorem g_en (m:Mc) (v:V):setM m.g .ending v={ m with en:=v }.g:=by funext l;cases l<;>rfl
theorem g_fl (m:Mc) (l:Addr):setM m.g .frames (.ref l)={ m with fl:=l }.g:=by funext x;cases x<;>rfl
def spWaitAt (T:Tx P w K mg):Sp:=λvs H Q _=>∃ (p:Addr) (stk:List Fm) (kv mk:List (Key×V)) (m:Mc) (q:Addr),vs=[.ref p,.ref q]/\MAt T H p stk kv mk m /\
 (targR mk stk.reverse .non=.non->∀ H',But p H H'->MAt T H' p stk kv mk { m with wt:=.ref q }->Q (.ref q) H') /\
 (∀ i,targR mk stk.reverse .non=.int i->∀ H' t,But p H H'->H' t=some (.tup [.str "strike",.int i])->MAt T H' p stk kv mk { m with sg:=.ref t }->Q .non H')
theorem targ_is {T:Tx P w K mg} {H:Hp} {p:Addr} {stk:List Fm} {kv mk:List (Key×V)} {m:Mc} (M:MAt T H p stk kv mk m):targR mk stk.reverse .non=.non\/∃ i,targR mk stk.reverse .non=.int i:=by
 have:∀ (l:List Fm) (fd:V),(∀ x∈l,x∈stk)->(fd=.non\/∃ i,fd=.int i)->targR mk l fd=.non\/∃ i,targR mk l fd=.int i:=by
  intro l
  induction l with
  |nil=>exact λfd _ h=>h
  |cons x r ih =>
   intro fd hl h
   show (if hidesF x.c x.s=true then fd else targR mk r (if inM mk x.s.sc=true then x.s.sc else fd))=.non\/∃ i,(if hidesF x.c x.s=true then fd else targR mk r (if inM mk x.s.sc=true then x.s.sc else fd))=.int i
   by_cases c:hidesF x.c x.s=true
   ·rw [if_pos c];exact h
   ·rw [if_neg c]
    refine ih _ (λy hy=>hl y (List.mem_cons_of_mem _ hy)) ?_
    by_cases c2:inM mk x.s.sc=true
    ·rw [if_pos c2];exact M.sc x (hl x List.mem_cons_self)
    ·rw [if_neg c2];exact h
 exact this _ _ (λx hx=>List.mem_reverse.mp hx) (.inl rfl)
theorem MAt.byR {T:Tx P w K mg} {H:Hp} {p:Addr} {stk:List Fm} {kv mk mk':List (Key×V)} {m:Mc} (M:MAt T H p stk kv mk m):MAt T (upd H m.mr (.dK mk')) p stk kv mk' m:=by
 obtain ⟨dx,fs,h1,h3⟩:=M.ob.ex
 refine ⟨⟨dx,fs,by rw [upd_ne (ne_of h1 M.mr (λz=>nomatch z))];exact h1,h3⟩,by rw [upd_ne (ne_of M.fl M.mr (λz=>nomatch z))];exact M.fl,λx hx=>?_,M.nd,by rw [upd_ne M.ne];exact M.nv,upd_same,M.ne,M.sc⟩
 have F:=M.fr x hx
 obtain ⟨dy,gs,h2,h4⟩:=F.fr.ex
 exact ⟨⟨dy,gs,by rw [upd_ne (ne_of h2 M.mr (λz=>nomatch z))];exact h2,h4⟩,by rw [upd_ne (ne_of F.rs M.mr (λz=>nomatch z))];exact F.rs,by rw [upd_ne (ne_of F.os M.mr (λz=>nomatch z))];exact F.os,F.pl,F.rl,F.ol⟩
def leaveF (mk:List (Key×V)) (v:V):List (Key×V):=match v with
 |.int i=>dropK mk (Sum.inl i)
 |_=>mk
theorem leave_no {mk:List (Key×V)} {i:Int} (h:(valV mk (Sum.inl i:Key)).isSome=false):dropK mk (Sum.inl i)=mk:=by
 have h:valV mk (Sum.inl i:Key)=none:=by
  cases e:valV mk (Sum.inl i:Key) with
  |none=>rfl
  |some v=>rw [e] at h;cases h
 have hn:=valV_not h
 unfold dropK
 exact List.filter_eq_self.mpr λx hx=>decide_eq_true λe=>hn (List.mem_map.mpr ⟨x,hx,e⟩)
def spLeaveIn (T:Tx P w K mg):Sp:=λvs H Q _=>∃ (p:Addr) (stk:List Fm) (x:Fm) (kv mk:List (Key×V)) (m:Mc),vs=[.ref p]/\MAt T H p (stk++[x]) kv mk m /\
 ∀ H',(∀ c o,c≠m.fl->c≠m.mr->H c=some o->H' c=some o)->MAt T H' p stk kv (leaveF mk x.s.sc) m->Q .non H'
theorem MAt.byL {T:Tx P w K mg} {H:Hp} {p:Addr} {stk stk':List Fm} {kv mk:List (Key×V)} {m:Mc} (M:MAt T H p stk kv mk m) (hf:∀ x∈stk',FAt T x.c H x.a x.s) (hn:(p::stk'.map (·.a)).Nodup) (hs:∀ x∈stk',x.s.sc=.non\/∃ i,x.s.sc=.int i):MAt T (upd H m.fl (.lst (stk'.map λx=>V.ref x.a))) p stk' kv mk m:=by
 obtain ⟨dx,fs,h1,h3⟩:=M.ob.ex
 refine ⟨⟨dx,fs,by rw [upd_ne (ne_of h1 M.fl (λz=>nomatch z))];exact h1,h3⟩,upd_same,λx hx=>?_,hn,by rw [upd_ne (ne_of M.nv M.fl (λz=>nomatch z))];exact M.nv,by rw [upd_ne (ne_of M.mr M.fl (λz=>nomatch z))];exact M.mr,M.ne,hs⟩
 have F:=hf x hx
 obtain ⟨dy,gs,h2,h4⟩:=F.fr.ex
 exact ⟨⟨dy,gs,by rw [upd_ne (ne_of h2 M.fl (λz=>nomatch z))];exact h2,h4⟩,by rw [upd_ne (ne_of F.rs M.fl (λz=>nomatch z))];exact F.rs,by rw [upd_ne (ne_of F.os M.fl (λz=>nomatch z))];exact F.os,F.pl,F.rl,F.ol⟩
theorem MAt.pop {T:Tx P w K mg} {H:Hp} {p:Addr} {stk:List Fm} {x:Fm} {kv mk:List (Key×V)} {m:Mc} (M:MAt T H p (stk++[x]) kv mk m):MAt T (upd H m.fl (.lst (stk.map λx=>V.ref x.a))) p stk kv mk m:=by
 refine M.byL (λy hy=>M.fr y (List.mem_append_left _ hy)) ?_ (λy hy=>M.sc y (List.mem_append_left _ hy))
 refine M.nd.sublist (List.Sublist.cons₂ _ ?_)
 rw [List.map_append]
 exact List.sublist_append_left _ _
theorem MAt.push {T:Tx P w K mg} {H H1:Hp} {p:Addr} {stk:List Fm} {x:Fm} {kv mk:List (Key×V)} {m:Mc} (M:MAt T H p stk kv mk m) (s:Same H H1) (ha:H x.a=none) (F:FAt T x.c H1 x.a x.s) (hs:x.s.sc=.non\/∃ i,x.s.sc=.int i):MAt T (upd H1 m.fl (.lst ((stk++[x]).map λx=>V.ref x.a))) p (stk++[x]) kv mk m:=by
 have M1:=M.same s
 refine M1.byL (λy hy=>?_) ?_ (λy hy=>?_)
 ·rcases List.mem_append.mp hy with q | q
  ·exact M1.fr y q
  ·rw [List.mem_singleton.mp q];exact F
 ·obtain ⟨_,_,hp,_⟩:=M.ob.ex
  have hn:=List.nodup_cons.mp M.nd
  rw [List.map_append,List.nodup_cons]
  refine ⟨λz=>?_,?_⟩
  ·rcases List.mem_append.mp z with q | q
   ·exact hn.1 q
   ·have e:p=x.a:=by simpa using q
    rw [e,ha] at hp;cases hp
  ·rw [List.nodup_append]
   refine ⟨hn.2,by simp,λy hy z hz e=>?_⟩
   have ez:z=x.a:=by simpa using hz
   obtain ⟨w,hw,rfl⟩:=List.mem_map.mp hy
   obtain ⟨_,_,q,_⟩:=(M.fr w hw).fr.ex
   rw [e,ez,ha] at q
   cases q
 ·rcases List.mem_append.mp hy with q | q
  ·exact M.sc y q
  ·rw [List.mem_singleton.mp q];exact hs
theorem nf_tell:∀ l:Fl,l.name≠"tell_joined":=by intro l;cases l<;>decide +kernel
theorem nf_halt:∀ l:Fl,l.name≠"halt":=by intro l;cases l<;>decide +kernel
theorem g_ls (m:Mc) (v:Int):setM m.g .lastS (.int v)={ m with ls:=v }.g:=by funext l;cases l<;>rfl
def faultsOf:Sig->List V
 |.strike _=>[]
 |.faults a r=>.str a::r.map V.str
def spHaltAt (T:Tx P w K mg):Sp:=λvs H Q _=>∃ (p x t:Addr) (m:Mc) (s:Sf) (g:Sig),vs=[.ref p,.ref x,.ref t]/\ObAt T 9 H p m.g/\p≠x/\FAt T .grouped H x s/\SigAt H t g /\
 ∀ H' w u a,(∀ c o,c≠p->c≠x->H c=some o->H' c=some o)->H' w=some (.tup [.str "halt",.int s.line,s.sc,.ref u])->H' u=some (.tup (faultsOf g))->FAt T .grouped H' x (haltS s a t g)->ObAt T 9 H' p { m with wt:=.ref w }.g->Q (.ref w) H'
def grpS (ln:Int) (ra:Addr) (rows:List V) (sc:Int) (nm:V):Sf:={ line:=ln,ra:=ra,rows:=rows,oa:=ra,others:=rows,sc:=.int sc,place:=0,left:=0,fault:="",cleaning:=false,named:=nm,held:=.non,told:=.non }
def limS (ln:Int) (ra:Addr) (rows:List V) (oa:Addr) (others:List V) (sc:Int):Sf:={ line:=ln,ra:=ra,rows:=rows,oa:=oa,others:=others,sc:=.int sc,place:=0,left:=0,fault:="",cleaning:=false,named:=.non,held:=.non,told:=.non }
def spEnter (T:Tx P w K mg):Sp:=λvs H Q _=>∃ (p q:Addr) (stk:List Fm) (kv mk:List (Key×V)) (m:Mc),vs=[.ref p,.ref q]/\MAt T H p stk kv mk m/\stk.length<=100 /\
  ((∃ (ln:Int) (nm:Str) (ra:Addr) (rows:List V),H q=some (.tup [.str "group",.int ln,.str nm,.ref ra])/\H ra=some (.tup rows)/\rows.length<=10 /\
    ∀ a t H',(∀ c o,c≠p->c≠m.fl->H c=some o->H' c=some o)->H a=none->H' t=some (.tup [.str "group",.int ln,.int (m.ls+1)])->MAt T H' p (stk++[⟨a,.grouped,grpS ln ra rows (m.ls+1) (.str nm)⟩]) kv mk { m with ls:=m.ls+1 }->Q (.ref t) H') \/
   ∃ (ln n:Int) (ra oa:Addr) (rows others:List V),H q=some (.tup [.str "limit",.int ln,.int n,.ref ra,.ref oa])/\H ra=some (.tup rows)/\H oa=some (.tup others)/\rows.length<=10/\others.length<=10 /\
    ∀ a t H',(∀ c o,c≠p->c≠m.fl->H c=some o->H' c=some o)->H a=none->H' t=some (.tup [.str "limit",.int ln,.int (m.ls+1),.int n])->MAt T H' p (stk++[⟨a,.limited,limS ln ra rows oa others (m.ls+1)⟩]) kv mk { m with ls:=m.ls+1 }->Q (.ref t) H')

structure NewQ (H:Hp) (s:Sf):Prop where
 pl:s.place=0
 hd:s.held=.non
 nm:s.named=.non
 sc:s.sc=.non
 cl:s.cleaning=false
 tl:s.told=.non
 rs:H s.ra=some (.tup s.rows)
 os:H s.oa=some (.tup s.others)
 rl:s.rows.length<=10
 ol:s.others.length<=10
theorem pushed {T:Tx P w K mg} {H H2:Hp} {p x:Addr} {stk:List Fm} {kv mk:List (Key×V)} {m:Mc} {c:Kd} {s:Sf} {Q:VK} (M:MAt T H p stk kv mk m) (hl:stk.length<=100) (nx:H x=none) (s2:Same H H2) (F2:FAt T c H2 x s) (hs:s.sc=.non\/∃ i,s.sc=.int i)
  (k:∀ a H',(∀ c o,c≠m.fl->H c=some o->H' c=some o)->H a=none->MAt T H' p (stk++[⟨a,c,s⟩]) kv mk m->Q .non H'):rAppend (.ref m.fl) [.ref x] H2 λ_ H1=>Q .non H1:=by
 refine ⟨m.fl,_,_,rfl,rfl,s2 _ _ M.fl,by rw [List.length_map];exact small1000 (by omega),?_⟩
 have M3:=M.push (x:=⟨x,c,s⟩) s2 nx F2 hs
 have e:(stk++[(⟨x,c,s⟩:Fm)]).map (λx=>V.ref x.a)=stk.map (λx=>V.ref x.a)++[V.ref x]:=by simp
 rw [e] at M3
 exact k x _ (λc o n h=>by rw [upd_ne n];exact s2 c o h) nx M3
theorem frm_of {T:Tx P w K mg} {c:Kd} {H:Hp} {x:Addr} {s:Sf} (hc:c=.frame\/c=.kept) (N:NewQ H s) (F:FrAt T 6 c H x (λl=>match l with | .rows=>some (.ref s.ra) | .line=>some (.int s.line) | .scope=>some .non | .begun=>some (.int 0) | .named=>some .non | .held=>some .non | _=>none)):FAt T c H x s:=by
 refine ⟨?_,N.rs,N.os,by rw [N.pl];exact Nat.zero_le _,N.rl,N.ol⟩
 have F:=F.mono (m:=11) (by decide)
 refine cast ?_ F
 congr 1
 funext l
 have e1:=N.pl
 have e2:=N.hd
 have e3:=N.nm
 have e4:=N.sc
 rcases hc with rfl | rfl<;>cases l<;>simp [gOf,e1,e2,e3,e4]

theorem atI_last (l:List V) (v:V):atI (l++[v]) (-1)=some v:=by
 unfold atI ixN
 rw [if_neg (by decide),if_pos (by rw [List.length_append];show -((l.length+1:Nat):Int)<=-1;omega)]
 have e:(-1+((l++[v]).length:Int)).toNat=l.length:=by rw [List.length_append];show (-1+((l.length+1:Nat):Int)).toNat=l.length;omega
 simp only [e]
 simp
theorem MAt.byX {T:Tx P w K mg} {H H':Hp} {p:Addr} {stk:List Fm} {x:Fm} {kv mk:List (Key×V)} {m:Mc} {s':Sf} (M:MAt T H p (stk++[x]) kv mk m) (b:But x.a H H') (F':FAt T x.c H' x.a s') (hs:s'.sc=x.s.sc):MAt T H' p (stk++[⟨x.a,x.c,s'⟩]) kv mk m:=by
 have hx:x∈stk++[x]:=List.mem_append_right _ List.mem_cons_self
 obtain ⟨dx,fs,h1,h3⟩:=M.ob.ex
 obtain ⟨_,_,hX,_⟩:=(M.fr x hx).fr.ex
 have hn:=List.nodup_cons.mp M.nd
 have hn2:=hn.2
 rw [List.map_append,List.nodup_append] at hn2
 have nx:∀ y∈stk,y.a≠x.a:=λy hy e=>hn2.2.2 y.a (List.mem_map.mpr ⟨y,hy,rfl⟩) x.a (by simp) e
 have np:p≠x.a:=λe=>hn.1 (by rw [List.map_append];exact List.mem_append_right _ (by simp [e]))
 refine ⟨⟨dx,fs,b _ _ np h1,h3⟩,?_,λy hy=>?_,?_,b _ _ (ne_of M.nv hX (λz=>nomatch z)) M.nv,b _ _ (ne_of M.mr hX (λz=>nomatch z)) M.mr,M.ne,λy hy=>?_⟩
 ·have:=b _ _ (ne_of M.fl hX (λz=>nomatch z)) M.fl
  rw [this];simp
 ·rcases List.mem_append.mp hy with q | q
  ·exact (M.fr y (List.mem_append_left _ q)).off b (nx y q) hX
  ·rw [List.mem_singleton.mp q];exact F'
 ·have:=M.nd
  simpa using this
 ·rcases List.mem_append.mp hy with q | q
  ·exact M.sc y (List.mem_append_left _ q)
  ·rw [List.mem_singleton.mp q]
   show s'.sc=.non\/_
   rw [hs];exact M.sc x hx

def Kn (f r:Addr) (H H':Hp):Prop:=∀ c o,c≠f->c≠r->(∀ C dx fs,o≠.ins C dx fs)->H c=some o->H' c=some o
theorem Kn.two {f r:Addr} {H H':Hp} (b:∀ c o,c≠f->c≠r->H c=some o->H' c=some o):Kn f r H H':=λc o n1 n2 _ h=>b c o n1 n2 h
theorem MAt.byPX {T:Tx P w K mg} {H H':Hp} {p:Addr} {stk:List Fm} {x:Fm} {kv mk:List (Key×V)} {m m':Mc} {s':Sf} (M:MAt T H p (stk++[x]) kv mk m) (b:∀ c o,c≠p->c≠x.a->H c=some o->H' c=some o) (F':FAt T x.c H' x.a s') (hs:s'.sc=x.s.sc) (ob:ObAt T 9 H' p m'.g) (e1:m'.fl=m.fl) (e2:m'.nv=m.nv) (e3:m'.mr=m.mr):MAt T H' p (stk++[⟨x.a,x.c,s'⟩]) kv mk m':=by
 have hx:x∈stk++[x]:=List.mem_append_right _ List.mem_cons_self
 obtain ⟨dx,fs,h1,h3⟩:=M.ob.ex
 obtain ⟨_,_,hX,_⟩:=(M.fr x hx).fr.ex
 have hn:=List.nodup_cons.mp M.nd
 have hn2:=hn.2
 rw [List.map_append,List.nodup_append] at hn2
 have nx:∀ y∈stk,y.a≠x.a:=λy hy e=>hn2.2.2 y.a (List.mem_map.mpr ⟨y,hy,rfl⟩) x.a (by simp) e
 have np:∀ y∈stk,y.a≠p:=λy hy e=>hn.1 (e▸List.mem_map.mpr ⟨y,List.mem_append_left _ hy,rfl⟩)
 have bb:∀ {c o},(∀ C dx fs,o≠.ins C dx fs)->H c=some o->H' c=some o:=λ{c o} n h=>b c o (ne_of h h1 (n _ _ _)) (ne_of h hX (n _ _ _)) h
 refine ⟨ob,?_,λy hy=>?_,?_,?_,?_,?_,λy hy=>?_⟩
 ·have q:H' m.fl=some (.lst _):=bb (λ_ _ _ z=>nomatch z) M.fl
  rw [e1,q];simp
 ·rcases List.mem_append.mp hy with q | q
  ·have F:=M.fr y (List.mem_append_left _ q)
   obtain ⟨dy,gs,g1,g2⟩:=F.fr.ex
   exact ⟨⟨dy,gs,b _ _ (np y q) (nx y q) g1,g2⟩,bb (λ_ _ _ z=>nomatch z) F.rs,bb (λ_ _ _ z=>nomatch z) F.os,F.pl,F.rl,F.ol⟩
  ·rw [List.mem_singleton.mp q];exact F'
 ·have:=M.nd
  simpa using this
 ·rw [e2];exact bb (λ_ _ _ z=>nomatch z) M.nv
 ·rw [e3];exact bb (λ_ _ _ z=>nomatch z) M.mr
 ·rw [e2,e3];exact M.ne
 ·rcases List.mem_append.mp hy with q | q
  ·exact M.sc y (List.mem_append_left _ q)
  ·rw [List.mem_singleton.mp q]
   show s'.sc=.non\/_
   rw [hs];exact M.sc x hx
def plainS (s:Sf):Sf:={ line:=s.line,ra:=s.oa,rows:=s.others,oa:=s.oa,others:=s.others,sc:=.non,place:=0,left:=0,fault:="",cleaning:=false,named:=.non,held:=.non,told:=.non }
theorem meets5 (c:Kd) (s:Sf) (g:Sig):meetsF c s g="out"\/(meetsF c s g="clean"/\c=.cleaned)\/(meetsF c s g="halt"/\c=.grouped)\/(meetsF c s g="late"/\c=.limited)\/(meetsF c s g="caught"/\c=.tried/\∃ a r,g=.faults a r):=by
 cases c with
 |cleaned =>
  show (if s.cleaning=true then ("out":Str) else "clean")="out"\/((if s.cleaning=true then ("out":Str) else "clean")="clean"/\_)\/_
  by_cases h:s.cleaning=true
  ·rw [if_pos h];exact .inl rfl
  ·rw [if_neg h];exact .inr (.inl ⟨rfl,rfl⟩)
 |grouped=>exact .inr (.inr (.inl ⟨rfl,rfl⟩))
 |limited =>
  cases g with
  |strike n =>
   by_cases h:s.sc=.int n
   ·refine .inr (.inr (.inr (.inl ⟨?_,rfl⟩)))
    show (if s.sc=.int n then ("late":Str) else "out")="late"
    rw [if_pos h]
   ·refine .inl ?_
    show (if s.sc=.int n then ("late":Str) else "out")="out"
    rw [if_neg h]
  |faults a r=>exact .inl rfl
 |tried =>
  cases g with
  |strike n=>exact .inl rfl
  |faults a r =>
   by_cases h:s.fault="any"\/s.fault=a
   ·refine .inr (.inr (.inr (.inr ⟨?_,rfl,a,r,rfl⟩)))
    show (if s.fault="any"\/s.fault=a then ("caught":Str) else "out")="caught"
    rw [if_pos h]
   ·refine .inl ?_
    show (if s.fault="any"\/s.fault=a then ("caught":Str) else "out")="out"
    rw [if_neg h]
 |_=>exact .inl rfl
theorem while_hold {c:TT} {tb:TS} {D:Ends} {σ:St} {H:Hp} (Po:St->Hp->Prop) (hr:∀ σ' H',Po σ' H'->D.nx σ' H') (h:∀ U:St->Hp->Prop,(∀ σ' H',Po σ' H'->U σ' H')->tWhile c tb { D with nx:=U } σ H):tWhile c tb D σ H:=h D.nx hr
def spJoined (T:Tx P w K mg):Sp:=λvs H Q _=>∃ (p a:Addr) (stk:List Fm) (x:Fm) (kv mk:List (Key×V)) (m:Mc) (xs:List V),vs=[.ref p,.ref a]/\MAt T H p (stk++[x]) kv mk m/\x.c=.grouped/\H a=some (.tup xs)/\∀ H',(∀ c o,c≠p->c≠x.a->H c=some o->H' c=some o)->MAt T H' p (stk++[⟨x.a,x.c,{ x.s with told:=.ref a }⟩]) kv mk { m with wt:=.non }->Q .non H'
def rootS (a:Addr) (rows:List V):Sf:={ line:=0,ra:=a,rows:=rows,oa:=a,others:=rows,sc:=.int 0,place:=0,left:=0,fault:="",cleaning:=false,named:=.non,held:=.non,told:=.non }
def spMInit (T:Tx P w K mg):Sp:=λvs H Q _=>∃ (p a:Addr) (rows:List V),vs=[.ref p,.ref a]/\ObAt T 0 H p (λ_=>none)/\H a=some (.tup rows)/\rows.length<=10 /\
 ∀ H' f m,But p H H'->MAt T H' p [⟨f,.frame,rootS a rows⟩] [] [] m->m.ls=0->m.sg=.non->m.wt=.non->m.st=false->m.en=.non->H f=none->H m.fl=none->H m.nv=none->H m.mr=none->Q .non H'


def spParts:Sp:=λvs H Q _=>∃ (a:Addr) (xs:List V) (RS:V->List Pr->Prop) (m:List Pr),vs=[.ref a]/\H a=some (.tup xs)/\Prt RS xs m/\∀ (p:Addr) (H':Hp),H p=none->H' p=some (.tup (rowParts xs))->Same H H'->Q (.ref p) H'
structure Seq (H:Hp) (tp:Bool) (a:Addr) (xs:List V) (n:Nat) (ms:List (List Pr)):Prop where
 at_:H a=some (if tp=true then .tup xs else .lst xs)
 len:xs.length<=20
 rows:All2 (RowM H n) xs ms
theorem Seq.same {H H':Hp} {tp:Bool} {a:Addr} {xs:List V} {n:Nat} {ms:List (List Pr)} (S:Seq H tp a xs n ms) (s:Same H H'):Seq H' tp a xs n ms:=⟨s _ _ S.at_,S.len,rows_kt (.of s) S.rows⟩
theorem Seq.sq {K:PySem.W.Frag} {H:Hp} {tp:Bool} {a:Addr} {xs:List V} {n:Nat} {ms:List (List Pr)} (S:Seq H tp a xs n ms):SqE K tp H a xs:=by
 have:=S.at_
 unfold SqE
 cases tp with
 |true=>rw [if_pos rfl];exact SqT.of this
 |false=>rw [if_neg Bool.false_ne_true];exact SqL.of this
def spWalk (n:Nat):Sp:=λvs H Q _=>∃ (tp:Bool) (a:Addr) (xs:List V) (ms:List (List Pr)),vs=[.ref a]/\Seq H tp a xs n ms/\n<=5 /\
 ∀ (l:Addr) (H':Hp) (ws:List V),H l=none->H' l=some (.lst ws)->WL H' ws ms.flatten->ws.length<=xs.length*(1+2*cn n)->Same H H'->Q (.ref l) H'
def spNo:Sp:=λ_ _ _ _=>False
def spDown:Nat->Sp
 |0=>spNo
 |n+1=>spWalk n
theorem fn_no {f:Addr} {fd:FuncData} {ps:List Str} {k:Nat}:FnOk P w K mg base CX0 k f fd ps spNo:=⟨λ_ _ _ _ h=>h.elim,λ_ _ _ _ _ _ _ _ _ _ _ _ _ h=>h.elim⟩
structure PrL (H:Hp) (l:Addr) (ks:List Pr):Prop where
 ex:∃ ps:List Addr,H l=some (.lst (ps.map V.ref))/\PrA H ps ks
theorem pra_same {H H':Hp} {ps:List Addr} {ks:List Pr} (h:PrA H ps ks) (s:Same H H'):PrA H' ps ks:=⟨h.1,λi p k a b=>s _ _ (h.2 i p k a b)⟩
theorem pra_kt {H H':Hp} {ps:List Addr} {ks:List Pr} (h:PrA H ps ks) (s:KT H H'):PrA H' ps ks:=⟨h.1,λi p k a b=>s _ _ (h.2 i p k a b)⟩
theorem pra_nil (H:Hp):PrA H [] []:=⟨rfl,λi p k a b=>by cases a⟩
theorem pra_app {H:Hp} {ps qs:List Addr} {ks js:List Pr} (h:PrA H ps ks) (g:PrA H qs js):PrA H (ps++qs) (ks++js):=by
 refine ⟨by rw [List.length_append,List.length_append,h.1,g.1],λi p k a b=>?_⟩
 by_cases e:i<ps.length
 ·rw [List.getElem?_append_left e] at a
  rw [List.getElem?_append_left (by rw [<- h.1];exact e)] at b
  exact h.2 i p k a b
 ·rw [List.getElem?_append_right (by omega)] at a
  rw [List.getElem?_append_right (by rw [<- h.1];omega),<- h.1] at b
  exact g.2 _ p k a b
theorem pra_one {H:Hp} {p:Addr} {k:Pr} (h:H p=some (.tup [.str k.1,.str k.2])):PrA H [p] [k]:=by
 refine ⟨rfl,λi q j a b=>?_⟩
 cases i with
 |zero=>cases a;cases b;exact h
 |succ i=>cases a
def spMightOf (n:Nat):Sp:=λvs H Q _=>∃ (tp:Bool) (a:Addr) (xs:List V) (ms:List (List Pr)),vs=[.ref a]/\Seq H tp a xs n ms/\n<=5 /\
 ∀ (l:Addr) (H':Hp) (ps:List Addr),H l=none->H' l=some (.lst (ps.map V.ref))->PrA H' ps ms.flatten->ps.length<=186620->Same H H'->Q (.ref l) H'
theorem Own.len {xs:List V} {o:List Pr} (h:Own xs o):o.length<=1:=by
 cases h with
 |ring=>exact Nat.le_refl _
 |begin=>exact Nat.le_refl _
 |none=>exact Nat.zero_le _
def spLMight (n:Nat):Sp:=λvs H Q _=>∃ (v:V) (m:List Pr),vs=[v]/\RowsM H n v m/\n<=6 /\
 ∀ (l:Addr) (H':Hp) (ps:List Addr),H l=none->H' l=some (.lst (ps.map V.ref))->PrA H' ps m->ps.length<=cn n->Same H H'->Q (.ref l) H'
def SgOk (H:Hp) (v:V):Prop:=v=.non\/∃ t a,v=.ref t/\SigAt H t (.faults a [])
theorem SigAt.kt {H H':Hp} {t:Addr} {g:Sig} (h:SigAt H t g) (s:KT H H'):SigAt H' t g:=by
 cases g with
 |strike n=>exact s _ _ h
 |faults a r =>
  obtain ⟨u,h1,h2⟩:=h
  exact ⟨u,s _ _ h1,s _ _ h2⟩
theorem SgOk.kt {H H':Hp} {v:V} (h:SgOk H v) (s:KT H H'):SgOk H' v:=by
 rcases h with e | ⟨t,a,e,h⟩
 ·exact .inl e
 ·exact .inr ⟨t,a,e,h.kt s⟩
def nsM (c:Kd) (s:Sf) (mr mo:List (List Pr)):List (List Pr) :=
 if c=.rounds/\0<s.left then mr
 else if c=.tried\/c=.limited\/(c=.cleaned/\s.cleaning=false) then mr.drop s.place++mo
 else mr.drop s.place
structure GdF (H:Hp) (S:Pr->Prop) (x:Fm):Prop where
 might:∃ mr mo,All2 (RowM H 5) x.s.rows mr/\All2 (RowM H 5) x.s.others mo/\∀ k∈(nsM x.c x.s mr mo).flatten,S k
 held:SgOk H x.s.held
 sc:x.c=.limited\/x.c=.grouped->∃ n,x.s.sc=.int n
 told:x.s.told=.non\/∃ a,x.s.told=.ref a/\H a=some (.tup [])
 named:x.s.named=.non\/∃ z,x.s.named=.str z
 gh:x.c=.grouped->x.s.held=.non
theorem GdF.kt {H H':Hp} {S:Pr->Prop} {x:Fm} (G:GdF H S x) (k:KT H H'):GdF H' S x:=by
 obtain ⟨mr,mo,h1,h2,h3⟩:=G.might
 refine ⟨⟨mr,mo,rows_kt k h1,rows_kt k h2,h3⟩,G.held.kt k,G.sc,?_,G.named,G.gh⟩
 rcases G.told with e | ⟨a,e,h⟩
 ·exact .inl e
 ·exact .inr ⟨a,e,k _ _ h⟩
structure Gd (T:Tx P w K mg) (H:Hp) (p:Addr) (S:Pr->Prop) (N:Nat) (stk:List Fm) (kv:List (Key×V)) (m:Mc):Prop where
 at_:MAt T H p stk kv [] m
 fr:∀ x∈stk,GdF H S x
 ne:stk≠[]
 ln:stk.length<=N
 kl:kv.length<=N
 kv:∀ k v,valV kv k=some v->Val v
 sg:SgOk H m.sg
 st:m.st=false
 bt:∀ y,stk.head?=some y->y.c=.frame
def K3 (m:Mc) (H H':Hp):Prop:=∀ c o,c≠m.fl->c≠m.nv->c≠m.mr->(∀ C dx fs,o≠.ins C dx fs)->H c=some o->H' c=some o
theorem K3.of {m:Mc} {H H':Hp} (s:Same H H'):K3 m H H':=λc o _ _ _ _ h=>s c o h
theorem K3.refl (m:Mc) (H:Hp):K3 m H H:=λc o _ _ _ _ h=>h
theorem K3.trans {m:Mc} {H H1 H2:Hp} (a:K3 m H H1) (b:K3 m H1 H2):K3 m H H2:=λc o n1 n2 n3 e h=>b c o n1 n2 n3 e (a c o n1 n2 n3 e h)
theorem K3.kn {m:Mc} {H H':Hp} (k:Kn m.fl m.mr H H'):K3 m H H':=λc o n1 _ n3 e h=>k c o n1 n3 e h
theorem K3.but {m:Mc} {p C dx:Addr} {fs:List (Str×V)} {H H':Hp} (b:But p H H') (hp:H p=some (.ins C dx fs)):K3 m H H':=λc o _ _ _ e h=>b c o (ne_of h hp (e _ _ _)) h
theorem K3.two {m:Mc} {p x C dx C' dx':Addr} {fs fs':List (Str×V)} {H H':Hp} (b:∀ c o,c≠p->c≠x->H c=some o->H' c=some o) (hp:H p=some (.ins C dx fs)) (hx:H x=some (.ins C' dx' fs')):K3 m H H':=λc o _ _ _ e h=>b c o (ne_of h hp (e _ _ _)) (ne_of h hx (e _ _ _)) h
theorem K3.pf {m:Mc} {p C dx:Addr} {fs:List (Str×V)} {H H':Hp} (b:∀ c o,c≠p->c≠m.fl->H c=some o->H' c=some o) (hp:H p=some (.ins C dx fs)):K3 m H H':=λc o n1 _ _ e h=>b c o (ne_of h hp (e _ _ _)) n1 h
theorem K3.fl {m:Mc} {H H':Hp} (b:∀ c o,c≠m.fl->H c=some o->H' c=some o):K3 m H H':=λc o n1 _ _ _ h=>b c o n1 h
theorem K3.kt {T:Tx P w K mg} {p:Addr} {stk:List Fm} {kv mk:List (Key×V)} {m:Mc} {H H':Hp} (k:K3 m H H') (M:MAt T H p stk kv mk m):KT H H':=λa xs h=>k a _ (ne_of h M.fl (λz=>nomatch z)) (ne_of h M.nv (λz=>nomatch z)) (ne_of h M.mr (λz=>nomatch z)) (λ_ _ _ z=>nomatch z) h
def Wt (z:Str) (r:List V):Prop:=(z≠"take"/\z≠"ask")\/∃ (ln b:V) (x:Str),r=[ln,b,.str x]
structure Res (T:Tx P w K mg) (p:Addr) (S:Pr->Prop) (N:Nat) (m:Mc) (H H':Hp) (v:V):Prop where
  ex:∃ t z r m',v=.ref t/\H' t=some (.tup (.str z::r))/\K3 m H H' /\
    ((z="ended"/\ObAt T 9 H' p m'.g/\H' m'.fl=some (.lst [])) \/
     (z≠"ended"/\∃ stk kv,Gd T H' p S N stk kv m'/\m'.fl=m.fl/\m'.nv=m.nv/\m'.mr=m.mr /\
       (((z="join"\/z="halt")/\∃ b x,stk=b++[x]/\x.c=.grouped)\/(z≠"join"/\z≠"halt"/\(m'.wt=.non\/(m'.wt=.ref t/\Wt z r))))))
theorem Res.pre {T:Tx P w K mg} {p:Addr} {S:Pr->Prop} {N:Nat} {m m1:Mc} {H H1 H':Hp} {v:V} (R:Res T p S N m1 H1 H' v) (k:K3 m H H1) (e1:m1.fl=m.fl) (e2:m1.nv=m.nv) (e3:m1.mr=m.mr):Res T p S N m H H' v:=by
 obtain ⟨t,z,r,m',e,ht,k1,h⟩:=R.ex
 have k1':K3 m H1 H':=λc o n1 n2 n3=>k1 c o (by rw [e1];exact n1) (by rw [e2];exact n2) (by rw [e3];exact n3)
 refine ⟨t,z,r,m',e,ht,k.trans k1',?_⟩
 rcases h with h | ⟨h0,stk,kv,G,f1,f2,f3,h⟩
 ·exact .inl h
 ·exact .inr ⟨h0,stk,kv,G,f1.trans e1,f2.trans e2,f3.trans e3,h⟩
def spValueOf (T:Tx P w K mg):Sp:=λvs H Q _=>∃ (p:Addr) (m:Mc) (v:V) (kv:List (Key×V)),vs=[.ref p,v]/\ObAt T 9 H p m.g/\H m.nv=some (.dK kv)/\(∀ k v,valV kv k=some v->Val v)/\Val v/\∀ u,Val u->Q u H
def spIsName:Sp:=λvs H Q _=>∃ v:V,vs=[v]/\Val v/\∀ b:Bool,(b=true->∃ z,v=.str z)->Q (.bl b) H
def spGroupS (T:Tx P w K mg):Sp:=λvs H Q _=>∃ (p:Addr) (z:Str) (S:Pr->Prop) (N:Nat) (stk:List Fm) (kv:List (Key×V)) (m:Mc),vs=[.ref p,.str z]/\Gd T H p S N stk kv m/\∀ v,(v=.non\/∃ n,v=.int n)->Q v H
def spBegClean (T:Tx P w K mg):Sp:=λvs H Q _=>∃ (p:Addr) (v:V) (x:Addr) (s:Sf),vs=[.ref p,.ref x,v]/\FAt T .cleaned H x s/\∀ H' t,But x H H'->FAt T .cleaned H' x (cleanS s v)->H' t=some (.tup [.str "clean",.int s.line])->Q (.ref t) H'
def spEndWith (T:Tx P w K mg):Sp:=λvs H Q _=>∃ (p:Addr) (m:Mc) (q:Addr),vs=[.ref p,.ref q]/\ObAt T 9 H p m.g /\
 ∀ H' t l,But p H H'->ObAt T 9 H' p { m with fl:=l,en:=.ref q }.g->H' l=some (.lst [])->H' t=some (.tup [.str "ended",.int 0,.ref q])->Q (.ref t) H'
def spGo (T:Tx P w K mg):Sp:=λvs H Q _=>∃ (p:Addr) (i:Int) (S:Pr->Prop) (N:Nat) (stk:List Fm) (kv:List (Key×V)) (m:Mc) (t:Addr) (z:Str) (r:List V),vs=[.ref p,.int i]/\Gd T H p S N stk kv m/\N<=100/\m.wt=.ref t/\H t=some (.tup (.str z::r))/\Wt z r /\
 ∀ H' kv',K3 m H H'->Gd T H' p S (N+1) stk kv' { m with wt:=.non }->Q .non H'
def spQuiet (T:Tx P w K mg):Sp:=λvs H Q _=>∃ (p q:Addr) (S:Pr->Prop) (N:Nat) (stk:List Fm) (kv:List (Key×V)) (m:Mc) (z:Str) (r:List V) (mm:List Pr),vs=[.ref p,.ref q]/\Gd T H p S N stk kv m/\N<=90/\H q=some (.tup (.str z::r))/\Shp (RowsM H 5) (.str z::r) mm/\(∀ k∈mm,S k)/\z∈QL /\
 ∀ H' stk' kv',K3 m H H'->Gd T H' p S (N+1) stk' kv' m->Q .non H'
def spDoRow (T:Tx P w K mg):Sp:=λvs H Q _=>∃ (p q:Addr) (S:Pr->Prop) (N:Nat) (stk:List Fm) (kv:List (Key×V)) (m:Mc) (mm:List Pr),vs=[.ref p,.ref q]/\Gd T H p S N stk kv m/\N<=90/\m.sg=.non/\m.wt=.non/\RowM H 5 (.ref q) mm/\(∀ k∈mm,S k) /\
 ∀ v H',v≠.non->Res T p S (N+1) m H H' v->Q v H'
def mz (stk:List Fm):Nat:=(stk.map λx=>x.s.left.toNat+1).sum
def spGoOn (T:Tx P w K mg):Sp:=λvs H Q _=>∃ (p:Addr) (S:Pr->Prop) (N:Nat) (stk:List Fm) (kv:List (Key×V)) (m:Mc),vs=[.ref p]/\Gd T H p S N stk kv m/\N<=90/\m.sg=.non/\m.wt=.non /\
 (∀ v H',v≠.non->Res T p S (N+1) m H H' v->Q v H') /\
 ∀ H' stk' m',K3 m H H'->Gd T H' p S N stk' kv m'->mz stk'<mz stk->m'.wt=.non->m'.fl=m.fl->m'.nv=m.nv->m'.mr=m.mr->Q .non H'
def spSendOut (T:Tx P w K mg):Sp:=λvs H Q _=>∃ (p:Addr) (S:Pr->Prop) (N:Nat) (stk:List Fm) (kv:List (Key×V)) (m:Mc),vs=[.ref p]/\Gd T H p S N stk kv m/\N<=90/\m.sg≠.non/\m.wt=.non /\
 ∀ v H',v≠.non->Res T p S (N+1) m H H' v->Q v H'
def spStep (T:Tx P w K mg):Sp:=λvs H Q _=>∃ (p:Addr) (S:Pr->Prop) (N:Nat) (stk:List Fm) (kv:List (Key×V)) (m:Mc),vs=[.ref p]/\Gd T H p S N stk kv m/\N<=90/\m.wt=.non /\
 ∀ v H',v≠.non->Res T p S (N+1) m H H' v->Q v H'
structure LvA (T:Tx P w K mg) (H:Hp) (p:Addr) (stk:List Fm) (x:Fm) (kv:List (Key×V)) (m:Mc) (Q:VK):Prop where
 k:∀ H' t,K3 m H H'->H' t=some (.tup [.str "left",.int x.s.line,x.s.sc])->MAt T H' p stk kv [] m->Q (.ref t) H'
def spLeaveG (T:Tx P w K mg):Sp:=λvs H Q _=>∃ (p:Addr) (stk:List Fm) (x:Fm) (kv:List (Key×V)) (m:Mc) (a:Addr),vs=[.ref p,.ref x.a]/\MAt T H p (stk++[x]) kv [] m/\x.c=.grouped/\x.s.told=.ref a/\H a=some (.tup [])/\x.s.held=.non/\m.sg=.non/\LvA T H p stk x kv m Q
def BhF (H:Hp) (x:Fm) (ms:List Pr):Prop:=∃ ns,All2 (RowM H 5) (behindF x.c x.s) ns/\ms=ns.flatten
theorem behind_ns {H:Hp} {c:Kd} {s:Sf} {mr mo:List (List Pr)} (h1:All2 (RowM H 5) s.rows mr) (h2:All2 (RowM H 5) s.others mo):All2 (RowM H 5) (behindF c s) (nsM c s mr mo):=by
 unfold behindF nsM
 split
 ·exact h1
 ·split
  ·exact (h1.drop _).app h2
  ·exact h1.drop _
def spMight (T:Tx P w K mg):Sp:=λvs H Q _=>∃ (p:Addr) (stk:List Fm) (m:Mc) (mss:List (List Pr)),vs=[.ref p]/\ObAt T 9 H p m.g/\H m.fl=some (.lst (stk.map λx=>V.ref x.a))/\(∀ x∈stk,FAt T x.c H x.a x.s)/\All2 (BhF H) stk mss/\stk.length<=45 /\
 ∀ (l:Addr) (H':Hp) (qs:List Addr),H l=none->H' l=some (.lst (qs.map V.ref))->PrA H' qs (UU.filter λk=>decide (k∈mss.flatten))->Same H H'->Q (.ref l) H'
theorem uu_ok:UOk UU:=⟨by decide,by decide,by decide +kernel,by decide +kernel,by decide +kernel,by decide +kernel,by decide +kernel⟩
theorem flat_snoc {ms:List (List Pr)} {i:Nat} {m:List Pr} (h:ms[i]?=some m):(ms.take (i+1)).flatten=(ms.take i).flatten++m:=by
 rw [List.take_succ,h,List.flatten_append]
 simp
theorem WL.one {H:Hp} {q:Addr} {xs:List V} {o:List Pr} (h:H q=some (.tup xs)) (ho:Own xs o):WL H [.ref q] o:=by
 have:=WL.cons h ho .nil
 rw [List.append_nil] at this
 exact this
theorem ws_le {a b c n N:Nat} (h:n<=5) (ha:a<=20) (h1:b<=a*(1+2*cn n)) (hc:c<=1+2*cn n):b+c<=200000:=by
 have h5:cn n<=4665:=by
  have:n=0\/n=1\/n=2\/n=3\/n=4\/n=5:=by omega
  rcases this with rfl | rfl | rfl | rfl | rfl | rfl<;>decide +kernel
 have:a*(1+2*cn n)<=20*9331:=Nat.mul_le_mul ha (by omega)
 omega
theorem WL.all {H:Hp}:∀ {l:List V} {m:List Pr},WL H l m->∃ os,All2 (λv o=>∃ q xs,v=V.ref q/\H q=some (.tup xs)/\Own xs o) l os/\m=os.flatten
 |_,_,.nil=>⟨[],.nil,rfl⟩
 |_,_,.cons a b c=>by
  obtain ⟨os,h,e⟩:=c.all
  exact ⟨_::os,.cons ⟨_,_,rfl,a,b⟩ h,by rw [List.flatten_cons,e]⟩
theorem in2F {z a b:Str} (h1:z≠a) (h2:z≠b):inV (.str z) [.str a,.str b]=false:=by
 have e:∀ x y:Str,x≠y->eqV (.str x) (.str y)=false:=λx y h=>by
  show (x == y)=false
  exact beq_eq_false_iff_ne.mpr h
 simp [inV,e _ _ (Ne.symm h1),e _ _ (Ne.symm h2)]
theorem Own.split {xs:List V} {o:List Pr} (h:Own xs o):∃ z r oa ob,xs=.str z::r/\o=oa++ob/\(((z="ring"\/z="send")/\∃ ln y r',r=ln::.str y::r'/\oa=[(z,y)])\/(z≠"ring"/\z≠"send"/\oa=[]))/\((z="begin"/\∃ ln x y r',r=ln::x::.str y::r'/\ob=[(z,y)])\/(z≠"begin"/\ob=[])):=by
 cases h with
 |@ring z y ln r hz=>exact ⟨z,_,[(z,y)],[],rfl,rfl,.inl ⟨hz,ln,y,r,rfl,rfl⟩,.inr ⟨by rcases hz with rfl | rfl<;>decide +kernel,rfl⟩⟩
 |@begin y ln x r=>exact ⟨"begin",_,[],[("begin",y)],rfl,rfl,.inr ⟨by decide +kernel,by decide +kernel,rfl⟩,.inl ⟨rfl,ln,x,y,r,rfl,rfl⟩⟩
 |@none z r n1 n2 n3=>exact ⟨z,r,[],[],rfl,rfl,.inr ⟨n1,n2,rfl⟩,.inr ⟨n3,rfl⟩⟩
theorem TL.all {RS:V->List Pr->Prop}:∀ {l:List V} {m:List Pr},TL RS l m->∃ ns,All2 (λv n=>(flatV v=true/\n=[])\/∃ a,v=V.ref a/\RS v n) l ns/\m=ns.flatten
 |_,_,.nil=>⟨[],.nil,rfl⟩
 |_,_,.flat a c=>by
  obtain ⟨ns,h,e⟩:=c.all
  exact ⟨[]::ns,.cons (.inl ⟨a,rfl⟩) h,by rw [List.flatten_cons,e];rfl⟩
 |_,_,.part a c=>by
  obtain ⟨ns,h,e⟩:=c.all
  exact ⟨_::ns,.cons (.inr ⟨_,rfl,a⟩) h,by rw [List.flatten_cons,e]⟩
theorem shp_len {RS:V->List Pr->Prop} {xs:List V} {m:List Pr} {c:Nat} (h:∀ v m,RS v m->m.length<=c) (s:Shp RS xs m):m.length<=1+2*c:=by
 obtain ⟨z,ln,r,o,m',rfl,_,_,ho,_,em,ms,hms,e⟩:=s.prt.ex
 have l1:=ho.len
 have l2:=flat_le (ms:=ms) (c:=c) λm hm=>by
  obtain ⟨v,_,hv⟩:=hms.mem m hm
  exact h _ _ hv
 have l3:=rowParts_le (V.str z::.int ln::r)
 rw [hms.len] at l3
 have:ms.length*c<=2*c:=Nat.mul_le_mul l3 (Nat.le_refl _)
 rw [em,List.length_append,e]
 omega
theorem RowsM.len {H:Hp}:∀ {n:Nat} {v:V} {m:List Pr},RowsM H n v m->m.length<=cn n
 |0,_,_,h=>h.elim
 |n+1,v,m,h=>by
  obtain ⟨a,vs,ms,e,ha,hl,hm,em⟩:=h
  have l2:=flat_le (ms:=ms) (c:=1+2*cn n) λm hm'=>by
   obtain ⟨v,_,q,xs,_,_,s⟩:=hm.mem m hm'
   exact shp_len (λ_ _ h=>RowsM.len h) s
  rw [hm.len] at hl
  rw [em]
  exact Nat.le_trans l2 (Nat.mul_le_mul hl (Nat.le_refl _))
theorem RowM.len {H:Hp} {n:Nat} {v:V} {m:List Pr} (h:RowM H n v m):m.length<=1+2*cn n:=by
 obtain ⟨q,xs,_,_,s⟩:=h
 exact shp_len (λ_ _ h=>h.len) s
theorem take_le {ms:List (List Pr)} {c i:Nat} (h:∀ m∈ms,m.length<=c):(ms.take i).flatten.length<=i*c:=by
 have:=flat_le (ms:=ms.take i) (c:=c) λm hm=>h m (List.mem_of_mem_take hm)
 have h2:(ms.take i).length*c<=i*c:=Nat.mul_le_mul (List.length_take_le _ _) (Nat.le_refl _)
 omega
structure LM (H:Hp) (lf:Addr) (G:Hp) (ks:List Pr):Prop where
 fr:H lf=none
 ex:∃ ps:List Addr,G lf=some (.lst (ps.map V.ref))/\PrA G ps ks
 sm:Same H G
theorem LM.same {H G G':Hp} {lf:Addr} {ks:List Pr} (L:LM H lf G ks) (s:Same G G'):LM H lf G' ks:=by
 obtain ⟨ps,h1,h2⟩:=L.ex
 exact ⟨L.fr,⟨ps,s _ _ h1,pra_same h2 s⟩,L.sm.trans s⟩
theorem LM.push {H G:Hp} {lf t:Addr} {ks:List Pr} {k:Pr} {R:VK} (L:LM H lf G ks) (ht:G t=some (.tup [.str k.1,.str k.2])) (hl:ks.length<100000) (q:∀ G',LM H lf G' (ks++[k])->(∀ c o,c≠lf->G c=some o->G' c=some o)->R .non G'):rAppend (.ref lf) [.ref t] G R:=by
 obtain ⟨ps,h1,h2⟩:=L.ex
 have kt:KT G (upd G lf (.lst (ps.map V.ref++[.ref t]))):=λa' xs' h'=>by rw [upd_ne (ne_of h' h1 (λz=>nomatch z))];exact h'
 refine ⟨lf,_,_,rfl,rfl,h1,?_,q _ ⟨L.fr,⟨ps++[t],by rw [upd_same,List.map_append];rfl,pra_kt (pra_app h2 (pra_one ht)) kt⟩,same_set L.sm L.fr⟩ λc o n e=>by rw [upd_ne n];exact e⟩
 rw [List.length_map,h2.1]
 exact Nat.lt_trans hl (by decide)
theorem for_sl {K:PySem.W.Frag} {q:Addr} {xs:List V} {g:TG} {tb:TS} {D:Ends} {σ:St} {G:Hp} {i:Nat} (hσ:σ[i]?=some (some (.ref q))) (h:G q=some (.tup xs)) (k:∀ sq G1,Same G G1->G1 sq=some (.tup (xs.drop 2))->∃ W:Nat->Nat->St->Hp->Prop,(∃ m,W 0 m σ G1)/\∀ i m σ H,W i m σ H ->
   ((Itt K sq).stop i H/\D.nx σ H)\/((Itt K sq).go i H/\∃ N:St->Hp->Prop,(∀ σ' H',N σ' H'->∃ m',m'<m/\W (i+1) m' σ' H')/\∀ x H',(Itt K sq).yld i H x H'->g x σ H' λσ2 H2=>tb { D with nx:=N,ct:=N,bk:=D.nx } σ2 H2)) :
  tFor (iTup K (tSl (rSlTW K) (tVar i) (tPart (tC (.int 2))) tNoPart)) g tb D σ G:=by
 refine ⟨_,hσ,(2:Nat),rfl,?_⟩
 exact slFrom (K:=K) (a:=q) (xs:=xs) (n:=2) (G:=G) (R:=λx H1=>∃ a,x=V.ref a/\(∃ xs,SqT K H1 a xs)/\∃ W:Nat->Nat->St->Hp->Prop,(∃ m,W 0 m σ H1)/\∀ i m σ H,W i m σ H ->
   ((Itt K a).stop i H/\D.nx σ H)\/((Itt K a).go i H/\∃ N:St->Hp->Prop,(∀ σ' H',N σ' H'->∃ m',m'<m/\W (i+1) m' σ' H')/\∀ x H',(Itt K a).yld i H x H'->g x σ H' λσ2 H2=>tb { D with nx:=N,ct:=N,bk:=D.nx } σ2 H2)) h λsq G1 s1 h1=>⟨sq,rfl,⟨_,SqT.of h1⟩,k sq G1 s1 h1⟩
theorem flat_ty {K:PySem.W.Frag} {H:Hp} {v:V} (h:flatV v=true):∃ ty,TyOf K H v ty/\PySem.W.kitOne K ty (Value.type "tuple")=some false:=by
 cases v with
 |non=>exact ⟨_,.non,rfl⟩
 |bl x=>exact ⟨_,.bl x,rfl⟩
 |int x=>exact ⟨_,.int x,rfl⟩
 |str x=>exact ⟨_,.str x,rfl⟩
 |_=>cases h
theorem fl_drop {ms:List (List Pr)} {n:Nat} {k:Pr} (h:k∈(ms.drop n).flatten):k∈ms.flatten:=by
 obtain ⟨m,hm,hk⟩:=List.mem_flatten.mp h
 exact List.mem_flatten.mpr ⟨m,List.mem_of_mem_drop hm,hk⟩
theorem fl_next {ms:List (List Pr)} {n:Nat} {k:Pr} (h:k∈(ms.drop (n+1)).flatten):k∈(ms.drop n).flatten:=by
 obtain ⟨m,hm,hk⟩:=List.mem_flatten.mp h
 rw [<- List.drop_drop] at hm
 first
  |exact List.mem_flatten.mpr ⟨m,List.mem_of_mem_drop hm,hk⟩
  | (rw [List.drop_drop,Nat.add_comm,<- List.drop_drop] at hm;exact List.mem_flatten.mpr ⟨m,List.mem_of_mem_drop hm,hk⟩)
theorem fl_at {ms:List (List Pr)} {n:Nat} {m:List Pr} {k:Pr} (h:ms[n]?=some m) (hk:k∈m):k∈(ms.drop n).flatten:=by
 refine List.mem_flatten.mpr ⟨m,?_,hk⟩
 have:(ms.drop n)[0]?=some m:=by rw [List.getElem?_drop];exact h
 exact List.mem_of_getElem? this
theorem ns_rest {c:Kd} {s:Sf} {mr mo:List (List Pr)} {k:Pr} (h:k∈(mr.drop s.place).flatten):k∈(nsM c s mr mo).flatten:=by
 unfold nsM
 split
 ·exact fl_drop h
 ·split
  ·rw [List.flatten_append];exact List.mem_append_left _ h
  ·exact h
theorem ns_next {c:Kd} {s:Sf} {mr mo:List (List Pr)} {k:Pr} (h:k∈(nsM c { s with place:=s.place+1 } mr mo).flatten):k∈(nsM c s mr mo).flatten:=by
 unfold nsM at h |-
 split at h
 ·rename_i e
  rw [if_pos e];exact h
 ·rename_i e
  rw [if_neg e]
  split at h
  ·rename_i e2
   rw [if_pos e2]
   rw [List.flatten_append] at h |-
   rcases List.mem_append.mp h with q | q
   ·exact List.mem_append_left _ (fl_next q)
   ·exact List.mem_append_right _ q
  ·rename_i e2
   rw [if_neg e2];exact fl_next h
theorem GdF.next {H:Hp} {S:Pr->Prop} {x:Fm} (G:GdF H S x):GdF H S ⟨x.a,x.c,{ x.s with place:=x.s.place+1 }⟩:=by
 obtain ⟨mr,mo,h1,h2,h3⟩:=G.might
 exact ⟨⟨mr,mo,h1,h2,λk hk=>h3 k (ns_next hk)⟩,G.held,G.sc,G.told,G.named,G.gh⟩
theorem GdF.row {H:Hp} {S:Pr->Prop} {x:Fm} {v:V} (G:GdF H S x) (h:x.s.rows[x.s.place]?=some v):∃ mm,RowM H 5 v mm/\∀ k∈mm,S k:=by
 obtain ⟨mr,mo,h1,h2,h3⟩:=G.might
 obtain ⟨mm,e,r⟩:=h1.get h
 exact ⟨mm,r,λk hk=>h3 k (ns_rest (fl_at e hk))⟩
theorem GdF.over {H:Hp} {S:Pr->Prop} {x:Fm} (G:GdF H S x):GdF H S ⟨x.a,x.c,overS x.c x.s⟩:=by
 unfold overS
 split
 ·rename_i e
  obtain ⟨mr,mo,h1,h2,h3⟩:=G.might
  refine ⟨⟨mr,mo,h1,h2,λk hk=>h3 k ?_⟩,G.held,G.sc,G.told,G.named,G.gh⟩
  unfold nsM
  rw [if_pos ⟨e.1,by omega⟩]
  unfold nsM at hk
  split at hk
  ·exact hk
  ·rw [if_neg (by rw [e.1];simp)] at hk
   exact fl_drop hk
 ·exact G
theorem GdF.clean {H:Hp} {S:Pr->Prop} {x:Fm} {v:V} (G:GdF H S x) (hc:x.c=.cleaned) (hf:x.s.cleaning=false) (hv:SgOk H v):GdF H S ⟨x.a,x.c,cleanS x.s v⟩:=by
 obtain ⟨mr,mo,h1,h2,h3⟩:=G.might
 refine ⟨⟨mo,mo,h2,h2,λk hk=>h3 k ?_⟩,hv,G.sc,G.told,G.named,λz=>by rw [hc] at z;cases z⟩
 unfold nsM at hk |-
 rw [if_neg (by rw [hc];simp),if_neg (by rw [hc];simp [cleanS])] at hk
 rw [if_neg (by rw [hc];simp),if_pos (.inr (.inr ⟨hc,hf⟩)),List.flatten_append]
 exact List.mem_append_right _ hk
theorem GdF.halt {H:Hp} {S:Pr->Prop} {x:Fm} {a t:Addr} {z:Str} {r:List Str} (G:GdF H S x) (hc:x.c=.grouped):GdF H S ⟨x.a,x.c,haltS x.s a t (.faults z r)⟩:=by
 obtain ⟨mr,mo,h1,h2,h3⟩:=G.might
 refine ⟨⟨[],mo,.nil,h2,λk hk=>?_⟩,.inl rfl,G.sc,G.told,G.named,λ_=>rfl⟩
 unfold nsM at hk
 rw [if_neg (by rw [hc];simp),if_neg (by rw [hc];simp)] at hk
 simp at hk
theorem GdF.tell {H:Hp} {S:Pr->Prop} {x:Fm} {a:Addr} (G:GdF H S x) (h:H a=some (.tup [])):GdF H S ⟨x.a,x.c,{ x.s with told:=.ref a }⟩ :=
 ⟨G.might,G.held,G.sc,.inr ⟨a,rfl,h⟩,G.named,G.gh⟩
theorem GdF.plain {H:Hp} {S:Pr->Prop} {x:Fm} {y:Addr} (G:GdF H S x) (hc:x.c=.tried\/x.c=.limited):GdF H S ⟨y,.frame,plainS x.s⟩:=by
 obtain ⟨mr,mo,h1,h2,h3⟩:=G.might
 refine ⟨⟨mo,mo,h2,h2,λk hk=>h3 k ?_⟩,.inl rfl,λz=>(by rcases z with z | z<;>cases z),.inl rfl,.inl rfl,λz=>(by cases z)⟩
 unfold nsM at hk |-
 rw [if_neg (by simp),if_neg (by simp)] at hk
 rw [if_neg (by rcases hc with hc | hc<;>rw [hc]<;>simp),if_pos (by rcases hc with hc | hc<;>rw [hc]<;>simp),List.flatten_append]
 exact List.mem_append_right _ hk
theorem GdF.new {H:Hp} {S:Pr->Prop} {a:Addr} {c:Kd} {s:Sf} {mr mo:List (List Pr)} (h1:All2 (RowM H 5) s.rows mr) (h2:All2 (RowM H 5) s.others mo) (k1:∀ k∈mr.flatten,S k) (k2:∀ k∈mo.flatten,S k) (hh:s.held=.non) (hs:c=.limited\/c=.grouped->∃ n,s.sc=.int n) (ht:s.told=.non) (hn:s.named=.non\/∃ z,s.named=.str z):GdF H S ⟨a,c,s⟩:=by
 refine ⟨⟨mr,mo,h1,h2,λk hk=>?_⟩,.inl hh,hs,.inl ht,hn,λ_=>hh⟩
 unfold nsM at hk
 split at hk
 ·exact k1 k hk
 ·split at hk
  ·rw [List.flatten_append] at hk
   rcases List.mem_append.mp hk with q | q
   ·exact k1 k (fl_drop q)
   ·exact k2 k q
  ·exact k1 k (fl_drop hk)
theorem Gd.same {T:Tx P w K mg} {H H':Hp} {p:Addr} {S:Pr->Prop} {N:Nat} {stk:List Fm} {kv:List (Key×V)} {m:Mc} (G:Gd T H p S N stk kv m) (s:Same H H'):Gd T H' p S N stk kv m :=
 ⟨G.at_.same s,λx hx=>(G.fr x hx).kt (.of s),G.ne,G.ln,G.kl,G.kv,G.sg.kt (.of s),G.st,G.bt⟩
theorem Gd.up {T:Tx P w K mg} {H:Hp} {p:Addr} {S:Pr->Prop} {N N':Nat} {stk:List Fm} {kv:List (Key×V)} {m:Mc} (G:Gd T H p S N stk kv m) (h:N<=N'):Gd T H p S N' stk kv m :=
 ⟨G.at_,G.fr,G.ne,Nat.le_trans G.ln h,Nat.le_trans G.kl h,G.kv,G.sg,G.st,G.bt⟩
theorem Gd.by_ {T:Tx P w K mg} {H H':Hp} {p:Addr} {S:Pr->Prop} {N:Nat} {stk:List Fm} {kv:List (Key×V)} {m m':Mc} (G:Gd T H p S N stk kv m) (M:MAt T H' p stk kv [] m') (k:KT H H') (hs:SgOk H' m'.sg) (ht:m'.st=false):Gd T H' p S N stk kv m' :=
 ⟨M,λx hx=>(G.fr x hx).kt k,G.ne,G.ln,G.kl,G.kv,hs,ht,G.bt⟩
theorem Gd.last {T:Tx P w K mg} {H H':Hp} {p:Addr} {S:Pr->Prop} {N:Nat} {stk:List Fm} {x y:Fm} {kv:List (Key×V)} {m m':Mc} (G:Gd T H p S N (stk++[x]) kv m) (M:MAt T H' p (stk++[y]) kv [] m') (k:KT H H') (g:GdF H' S y) (hs:SgOk H' m'.sg) (ht:m'.st=false) (hc:y.c=x.c\/stk≠[]):Gd T H' p S N (stk++[y]) kv m':=by
 refine ⟨M,λz hz=>?_,by simp,?_,G.kl,G.kv,hs,ht,λz hz=>?_⟩
 ·rcases List.mem_append.mp hz with q | q
  ·exact (G.fr z (List.mem_append_left _ q)).kt k
  ·rw [List.mem_singleton.mp q];exact g
 ·have:=G.ln
  rw [List.length_append] at this |-
  exact this
 ·cases stk with
  |nil =>
   rcases hc with hc | hc
   ·cases hz
    rw [hc]
    exact G.bt x rfl
   ·exact absurd rfl hc
  |cons u r=>exact G.bt z hz
theorem Gd.push {T:Tx P w K mg} {H H':Hp} {p:Addr} {S:Pr->Prop} {N:Nat} {stk:List Fm} {y:Fm} {kv:List (Key×V)} {m m':Mc} (G:Gd T H p S N stk kv m) (M:MAt T H' p (stk++[y]) kv [] m') (k:KT H H') (g:GdF H' S y) (hs:SgOk H' m'.sg) (ht:m'.st=false):Gd T H' p S (N+1) (stk++[y]) kv m':=by
 refine ⟨M,λz hz=>?_,by simp,?_,Nat.le_succ_of_le G.kl,G.kv,hs,ht,λz hz=>?_⟩
 ·rcases List.mem_append.mp hz with q | q
  ·exact (G.fr z q).kt k
  ·rw [List.mem_singleton.mp q];exact g
 ·have:=G.ln
  rw [List.length_append]
  simp
  exact this
 ·cases stk with
  |nil=>exact absurd rfl G.ne
  |cons u r=>exact G.bt z hz
theorem Gd.pop {T:Tx P w K mg} {H H':Hp} {p:Addr} {S:Pr->Prop} {N:Nat} {stk:List Fm} {x:Fm} {kv:List (Key×V)} {m m':Mc} (G:Gd T H p S N (stk++[x]) kv m) (M:MAt T H' p stk kv [] m') (k:KT H H') (hne:stk≠[]) (hs:SgOk H' m'.sg) (ht:m'.st=false):Gd T H' p S N stk kv m':=by
 refine ⟨M,λz hz=>(G.fr z (List.mem_append_left _ hz)).kt k,hne,?_,G.kl,G.kv,hs,ht,λz hz=>?_⟩
 rotate_left
 ·cases stk with
  |nil=>exact absurd rfl hne
  |cons u r=>exact G.bt z hz
 have:=G.ln
 rw [List.length_append] at this
 omega
theorem Gd.lst {T:Tx P w K mg} {H:Hp} {p:Addr} {S:Pr->Prop} {N:Nat} {stk:List Fm} {kv:List (Key×V)} {m:Mc} (G:Gd T H p S N stk kv m):∃ b x,stk=b++[x]:=by
 rcases List.eq_nil_or_concat stk with e | ⟨b,x,e⟩
 ·exact absurd e G.ne
 ·exact ⟨b,x,by rw [e];simp⟩
theorem targ_no (l:List Fm):targR [] l .non=.non:=by
 induction l with
 |nil=>rfl
 |cons x r ih =>
  show (if hidesF x.c x.s=true then V.non else targR [] r (if inM [] x.s.sc=true then x.s.sc else .non))=.non
  have e:inM [] x.s.sc=false:=by cases x.s.sc<;>rfl
  rw [e,if_neg Bool.false_ne_true,ih]
  exact ite_self _
theorem leave_nil (v:V):leaveF [] v=[]:=by cases v<;>rfl
theorem RowsM.get {H:Hp} {n:Nat} {a:Addr} {m:List Pr} (h:RowsM H n (.ref a) m) (hn:n<=6):∃ vs ms,H a=some (.tup vs)/\vs.length<=10/\All2 (RowM H 5) vs ms/\m=ms.flatten:=by
 cases n with
 |zero=>exact h.elim
 |succ n =>
  obtain ⟨b,vs,ms,e,hb,hl,hm,em⟩:=h
  cases e
  exact ⟨vs,ms,hb,by omega,hm.imp λ_ _ h=>RowM.le h (by omega),em⟩
theorem MAt.byN {T:Tx P w K mg} {H:Hp} {p:Addr} {stk:List Fm} {kv kv' mk:List (Key×V)} {m:Mc} (M:MAt T H p stk kv mk m):MAt T (upd H m.nv (.dK kv')) p stk kv' mk m:=by
 obtain ⟨dx,fs,h1,h3⟩:=M.ob.ex
 refine ⟨⟨dx,fs,by rw [upd_ne (ne_of h1 M.nv (λz=>nomatch z))];exact h1,h3⟩,by rw [upd_ne (ne_of M.fl M.nv (λz=>nomatch z))];exact M.fl,λx hx=>?_,M.nd,upd_same,by rw [upd_ne (Ne.symm M.ne)];exact M.mr,M.ne,M.sc⟩
 have F:=M.fr x hx
 obtain ⟨dy,gs,h2,h4⟩:=F.fr.ex
 exact ⟨⟨dy,gs,by rw [upd_ne (ne_of h2 M.nv (λz=>nomatch z))];exact h2,h4⟩,by rw [upd_ne (ne_of F.rs M.nv (λz=>nomatch z))];exact F.rs,by rw [upd_ne (ne_of F.os M.nv (λz=>nomatch z))];exact F.os,F.pl,F.rl,F.ol⟩
theorem K3.nv {m:Mc} {H:Hp} {o:HO}:K3 m H (upd H m.nv o):=λc u _ n _ _ h=>by rw [upd_ne n];exact h
theorem Gd.byN {T:Tx P w K mg} {H:Hp} {p:Addr} {S:Pr->Prop} {N:Nat} {stk:List Fm} {kv:List (Key×V)} {m:Mc} (G:Gd T H p S N stk kv m) {k:Key} {v:V} (hv:Val v):Gd T (upd H m.nv (.dK (putK kv k v))) p S (N+1) stk (putK kv k v) m:=by
 have kt:KT H (upd H m.nv (.dK (putK kv k v))):=K3.nv.kt G.at_
 refine ⟨G.at_.byN,λx hx=>(G.fr x hx).kt kt,G.ne,Nat.le_succ_of_le G.ln,?_,λx u h=>?_,G.sg.kt kt,G.st,G.bt⟩
 ·have:=length_putK kv k v
  have:=G.kl
  omega
 ·rw [valV_put] at h
  split at h
  ·cases h;exact hv
  ·exact G.kv x u h
theorem val_getD {kv:List (Key×V)} (h:∀ k v,valV kv k=some v->Val v) (k:Key):Val ((valV kv k).getD (.int 0)):=by
 cases e:valV kv k with
 |none=>exact .inl ⟨0,rfl⟩
 |some v=>exact h k v e
theorem eq_nil {K:PySem.W.Frag} {H:Hp} {a u:Addr} {xs:List V} {R:VK} (ha:H a=some (.tup xs)) (hu:H u=some (.tup [])) (k:R (.bl (!decide (xs=[]))) H):rEqT K true (.ref a) (.ref u) H R:=by
 refine ⟨a,u,xs,[],0,λ_=>true,rfl,rfl,SqT.of ha,SqT.of hu,by decide,λi x y _ h=>(by cases h),?_⟩
 have q:(true^^((List.range (min xs.length ([]:List V).length)).all (λ_=>true)&&xs.length == ([]:List V).length))=!decide (xs=[]):=by
  cases xs<;>simp
 rw [q]
 exact k
def blkS (ln:Int) (ra:Addr) (rows:List V) (oa:Addr) (others:List V) (left:Int) (fault:Str):Sf:={ line:=ln,ra:=ra,rows:=rows,oa:=oa,others:=others,sc:=.non,place:=0,left:=left,fault:=fault,cleaning:=false,named:=.non,held:=.non,told:=.non }
theorem blk_new {H:Hp} {ln:Int} {ra:Addr} {rows:List V} {oa:Addr} {others:List V} {left:Int} {fault:Str} (h1:H ra=some (.tup rows)) (h2:H oa=some (.tup others)) (h3:rows.length<=10) (h4:others.length<=10):NewQ H (blkS ln ra rows oa others left fault):=⟨rfl,rfl,rfl,rfl,rfl,rfl,h1,h2,h3,h4⟩
theorem val_scal {x y:V} (hx:Val x) (hy:Val y):scal x y=true:=by
 rcases hx with ⟨a,rfl⟩ | ⟨a,rfl⟩<;>rcases hy with ⟨b,rfl⟩ | ⟨b,rfl⟩<;>rfl
theorem Res.plain {T:Tx P w K mg} {p t:Addr} {S:Pr->Prop} {N:Nat} {m m':Mc} {H H':Hp} {z:Str} {r:List V} {stk:List Fm} {kv:List (Key×V)} (ht:H' t=some (.tup (.str z::r))) (k:K3 m H H') (G:Gd T H' p S N stk kv m') (e1:m'.fl=m.fl) (e2:m'.nv=m.nv) (e3:m'.mr=m.mr) (hw:m'.wt=.non) (h0:z≠"ended":=by decide +kernel) (h1:z≠"join":=by decide +kernel) (h2:z≠"halt":=by decide +kernel):Res T p S N m H H' (.ref t) :=
 ⟨t,z,r,m',rfl,ht,k,.inr ⟨h0,stk,kv,G,e1,e2,e3,.inr ⟨h1,h2,.inl hw⟩⟩⟩
theorem over5 (c:Kd) (s:Sf):(overF c s="out"/\overS c s=s)\/(overF c s="on"/\c=.rounds/\¬ s.left<1)\/(overF c s="clean"/\c=.cleaned/\s.cleaning=false)\/(overF c s="join"/\c=.grouped/\s.told=.non)\/(overF c s="leave"/\c=.grouped/\s.told≠.non):=by
 cases c with
 |rounds =>
  by_cases h:s.left<1
  ·refine .inl ⟨?_,?_⟩
   ·show (if s.left<1 then ("out":Str) else "on")="out"
    rw [if_pos h]
   ·unfold overS;rw [if_neg (λz=>z.2 h)]
  ·refine .inr (.inl ⟨?_,rfl,h⟩)
   show (if s.left<1 then ("out":Str) else "on")="on"
   rw [if_neg h]
 |cleaned =>
  cases h:s.cleaning with
  |true =>
   refine .inl ⟨?_,overS_no (by decide)⟩
   show (if s.cleaning=true then ("out":Str) else "clean")="out"
   rw [if_pos h]
  |false =>
   refine .inr (.inr (.inl ⟨?_,rfl,rfl⟩))
   show (if s.cleaning=true then ("out":Str) else "clean")="clean"
   rw [h,if_neg Bool.false_ne_true]
 |grouped =>
  by_cases h:s.told=.non
  ·refine .inr (.inr (.inr (.inl ⟨?_,rfl,h⟩)))
   show (if s.told=.non then ("join":Str) else "leave")="join"
   rw [if_pos h]
  ·refine .inr (.inr (.inr (.inr ⟨?_,rfl,h⟩)))
   show (if s.told=.non then ("join":Str) else "leave")="leave"
   rw [if_neg h]
 |_=>exact .inl ⟨rfl,overS_no (by decide)⟩
theorem mz_app (l:List Fm) (x:Fm):mz (l++[x])=mz l+(x.s.left.toNat+1):=by
 unfold mz
 rw [List.map_append,List.sum_append]
 simp
theorem LM.ext {H G:Hp} {lf l2:Addr} {ks js:List Pr} {ps:List Addr} {R:VK} (L:LM H lf G ks) (h2:G l2=some (.lst (ps.map V.ref))) (hp:PrA G ps js) (hl:ks.length+js.length<=9000000) (q:∀ G',LM H lf G' (ks++js)->(∀ c o,c≠lf->G c=some o->G' c=some o)->R .non G'):rExtend (.ref lf) [.ref l2] G R:=by
 obtain ⟨ps0,h1,h3⟩:=L.ex
 have kt:KT G (upd G lf (.lst (ps0.map V.ref++ps.map V.ref))):=λa' xs' h'=>by rw [upd_ne (ne_of h' h1 (λz=>nomatch z))];exact h'
 refine ⟨lf,l2,_,_,rfl,rfl,h1,h2,?_,q _ ⟨L.fr,⟨ps0++ps,by rw [upd_same,List.map_append],pra_kt (pra_app h3 hp) kt⟩,same_set L.sm L.fr⟩ λc o n e=>by rw [upd_ne n];exact e⟩
 rw [List.length_map,List.length_map,h3.1,hp.1]
 exact Nat.le_trans hl (by decide)
theorem BhF.len {T:Tx P w K mg} {H:Hp} {x:Fm} {ms:List Pr} (h:BhF H x ms) (F:FAt T x.c H x.a x.s):ms.length<=186620:=by
 obtain ⟨ns,ha,e⟩:=h
 have l1:=behind_len (c:=x.c) F.rl F.ol
 rw [ha.len] at l1
 have l2:=flat_le (ms:=ns) (c:=9331) λm hm=>by
  obtain ⟨v,_,hv⟩:=ha.mem m hm
  exact Nat.le_trans (RowM.len hv) (by decide +kernel)
 have l3:ns.length*9331<=20*9331:=Nat.mul_le_mul l1 (Nat.le_refl _)
 rw [e]
 omega
theorem BhF.uu {H:Hp} {x:Fm} {ms:List Pr} (h:BhF H x ms):∀ k∈ms,k∈UU:=by
 obtain ⟨ns,ha,e⟩:=h
 rw [e]
 exact rows_uu ha
theorem bhs_uu {H:Hp} {stk:List Fm} {mss:List (List Pr)} (h:All2 (BhF H) stk mss):∀ k∈mss.flatten,k∈UU:=λk hk=>by
 obtain ⟨m,hm,hkm⟩:=List.mem_flatten.mp hk
 obtain ⟨x,_,hx⟩:=h.mem m hm
 exact hx.uu k hkm
theorem BhF.kt {H H':Hp} {x:Fm} {ms:List Pr} (h:BhF H x ms) (k:KT H H'):BhF H' x ms:=by
 obtain ⟨ns,ha,e⟩:=h
 exact ⟨ns,rows_kt k ha,e⟩
theorem ObAt.forL {T:Tx P w K mg} {n:Nat} {H:Hp} {p:Addr} {g:Ml->Option V} (F:ObAt T n H p g) {l:Ml} {a:Addr} {σ:St} {i:Nat} {gn:TG} {tb:TS} {D:Ends} (hσ:σ[i]?=some (some (.ref p))) (e:g l=some (.ref a)) (hx:∃ xs,SqL K H a xs) (k:∃ W:Nat->Nat->St->Hp->Prop,(∃ m,W 0 m σ H)/\∀ i m σ H,W i m σ H ->
   ((Itl K a).stop i H/\D.nx σ H)\/((Itl K a).go i H/\∃ N:St->Hp->Prop,(∀ σ' H',N σ' H'->∃ m',m'<m/\W (i+1) m' σ' H')/\∀ x H',(Itl K a).yld i H x H'->gn x σ H' λσ2 H2=>tb { D with nx:=N,ct:=N,bk:=D.nx } σ2 H2)) :
  tFor (iList K (tFld K (tVar i) l.name)) gn tb D σ H:=by
 unfold tFor iList
 exact F.fld hσ e ⟨a,rfl,hx,k⟩
structure Dr (K:PySem.W.Frag) (H:Hp) (d:Addr) (C:Nat):Prop where
 ex:∃ (kvs:List (Key×V)) (a:Addr) (ns:List Int) (c l:Int),H d=some (.dK kvs)/\kvs.length<=3/\valV kvs (.inr "script")=some (.ref a)/\SqL K H a (ns.map V.int)/\ns.length<=63/\valV kvs (.inr "at")=some (.int c)/\0<=c/\c<=C/\valV kvs (.inr "line")=some (.int l)
theorem sql_but {K:PySem.W.Frag} {H H':Hp} {a d:Addr} {xs:List V} {kvs:List (Key×V)} (h:SqL K H a xs) (hd:H d=some (.dK kvs)) (b:But d H H'):SqL K H' a xs:=by
 rcases h with (h | ⟨o,h⟩) | h
 ·exact .inl (.inl (b _ _ (ne_of h hd (λz=>nomatch z)) h))
 ·exact .inl (.inr ⟨o,b _ _ (ne_of h hd (λz=>nomatch z)) h⟩)
 ·exact .inr h
theorem sql_same {K:PySem.W.Frag} {H H':Hp} {a:Addr} {xs:List V} (h:SqL K H a xs) (s:Same H H'):SqL K H' a xs:=by
 rcases h with (h | ⟨o,h⟩) | h
 ·exact .inl (.inl (s _ _ h))
 ·exact .inl (.inr ⟨o,s _ _ h⟩)
 ·exact .inr h
theorem Dr.same {K:PySem.W.Frag} {H H':Hp} {d:Addr} {C:Nat} (D:Dr K H d C) (s:Same H H'):Dr K H' d C:=by
 obtain ⟨kvs,a,ns,c,l,h1,h2,h3,h4,h5⟩:=D.ex
 exact ⟨kvs,a,ns,c,l,s _ _ h1,h2,h3,sql_same h4 s,h5⟩
theorem Dr.up {K:PySem.W.Frag} {H:Hp} {d:Addr} {C C':Nat} (D:Dr K H d C) (s:C<=C'):Dr K H d C':=by
 obtain ⟨kvs,a,ns,c,l,h1,h2,h3,h4,h5,h6,h7,h8,h9⟩:=D.ex
 exact ⟨kvs,a,ns,c,l,h1,h2,h3,h4,h5,h6,h7,Int.le_trans h8 (Int.ofNat_le.mpr s),h9⟩
theorem len_putK {kvs:List (Key×V)} {k:Key} {v:V} (h:valV kvs k≠none):(putK kvs k v).length=kvs.length:=by
 unfold putK
 rw [valV_any]
 cases e:valV kvs k with
 |none=>exact absurd e h
 |some x=>rw [if_pos (by rfl),List.length_map]
def ScA (H:Hp) (d a:Addr):Prop:=∃ kvs:List (Key×V),H d=some (.dK kvs)/\valV kvs (.inr "script")=some (.ref a)
structure Db (K:PySem.W.Frag) (d:Addr) (H H':Hp) (C:Nat):Prop where
 bt:But d H H'
 dr:Dr K H' d C
 sc:∀ a,ScA H d a->ScA H' d a
theorem ScA.same {H H':Hp} {d a:Addr} (h:ScA H d a) (s:Same H H'):ScA H' d a:=by
 obtain ⟨kvs,h1,h2⟩:=h
 exact ⟨kvs,s _ _ h1,h2⟩
theorem Db.kt {K:PySem.W.Frag} {d:Addr} {H H':Hp} {C C':Nat} (b:Db K d H H' C') (D:Dr K H d C):KT H H':=by
 obtain ⟨kvs,a,ns,c,l,h1,_⟩:=D.ex
 exact λa xs h=>b.bt _ _ (ne_of h h1 (λz=>nomatch z)) h
theorem Db.lst {K:PySem.W.Frag} {d g:Addr} {H H':Hp} {xs:List V} {C C':Nat} (b:Db K d H H' C') (D:Dr K H d C) (h:H g=some (.lst xs)):H' g=some (.lst xs):=by
 obtain ⟨kvs,a,ns,c,l,h1,_⟩:=D.ex
 exact b.bt _ _ (ne_of h h1 (λz=>nomatch z)) h
theorem Db.trans {K:PySem.W.Frag} {d:Addr} {H H1 H2:Hp} {C C':Nat} (a:Db K d H H1 C) (b:Db K d H1 H2 C'):Db K d H H2 C':=⟨a.bt.trans b.bt,b.dr,λx h=>b.sc x (a.sc x h)⟩
theorem Db.s {K:PySem.W.Frag} {d:Addr} {H H1 H2:Hp} {C:Nat} (a:Db K d H H1 C) (b:Same H1 H2):Db K d H H2 C:=⟨a.bt.trans (.of b),a.dr.same b,λx h=>(a.sc x h).same b⟩
theorem Db.up {K:PySem.W.Frag} {d:Addr} {H H1:Hp} {C C':Nat} (a:Db K d H H1 C) (h:C<=C'):Db K d H H1 C':=⟨a.bt,a.dr.up h,a.sc⟩
theorem Db.of {K:PySem.W.Frag} {d:Addr} {H H':Hp} {C:Nat} (D:Dr K H d C) (s:Same H H'):Db K d H H' C:=⟨.of s,D.same s,λ_ h=>h.same s⟩
def bd:Nat->Nat
 |0=>100
 |n+1=>100+6*bd n
def TOP:Nat:=1000000000
def spMixed:Sp:=λvs H Q _=>∃ c k:Int,vs=[.int c,.int k]/\0<=k/\k<=2000000000/\∀ r:Int,0<=r->r<2147483647->Q (.int r) H
def spPick (K:PySem.W.Frag):Sp:=λvs H Q _=>∃ (d:Addr) (n:Int) (C:Nat),vs=[.ref d,.int n]/\Dr K H d C/\C+1<=TOP/\1<=n/\∀ (r:Int) (H':Hp),0<=r->r<n->Db K d H H' (C+1)->Q (.int r) H'
def spLine (K:PySem.W.Frag):Sp:=λvs H Q _=>∃ (d:Addr) (C:Nat),vs=[.ref d]/\Dr K H d C/\∀ (r:Int) (H':Hp),Db K d H H' C->Q (.int r) H'
def spValue (K:PySem.W.Frag):Sp:=λvs H Q _=>∃ (d:Addr) (C:Nat),vs=[.ref d]/\Dr K H d C/\C+2<=TOP/\∀ (v:V) (H':Hp),Val v->Db K d H H' (C+2)->Q v H'
def spClean_ (K:PySem.W.Frag):Sp:=λvs H Q _=>∃ (d:Addr) (C:Nat),vs=[.ref d]/\Dr K H d C/\C+5<=TOP/\∀ (v:V) (m:List Pr) (H':Hp),RowM H' 0 v m->Db K d H H' (C+5)->Q v H'
def spSimple (K:PySem.W.Frag):Sp:=λvs H Q _=>∃ (d g:Addr) (zs:List Str) (C:Nat),vs=[.ref d,.ref g]/\Dr K H d C/\C+20<=TOP/\H g=some (.lst (zs.map V.str))/\zs.length<=5/\∀ (v:V) (m:List Pr) (H':Hp),RowM H' 0 v m->Db K d H H' (C+20)->Q v H'
structure GrA (H:Hp) (g:Addr) (e:Int) (n:Nat):Prop where
 ex:∃ zs:List Str,H g=some (.lst (zs.map V.str))/\zs.length+n<=5
 lo:0<=e
 hi:5<=e+n
def spBlock (K:PySem.W.Frag) (n:Nat):Sp:=λvs H Q _=>∃ (d g:Addr) (e:Int) (C:Nat),vs=[.ref d,.int e,.ref g]/\Dr K H d C/\C+(20+2*bd n)<=TOP/\GrA H g e (n+1)/\∀ (v:V) (m:List Pr) (H':Hp),RowM H' (n+1) v m->Db K d H H' (C+(20+2*bd n))->Q v H'
def spRows (K:PySem.W.Frag) (n:Nat):Sp:=λvs H Q _=>∃ (d g:Addr) (e:Int) (C:Nat),vs=[.ref d,.int e,.ref g]/\Dr K H d C/\C+bd n<=TOP/\GrA H g e n/\∀ (v:V) (m:List Pr) (H':Hp),RowsM H' (n+1) v m->Db K d H H' (C+bd n)->Q v H'
theorem Dr.get {K:PySem.W.Frag} {H:Hp} {d:Addr} {C:Nat} (D:Dr K H d C):∃ (a:Addr) (ns:List Int) (c l:Int),DGet H d (.str "script") (some (.ref a))/\SqL K H a (ns.map V.int)/\ns.length<=63/\DGet H d (.str "at") (some (.int c))/\0<=c/\c<=C/\DGet H d (.str "line") (some (.int l)) /\
  (c+1<=C+1->∃ H2,DPut H d (.str "at") (.int (c+1)) H2/\Db K d H H2 (C+1)/\DGet H2 d (.str "script") (some (.ref a))/\DGet H2 d (.str "at") (some (.int (c+1)))/\SqL K H2 a (ns.map V.int))/\∃ H2,DPut H d (.str "line") (.int (l+1)) H2/\Db K d H H2 C/\DGet H2 d (.str "line") (some (.int (l+1))):=by
 obtain ⟨kvs,a,ns,c,l,h1,h2,h3,h4,h5,h6,h7,h8,h9⟩:=D.ex
 have g1:=DGet.k (k:=(.inr "script":Key)) h1
 have g2:=DGet.k (k:=(.inr "at":Key)) h1
 have g3:=DGet.k (k:=(.inr "line":Key)) h1
 rw [h3] at g1
 rw [h6] at g2
 rw [h9] at g3
 have lt:kvs.length<sizeLine:=small1000 (by omega)
 have bt:∀ o,But d H (upd H d o):=λo c u n e=>by rw [upd_ne n];exact e
 have scp:∀ (k:Key) (v:V),(.inr "script":Key)≠k->∀ b,ScA H d b->ScA (upd H d (.dK (putK kvs k v))) d b:=λk v n b ⟨kv2,e1,e2⟩=>by
  rw [h1] at e1
  cases e1
  exact ⟨_,upd_same,by rw [valV_put,if_neg n];exact e2⟩
 refine ⟨a,ns,c,l,g1,h4,h5,g2,h7,h8,g3,λ_=>⟨_,DPut.k (k:=(.inr "at":Key)) h1 lt,⟨bt _,⟨_,a,ns,c+1,l,upd_same,?_,?_,sql_but h4 h1 (bt _),h5,?_,by omega,by omega,?_⟩,scp _ _ (by decide +kernel)⟩,?_,?_,sql_but h4 h1 (bt _)⟩,⟨_,DPut.k (k:=(.inr "line":Key)) h1 lt,⟨bt _,⟨_,a,ns,c,l+1,upd_same,?_,?_,sql_but h4 h1 (bt _),h5,?_,h7,h8,?_⟩,scp _ _ (by decide +kernel)⟩,?_⟩⟩
 ·rw [len_putK (by rw [h6];exact λz=>nomatch z)];exact h2
 ·rw [valV_put,if_neg (by decide +kernel)];exact h3
 ·rw [valV_put,if_pos rfl]
 ·rw [valV_put,if_neg (by decide +kernel)];exact h9
 ·have:=DGet.k (k:=(.inr "script":Key)) (H:=upd H d (.dK (putK kvs (.inr "at") (.int (c+1))))) upd_same
  rw [valV_put,if_neg (by decide +kernel),h3] at this
  exact this
 ·have:=DGet.k (k:=(.inr "at":Key)) (H:=upd H d (.dK (putK kvs (.inr "at") (.int (c+1))))) upd_same
  rw [valV_put,if_pos rfl] at this
  exact this
 ·rw [len_putK (by rw [h9];exact λz=>nomatch z)];exact h2
 ·rw [valV_put,if_neg (by decide +kernel)];exact h3
 ·rw [valV_put,if_neg (by decide +kernel)];exact h6
 ·rw [valV_put,if_pos rfl]
 ·have:=DGet.k (k:=(.inr "line":Key)) (H:=upd H d (.dK (putK kvs (.inr "line") (.int (l+1))))) upd_same
  rw [valV_put,if_pos rfl] at this
  exact this
theorem pick_at {α:Type} {zs:List α} (hz:zs≠[]) (x:Int):∃ (j:Nat) (z:α),zs[j]?=some z/\x%(zs.length:Int)=(j:Int)/\j<zs.length:=by
 have hp:0<zs.length:=List.length_pos_iff.mpr hz
 have h0:=Int.emod_nonneg x (show (zs.length:Int)≠0 by omega)
 have h1:=Int.emod_lt_of_pos x (show (0:Int)<zs.length by omega)
 have hj:(x%(zs.length:Int)).toNat<zs.length:=by omega
 exact ⟨(x%(zs.length:Int)).toNat,zs[(x%(zs.length:Int)).toNat],List.getElem?_eq_getElem hj,by omega,hj⟩
theorem dget_same {H H':Hp} {a:Addr} {k:Key} {r:Option V} (h:DGet H a (kV k) r) (s:Same H H'):DGet H' a (kV k) r:=by
 rcases h with ⟨kvs,j,h1,h2⟩ | ⟨kvs,j,b,h1,h2,h3⟩
 ·rcases h1 with h1 | ⟨o,h1⟩
  ·exact .inl ⟨kvs,j,.inl (s _ _ h1),h2⟩
  ·exact .inl ⟨kvs,j,.inr ⟨o,s _ _ h1⟩,h2⟩
 ·cases k<;>cases h2
theorem eqL_nil {K:PySem.W.Frag} {H:Hp} {a u:Addr} {xs:List V} {R:VK} (ha:SqL K H a xs) (hu:H u=some (.lst [])) (k:R (.bl (!decide (xs=[]))) H):rEqL K true (.ref a) (.ref u) H R:=by
 refine ⟨a,u,xs,[],0,λ_=>true,rfl,rfl,ha,SqL.of hu,by decide,λi x y _ h=>(by cases h),?_⟩
 have q:(true^^(decide (xs.length=([]:List V).length)&&(List.range xs.length).all (λ_=>true)))=!decide (xs=[]):=by
  cases xs<;>simp
 rw [q]
 exact k
theorem row0 {H:Hp} {q:Addr} {xs:List V} {m:List Pr} (h:H q=some (.tup xs)) (s:Shp (RowsM H 0) xs m):RowM H 0 (.ref q) m:=⟨q,xs,rfl,h,s⟩
def spBlk (K:PySem.W.Frag):Nat->Sp
 |0=>spNo
 |n+1=>spBlock K n
theorem GrA.d1 {H:Hp} {g:Addr} {e:Int} {n:Nat} (h:GrA H g e (n+1)):GrA H g (e+1) n:=by
 obtain ⟨zs,h1,h2⟩:=h.ex
 have h3:=h.lo
 have h4:=h.hi
 exact ⟨⟨zs,h1,by omega⟩,by omega,by omega⟩
theorem GrA.d2 {H:Hp} {g:Addr} {e:Int} {n:Nat} (h:GrA H g e (n+1)):GrA H g (e+2) n:=by
 obtain ⟨zs,h1,h2⟩:=h.ex
 have h3:=h.lo
 have h4:=h.hi
 exact ⟨⟨zs,h1,by omega⟩,by omega,by omega⟩
theorem GrA.db {K:PySem.W.Frag} {H H':Hp} {d g:Addr} {e:Int} {n C C':Nat} (h:GrA H g e n) (D:Dr K H d C) (b:Db K d H H' C'):GrA H' g e n:=by
 obtain ⟨zs,h1,h2⟩:=h.ex
 exact ⟨⟨zs,b.lst D h1,h2⟩,h.lo,h.hi⟩
theorem RowsM.ref {H:Hp} {n:Nat} {v:V} {m:List Pr} (h:RowsM H n v m):∃ a,v=.ref a:=by
 cases n with
 |zero=>exact h.elim
 |succ n=>obtain ⟨a,_,_,e,_⟩:=h;exact ⟨a,e⟩
theorem Db.put {K:PySem.W.Frag} {d l:Addr} {H G:Hp} {C C':Nat} {ys ys':List V} (b:Db K d H G C') (D:Dr K H d C) (hl:H l=none) (hG:G l=some (.lst ys)):Db K d H (upd G l (.lst ys')) C':=by
 obtain ⟨kvs,a,ns,c,x,h1,h2,h3,h4,h5,_⟩:=D.ex
 obtain ⟨kvs',a',ns',c',x',g1,g2,g3,g4,g5,g6,g7,g8,g9⟩:=b.dr.ex
 have nd:d≠l:=ne_of g1 hG (λz=>nomatch z)
 obtain ⟨kv2,e1,e2⟩:=b.sc a ⟨kvs,h1,h3⟩
 rw [g1] at e1
 cases e1
 rw [g3] at e2
 cases e2
 refine ⟨λe o n h=>by rw [upd_ne (ne_of_none h hl)];exact b.bt _ _ n h,?_,λu ⟨kv3,f1,f2⟩=>?_⟩
 ·rcases h4 with h4 | h4
  ·have na:a≠l:=by
    rcases h4 with h4 | ⟨o,h4⟩<;>exact ne_of_none h4 hl
   refine ⟨kvs',a,ns',c',x',by rw [upd_ne nd];exact g1,g2,g3,?_,g5,g6,g7,g8,g9⟩
   rcases g4 with (g4 | ⟨o,g4⟩) | g4
   ·exact .inl (.inl (by rw [upd_ne na];exact g4))
   ·exact .inl (.inr ⟨o,by rw [upd_ne na];exact g4⟩)
   ·exact .inr g4
  ·exact ⟨kvs',a,ns,c',x',by rw [upd_ne nd];exact g1,g2,g3,.inr h4,h5,g6,g7,g8,g9⟩
 ·obtain ⟨kv4,f3,f4⟩:=b.sc u ⟨kv3,f1,f2⟩
  exact ⟨kv4,by rw [upd_ne nd];exact f3,f4⟩
theorem KT.put {G:Hp} {l:Addr} {ys ys':List V} (hG:G l=some (.lst ys)):KT G (upd G l (.lst ys')):=λa xs h=>by rw [upd_ne (ne_of h hG (λz=>nomatch z))];exact h
theorem for_hold {wi:TI} {g:TG} {tb:TS} {D:Ends} {σ:St} {H:Hp} (Po:St->Hp->Prop) (hr:∀ σ' H',Po σ' H'->D.nx σ' H') (h:∀ U:St->Hp->Prop,(∀ σ' H',Po σ' H'->U σ' H')->tFor wi g tb { D with nx:=U } σ H):tFor wi g tb D σ H:=h D.nx hr
def spLaw (K:PySem.W.Frag):Sp:=λvs H Q _=>∃ (a:Addr) (ns:List Int),vs=[.ref a]/\SqL K H a (ns.map V.int)/\ns.length<=63/\∀ H',Q (.bl true) H'
def PrH (H:Hp) (f h t:Addr):Prop:=∃ (a b:Addr) (xs:List V),H t=some (.tup [.ref a,.ref b])/\H a=some (.lst xs)/\H b=some (.lst xs)/\a≠f/\b≠f/\a≠h/\b≠h/\∀ x∈xs,x=.non\/∃ r,x=V.ref r
structure HeldA (H:Hp) (f h:Addr) (n:Nat):Prop where
 nh:h≠f
 ex:∃ ts:List Addr,H h=some (.lst (ts.map V.ref))/\ts.length<=n/\∀ t∈ts,PrH H f h t
def Kl (f:Addr) (H H':Hp):Prop:=∀ c o,c≠f->(∀ C dx fs,o≠.ins C dx fs)->(∀ kvs,o≠.dK kvs)->H c=some o->H' c=some o
theorem K3.kl {T:Tx P w K mg} {p:Addr} {stk:List Fm} {kv mk:List (Key×V)} {m:Mc} {H H':Hp} (k:K3 m H H') (M:MAt T H p stk kv mk m):Kl m.fl H H':=λc o n e1 e2 h=>k c o n (ne_of h M.nv (e2 _)) (ne_of h M.mr (e2 _)) e1 h
theorem PrH.kl {H H':Hp} {f h t:Addr} (P:PrH H f h t) (k:Kl f H H') (kt:KT H H'):PrH H' f h t:=by
 obtain ⟨a,b,xs,h1,h2,h3,n1,n2,n3,n4,hx⟩:=P
 exact ⟨a,b,xs,kt _ _ h1,k _ _ n1 (λ_ _ _ z=>nomatch z) (λ_ z=>nomatch z) h2,k _ _ n2 (λ_ _ _ z=>nomatch z) (λ_ z=>nomatch z) h3,n1,n2,n3,n4,hx⟩
theorem HeldA.kl {H H':Hp} {f h:Addr} {n:Nat} (A:HeldA H f h n) (k:Kl f H H') (kt:KT H H'):HeldA H' f h n:=by
 obtain ⟨ts,h1,h2,h3⟩:=A.ex
 exact ⟨A.nh,ts,k _ _ A.nh (λ_ _ _ z=>nomatch z) (λ_ z=>nomatch z) h1,h2,λt ht=>(h3 t ht).kl k kt⟩
theorem Kl.of {f:Addr} {H H':Hp} (s:Same H H'):Kl f H H':=λc o _ _ _ h=>s c o h
theorem HeldA.same {H H':Hp} {f h:Addr} {n:Nat} (A:HeldA H f h n) (s:Same H H'):HeldA H' f h n:=A.kl (.of s) (.of s)
theorem HeldA.push {H:Hp} {f h t:Addr} {n:Nat} (A:HeldA H f h n) (P:PrH H f h t):∃ xs:List V,H h=some (.lst xs)/\xs.length<=n/\HeldA (upd H h (.lst (xs++[.ref t]))) f h (n+1):=by
 obtain ⟨ts,h1,h2,h3⟩:=A.ex
 refine ⟨_,h1,by rw [List.length_map];exact h2,A.nh,ts++[t],by rw [upd_same,List.map_append];rfl,by rw [List.length_append];simp;exact h2,λu hu=>?_⟩
 have mv:∀ u,PrH H f h u->PrH (upd H h (.lst (ts.map V.ref++[.ref t]))) f h u:=λu ⟨a,b,xs,e1,e2,e3,n1,n2,n3,n4,hx⟩=>⟨a,b,xs,by rw [upd_ne (ne_of e1 h1 (λz=>nomatch z))];exact e1,by rw [upd_ne n3];exact e2,by rw [upd_ne n4];exact e3,n1,n2,n3,n4,hx⟩
 rcases List.mem_append.mp hu with q | q
 ·exact mv u (h3 u q)
 ·rw [List.mem_singleton.mp q];exact mv t P
def spHeld (K:PySem.W.Frag):Sp:=λvs H Q _=>∃ (f h:Addr) (n:Nat),vs=[.ref h]/\HeldA H f h n/\n<=30/\∀ H',Same H H'->Q (.bl true) H'
theorem prEq {K:PySem.W.Frag} {H:Hp} {p q:Addr} {k:Pr} (h1:H p=some (.tup [.str k.1,.str k.2])) (h2:H q=some (.tup [.str k.1,.str k.2])):EqD K H 1 (.ref p) (.ref q) true:=by
 by_cases e:p=q
 ·subst e;exact .same
 ·have:=EqD.tup (K:=K) (H:=H) (n:=0) (e:=λ_=>true) (SqT.of h1) (SqT.of h2) e (λi x y hx hy=>by
   rw [hx] at hy
   cases hy
   match i,hx with
   |0,hx =>
    cases hx
    have q:=EqD.flat (K:=K) (H:=H) (n:=0) (x:=.str k.1) (y:=.str k.1) rfl rfl
    rw [show eqV (.str k.1) (.str k.1)=true from beq_self_eq_true _] at q
    exact q
   |1,hx =>
    cases hx
    have q:=EqD.flat (K:=K) (H:=H) (n:=0) (x:=.str k.2) (y:=.str k.2) rfl rfl
    rw [show eqV (.str k.2) (.str k.2)=true from beq_self_eq_true _] at q
    exact q
   |i+2,hx=>cases hx)
  exact this
theorem prD {K:PySem.W.Frag} {H:Hp} {p q:Addr} {k j:Pr} (h1:H p=some (.tup [.str k.1,.str k.2])) (h2:H q=some (.tup [.str j.1,.str j.2])):EqD K H 1 (.ref p) (.ref q) (decide (k=j)):=by
 by_cases ek:k=j
 ·subst ek
  rw [decide_eq_true rfl]
  exact prEq h1 h2
 ·have e:p≠q:=λz=>by
   subst z
   rw [h1] at h2
   apply ek
   have h3:=Option.some.inj h2
   injection h3 with h3
   injection h3 with e1 h4
   injection h4 with e2 _
   exact Prod.ext (V.str.inj e1) (V.str.inj e2)
  rw [decide_eq_false ek]
  have:=EqD.tup (K:=K) (H:=H) (n:=0) (e:=λi=>if i=0 then k.1 == j.1 else k.2 == j.2) (SqT.of h1) (SqT.of h2) e (λi x y hx hy=>by
   match i,hx,hy with
   |0,hx,hy=>cases hx;cases hy;exact .flat rfl rfl
   |1,hx,hy=>cases hx;cases hy;exact .flat rfl rfl
   |i+2,hx,hy=>cases hx)
  have hb:((List.range (min ([V.str k.1,.str k.2]:List V).length ([V.str j.1,.str j.2]:List V).length)).all (λi=>if i=0 then k.1 == j.1 else k.2 == j.2)&&([V.str k.1,.str k.2]:List V).length == ([V.str j.1,.str j.2]:List V).length)=false:=by
   show ((k.1 == j.1)&&((k.2 == j.2)&&true)&&true)=false
   by_cases a:k.1=j.1
   ·by_cases b:k.2=j.2
    ·exact absurd (Prod.ext a b) ek
    ·rw [beq_eq_false_iff_ne.mpr b];simp
   ·rw [beq_eq_false_iff_ne.mpr a];simp
  rw [hb] at this
  exact this
theorem neP {K:PySem.W.Frag} {H:Hp} {neg:Bool} {a b:Addr} {ps qs:List Addr} {ks:List Pr} {R:VK} (ha:H a=some (.lst (ps.map V.ref))) (hb:H b=some (.lst (qs.map V.ref))) (hp:PrA H ps ks) (hq:PrA H qs ks) (k:R (.bl (!neg)) H):rEqL K neg (.ref a) (.ref b) H R:=by
 refine ⟨a,b,_,_,1,λ_=>true,rfl,rfl,SqL.of ha,SqL.of hb,by decide,λi x y ex ey=>?_,?_⟩
 ·rw [List.getElem?_map] at ex ey
  cases e1:ps[i]? with
  |none=>rw [e1] at ex;cases ex
  |some p =>
   cases e2:qs[i]? with
   |none=>rw [e2] at ey;cases ey
   |some q =>
    rw [e1] at ex
    rw [e2] at ey
    cases ex
    cases ey
    have hi:i<ks.length:=by rw [<- hp.1];exact (List.getElem?_eq_some_iff.mp e1).1
    exact prEq (hp.2 i p _ e1 (List.getElem?_eq_getElem hi)) (hq.2 i q _ e2 (List.getElem?_eq_getElem hi))
 ·have e:((List.range (ps.map V.ref).length).all λ_=>true)=true:=by rw [List.all_eq_true];intros;rfl
  have l:(ps.map V.ref).length=(qs.map V.ref).length:=by rw [List.length_map,List.length_map,hp.1,hq.1]
  rw [e,decide_eq_true l]
  cases neg<;>exact k
theorem filt_filt (Pp:Pr->Bool):UU.filter (λk=>decide (k∈UU.filter Pp))=UU.filter Pp:=by
 refine List.filter_congr λk hk=>?_
 by_cases e:Pp k=true
 ·rw [e];exact decide_eq_true (List.mem_filter.mpr ⟨hk,e⟩)
 ·rw [show Pp k=false by simpa using e]
  exact decide_eq_false λz=>e (List.mem_filter.mp z).2
theorem Gd.mss {T:Tx P w K mg} {H:Hp} {p:Addr} {S:Pr->Prop} {N:Nat} {stk:List Fm} {kv:List (Key×V)} {m:Mc} (G:Gd T H p S N stk kv m):∃ mss,All2 (BhF H) stk mss/\(∀ k∈mss.flatten,S k)/\Gd T H p (λk=>k∈mss.flatten) N stk kv m:=by
 have one:∀ l:List Fm,(∀ x∈l,GdF H S x)->∃ mss,All2 (λx ms=>BhF H x ms/\(∀ k∈ms,S k)/\∀ S':Pr->Prop,(∀ k∈ms,S' k)->GdF H S' x) l mss:=by
  intro l
  induction l with
  |nil=>exact λ_=>⟨[],.nil⟩
  |cons x r ih =>
   intro h
   obtain ⟨mss,hm⟩:=ih λy hy=>h y (List.mem_cons_of_mem _ hy)
   have g:=h x List.mem_cons_self
   obtain ⟨mr,mo,h1,h2,h3⟩:=g.might
   exact ⟨(nsM x.c x.s mr mo).flatten::mss,.cons ⟨⟨_,behind_ns h1 h2,rfl⟩,h3,λS' hS=>⟨⟨mr,mo,h1,h2,hS⟩,g.held,g.sc,g.told,g.named,g.gh⟩⟩ hm⟩
 obtain ⟨mss,hm⟩:=one stk G.fr
 refine ⟨mss,hm.imp λ_ _ h=>h.1,λk hk=>?_,G.at_,λx hx=>?_,G.ne,G.ln,G.kl,G.kv,G.sg,G.st,G.bt⟩
 ·obtain ⟨ms,h1,h2⟩:=List.mem_flatten.mp hk
  obtain ⟨x,_,hx⟩:=hm.mem ms h1
  exact hx.2.1 k h2
 ·obtain ⟨i,hi⟩:=List.getElem?_of_mem hx
  obtain ⟨ms,e,h⟩:=hm.get hi
  exact h.2.2 _ λk hk=>List.mem_flatten.mpr ⟨ms,List.mem_of_getElem? e,hk⟩
structure Lp (T:Tx P w K mg) (G:Hp) (p h du:Addr) (i:Nat) (stk:List Fm) (kv:List (Key×V)) (m:Mc) (mss:List (List Pr)) (ks:List Pr):Prop where
 gd:Gd T G p (λk=>k∈mss.flatten) (1+2*i) stk kv m
 wt:m.wt=.non
 bh:All2 (BhF G) stk mss
 held:HeldA G m.fl h i
 due:PrL G du ks
 sub:∀ k∈mss.flatten,k∈ks
 first:i=0->ks=UU.filter λk=>decide (k∈mss.flatten)
def kv0 (a:Addr):List (Key×V):=[(.inr "script",.ref a),(.inr "at",.int 0),(.inr "line",.int 0)]
theorem dr0 {K:PySem.W.Frag} {H:Hp} {d a:Addr} {ns:List Int} (h:H d=some (.dK (mergeK [] (kv0 a)))) (hs:SqL K H a (ns.map V.int)) (hn:ns.length<=63):Dr K H d 0:=by
 refine ⟨_,a,ns,0,0,h,?_,?_,hs,hn,?_,Int.le_refl _,Int.le_refl _,?_⟩
 ·unfold mergeK kv0
  simp only [List.foldl_cons,List.foldl_nil]
  have l1:=length_putK (putK (putK [] (.inr "script":Key) (.ref a)) (.inr "at") (.int 0)) (.inr "line":Key) (.int 0)
  have l2:=length_putK (putK [] (.inr "script":Key) (.ref a)) (.inr "at":Key) (.int 0)
  have l3:=length_putK [] (.inr "script":Key) (.ref a)
  simp only [List.length_nil] at l3
  omega
 ·unfold mergeK kv0
  simp only [List.foldl_cons,List.foldl_nil,valV_put]
  rw [if_neg (by decide +kernel),if_neg (by decide +kernel),if_pos trivial]
 ·unfold mergeK kv0
  simp only [List.foldl_cons,List.foldl_nil,valV_put]
  rw [if_neg (by decide +kernel),if_pos trivial]
 ·unfold mergeK kv0
  simp only [List.foldl_cons,List.foldl_nil,valV_put]
  rw [if_pos trivial]
theorem root_bh {H:Hp} {f r:Addr} {vs:List V} {ms:List (List Pr)} (h:All2 (RowM H 5) vs ms):BhF H ⟨f,.frame,rootS r vs⟩ ms.flatten:=⟨ms,h,rfl⟩
theorem root_gd {T:Tx P w K mg} {H:Hp} {p f r:Addr} {vs:List V} {ms:List (List Pr)} {m:Mc} (M:MAt T H p [⟨f,.frame,rootS r vs⟩] [] [] m) (h:All2 (RowM H 5) vs ms) (hs:m.sg=.non) (ht:m.st=false):Gd T H p (λk=>k∈[ms.flatten].flatten) 1 [⟨f,.frame,rootS r vs⟩] [] m:=by
 have e:∀ k∈ms.flatten,k∈[ms.flatten].flatten:=λk hk=>by simpa using hk
 refine ⟨M,λx hx=>?_,by simp,by simp,by simp,λk v hv=>?_,.inl hs,ht,λy hy=>?_⟩
 ·rw [List.mem_singleton.mp hx]
  exact GdF.new (a:=f) (c:=.frame) (s:=rootS r vs) h h e e rfl (λz=>(by rcases z with z | z<;>cases z)) rfl (.inl rfl)
 ·rw [valV_nil] at hv;cases hv
 ·cases hy;rfl
theorem MAt.offL {T:Tx P w K mg} {H H':Hp} {p h:Addr} {stk:List Fm} {kv mk:List (Key×V)} {m:Mc} {xs:List V} (M:MAt T H p stk kv mk m) (b:But h H H') (hh:H h=some (.lst xs)) (n:h≠m.fl):MAt T H' p stk kv mk m:=by
 obtain ⟨dx,fs,h1,h3⟩:=M.ob.ex
 refine ⟨⟨dx,fs,b _ _ (ne_of h1 hh (λz=>nomatch z)) h1,h3⟩,b _ _ (Ne.symm n) M.fl,λx hx=>?_,M.nd,b _ _ (ne_of M.nv hh (λz=>nomatch z)) M.nv,b _ _ (ne_of M.mr hh (λz=>nomatch z)) M.mr,M.ne,M.sc⟩
 have F:=M.fr x hx
 obtain ⟨dy,gs,h2,h4⟩:=F.fr.ex
 exact ⟨⟨dy,gs,b _ _ (ne_of h2 hh (λz=>nomatch z)) h2,h4⟩,b _ _ (ne_of F.rs hh (λz=>nomatch z)) F.rs,b _ _ (ne_of F.os hh (λz=>nomatch z)) F.os,F.pl,F.rl,F.ol⟩
theorem Gd.offL {T:Tx P w K mg} {H H':Hp} {p h:Addr} {S:Pr->Prop} {N:Nat} {stk:List Fm} {kv:List (Key×V)} {m:Mc} {xs:List V} (G:Gd T H p S N stk kv m) (b:But h H H') (hh:H h=some (.lst xs)) (n:h≠m.fl):Gd T H' p S N stk kv m:=by
 have kt:KT H H':=λa ys e=>b _ _ (ne_of e hh (λz=>nomatch z)) e
 exact G.by_ (G.at_.offL b hh n) kt (G.sg.kt kt) G.st
structure Af (T:Tx P w K mg) (G:Hp) (p h l f:Addr) (i:Nat) (S:Pr->Prop) (qs:List Addr) (tk:List Pr):Prop where
 gd:∃ stk kv m,Gd T G p S (3+2*i) stk kv m/\m.wt=.non/\m.fl=f
 held:HeldA G f h (i+1)
 told:G l=some (.lst (qs.map V.ref++[.non]))
 pr:PrA G qs tk
theorem cut_last (xs:List V) (v:V):cutV (xs++[v]) none (some (-1))=xs:=by
 have e:HT.sIx (xs++[v]).length (xs++[v]).length (some (-1))=xs.length:=by
  rw [List.length_append]
  unfold HT.sIx
  simp
  omega
 unfold cutV
 rw [HT.sIx_none,e,List.drop_zero,Nat.sub_zero,List.take_left]
open Classical in
theorem notin {K:PySem.W.Frag} {H:Hp} {q du:Addr} {dps:List Addr} {ks:List Pr} {k:Pr} {R:VK} (hq:H q=some (.tup [.str k.1,.str k.2])) (hd:H du=some (.lst (dps.map V.ref))) (hp:PrA H dps ks) (hk:k∈ks) (r:R (.bl false) H):rInD K true (.ref q) (.ref du) H R:=by
 refine ⟨du,dps.map V.ref,1,λz=>decide (∃ b,z=V.ref b/\H b=some (.tup [.str k.1,.str k.2])),rfl,SqL.of hd,by decide,λz hz=>?_,?_⟩
 ·obtain ⟨p,hpm,rfl⟩:=List.mem_map.mp hz
  obtain ⟨i,hi⟩:=List.getElem?_of_mem hpm
  have hlt:i<ks.length:=by rw [<- hp.1];exact (List.getElem?_eq_some_iff.mp hi).1
  have hpi:=hp.2 i p _ hi (List.getElem?_eq_getElem hlt)
  have e:decide (∃ b,V.ref p=V.ref b/\H b=some (.tup [.str k.1,.str k.2]))=decide (ks[i]=k):=by
   by_cases c:ks[i]=k
   ·rw [decide_eq_true c]
    exact decide_eq_true ⟨p,rfl,by rw [<- c];exact hpi⟩
   ·rw [decide_eq_false c]
    refine decide_eq_false λ⟨b,e1,e2⟩=>c ?_
    cases e1
    rw [hpi] at e2
    have h3:=Option.some.inj e2
    injection h3 with h3
    injection h3 with e1 h4
    injection h4 with e2 _
    exact Prod.ext (V.str.inj e1) (V.str.inj e2)
  show EqD K H 1 (.ref p) (.ref q) (decide (∃ b,V.ref p=V.ref b/\H b=some (.tup [.str k.1,.str k.2])))
  rw [e]
  exact prD hpi hq
 ·obtain ⟨i,hi⟩:=List.getElem?_of_mem hk
  have hlt:i<dps.length:=by rw [hp.1];exact (List.getElem?_eq_some_iff.mp hi).1
  have hpi:=hp.2 i _ k (List.getElem?_eq_getElem hlt) hi
  have:(dps.map V.ref).any (λz=>decide (∃ b,z=V.ref b/\H b=some (.tup [.str k.1,.str k.2])))=true :=
   List.any_eq_true.mpr ⟨.ref dps[i],List.mem_map.mpr ⟨_,List.getElem_mem hlt,rfl⟩,decide_eq_true ⟨_,rfl,hpi⟩⟩
  rw [this]
  exact r

theorem sc_Frame___init__:FnScope ["self", "rows", "line", "scope"] ["self", "rows", "line", "scope"] (defScope (inClass (top 2) 0)):=⟨rfl,rfl,rfl,by decide +kernel,rfl,by decide +kernel,by decide +kernel⟩
theorem ok_Frame___init__ (T:Tx P w K mg) {f:Addr} {fd:FuncData} {dV:Value} (F:FunD K "__init__" "Frame.__init__" (inClass (top 2) 0) dV f fd):FnOk P w K mg base CX0 1 f fd ["self", "rows", "line", "scope"] (spFInit T):=by
 refine F.ok sc_Frame___init__ (λvs H Q E h=>?_) (λcdv A outer s H vs Q E hr h=>?_)
 ·obtain ⟨c,p,a,xs,ln,sc,rfl,_⟩:=h
  rfl
 ·obtain ⟨c,p,a,xs,ln,sc,rfl,F0,ha,k⟩:=h
  refine ⟨_,(pss_cons (ps_fld (pv 0) (pe_callTy call_tuple_of (by rfl) T.n_tuple bt_tuple (pa_cons (pv 1) pa_nil)) rfl)
  (pss_cons (ps_fld (pv 0) (pv 2) rfl)
  (pss_cons (ps_fld (pv 0) (pv 3) rfl)
  (pss_cons (ps_fld (pv 0) pe_int rfl)
  (pss_cons (ps_fld (pv 0) pe_non rfl)
  (pss_one (ps_fld (pv 0) pe_non rfl))))))),?_⟩
  refine ⟨_,rfl,a,xs,rfl,.inr ⟨SqT.of ha,?_⟩⟩
  refine F0.st (l:=.rows) (by decide) rfl λH1 b1 F1=>?_
  refine ⟨_,rfl,F1.st (l:=.line) (by decide) rfl λH2 b2 F2=>?_⟩
  refine ⟨_,rfl,F2.st (l:=.scope) (by decide) rfl λH3 b3 F3=>?_⟩
  refine F3.st (l:=.begun) (by decide) rfl λH4 b4 F4=>?_
  refine F4.st (l:=.named) (by decide) rfl λH5 b5 F5=>?_
  refine F5.st (l:=.held) (by decide) rfl λH6 b6 F6=>?_
  refine k H6 (b1.trans (b2.trans (b3.trans (b4.trans (b5.trans b6))))) ?_
  refine cast ?_ F6
  congr 1
  funext l
  cases l<;>rfl
theorem sc_Frame_next_row:FnScope ["self"] ["self"] (defScope (inClass (top 2) 1)):=⟨rfl,rfl,rfl,by decide +kernel,rfl,by decide +kernel,by decide +kernel⟩
theorem ok_Frame_next_row (T:Tx P w K mg) {f:Addr} {fd:FuncData} (F:Fun K "next_row" "Frame.next_row" (inClass (top 2) 1) f fd):FnOk P w K mg base CX0 1 f fd ["self"] (spNext T):=by
 refine F.ok sc_Frame_next_row (λvs H Q E h=>?_) (λcdv A outer s H vs Q E hr h=>?_)
 ·obtain ⟨c,p,s,rfl,_⟩:=h
  rfl
 ·obtain ⟨c,p,s,rfl,F,k1,k2⟩:=h
  refine ⟨_,(pss_cons (ps_if (pt_cmpR op_eq (pe_fld (pv 0) rfl) (pe_callB call_len (by rfl) T.n_len bt_len (pa_cons (pe_fld (pv 0) rfl) pa_nil)) (nomark _))
  (pss_one (ps_ret pe_non))
  pss_nil)
  (pss_cons (ps_fld (pv 0) (pe_op op_add (pe_fld (pv 0) rfl) pe_int) rfl)
  (pss_one (ps_ret (pe_ix ix_tup (pe_fld (pv 0) rfl) (pe_op op_sub (pe_fld (pv 0) rfl) pe_int) (λ_ _=>rfl)))))),?_⟩
  walk_at "sx"
  refine F.fr.fld (l:=.begun) rfl rfl (F.fr.fld (l:=.rows) rfl rfl ⟨_,.inr ⟨_,SqT.of F.rs,rfl⟩,rfl,?_⟩)
  by_cases e:s.place=s.rows.length
  ·exact ifT (by rw [e]) (k1 e)
  refine ifF (λz=>e (by have:=V.int.inj z;omega)) ?_
  have hlt:s.place<s.rows.length:=by have:=F.pl;omega
  simp only [sFld,tOp,tC]
  refine F.fr.fld (l:=.begun) rfl rfl ⟨_,_,rfl,rfl,?_⟩
  refine F.re (s':={ s with place:=s.place+1 }) (l:=.begun) rfl (λz=>nomatch z) (by funext l;cases l<;>rfl) F.rs F.os hlt F.rl F.ol λH2 b2 F2=>?_
  simp only [tRet]
  refine F2.fr.fld (l:=.rows) rfl rfl (F2.fr.fld (l:=.begun) rfl rfl ?_)
  refine ⟨_,_,rfl,rfl,s.ra,_,_,s.rows[s.place],rfl,rfl,SqT.of F2.rs,?_,k2 _ (List.getElem?_eq_getElem hlt) H2 b2 F2⟩
  rw [show ((s.place+1:Nat):Int)-1=(s.place:Int) by omega]
  exact atI_nat (List.getElem?_eq_getElem hlt)
theorem sc_Frame_begin_anew:FnScope ["self", "rows"] ["self", "rows"] (defScope (inClass (top 2) 2)):=⟨rfl,rfl,rfl,by decide +kernel,rfl,by decide +kernel,by decide +kernel⟩
theorem ok_Frame_begin_anew (T:Tx P w K mg) {f:Addr} {fd:FuncData} (F:Fun K "begin_anew" "Frame.begin_anew" (inClass (top 2) 2) f fd):FnOk P w K mg base CX0 1 f fd ["self", "rows"] (spAnew T):=by
 refine F.ok sc_Frame_begin_anew (λvs H Q E h=>?_) (λcdv A outer s H vs Q E hr h=>?_)
 ·obtain ⟨c,p,a,s,xs,rfl,_⟩:=h
  rfl
 ·obtain ⟨c,p,a,s,xs,rfl,F,ha,hx,k⟩:=h
  have hu:=hu100 hr
  refine ⟨_,(pss_cons (ps_fld (pv 0) (pe_callTy call_tuple_of (by rfl) T.n_tuple bt_tuple (pa_cons (pv 1) pa_nil)) rfl)
  (pss_one (ps_fld (pv 0) pe_int rfl))),?_⟩
  walk_at "sx"
  refine ⟨_,rfl,a,rfl,xs,.inr ⟨SqT.of ha,?_⟩⟩
  refine F.fr.re (l:=.rows) (by decide) rfl (λz=>nomatch z) λH1 b1 F1=>?_
  refine F1.re (l:=.begun) (by decide) rfl (λz=>nomatch z) λH2 b2 F2=>?_
  refine k H2 (b1.trans b2) ⟨?_,F.but (b1.trans b2) ha,F.but (b1.trans b2) F.os,Nat.zero_le _,hx,F.ol⟩
  refine cast ?_ F2
  congr 1
  funext l
  cases l<;>rfl
theorem sc_Frame_rest:FnScope ["self"] ["self"] (defScope (inClass (top 2) 6)):=⟨rfl,rfl,rfl,by decide +kernel,rfl,by decide +kernel,by decide +kernel⟩
theorem ok_Frame_rest (T:Tx P w K mg) {f:Addr} {fd:FuncData} (F:Fun K "rest" "Frame.rest" (inClass (top 2) 6) f fd):FnOk P w K mg base CX0 1 f fd ["self"] (spRest T):=by
 refine F.ok sc_Frame_rest (λvs H Q E h=>?_) (λcdv A outer s H vs Q E hr h=>?_)
 ·obtain ⟨c,p,s,rfl,_⟩:=h
  rfl
 ·obtain ⟨c,p,s,rfl,F,k⟩:=h
  have hu:=hu100 hr
  refine ⟨_,(pss_one (ps_ret (pe_callTy call_list_of (by rfl) T.n_list bt_list (pa_cons (pe_slice sl_tupW (pe_fld (pv 0) rfl) (po_some (pe_fld (pv 0) rfl)) po_none) pa_nil)))),?_⟩
  walk_at "sx"
  refine F.fr.fld (l:=.rows) rfl rfl (F.fr.fld (l:=.begun) rfl rfl ⟨_,rfl,?_⟩)
  refine slFrom F.rs λq G1 s1 h1=>⟨q,rfl,_,.inr (SqT.of h1),λl hl=>?_⟩
  exact k l _ (s1.free hl) (s1.trans (Same.upd hl)) upd_same
theorem sc_Frame_behind:FnScope ["self"] ["self"] (defScope (inClass (top 2) 7)):=⟨rfl,rfl,rfl,by decide +kernel,rfl,by decide +kernel,by decide +kernel⟩
theorem ok_Frame_behind (T:Tx P w K mg) {f:Addr} {fd:FuncData} (F:Fun K "behind" "Frame.behind" (inClass (top 2) 7) f fd) {c:Kd} (hb:∀ s,behindF c s=s.rows.drop s.place) (G_rest:∀ c,FnOk P w K mg base CX0 1 (T.m_rest c).f (T.m_rest c).fd ["self"] (spRest T)):FnOk P w K mg base CX0 2 f fd ["self"] (spBehind T c):=by
 refine F.ok sc_Frame_behind (λvs H Q E h=>?_) (λcdv A outer s H vs Q E hr h=>?_)
 ·obtain ⟨p,s,rfl,_⟩:=h
  rfl
 ·obtain ⟨p,s,rfl,F,k⟩:=h
  have hu:=hu100 hr
  refine ⟨_,(pss_one (ps_ret (pe_meth0 (pv 0) (T.cl c) (T.m_rest c).me (G_rest c) (hr.mono (by omega)) (T.m_rest c).b .nil pass0))),?_⟩
  walk_at "sx"
  refine F.mt nf_rest ⟨c,p,s,rfl,F,λl H' hl s' h'=>k l H' hl s' ?_⟩
  rw [hb];exact h'
theorem sc_Rounds_behind:FnScope ["self"] ["self"] (defScope (inClass (top 3) 2)):=⟨rfl,rfl,rfl,by decide +kernel,rfl,by decide +kernel,by decide +kernel⟩
theorem ok_Rounds_behind (T:Tx P w K mg) {f:Addr} {fd:FuncData} (F:Fun K "behind" "Rounds.behind" (inClass (top 3) 2) f fd) (G_rest:∀ c,FnOk P w K mg base CX0 1 (T.m_rest c).f (T.m_rest c).fd ["self"] (spRest T)):FnOk P w K mg base CX0 2 f fd ["self"] (spBehind T .rounds):=by
 refine F.ok sc_Rounds_behind (λvs H Q E h=>?_) (λcdv A outer s H vs Q E hr h=>?_)
 ·obtain ⟨p,s,rfl,_⟩:=h
  rfl
 ·obtain ⟨p,s,rfl,F,k⟩:=h
  have hu:=hu100 hr
  refine ⟨_,(pss_one (ps_ret (pe_ifExp (pt_cmpR op_gt (pe_fld (pv 0) rfl) pe_int (nomark _)) (pe_callTy call_list_of (by rfl) T.n_list bt_list (pa_cons (pe_fld (pv 0) rfl) pa_nil)) (pe_meth0 (pv 0) (T.cl .rounds) (T.m_rest .rounds).me (G_rest .rounds) (hr.mono (by omega)) (T.m_rest .rounds).b .nil pass0)))),?_⟩
  walk_at "sx"
  refine F.fr.fld (l:=.left) rfl rfl ⟨_,rfl,?_⟩
  by_cases e:0<s.left
  ·refine ifT e (F.fr.fld (l:=.rows) rfl rfl ⟨_,rfl,_,.inr (SqT.of F.rs),λl hl=>k l _ hl (Same.upd hl) ?_⟩)
   rw [upd_same,show behindF .rounds s=s.rows by unfold behindF;rw [if_pos ⟨rfl,e⟩]]
  ·refine ifF e (F.mt nf_rest ⟨.rounds,p,s,rfl,F,λl H' hl s' h'=>k l H' hl s' ?_⟩)
   rw [show behindF .rounds s=s.rows.drop s.place by unfold behindF;rw [if_neg (λz=>e z.2),if_neg (by intro z;rcases z with z | z | z<;>simp at z)]]
   exact h'
theorem sc_Tried_behind:FnScope ["self"] ["self"] (defScope (inClass (top 5) 2)):=⟨rfl,rfl,rfl,by decide +kernel,rfl,by decide +kernel,by decide +kernel⟩
theorem ok_Tried_behind (T:Tx P w K mg) {f:Addr} {fd:FuncData} (F:Fun K "behind" "Tried.behind" (inClass (top 5) 2) f fd) (G_rest:∀ c,FnOk P w K mg base CX0 1 (T.m_rest c).f (T.m_rest c).fd ["self"] (spRest T)):FnOk P w K mg base CX0 2 f fd ["self"] (spBehind T .tried):=by
 refine F.ok sc_Tried_behind (λvs H Q E h=>?_) (λcdv A outer s H vs Q E hr h=>?_)
 ·obtain ⟨p,s,rfl,_⟩:=h
  rfl
 ·obtain ⟨p,s,rfl,F,k⟩:=h
  have hu:=hu100 hr
  refine ⟨_,(pss_one (ps_ret (pe_op op_cat (pe_meth0 (pv 0) (T.cl .tried) (T.m_rest .tried).me (G_rest .tried) (hr.mono (by omega)) (T.m_rest .tried).b .nil pass0) (pe_callTy call_list_of (by rfl) T.n_list bt_list (pa_cons (pe_fld (pv 0) rfl) pa_nil))))),?_⟩
  walk_at "sx"
  refine F.mt nf_rest ⟨.tried,p,s,rfl,F,λl H1 hl s1 h1=>?_⟩
  have F1:=F.same s1
  refine F1.fr.fld (l:=.others) rfl rfl ⟨_,rfl,_,.inr (SqT.of F1.os),λl2 hl2=>?_⟩
  have t:=Same.upd (o:=.lst s.others) hl2
  refine ⟨l,l2,_,_,rfl,rfl,t _ _ h1,upd_same,?_,λq hq=>k q _ (s1.free (t.free hq)) ((s1.trans t).trans (Same.upd hq)) ?_⟩
  ·have:=F.rl;have:=F.ol;rw [List.length_drop];exact Nat.le_of_lt (small1000 (by omega))
  ·rw [upd_same,show behindF .tried s=s.rows.drop s.place++s.others by unfold behindF;rw [if_neg (by intro z;simp at z),if_pos (by simp)]]
theorem sc_Cleaned_behind:FnScope ["self"] ["self"] (defScope (inClass (top 6) 5)):=⟨rfl,rfl,rfl,by decide +kernel,rfl,by decide +kernel,by decide +kernel⟩
theorem ok_Cleaned_behind (T:Tx P w K mg) {f:Addr} {fd:FuncData} (F:Fun K "behind" "Cleaned.behind" (inClass (top 6) 5) f fd) (G_rest:∀ c,FnOk P w K mg base CX0 1 (T.m_rest c).f (T.m_rest c).fd ["self"] (spRest T)):FnOk P w K mg base CX0 2 f fd ["self"] (spBehind T .cleaned):=by
 refine F.ok sc_Cleaned_behind (λvs H Q E h=>?_) (λcdv A outer s H vs Q E hr h=>?_)
 ·obtain ⟨p,s,rfl,_⟩:=h
  rfl
 ·obtain ⟨p,s,rfl,F,k⟩:=h
  have hu:=hu100 hr
  refine ⟨_,(pss_one (ps_ret (pe_op op_cat (pe_meth0 (pv 0) (T.cl .cleaned) (T.m_rest .cleaned).me (G_rest .cleaned) (hr.mono (by omega)) (T.m_rest .cleaned).b .nil pass0) (pe_ifExp (pt_val (pe_fld (pv 0) rfl)) (pe_lst pa_nil) (pe_callTy call_list_of (by rfl) T.n_list bt_list (pa_cons (pe_fld (pv 0) rfl) pa_nil)))))),?_⟩
  walk_at "sx"
  refine F.mt nf_rest ⟨.cleaned,p,s,rfl,F,λl H1 hl s1 h1=>?_⟩
  have F1:=F.same s1
  refine F1.fr.fld (l:=.cleaning) rfl rfl ⟨_,rfl,?_⟩
  cases e:s.cleaning with
  |true =>
   refine iteT ⟨by decide,λl2 hl2=>?_⟩
   have t:=Same.upd (o:=.lst []) hl2
   refine ⟨l,l2,_,_,rfl,rfl,t _ _ h1,upd_same,?_,λq hq=>k q _ (s1.free (t.free hq)) ((s1.trans t).trans (Same.upd hq)) ?_⟩
   ·have:=F.rl;rw [List.length_drop];exact Nat.le_of_lt (small1000 (by simp;omega))
   ·rw [upd_same,List.append_nil,show behindF .cleaned s=s.rows.drop s.place by unfold behindF;rw [if_neg (by intro z;simp at z),if_neg (by rw [e];simp)]]
  |false =>
   refine iteF (F1.fr.fld (l:=.others) rfl rfl ⟨_,rfl,_,.inr (SqT.of F1.os),λl2 hl2=>?_⟩)
   have t:=Same.upd (o:=.lst s.others) hl2
   refine ⟨l,l2,_,_,rfl,rfl,t _ _ h1,upd_same,?_,λq hq=>k q _ (s1.free (t.free hq)) ((s1.trans t).trans (Same.upd hq)) ?_⟩
   ·have:=F.rl;have:=F.ol;rw [List.length_drop];exact Nat.le_of_lt (small1000 (by omega))
   ·rw [upd_same,show behindF .cleaned s=s.rows.drop s.place++s.others by unfold behindF;rw [if_neg (by intro z;simp at z),if_pos (by rw [e];simp)]]
theorem sc_Limited_behind:FnScope ["self"] ["self"] (defScope (inClass (top 7) 2)):=⟨rfl,rfl,rfl,by decide +kernel,rfl,by decide +kernel,by decide +kernel⟩
theorem ok_Limited_behind (T:Tx P w K mg) {f:Addr} {fd:FuncData} (F:Fun K "behind" "Limited.behind" (inClass (top 7) 2) f fd) (G_rest:∀ c,FnOk P w K mg base CX0 1 (T.m_rest c).f (T.m_rest c).fd ["self"] (spRest T)):FnOk P w K mg base CX0 2 f fd ["self"] (spBehind T .limited):=by
 refine F.ok sc_Limited_behind (λvs H Q E h=>?_) (λcdv A outer s H vs Q E hr h=>?_)
 ·obtain ⟨p,s,rfl,_⟩:=h
  rfl
 ·obtain ⟨p,s,rfl,F,k⟩:=h
  have hu:=hu100 hr
  refine ⟨_,(pss_one (ps_ret (pe_op op_cat (pe_meth0 (pv 0) (T.cl .limited) (T.m_rest .limited).me (G_rest .limited) (hr.mono (by omega)) (T.m_rest .limited).b .nil pass0) (pe_callTy call_list_of (by rfl) T.n_list bt_list (pa_cons (pe_fld (pv 0) rfl) pa_nil))))),?_⟩
  walk_at "sx"
  refine F.mt nf_rest ⟨.limited,p,s,rfl,F,λl H1 hl s1 h1=>?_⟩
  have F1:=F.same s1
  refine F1.fr.fld (l:=.others) rfl rfl ⟨_,rfl,_,.inr (SqT.of F1.os),λl2 hl2=>?_⟩
  have t:=Same.upd (o:=.lst s.others) hl2
  refine ⟨l,l2,_,_,rfl,rfl,t _ _ h1,upd_same,?_,λq hq=>k q _ (s1.free (t.free hq)) ((s1.trans t).trans (Same.upd hq)) ?_⟩
  ·have:=F.rl;have:=F.ol;rw [List.length_drop];exact Nat.le_of_lt (small1000 (by omega))
  ·rw [upd_same,show behindF .limited s=s.rows.drop s.place++s.others by unfold behindF;rw [if_neg (by intro z;simp at z),if_pos (by simp)]]
theorem sc_Frame_hides:FnScope ["self"] ["self"] (defScope (inClass (top 2) 3)):=⟨rfl,rfl,rfl,by decide +kernel,rfl,by decide +kernel,by decide +kernel⟩
theorem ok_Frame_hides (T:Tx P w K mg) {f:Addr} {fd:FuncData} (F:Fun K "hides" "Frame.hides" (inClass (top 2) 3) f fd) {c:Kd} (hh:∀ s,hidesF c s=false):FnOk P w K mg base CX0 1 f fd ["self"] (spHides T c):=by
 refine F.ok sc_Frame_hides (λvs H Q E h=>?_) (λcdv A outer s H vs Q E hr h=>?_)
 ·obtain ⟨p,s,rfl,_⟩:=h
  rfl
 ·obtain ⟨p,s,rfl,F,k⟩:=h
  have hu:=hu100 hr
  refine ⟨_,(pss_one (ps_ret pe_bl)),?_⟩
  walk_at "sx"
  rw [hh] at k
  exact k
theorem sc_Kept_hides:FnScope ["self"] ["self"] (defScope (inClass (top 4) 0)):=⟨rfl,rfl,rfl,by decide +kernel,rfl,by decide +kernel,by decide +kernel⟩
theorem ok_Kept_hides (T:Tx P w K mg) {f:Addr} {fd:FuncData} (F:Fun K "hides" "Kept.hides" (inClass (top 4) 0) f fd):FnOk P w K mg base CX0 1 f fd ["self"] (spHides T .kept):=by
 refine F.ok sc_Kept_hides (λvs H Q E h=>?_) (λcdv A outer s H vs Q E hr h=>?_)
 ·obtain ⟨p,s,rfl,_⟩:=h
  rfl
 ·obtain ⟨p,s,rfl,F,k⟩:=h
  have hu:=hu100 hr
  refine ⟨_,(pss_one (ps_ret pe_bl)),?_⟩
  walk_at "sx"
  exact k
theorem sc_Cleaned_hides:FnScope ["self"] ["self"] (defScope (inClass (top 6) 2)):=⟨rfl,rfl,rfl,by decide +kernel,rfl,by decide +kernel,by decide +kernel⟩
theorem ok_Cleaned_hides (T:Tx P w K mg) {f:Addr} {fd:FuncData} (F:Fun K "hides" "Cleaned.hides" (inClass (top 6) 2) f fd):FnOk P w K mg base CX0 1 f fd ["self"] (spHides T .cleaned):=by
 refine F.ok sc_Cleaned_hides (λvs H Q E h=>?_) (λcdv A outer s H vs Q E hr h=>?_)
 ·obtain ⟨p,s,rfl,_⟩:=h
  rfl
 ·obtain ⟨p,s,rfl,F,k⟩:=h
  have hu:=hu100 hr
  refine ⟨_,(pss_one (ps_ret (pe_fld (pv 0) rfl))),?_⟩
  walk_at "sx"
  exact F.fr.fld (l:=.cleaning) rfl rfl k
theorem sc_Frame_over:FnScope ["self"] ["self"] (defScope (inClass (top 2) 4)):=⟨rfl,rfl,rfl,by decide +kernel,rfl,by decide +kernel,by decide +kernel⟩
theorem ok_Frame_over (T:Tx P w K mg) {f:Addr} {fd:FuncData} (F:Fun K "over" "Frame.over" (inClass (top 2) 4) f fd) {c:Kd} (ho:∀ s,overF c s="out"/\overS c s=s):FnOk P w K mg base CX0 1 f fd ["self"] (spOver T c):=by
 refine F.ok sc_Frame_over (λvs H Q E h=>?_) (λcdv A outer s H vs Q E hr h=>?_)
 ·obtain ⟨p,s,rfl,_⟩:=h
  rfl
 ·obtain ⟨p,s,rfl,F,k⟩:=h
  have hu:=hu100 hr
  refine ⟨_,(pss_one (ps_ret pe_str)),?_⟩
  walk_at "sx"
  have:=k H (But.refl _ _)
  rw [(ho s).1,(ho s).2] at this
  exact this F
theorem sc_Rounds_over:FnScope ["self"] ["self"] (defScope (inClass (top 3) 1)):=⟨rfl,rfl,rfl,by decide +kernel,rfl,by decide +kernel,by decide +kernel⟩
theorem ok_Rounds_over (T:Tx P w K mg) {f:Addr} {fd:FuncData} (F:Fun K "over" "Rounds.over" (inClass (top 3) 1) f fd) (G_begin_anew:∀ c,FnOk P w K mg base CX0 1 (T.m_begin_anew c).f (T.m_begin_anew c).fd ["self", "rows"] (spAnew T)):FnOk P w K mg base CX0 2 f fd ["self"] (spOver T .rounds):=by
 refine F.ok sc_Rounds_over (λvs H Q E h=>?_) (λcdv A outer s H vs Q E hr h=>?_)
 ·obtain ⟨p,s,rfl,_⟩:=h
  rfl
 ·obtain ⟨p,s,rfl,F,k⟩:=h
  have hu:=hu100 hr
  refine ⟨_,(pss_cons (ps_if (pt_cmpR op_lt (pe_fld (pv 0) rfl) pe_int (nomark _))
  (pss_one (ps_ret pe_str))
  pss_nil)
  (pss_cons (ps_fld (pv 0) (pe_op op_sub (pe_fld (pv 0) rfl) pe_int) rfl)
  (pss_cons (ps_expr (pe_meth (pv 0) (T.cl .rounds) (T.m_begin_anew .rounds).me (G_begin_anew .rounds) (hr.mono (by omega)) (T.m_begin_anew .rounds).b .nil pass0 (pa_cons (pe_fld (pv 0) rfl) pa_nil)))
  (pss_one (ps_ret pe_str))))),?_⟩
  walk_at "sx"
  refine F.fr.fld (l:=.left) rfl rfl ⟨_,rfl,?_⟩
  by_cases e:s.left<1
  ·have e1:overF .rounds s="out":=by unfold overF;rw [if_pos rfl,if_pos e]
   have e2:overS .rounds s=s:=by unfold overS;rw [if_neg (λz=>z.2 e)]
   have:=k H (But.refl _ _)
   rw [e1,e2] at this
   exact ifT e (this F)
  refine ifF e ?_
  have e1:overF .rounds s="on":=by unfold overF;rw [if_pos rfl,if_neg e]
  have e2:overS .rounds s={ s with left:=s.left-1,place:=0 }:=by unfold overS;rw [if_pos ⟨rfl,e⟩]
  rw [e1,e2] at k
  simp only [sFld,tOp,tC]
  refine F.fr.fld (l:=.left) rfl rfl ⟨_,_,rfl,rfl,?_⟩
  refine F.re (s':={ s with left:=s.left-1 }) (l:=.left) rfl (λz=>nomatch z) (by funext l;cases l<;>rfl) F.rs F.os F.pl F.rl F.ol λH2 b2 F2=>?_
  obtain ⟨dx,fs,g1,_,_,g4⟩:=F2.fr.ex
  refine ⟨_,rfl,p,dx,fs,rfl,g1,g4 _ nf_anew,?_⟩
  simp only [tCons]
  refine F2.fr.fld (l:=.rows) rfl rfl ?_
  exact ⟨.rounds,p,_,_,_,rfl,F2,F2.rs,F2.rl,λH3 b3 F3=>k H3 (b2.trans b3) F3⟩
theorem sc_Cleaned_over:FnScope ["self"] ["self"] (defScope (inClass (top 6) 3)):=⟨rfl,rfl,rfl,by decide +kernel,rfl,by decide +kernel,by decide +kernel⟩
theorem ok_Cleaned_over (T:Tx P w K mg) {f:Addr} {fd:FuncData} (F:Fun K "over" "Cleaned.over" (inClass (top 6) 3) f fd):FnOk P w K mg base CX0 1 f fd ["self"] (spOver T .cleaned):=by
 refine F.ok sc_Cleaned_over (λvs H Q E h=>?_) (λcdv A outer s H vs Q E hr h=>?_)
 ·obtain ⟨p,s,rfl,_⟩:=h
  rfl
 ·obtain ⟨p,s,rfl,F,k⟩:=h
  have hu:=hu100 hr
  refine ⟨_,(pss_one (ps_ret (pe_ifExp (pt_val (pe_fld (pv 0) rfl)) pe_str pe_str))),?_⟩
  walk_at "sx"
  refine F.fr.fld (l:=.cleaning) rfl rfl ⟨_,rfl,?_⟩
  have:=k H (But.refl _ _) F
  cases e:s.cleaning with
  |true =>
   rw [show overF .cleaned s="out" by unfold overF;rw [if_neg (by decide),if_pos rfl,if_pos e]] at this
   exact iteT this
  |false =>
   rw [show overF .cleaned s="clean" by unfold overF;rw [if_neg (by decide),if_pos rfl,if_neg (by rw [e];exact Bool.false_ne_true)]] at this
   exact iteF this
theorem sc_Grouped_over:FnScope ["self"] ["self"] (defScope (inClass (top 8) 3)):=⟨rfl,rfl,rfl,by decide +kernel,rfl,by decide +kernel,by decide +kernel⟩
theorem ok_Grouped_over (T:Tx P w K mg) {f:Addr} {fd:FuncData} (F:Fun K "over" "Grouped.over" (inClass (top 8) 3) f fd):FnOk P w K mg base CX0 1 f fd ["self"] (spOver T .grouped):=by
 refine F.ok sc_Grouped_over (λvs H Q E h=>?_) (λcdv A outer s H vs Q E hr h=>?_)
 ·obtain ⟨p,s,rfl,_⟩:=h
  rfl
 ·obtain ⟨p,s,rfl,F,k⟩:=h
  have hu:=hu100 hr
  refine ⟨_,(pss_one (ps_ret (pe_ifExp (pt_cmpR op_isN (pe_fld (pv 0) rfl) pe_non (nomark _)) pe_str pe_str))),?_⟩
  walk_at "sx"
  refine F.fr.fld (l:=.told) rfl rfl ?_
  have kk:=k H (But.refl _ _) (by rw [overS_no (by decide)];exact F)
  have eo:overF .grouped s=(if s.told=.non then ("join":Str) else "leave"):=rfl
  rw [eo] at kk
  by_cases c:s.told=.non
  ·rw [if_pos c] at kk
   exact ifT c kk
  ·rw [if_neg c] at kk
   exact ifF c kk
theorem sc_Frame_meets:FnScope ["self", "signal"] ["self", "signal"] (defScope (inClass (top 2) 5)):=⟨rfl,rfl,rfl,by decide +kernel,rfl,by decide +kernel,by decide +kernel⟩
theorem ok_Frame_meets (T:Tx P w K mg) {f:Addr} {fd:FuncData} (F:Fun K "meets" "Frame.meets" (inClass (top 2) 5) f fd) {c:Kd} (hm:∀ s g,meetsF c s g="out"):FnOk P w K mg base CX0 1 f fd ["self", "signal"] (spMeets T c):=by
 refine F.ok sc_Frame_meets (λvs H Q E h=>?_) (λcdv A outer s H vs Q E hr h=>?_)
 ·obtain ⟨p,t,s,g,rfl,_⟩:=h
  rfl
 ·obtain ⟨p,t,s,g,rfl,F,hg,hl,k⟩:=h
  have hu:=hu100 hr
  refine ⟨_,(pss_one (ps_ret pe_str)),?_⟩
  walk_at "sx"
  have:=k H (Same.refl _)
  rw [hm] at this
  exact this
theorem sc_Tried_meets:FnScope ["self", "signal"] ["self", "signal"] (defScope (inClass (top 5) 1)):=⟨rfl,rfl,rfl,by decide +kernel,rfl,by decide +kernel,by decide +kernel⟩
theorem ok_Tried_meets (T:Tx P w K mg) {f:Addr} {fd:FuncData} (F:Fun K "meets" "Tried.meets" (inClass (top 5) 1) f fd):FnOk P w K mg base CX0 1 f fd ["self", "signal"] (spMeets T .tried):=by
 refine F.ok sc_Tried_meets (λvs H Q E h=>?_) (λcdv A outer s H vs Q E hr h=>?_)
 ·obtain ⟨p,t,s,g,rfl,_⟩:=h
  rfl
 ·obtain ⟨p,t,s,g,rfl,F,hg,hl,k⟩:=h
  have hu:=hu100 hr
  refine ⟨_,(pss_cons (ps_if (PW.pt (pw_and (pt_cmpR op_eq (pe_ix ix_tup (pv 1) pe_int (λ_ _=>rfl)) pe_str (nomark _)) (pw_and1 (pt_cmpR op_in_seq (pe_fld (pv 0) rfl) (pe_tup (pa_cons pe_str (pa_cons (pe_ix ix_tup (pe_ix ix_tup (pv 1) pe_int (λ_ _=>rfl)) pe_int (λ_ _=>rfl)) pa_nil))) (by with_unfolding_all rfl)))))
  (pss_one (ps_ret pe_str))
  pss_nil)
  (pss_one (ps_ret pe_str))),?_⟩
  walk_at "sy"
  cases g with
  |strike n =>
   have ht:H t=some (.tup [.str "strike",.int n]):=hg
   refine ⟨t,_,_,_,rfl,rfl,SqT.of ht,rfl,rfl,ifF (λz=>absurd (V.str.inj z) (by decide +kernel)) (iteF ?_)⟩
   exact k H (Same.refl _)
  |faults a r =>
   obtain ⟨u,ht,hu2⟩:=hg
   refine ⟨t,_,_,_,rfl,rfl,SqT.of ht,rfl,rfl,ifT rfl (F.fr.fld (l:=.fault) rfl rfl ?_)⟩
   refine ⟨t,_,_,_,rfl,rfl,SqT.of ht,rfl,u,_,_,_,rfl,rfl,SqT.of hu2,atI_nat (j:=0) rfl,by decide,λq hq=>?_⟩
   refine ⟨q,_,rfl,.inr (SqT.of upd_same),rfl,rfl,_,rfl,?_⟩
   have e:inV (.str s.fault) [.str "any",.str a]=decide (s.fault="any"\/s.fault=a):=by
    show (("any":Str) == s.fault||(a == s.fault||false))=_
    by_cases e1:s.fault="any"
    ·rw [e1];simp
    ·by_cases e2:s.fault=a
     ·simp [e2]
     ·simp [e1,e2,Ne.symm e1,Ne.symm e2]
   show if inV (.str s.fault) [.str "any",.str a]=true then _ else _
   rw [e]
   have kk:=k (upd H q (.tup [V.str "any",V.str a])) (Same.upd hq)
   by_cases e2:s.fault="any"\/s.fault=a
   ·rw [show meetsF .tried s (.faults a r)="caught" by unfold meetsF;rw [if_pos rfl];show (if _ then _ else _)=_;rw [if_pos e2]] at kk
    exact ifT e2 kk
   ·rw [show meetsF .tried s (.faults a r)="out" by unfold meetsF;rw [if_pos rfl];show (if _ then _ else _)=_;rw [if_neg e2]] at kk
    exact ifF e2 kk
theorem sc_Cleaned_meets:FnScope ["self", "signal"] ["self", "signal"] (defScope (inClass (top 6) 4)):=⟨rfl,rfl,rfl,by decide +kernel,rfl,by decide +kernel,by decide +kernel⟩
theorem ok_Cleaned_meets (T:Tx P w K mg) {f:Addr} {fd:FuncData} (F:Fun K "meets" "Cleaned.meets" (inClass (top 6) 4) f fd):FnOk P w K mg base CX0 1 f fd ["self", "signal"] (spMeets T .cleaned):=by
 refine F.ok sc_Cleaned_meets (λvs H Q E h=>?_) (λcdv A outer s H vs Q E hr h=>?_)
 ·obtain ⟨p,t,s,g,rfl,_⟩:=h
  rfl
 ·obtain ⟨p,t,s,g,rfl,F,hg,hl,k⟩:=h
  have hu:=hu100 hr
  refine ⟨_,(pss_one (ps_ret (pe_ifExp (pt_val (pe_fld (pv 0) rfl)) pe_str pe_str))),?_⟩
  walk_at "sx"
  refine F.fr.fld (l:=.cleaning) rfl rfl ⟨_,rfl,?_⟩
  have:=k H (Same.refl _)
  cases e:s.cleaning with
  |true =>
   rw [show meetsF .cleaned s g="out" by unfold meetsF;rw [if_neg (by decide),if_pos rfl,if_pos e]] at this
   exact iteT this
  |false =>
   rw [show meetsF .cleaned s g="clean" by unfold meetsF;rw [if_neg (by decide),if_pos rfl,if_neg (by rw [e];exact Bool.false_ne_true)]] at this
   exact iteF this
theorem sc_Limited_meets:FnScope ["self", "signal"] ["self", "signal"] (defScope (inClass (top 7) 1)):=⟨rfl,rfl,rfl,by decide +kernel,rfl,by decide +kernel,by decide +kernel⟩
theorem ok_Limited_meets (T:Tx P w K mg) {f:Addr} {fd:FuncData} (F:Fun K "meets" "Limited.meets" (inClass (top 7) 1) f fd):FnOk P w K mg base CX0 1 f fd ["self", "signal"] (spMeets T .limited):=by
 refine F.ok sc_Limited_meets (λvs H Q E h=>?_) (λcdv A outer s H vs Q E hr h=>?_)
 ·obtain ⟨p,t,s,g,rfl,_⟩:=h
  rfl
 ·obtain ⟨p,t,s,g,rfl,F,hg,hl,k⟩:=h
  have hu:=hu100 hr
  refine ⟨_,(pss_one (ps_ret (pe_ifExp (pt_cmpR (op_eqT hu) (pv 1) (pe_tup (pa_cons pe_str (pa_cons (pe_fld (pv 0) rfl) pa_nil))) (nomark _)) pe_str pe_str))),?_⟩
  walk_at "sy"
  obtain ⟨m,hm⟩:=hl rfl
  refine F.fr.fld (l:=.scope) rfl rfl ⟨by decide,λq hq=>?_⟩
  have eL:∀ n,(s.sc=.int n)=(m=n):=λn=>by rw [hm];exact propext ⟨λz=>V.int.inj z,λz=>by rw [z]⟩
  have kk:=k (upd H q (.tup [V.str "strike",s.sc])) (Same.upd hq)
  have s1:Same H (upd H q (.tup [V.str "strike",s.sc])):=Same.upd hq
  rw [hm] at kk s1 |-
  cases g with
  |strike n =>
   have ht:H t=some (.tup [.str "strike",.int n]):=hg
   refine ⟨t,q,_,_,0,λi=>eqV (([V.str "strike",V.int n]:List V)[i]?.getD .non) (([V.str "strike",V.int m]:List V)[i]?.getD .non),rfl,rfl,SqT.of (s1 _ _ ht),SqT.of upd_same,by decide,λi x y ex ey=>?_,_,rfl,?_⟩
   ·show EqD _ _ _ _ _ (eqV (([V.str "strike",V.int n]:List V)[i]?.getD .non) (([V.str "strike",V.int m]:List V)[i]?.getD .non))
    rw [ex,ey]
    have fx:∀ z∈([V.str "strike",V.int n]:List V),flatV z=true:=λz hz=>by
     rcases List.mem_cons.mp hz with rfl | hz
     ·rfl
     ·rw [List.mem_singleton.mp hz];rfl
    have fy:∀ z∈([V.str "strike",V.int m]:List V),flatV z=true:=λz hz=>by
     rcases List.mem_cons.mp hz with rfl | hz
     ·rfl
     ·rw [List.mem_singleton.mp hz];rfl
    exact .flat (fx x (List.mem_of_getElem? ex)) (fy y (List.mem_of_getElem? ey))
   ·have e:(false^^((List.range (min 2 2)).all (λi=>eqV (([V.str "strike",V.int n]:List V)[i]?.getD .non) (([V.str "strike",V.int m]:List V)[i]?.getD .non))&&(2 == 2)))=decide (m=n):=by
     show (false^^(((("strike":Str) == "strike")&&((n == m)&&true))&&true))=_
     by_cases e:m=n
     ·subst e;simp
     ·simp [e,Ne.symm e]
    show if (false^^((List.range (min 2 2)).all (λi=>eqV (([V.str "strike",V.int n]:List V)[i]?.getD .non) (([V.str "strike",V.int m]:List V)[i]?.getD .non))&&(2 == 2)))=true then _ else _
    rw [e]
    have e2:meetsF .limited s (.strike n)=if m=n then "late" else "out":=by
     unfold meetsF
     rw [if_neg (by decide),if_neg (by decide),if_pos rfl]
     show (if s.sc=.int n then _ else _)=_
     by_cases z:m=n
     ·rw [if_pos (by rw [eL];exact z),if_pos z]
     ·rw [if_neg (by rw [eL];exact z),if_neg z]
    rw [e2] at kk
    by_cases e3:m=n
    ·rw [if_pos e3] at kk;exact ifT e3 kk
    ·rw [if_neg e3] at kk;exact ifF e3 kk
  |faults a r =>
   obtain ⟨u,ht,hu2⟩:=hg
   refine ⟨t,q,_,_,1,λi=>if i=0 then false else false,rfl,rfl,SqT.of (s1 _ _ ht),SqT.of upd_same,by decide,λi x y ex ey=>?_,_,rfl,?_⟩
   ·match i,ex,ey with
    |0,ex,ey =>
     cases ex;cases ey
     have z:eqV (.str "faults") (.str "strike")=false:=by decide +kernel
     show EqD _ _ _ _ _ false
     rw [<- z]
     exact .flat rfl rfl
    |1,ex,ey =>
     cases ex;cases ey
     exact .tupF (SqT.of (s1 _ _ hu2)) rfl
    |i+2,ex,ey=>cases ex
   ·exact iteF kk
theorem sc_Grouped_meets:FnScope ["self", "signal"] ["self", "signal"] (defScope (inClass (top 8) 4)):=⟨rfl,rfl,rfl,by decide +kernel,rfl,by decide +kernel,by decide +kernel⟩
theorem ok_Grouped_meets (T:Tx P w K mg) {f:Addr} {fd:FuncData} (F:Fun K "meets" "Grouped.meets" (inClass (top 8) 4) f fd):FnOk P w K mg base CX0 1 f fd ["self", "signal"] (spMeets T .grouped):=by
 refine F.ok sc_Grouped_meets (λvs H Q E h=>?_) (λcdv A outer s H vs Q E hr h=>?_)
 ·obtain ⟨p,t,s,g,rfl,_⟩:=h
  rfl
 ·obtain ⟨p,t,s,g,rfl,F,hg,hl,k⟩:=h
  have hu:=hu100 hr
  refine ⟨_,(pss_one (ps_ret pe_str)),?_⟩
  walk_at "sx"
  exact k H (Same.refl _)
theorem sc_Cleaned_clean:FnScope ["self", "signal"] ["self", "signal"] (defScope (inClass (top 6) 1)):=⟨rfl,rfl,rfl,by decide +kernel,rfl,by decide +kernel,by decide +kernel⟩
theorem ok_Cleaned_clean (T:Tx P w K mg) {f:Addr} {fd:FuncData} (F:Fun K "clean" "Cleaned.clean" (inClass (top 6) 1) f fd) (G_begin_anew:∀ c,FnOk P w K mg base CX0 1 (T.m_begin_anew c).f (T.m_begin_anew c).fd ["self", "rows"] (spAnew T)):FnOk P w K mg base CX0 2 f fd ["self", "signal"] (spClean T):=by
 refine F.ok sc_Cleaned_clean (λvs H Q E h=>?_) (λcdv A outer s H vs Q E hr h=>?_)
 ·obtain ⟨p,s,v,rfl,_⟩:=h
  rfl
 ·obtain ⟨p,s,v,rfl,F,k⟩:=h
  have hu:=hu100 hr
  refine ⟨_,(pss_cons (ps_expr (pe_meth (pv 0) (T.cl .cleaned) (T.m_begin_anew .cleaned).me (G_begin_anew .cleaned) (hr.mono (by omega)) (T.m_begin_anew .cleaned).b .nil pass0 (pa_cons (pe_fld (pv 0) rfl) pa_nil)))
  (pss_cons (ps_fld (pv 0) pe_bl rfl)
  (pss_one (ps_fld (pv 0) (pv 1) rfl)))),?_⟩
  walk_at "sx"
  refine F.mt nf_anew (F.fr.fld (l:=.others) rfl rfl ⟨.cleaned,p,s.oa,s,s.others,rfl,F,F.os,F.ol,λH1 b1 F1=>?_⟩)
  refine F1.fr.re (l:=.cleaning) (by decide) rfl (λz=>nomatch z) λH2 b2 F2=>?_
  refine ⟨_,rfl,F2.re (l:=.held) (by decide) rfl (λz=>nomatch z) λH3 b3 F3=>?_⟩
  have b:=b1.trans (b2.trans b3)
  refine k H3 b ⟨?_,F.but b F.os,F.but b F.os,Nat.zero_le _,F.ol,F.ol⟩
  refine cast ?_ F3
  congr 1
  funext l
  cases l<;>rfl
theorem sc_Grouped_halt:FnScope ["self", "signal"] ["self", "signal"] (defScope (inClass (top 8) 1)):=⟨rfl,rfl,rfl,by decide +kernel,rfl,by decide +kernel,by decide +kernel⟩
theorem ok_Grouped_halt (T:Tx P w K mg) {f:Addr} {fd:FuncData} (F:Fun K "halt" "Grouped.halt" (inClass (top 8) 1) f fd) (G_begin_anew:∀ c,FnOk P w K mg base CX0 1 (T.m_begin_anew c).f (T.m_begin_anew c).fd ["self", "rows"] (spAnew T)):FnOk P w K mg base CX0 2 f fd ["self", "signal"] (spHalt T):=by
 refine F.ok sc_Grouped_halt (λvs H Q E h=>?_) (λcdv A outer s H vs Q E hr h=>?_)
 ·obtain ⟨p,t,s,g,rfl,_⟩:=h
  rfl
 ·obtain ⟨p,t,s,g,rfl,F,hg,k⟩:=h
  have hu:=hu100 hr
  refine ⟨_,(pss_cons (ps_expr (pe_meth (pv 0) (T.cl .grouped) (T.m_begin_anew .grouped).me (G_begin_anew .grouped) (hr.mono (by omega)) (T.m_begin_anew .grouped).b .nil pass0 (pa_cons (pe_tup pa_nil) pa_nil)))
  (pss_one (ps_fld (pv 0) (pe_ifExp (pt_cmpR op_eq (pe_ix ix_tup (pv 1) pe_int (λ_ _=>rfl)) pe_str (nomark _)) (pv 1) pe_non) rfl))),?_⟩
  walk_at "sx"
  refine F.mt nf_anew ⟨by decide,λa ha=>?_⟩
  have s1:=Same.upd (o:=.tup []) ha
  have F1:=F.same s1
  refine ⟨.grouped,p,a,s,[],rfl,F1,upd_same,by decide,λH2 b2 F2=>?_⟩
  have keep:∀ c o,c≠p->H c=some o->H2 c=some o:=λc o n h=>b2 c o n (s1 c o h)
  have tk:∀ {c xs},H c=some (.tup xs)->H2 c=some (.tup xs):=λ{c xs} h=>F1.but b2 (s1 _ _ h)
  have ha2:H2 a=some (.tup []):=F1.but b2 upd_same
  cases g with
  |strike n =>
   refine ⟨_,rfl,t,_,_,.str "strike",rfl,rfl,SqT.of (tk hg),atI_nat (j:=0) rfl,rfl,_,rfl,ifT rfl ⟨_,rfl,F2.fr.re (l:=.held) (by decide) rfl (λz=>nomatch z) λH3 b3 F3=>?_⟩⟩
   refine k H3 a (λc o n h=>b3 c o n (keep c o n h)) ⟨?_,F2.but b3 ha2,F2.but b3 F2.os,Nat.le_refl _,Nat.zero_le _,F2.ol⟩
   refine cast ?_ F3
   congr 1
   funext l
   cases l<;>rfl
  |faults z r =>
   obtain ⟨u,h1,h2⟩:=hg
   refine ⟨_,rfl,t,_,_,.str "faults",rfl,rfl,SqT.of (tk h1),atI_nat (j:=0) rfl,rfl,_,rfl,ifF (λz=>absurd (V.str.inj z) (by decide +kernel)) (F2.fr.re (l:=.held) (by decide) rfl (λz=>nomatch z) λH3 b3 F3=>?_)⟩
   refine k H3 a (λc o n h=>b3 c o n (keep c o n h)) ⟨?_,F2.but b3 ha2,F2.but b3 F2.os,Nat.le_refl _,Nat.zero_le _,F2.ol⟩
   refine cast ?_ F3
   congr 1
   funext l
   cases l<;>rfl
theorem sc_Grouped_tell_joined:FnScope ["self", "faults"] ["self", "faults"] (defScope (inClass (top 8) 2)):=⟨rfl,rfl,rfl,by decide +kernel,rfl,by decide +kernel,by decide +kernel⟩
theorem ok_Grouped_tell_joined (T:Tx P w K mg) {f:Addr} {fd:FuncData} (F:Fun K "tell_joined" "Grouped.tell_joined" (inClass (top 8) 2) f fd):FnOk P w K mg base CX0 1 f fd ["self", "faults"] (spTell T):=by
 refine F.ok sc_Grouped_tell_joined (λvs H Q E h=>?_) (λcdv A outer s H vs Q E hr h=>?_)
 ·obtain ⟨p,a,s,xs,rfl,_⟩:=h
  rfl
 ·obtain ⟨p,a,s,xs,rfl,F,ha,k⟩:=h
  have hu:=hu100 hr
  refine ⟨_,(pss_one (ps_fld (pv 0) (pe_callTy call_tuple_of (by rfl) T.n_tuple bt_tuple (pa_cons (pv 1) pa_nil)) rfl)),?_⟩
  refine ⟨_,rfl,a,xs,rfl,.inr ⟨SqT.of ha,?_⟩⟩
  refine F.fr.re (l:=.told) (by decide) rfl (λz=>nomatch z) λH2 b2 F2=>k H2 b2 ⟨?_,F.but b2 F.rs,F.but b2 F.os,F.pl,F.rl,F.ol⟩
  refine cast ?_ F2
  congr 1
  funext l
  cases l<;>rfl
theorem sc_Rounds___init__:FnScope ["self", "rows", "line", "many"] ["self", "rows", "line", "many"] (defScope (inClass (top 3) 0)):=⟨rfl,rfl,rfl,by decide +kernel,rfl,by decide +kernel,by decide +kernel⟩
theorem ok_Rounds___init__ (T:Tx P w K mg) {f:Addr} {fd:FuncData} (F:Fun K "__init__" "Rounds.__init__" (inClass (top 3) 0) f fd) (G_i_frame:FnOk P w K mg base CX0 1 T.i_frame.f T.i_frame.fd ["self", "rows", "line", "scope"] (spFInit T)):FnOk P w K mg base CX0 2 f fd ["self", "rows", "line", "many"] (spI T .rounds):=by
 refine F.ok sc_Rounds___init__ (λvs H Q E h=>?_) (λcdv A outer s H vs Q E hr h=>?_)
 ·obtain ⟨p,s,rfl,_⟩:=h
  rfl
 ·obtain ⟨p,s,rfl,⟨n1,n2,n3,n4,n5,n6⟩,F0,h1,h2,hr1,ho1,k⟩:=h
  refine ⟨_,(pss_cons (ps_expr (pe_cmeth (pe_glob (v:=.ref (T.C .frame)) rfl T.h_frame rfl) T.i_frame.cm G_i_frame (hr.mono (by omega)) T.i_frame.b1 (show Vals [V.non] [Value.none] from .cons rfl .nil) pass0 (pa_cons (pv 0) (pa_cons (pv 1) (pa_cons (pv 2) pa_nil)))))
  (pss_one (ps_fld (pv 0) (pe_op op_sub (pv 3) pe_int) rfl))),?_⟩
  refine ⟨rfl,_,rfl,_,rfl,_,rfl,.rounds,p,s.ra,s.rows,.int s.line,.non,rfl,F0,h1,λH1 b1 F1=>?_⟩
  refine ⟨_,rfl,_,_,rfl,rfl,F1.st (l:=.left) (by decide) rfl λH2 b2 F2=>?_⟩
  refine k H2 (b1.trans b2) ⟨?_,F0.tup (b1.trans b2) h1,F0.tup (b1.trans b2) h2,by rw [n1];exact Nat.zero_le _,hr1,ho1⟩
  refine (FrAt.mono ?_ (show 7<=11 by decide))
  refine cast ?_ F2
  congr 1
  funext l
  cases l<;>simp [setG,gOf,n1,n2,n3,n4]
theorem sc_Tried___init__:FnScope ["self", "rows", "line", "fault", "others"] ["self", "rows", "line", "fault", "others"] (defScope (inClass (top 5) 0)):=⟨rfl,rfl,rfl,by decide +kernel,rfl,by decide +kernel,by decide +kernel⟩
theorem ok_Tried___init__ (T:Tx P w K mg) {f:Addr} {fd:FuncData} (F:Fun K "__init__" "Tried.__init__" (inClass (top 5) 0) f fd) (G_i_frame:FnOk P w K mg base CX0 1 T.i_frame.f T.i_frame.fd ["self", "rows", "line", "scope"] (spFInit T)):FnOk P w K mg base CX0 2 f fd ["self", "rows", "line", "fault", "others"] (spI T .tried):=by
 refine F.ok sc_Tried___init__ (λvs H Q E h=>?_) (λcdv A outer s H vs Q E hr h=>?_)
 ·obtain ⟨p,s,rfl,_⟩:=h
  rfl
 ·obtain ⟨p,s,rfl,⟨n1,n2,n3,n4,n5,n6⟩,F0,h1,h2,hr1,ho1,k⟩:=h
  refine ⟨_,(pss_cons (ps_expr (pe_cmeth (pe_glob (v:=.ref (T.C .frame)) rfl T.h_frame rfl) T.i_frame.cm G_i_frame (hr.mono (by omega)) T.i_frame.b1 (show Vals [V.non] [Value.none] from .cons rfl .nil) pass0 (pa_cons (pv 0) (pa_cons (pv 1) (pa_cons (pv 2) pa_nil)))))
  (pss_cons (ps_fld (pv 0) (pv 3) rfl)
  (pss_one (ps_fld (pv 0) (pe_callTy call_tuple_of (by rfl) T.n_tuple bt_tuple (pa_cons (pv 4) pa_nil)) rfl)))),?_⟩
  refine ⟨rfl,_,rfl,_,rfl,_,rfl,.tried,p,s.ra,s.rows,.int s.line,.non,rfl,F0,h1,λH1 b1 F1=>?_⟩
  refine ⟨_,rfl,F1.st (l:=.fault) (by decide) rfl λH2 b2 F2=>?_⟩
  refine ⟨_,rfl,_,_,rfl,.inr ⟨SqT.of (F1.tup b2 (F0.tup b1 h2)),F2.st (l:=.others) (by decide) rfl λH3 b3 F3=>?_⟩⟩
  refine k H3 ((b1.trans b2).trans b3) ⟨?_,F0.tup ((b1.trans b2).trans b3) h1,F0.tup ((b1.trans b2).trans b3) h2,by rw [n1];exact Nat.zero_le _,hr1,ho1⟩
  refine (FrAt.mono ?_ (show 8<=11 by decide))
  refine cast ?_ F3
  congr 1
  funext l
  cases l<;>simp [setG,gOf,n1,n2,n3,n4]
theorem sc_Cleaned___init__:FnScope ["self", "rows", "line", "others"] ["self", "rows", "line", "others"] (defScope (inClass (top 6) 0)):=⟨rfl,rfl,rfl,by decide +kernel,rfl,by decide +kernel,by decide +kernel⟩
theorem ok_Cleaned___init__ (T:Tx P w K mg) {f:Addr} {fd:FuncData} (F:Fun K "__init__" "Cleaned.__init__" (inClass (top 6) 0) f fd) (G_i_frame:FnOk P w K mg base CX0 1 T.i_frame.f T.i_frame.fd ["self", "rows", "line", "scope"] (spFInit T)):FnOk P w K mg base CX0 2 f fd ["self", "rows", "line", "others"] (spI T .cleaned):=by
 refine F.ok sc_Cleaned___init__ (λvs H Q E h=>?_) (λcdv A outer s H vs Q E hr h=>?_)
 ·obtain ⟨p,s,rfl,_⟩:=h
  rfl
 ·obtain ⟨p,s,rfl,⟨n1,n2,n3,n4,n5,n6⟩,F0,h1,h2,hr1,ho1,k⟩:=h
  refine ⟨_,(pss_cons (ps_expr (pe_cmeth (pe_glob (v:=.ref (T.C .frame)) rfl T.h_frame rfl) T.i_frame.cm G_i_frame (hr.mono (by omega)) T.i_frame.b1 (show Vals [V.non] [Value.none] from .cons rfl .nil) pass0 (pa_cons (pv 0) (pa_cons (pv 1) (pa_cons (pv 2) pa_nil)))))
  (pss_cons (ps_fld (pv 0) (pe_callTy call_tuple_of (by rfl) T.n_tuple bt_tuple (pa_cons (pv 3) pa_nil)) rfl)
  (pss_one (ps_fld (pv 0) pe_bl rfl)))),?_⟩
  refine ⟨rfl,_,rfl,_,rfl,_,rfl,.cleaned,p,s.ra,s.rows,.int s.line,.non,rfl,F0,h1,λH1 b1 F1=>?_⟩
  refine ⟨_,rfl,_,_,rfl,.inr ⟨SqT.of (F0.tup b1 h2),F1.st (l:=.others) (by decide) rfl λH2 b2 F2=>?_⟩⟩
  refine F2.st (l:=.cleaning) (by decide) rfl λH3 b3 F3=>?_
  refine k H3 ((b1.trans b2).trans b3) ⟨?_,F0.tup ((b1.trans b2).trans b3) h1,F0.tup ((b1.trans b2).trans b3) h2,by rw [n1];exact Nat.zero_le _,hr1,ho1⟩
  refine (FrAt.mono ?_ (show 8<=11 by decide))
  refine cast ?_ F3
  congr 1
  funext l
  cases l<;>simp [setG,gOf,n1,n2,n3,n4,n5]
theorem sc_Limited___init__:FnScope ["self", "rows", "line", "scope", "others"] ["self", "rows", "line", "scope", "others"] (defScope (inClass (top 7) 0)):=⟨rfl,rfl,rfl,by decide +kernel,rfl,by decide +kernel,by decide +kernel⟩
theorem ok_Limited___init__ (T:Tx P w K mg) {f:Addr} {fd:FuncData} (F:Fun K "__init__" "Limited.__init__" (inClass (top 7) 0) f fd) (G_i_frame:FnOk P w K mg base CX0 1 T.i_frame.f T.i_frame.fd ["self", "rows", "line", "scope"] (spFInit T)):FnOk P w K mg base CX0 2 f fd ["self", "rows", "line", "scope", "others"] (spI T .limited):=by
 refine F.ok sc_Limited___init__ (λvs H Q E h=>?_) (λcdv A outer s H vs Q E hr h=>?_)
 ·obtain ⟨p,s,rfl,_⟩:=h
  rfl
 ·obtain ⟨p,s,rfl,⟨n1,n2,n3,n4,n5,n6⟩,F0,h1,h2,hr1,ho1,k⟩:=h
  refine ⟨_,(pss_cons (ps_expr (pe_cmeth (pe_glob (v:=.ref (T.C .frame)) rfl T.h_frame rfl) T.i_frame.cm G_i_frame (hr.mono (by omega)) T.i_frame.b .nil pass0 (pa_cons (pv 0) (pa_cons (pv 1) (pa_cons (pv 2) (pa_cons (pv 3) pa_nil))))))
  (pss_one (ps_fld (pv 0) (pe_callTy call_tuple_of (by rfl) T.n_tuple bt_tuple (pa_cons (pv 4) pa_nil)) rfl))),?_⟩
  refine ⟨rfl,_,rfl,_,rfl,_,rfl,_,rfl,.limited,p,s.ra,s.rows,.int s.line,s.sc,rfl,F0,h1,λH1 b1 F1=>?_⟩
  refine ⟨_,rfl,_,_,rfl,.inr ⟨SqT.of (F0.tup b1 h2),F1.st (l:=.others) (by decide) rfl λH2 b2 F2=>?_⟩⟩
  refine k H2 (b1.trans b2) ⟨?_,F0.tup (b1.trans b2) h1,F0.tup (b1.trans b2) h2,by rw [n1];exact Nat.zero_le _,hr1,ho1⟩
  refine (FrAt.mono ?_ (show 7<=11 by decide))
  refine cast ?_ F2
  congr 1
  funext l
  cases l<;>simp [setG,gOf,n1,n2,n3]
theorem sc_Grouped___init__:FnScope ["self", "rows", "line", "scope", "named"] ["self", "rows", "line", "scope", "named"] (defScope (inClass (top 8) 0)):=⟨rfl,rfl,rfl,by decide +kernel,rfl,by decide +kernel,by decide +kernel⟩
theorem ok_Grouped___init__ (T:Tx P w K mg) {f:Addr} {fd:FuncData} (F:Fun K "__init__" "Grouped.__init__" (inClass (top 8) 0) f fd) (G_i_frame:FnOk P w K mg base CX0 1 T.i_frame.f T.i_frame.fd ["self", "rows", "line", "scope"] (spFInit T)):FnOk P w K mg base CX0 2 f fd ["self", "rows", "line", "scope", "named"] (spI T .grouped):=by
 refine F.ok sc_Grouped___init__ (λvs H Q E h=>?_) (λcdv A outer s H vs Q E hr h=>?_)
 ·obtain ⟨p,s,rfl,_⟩:=h
  rfl
 ·obtain ⟨p,s,rfl,⟨n1,n2,n3,n4,n5,n6⟩,F0,h1,h2,hr1,ho1,k⟩:=h
  refine ⟨_,(pss_cons (ps_expr (pe_cmeth (pe_glob (v:=.ref (T.C .frame)) rfl T.h_frame rfl) T.i_frame.cm G_i_frame (hr.mono (by omega)) T.i_frame.b .nil pass0 (pa_cons (pv 0) (pa_cons (pv 1) (pa_cons (pv 2) (pa_cons (pv 3) pa_nil))))))
  (pss_cons (ps_fld (pv 0) (pv 4) rfl)
  (pss_one (ps_fld (pv 0) pe_non rfl)))),?_⟩
  refine ⟨rfl,_,rfl,_,rfl,_,rfl,_,rfl,.grouped,p,s.ra,s.rows,.int s.line,s.sc,rfl,F0,h1,λH1 b1 F1=>?_⟩
  refine ⟨_,rfl,F1.re (l:=.named) (by decide) rfl (λz=>nomatch z) λH2 b2 F2=>?_⟩
  refine F2.st (l:=.told) (by decide) rfl λH3 b3 F3=>?_
  refine k H3 ((b1.trans b2).trans b3) ⟨?_,F0.tup ((b1.trans b2).trans b3) h1,F0.tup ((b1.trans b2).trans b3) h2,by rw [n1];exact Nat.zero_le _,hr1,ho1⟩
  refine (FrAt.mono ?_ (show 7<=11 by decide))
  refine cast ?_ F3
  congr 1
  funext l
  cases l<;>simp [setG,gOf,n1,n2,n6 rfl]
theorem ok_all_next_row (T:Tx P w K mg):∀ c,FnOk P w K mg base CX0 1 (T.m_next_row c).f (T.m_next_row c).fd ["self"] (spNext T):=λc=>ok_Frame_next_row T (T.m_next_row c).F
theorem ok_all_begin_anew (T:Tx P w K mg):∀ c,FnOk P w K mg base CX0 1 (T.m_begin_anew c).f (T.m_begin_anew c).fd ["self", "rows"] (spAnew T):=λc=>ok_Frame_begin_anew T (T.m_begin_anew c).F
theorem ok_all_hides (T:Tx P w K mg):∀ c,FnOk P w K mg base CX0 1 (T.m_hides c).f (T.m_hides c).fd ["self"] (spHides T c)
 |.frame=>ok_Frame_hides T (T.m_hides .frame).F (λ_=>rfl)
 |.rounds=>ok_Frame_hides T (T.m_hides .rounds).F (λ_=>rfl)
 |.kept=>ok_Kept_hides T (T.m_hides .kept).F
 |.tried=>ok_Frame_hides T (T.m_hides .tried).F (λ_=>rfl)
 |.cleaned=>ok_Cleaned_hides T (T.m_hides .cleaned).F
 |.limited=>ok_Frame_hides T (T.m_hides .limited).F (λ_=>rfl)
 |.grouped=>ok_Frame_hides T (T.m_hides .grouped).F (λ_=>rfl)
theorem ok_all_over (T:Tx P w K mg):∀ c,FnOk P w K mg base CX0 2 (T.m_over c).f (T.m_over c).fd ["self"] (spOver T c)
 |.frame=>(ok_Frame_over T (c:=.frame) (T.m_over .frame).F (λ_=>⟨rfl,overS_no (by decide)⟩)).mono (by decide)
 |.rounds=>ok_Rounds_over T (T.m_over .rounds).F (ok_all_begin_anew T)
 |.kept=>(ok_Frame_over T (c:=.kept) (T.m_over .kept).F (λ_=>⟨rfl,overS_no (by decide)⟩)).mono (by decide)
 |.tried=>(ok_Frame_over T (c:=.tried) (T.m_over .tried).F (λ_=>⟨rfl,overS_no (by decide)⟩)).mono (by decide)
 |.cleaned=>(ok_Cleaned_over T (T.m_over .cleaned).F).mono (by decide)
 |.limited=>(ok_Frame_over T (c:=.limited) (T.m_over .limited).F (λ_=>⟨rfl,overS_no (by decide)⟩)).mono (by decide)
 |.grouped=>(ok_Grouped_over T (T.m_over .grouped).F).mono (by decide)
theorem ok_all_meets (T:Tx P w K mg):∀ c,FnOk P w K mg base CX0 1 (T.m_meets c).f (T.m_meets c).fd ["self", "signal"] (spMeets T c)
 |.frame=>ok_Frame_meets T (T.m_meets .frame).F (λ_ _=>rfl)
 |.rounds=>ok_Frame_meets T (T.m_meets .rounds).F (λ_ _=>rfl)
 |.kept=>ok_Frame_meets T (T.m_meets .kept).F (λ_ _=>rfl)
 |.tried=>ok_Tried_meets T (T.m_meets .tried).F
 |.cleaned=>ok_Cleaned_meets T (T.m_meets .cleaned).F
 |.limited=>ok_Limited_meets T (T.m_meets .limited).F
 |.grouped=>ok_Grouped_meets T (T.m_meets .grouped).F
theorem ok_all_rest (T:Tx P w K mg):∀ c,FnOk P w K mg base CX0 1 (T.m_rest c).f (T.m_rest c).fd ["self"] (spRest T):=λc=>ok_Frame_rest T (T.m_rest c).F
theorem behind_no {c:Kd} {s:Sf} (h:c=.frame\/c=.kept\/c=.grouped):behindF c s=s.rows.drop s.place:=by
 unfold behindF
 rcases h with rfl | rfl | rfl<;>simp
theorem ok_all_behind (T:Tx P w K mg):∀ c,FnOk P w K mg base CX0 2 (T.m_behind c).f (T.m_behind c).fd ["self"] (spBehind T c)
 |.frame=>ok_Frame_behind T (c:=.frame) (T.m_behind .frame).F (λ_=>behind_no (.inl rfl)) (ok_all_rest T)
 |.rounds=>ok_Rounds_behind T (T.m_behind .rounds).F (ok_all_rest T)
 |.kept=>ok_Frame_behind T (c:=.kept) (T.m_behind .kept).F (λ_=>behind_no (.inr (.inl rfl))) (ok_all_rest T)
 |.tried=>ok_Tried_behind T (T.m_behind .tried).F (ok_all_rest T)
 |.cleaned=>ok_Cleaned_behind T (T.m_behind .cleaned).F (ok_all_rest T)
 |.limited=>ok_Limited_behind T (T.m_behind .limited).F (ok_all_rest T)
 |.grouped=>ok_Frame_behind T (c:=.grouped) (T.m_behind .grouped).F (λ_=>behind_no (.inr (.inr rfl))) (ok_all_rest T)

theorem sc_parts:FnScope ["row"] ["row"] (defScope (top 11)):=⟨rfl,rfl,rfl,by decide +kernel,rfl,by decide +kernel,by decide +kernel⟩
theorem ok_parts (T:Tx P w K mg):FnOk P w K mg base CX0 1 T.d_parts.f T.d_parts.fd ["row"] (spParts):=by
 refine T.d_parts.F.ok sc_parts (λvs H Q E h=>?_) (λcdv A outer s H vs Q E hr h=>?_)
 ·obtain ⟨a,xs,RS,m,rfl,_⟩:=h
  rfl
 ·obtain ⟨a,xs,RS,m,rfl,ha,hp,k⟩:=h
  obtain ⟨z,ln,r,o,m',rfl,hlen,_⟩:=hp.ex
  have hlen:places z≠[]->(V.int ln::r).length+1=lenOf z:=λh=>by rw [List.length_cons];exact hlen h
  generalize V.int ln::r=r at *
  refine ⟨_,(pss_one (ps_ret (pe_callTy call_tuple_of (by rfl) T.n_tuple bt_tuple (pa_cons (pe_lc (N':=["place", "row"]) (sel:=[none,some 0]) rfl rfl rfl (pi_tup (pe_dgetK (pe_glob (v:=.ref T.pp) rfl T.ppm rfl) (pe_ix ix_tup (pv 0) pe_int (λ_ _=>rfl)) (pe_tup pa_nil) ⟨rfl,rfl,rfl,rfl⟩)) (gk_name rfl) (λ_ _ _ _ _=>⟨(pg_name (i:=0) (show (["place", "row"]:List Str).Nodup by decide +kernel) rfl (Or.inl rfl)),pts_nil,(pe_ix (ix_tupK (K:=K) rfl) (pv 1) (pv 0) (λ_ _=>rfl))⟩)) pa_nil)))),?_⟩
  walk_at "sw"
  refine ⟨T.pp,T.pkv,rfl,T.pd,_,rfl,a,_,0,.str z,rfl,rfl,SqT.of ha,atI_nat (j:=0) rfl,(show 0<=sizeLine by decide),λd hd=>⟨.inr z,rfl,?_⟩⟩
  obtain ⟨b,hb,hq⟩:∃ b,(valV T.pkv (.inr z)).getD (.ref d)=.ref b/\SqT K (upd H d (.tup [])) b ((places z).map λi=>V.int (i:Nat)):=by
   obtain ⟨p1,p2⟩:=T.pv z
   by_cases e:places z=[]
   ·rw [p1 e,e]
    exact ⟨d,rfl,SqT.of upd_same⟩
   ·obtain ⟨b,h1,h2⟩:=p2 e
    rw [h1]
    exact ⟨b,rfl,h2 _⟩
  refine ⟨b,hb,⟨_,hq⟩,?_⟩
  have pl:(places z).length<=2:=by
   rcases places_cases z with ⟨_,ep,_⟩ | ⟨_,ep,_⟩ | ⟨_,ep,_⟩ | ⟨_,ep,_⟩ | ⟨_,ep,_⟩ | ⟨_,ep,_⟩ | ⟨_,ep,_⟩ | ⟨ep,_⟩<;>rw [ep]<;>decide
  refine lc_tup (xs:=(places z).map λi=>V.int (i:Nat)) (λi ys G=>G=upd H d (.tup [])/\ys=((places z).take i).filterMap λj=>(V.str z::r)[j]?) ⟨rfl,rfl⟩ ?_ ?_ ?_ ?_
  ·rintro i ys G hi ⟨rfl,rfl⟩
   exact ⟨hq,Nat.le_trans (List.length_filterMap_le _ _) (by rw [List.length_take];omega)⟩
  ·rw [List.length_map];exact Nat.le_trans pl (by decide)
  ·rintro i x ys G hx ⟨rfl,rfl⟩
   rw [List.getElem?_map] at hx
   cases e:(places z)[i]? with
   |none=>rw [e] at hx;cases hx
   |some j =>
    rw [e] at hx
    cases hx
    have hj:=places_in hlen j (List.mem_of_getElem? e)
    have hg:(V.str z::r)[j]?=some (V.str z::r)[j]:=List.getElem?_eq_getElem hj
    walk_at "sx"
    refine ⟨a,_,_,_,rfl,rfl,SqT.of ((Same.upd hd) a _ ha),atI_nat hg,rfl,snoc_fm e hg⟩
  ·rintro ys G ⟨rfl,rfl⟩ D hD
   refine ⟨_,.inl ⟨SqL.of upd_same,λl hl=>?_⟩⟩
   refine k l _ (((Same.upd hd).trans (Same.upd hD)).free hl) ?_ (((Same.upd hd).trans (Same.upd hD)).trans (Same.upd hl))
   rw [upd_same,List.length_map,List.take_length,rowParts_str]
theorem sc_walk:FnScope ["rows", "listed", "row", "part"] ["rows"] (defScope (top 12)):=⟨rfl,rfl,rfl,by decide +kernel,rfl,by decide +kernel,by decide +kernel⟩
theorem walk_step (T:Tx P w K mg) (G_parts:FnOk P w K mg base CX0 1 T.d_parts.f T.d_parts.fd ["row"] spParts) (n:Nat) (G_walk:FnOk P w K mg base CX0 (n+1) T.d_walk.f T.d_walk.fd ["rows"] (spDown n)) :
  FnOk P w K mg base CX0 (n+2) T.d_walk.f T.d_walk.fd ["rows"] (spWalk n):=by
 refine T.d_walk.F.ok (k:=n+1) sc_walk (λvs H Q E h=>?_) (λcdv A outer s H vs Q E hr h=>?_)
 ·obtain ⟨tp,a,xs,ms,rfl,_⟩:=h
  rfl
 ·obtain ⟨tp,b,ys,ms,rfl,S,hn,k⟩:=h
  refine ⟨_,(pss_cons (ps_set (i:=1) sc_walk.nd rfl (Or.inl rfl) (pe_lst pa_nil))
  (pss_cons (ps_for PassesOwn.never rfl (pi_sq (pv 0)) (pg_name (i:=2) sc_walk.nd rfl (Or.inl rfl))
  (pss_cons (ps_expr (pe_bm PySem.F.plainAttrs_list PySem.F.slot_list_append PySem.F.type_list_append mt_append (pv 1) (pa_cons (pv 2) pa_nil)))
  (pss_one (ps_for PassesOwn.never rfl (pi_tup (pe_call G_parts (hr.mono (by omega)) rfl T.d_parts.hm T.d_parts.F.kp T.d_parts.b .nil pass0 (pa_cons (pv 2) pa_nil))) (pg_name (i:=3) sc_walk.nd rfl (Or.inl rfl))
  (pss_one (ps_expr (pe_bm PySem.F.plainAttrs_list PySem.F.slot_list_extend PySem.F.type_list_extend mt_extend (pv 1) (pa_cons (pe_call G_walk (hr.mono (by omega)) rfl T.d_walk.hm T.d_walk.F.kp T.d_walk.b .nil pass0 (pa_cons (pv 3) pa_nil)) pa_nil))))))))
  (pss_one (ps_ret (pv 1))))),?_⟩
  walk_at "sy"
  refine ⟨by decide,λl hl=>⟨_,rfl,b,rfl,?_⟩⟩
  refine for_sq (K:=K) (a:=b) (xs:=ys) tp (λi σ H2=>∃ (o1 o2:Option V) (ws:List V),σ=[some (.ref b),some (.ref l),o1,o2]/\H2 l=some (.lst ws)/\WL H2 ws (ms.take i).flatten/\ws.length<=i*(1+2*cn n)/\i<=20/\Same H H2)
   ⟨none,none,[],rfl,upd_same,.nil,Nat.zero_le _,Nat.zero_le _,Same.upd hl⟩ (λi σ H2 _ ⟨_,_,_,_,_,_,_,_,s2⟩=>(S.same s2).sq) ?_ ?_
  ·rintro i y σ H2 hi ⟨o1,o2,ws,rfl,hl2,hw,hle,hi20,s2⟩
   obtain ⟨m,hm,q,xs,rfl,hq,sp⟩:=S.rows.get hi
   have P0:=sp.prt
   obtain ⟨z,ln,r,o,m',ex,hlen,_,ho,_,em,pms,hpm,em'⟩:=P0.ex
   walk_at "sx"
   refine ⟨.inl ⟨_,SqL.of hl2⟩,l,_,.ref q,rfl,rfl,hl2,Nat.lt_of_le_of_lt (Nat.le_trans (Nat.le_add_right _ 0) (ws_le (N:=0) hn hi20 hle (Nat.zero_le _))) (show 200000<sizeLine by decide),?_⟩
   have s3:=same_set s2 hl (o:=.lst (ws++[V.ref q]))
   refine ⟨_,rfl,q,xs,_,m,rfl,s3 _ _ hq,P0,λp H4 hp hp4 s4=>⟨p,rfl,⟨_,SqT.of hp4⟩,?_⟩⟩
   have hpl:p≠l:=λe=>by rw [e,upd_same] at hp;cases hp
   have k3:KT H2 H4:=λa' xs' h'=>s4 a' _ (by rw [upd_ne (ne_of h' hl2 (λz=>nomatch z))];exact h')
   have hw4:WL H4 (ws++[.ref q]) ((ms.take i).flatten++o):=(hw.kt k3).app (WL.one (s4 _ _ (s3 _ _ hq)) ho)
   have pl2:=rowParts_le xs
   refine for_tup (K:=K) (a:=p) (xs:=rowParts xs) (λj σ H5=>∃ (o2:Option V) (vs:List V),σ=[some (.ref b),some (.ref l),some (.ref q),o2]/\H5 l=some (.lst vs)/\WL H5 vs ((ms.take i).flatten++o++(pms.take j).flatten)/\vs.length<=ws.length+1+j*cn n/\Same H H5/\H5 p=some (.tup (rowParts xs)))
    ⟨o2,_,rfl,s4 l _ upd_same,by rw [show (List.take 0 pms).flatten=[] from rfl,List.append_nil];exact hw4,by rw [List.length_append];simp,s3.trans s4,hp4⟩ (λj σ H5 _ ⟨_,_,_,_,_,_,_,h5⟩=>SqT.of h5) ?_ ?_
   ·rintro j pt σ H5 hj ⟨o3,vs,rfl,hl5,hw5,hle5,s5,hp5⟩
    have hj2:j<2:=Nat.lt_of_lt_of_le (List.getElem?_eq_some_iff.mp hj).1 pl2
    obtain ⟨pm,hpm',hR⟩:=hpm.get hj
    walk_at "sx"
    cases n with
    |zero=>exact hR.elim
    |succ n =>
    obtain ⟨c,vs',ms',rfl,hc,h3,hA,epm⟩:=hR
    have bnd:vs.length+cn (n+1)<=200000:=by
     have:=ws_le (N:=0) (c:=1+2*cn (n+1)) hn hi20 hle (Nat.le_refl _)
     have:j*cn (n+1)<=1*cn (n+1):=Nat.mul_le_mul (by omega) (Nat.le_refl _)
     omega
    refine ⟨.inl ⟨_,SqL.of hl5⟩,true,c,vs',ms',rfl,⟨s5 _ _ hc,by omega,rows_kt (.of s5) hA⟩,by omega,λl2 H6 w6 hl6 h6 hw6 le6 s6=>?_⟩
    have le6':w6.length<=cn (n+1):=Nat.le_trans le6 (Nat.mul_le_mul h3 (Nat.le_refl _))
    refine ⟨l,l2,_,_,rfl,rfl,s6 l _ hl5,h6,?_,?_⟩
    ·exact Nat.le_trans (Nat.le_trans (Nat.add_le_add_left le6' _) bnd) (show 200000<=sizeLine by decide)
    ·have kl:KT H6 (upd H6 l (.lst (vs++w6))):=λa' xs' h'=>by rw [upd_ne (ne_of h' (s6 l _ hl5) (λz=>nomatch z))];exact h'
     refine ⟨_,upd_same,?_,?_,same_set (s5.trans s6) hl,?_⟩
     ·rw [flat_snoc hpm',<- List.append_assoc,epm]
      exact ((hw5.kt (.of s6)).app hw6).kt kl
     ·rw [List.length_append,Nat.succ_mul];omega
     ·rw [upd_ne hpl]
      exact s6 p _ hp5
   ·rintro σ H5 ⟨o3,vs,rfl,hl5,hw5,hle5,s5,hp5⟩
    refine ⟨_,_,rfl,vs,hl5,?_,?_,?_,s5⟩
    ·rw [flat_snoc hm,em,em',<- List.append_assoc]
     rw [hpm.len,List.take_length] at hw5
     exact hw5
    ·have:(rowParts xs).length*cn n<=2*cn n:=Nat.mul_le_mul pl2 (Nat.le_refl _)
     rw [Nat.succ_mul];omega
    ·exact Nat.le_trans (List.getElem?_eq_some_iff.mp hi).1 S.len
  ·rintro σ H2 ⟨o1,o2,ws,rfl,hl2,hw,hle,_,s2⟩
   refine ⟨_,rfl,k l H2 ws hl hl2 ?_ hle s2⟩
   rw [S.rows.len,List.take_length] at hw
   exact hw
theorem ok_walk (T:Tx P w K mg) (G_parts:FnOk P w K mg base CX0 1 T.d_parts.f T.d_parts.fd ["row"] spParts):∀ n,FnOk P w K mg base CX0 (n+2) T.d_walk.f T.d_walk.fd ["rows"] (spWalk n)
 |0=>walk_step T G_parts 0 fn_no
 |n+1=>walk_step T G_parts (n+1) (ok_walk T G_parts n)

theorem sc_might_of:FnScope ["rows", "pairs", "row"] ["rows"] (defScope (top 15)):=⟨rfl,rfl,rfl,by decide +kernel,rfl,by decide +kernel,by decide +kernel⟩
theorem ok_might_of (T:Tx P w K mg)
  (G_walk:FnOk P w K mg base CX0 7 T.d_walk.f T.d_walk.fd ["rows"] (spWalk 5)):FnOk P w K mg base CX0 8 T.d_might_of.f T.d_might_of.fd ["rows"] (spMightOf 5):=by
 refine T.d_might_of.F.ok sc_might_of (λvs H Q E h=>?_) (λcdv A outer s H vs Q E hr h=>?_)
 ·obtain ⟨tp,a,xs,ms,rfl,_⟩:=h
  rfl
 ·obtain ⟨tp,a,xs,ms,rfl,S,hn,k⟩:=h
  refine ⟨_,(pss_cons (ps_set (i:=1) sc_might_of.nd rfl (Or.inl rfl) (pe_lst pa_nil))
  (pss_cons (ps_for PassesOwn.never rfl (pi_list (pe_call G_walk (hr.mono (by omega)) rfl T.d_walk.hm T.d_walk.F.kp T.d_walk.b .nil pass0 (pa_cons (pv 0) pa_nil))) (pg_name (i:=2) sc_might_of.nd rfl (Or.inl rfl))
  (pss_one (ps_if (pt_cmpR op_in_seq (pe_ix ix_tup (pv 2) pe_int (λ_ _=>rfl)) (pe_tup (pa_cons pe_str (pa_cons pe_str pa_nil))) (by with_unfolding_all rfl))
  (pss_one (ps_expr (pe_bm PySem.F.plainAttrs_list PySem.F.slot_list_append PySem.F.type_list_append mt_append (pv 1) (pa_cons (pe_tup (pa_cons (pe_ix ix_tup (pv 2) pe_int (λ_ _=>rfl)) (pa_cons (pe_ix ix_tup (pv 2) pe_int (λ_ _=>rfl)) pa_nil))) pa_nil))))
  (pss_one (ps_if (pt_cmpR op_eq (pe_ix ix_tup (pv 2) pe_int (λ_ _=>rfl)) pe_str (nomark _))
  (pss_one (ps_expr (pe_bm PySem.F.plainAttrs_list PySem.F.slot_list_append PySem.F.type_list_append mt_append (pv 1) (pa_cons (pe_tup (pa_cons (pe_ix ix_tup (pv 2) pe_int (λ_ _=>rfl)) (pa_cons (pe_ix ix_tup (pv 2) pe_int (λ_ _=>rfl)) pa_nil))) pa_nil))))
  pss_nil)))))
  (pss_one (ps_ret (pv 1))))),?_⟩
  walk_at "sw"
  refine ⟨by decide,λl hl=>⟨_,rfl,tp,a,xs,ms,rfl,S.same (Same.upd hl),hn,λwl H1 ws hwl h1 hw hle s1=>⟨wl,rfl,⟨_,SqL.of h1⟩,?_⟩⟩⟩
  obtain ⟨os,hos,eos⟩:=hw.all
  have nwl:wl≠l:=λe=>by rw [e,upd_same] at hwl;cases hwl
  have hlen:ws.length<=186620:=Nat.le_trans hle (Nat.le_trans (Nat.mul_le_mul S.len (Nat.le_refl _)) (by decide +kernel))
  refine for_list (K:=K) (a:=wl) (xs:=ws) (λi σ H2=>∃ (o2:Option V) (ps:List Addr),σ=[some (.ref a),some (.ref l),o2]/\H2 l=some (.lst (ps.map V.ref))/\PrA H2 ps (os.take i).flatten/\ps.length<=i/\Same H H2/\H2 wl=some (.lst ws)/\KT H1 H2)
   ⟨none,[],rfl,s1 _ _ upd_same,pra_nil _,Nat.zero_le _,(Same.upd hl).trans s1,h1,λ_ _ h=>h⟩ (λi σ H2 _ ⟨_,_,_,_,_,_,_,h2,_⟩=>SqL.of h2) ?_ ?_
  ·rintro i y σ H2 hi ⟨o1,ps,rfl,hl2,hp2,hle2,s2,hw2,k2⟩
   have hi':=(List.getElem?_eq_some_iff.mp hi).1
   obtain ⟨o,ho,q,xs',rfl,hq,own⟩:=hos.get hi
   have hq2:=k2 _ _ hq
   have bnd:ps.length<sizeLine:=Nat.lt_of_le_of_lt (show ps.length<=186620 by omega) (by decide)
   have none_:o=[]->∀ H3:Hp,Same H2 H3->∃ ps:List Addr,H3 l=some (.lst (ps.map V.ref))/\PrA H3 ps (os.take (i+1)).flatten/\ps.length<=i+1/\Same H H3/\H3 wl=some (.lst ws)/\KT H1 H3:=λeo H3 s3=>by
    refine ⟨ps,s3 _ _ hl2,?_,by omega,s2.trans s3,s3 _ _ hw2,k2.trans (.of s3)⟩
    rw [flat_snoc ho,eo,List.append_nil]
    exact pra_same hp2 s3
   have one_:∀ k:Pr,o=[k]->∀ (H3:Hp) (t:Addr),Same H2 H3->H3 t=some (.tup [.str k.1,.str k.2])->∃ ps':List Addr,(upd H3 l (.lst (ps.map V.ref++[.ref t]))) l=some (.lst (ps'.map V.ref))/\PrA (upd H3 l (.lst (ps.map V.ref++[.ref t]))) ps' (os.take (i+1)).flatten/\ps'.length<=i+1/\Same H (upd H3 l (.lst (ps.map V.ref++[.ref t])))/\(upd H3 l (.lst (ps.map V.ref++[.ref t]))) wl=some (.lst ws)/\KT H1 (upd H3 l (.lst (ps.map V.ref++[.ref t]))):=λk eo H3 t s3 ht=>by
    have kt:KT H3 (upd H3 l (.lst (ps.map V.ref++[.ref t]))):=λa' xs' h'=>by rw [upd_ne (ne_of h' (s3 _ _ hl2) (λz=>nomatch z))];exact h'
    refine ⟨ps++[t],by rw [upd_same,List.map_append];rfl,?_,by rw [List.length_append];simp;omega,same_set (s2.trans s3) hl,by rw [upd_ne nwl];exact s3 _ _ hw2,(k2.trans (.of s3)).trans kt⟩
    rw [flat_snoc ho,eo]
    exact pra_kt (pra_app (pra_same hp2 s3) (pra_one ht)) kt
   have go:∀ {G:Hp} {R:VK} (z:Str) (r:List V),H2 q=some (.tup (.str z::r))->Same H2 G->R (.str z) G->rIxT K (.ref q) (.int 0) G R:=λ{G R} z r h' s' q'=>⟨q,_,0,.str z,rfl,rfl,SqT.of (s' _ _ h'),atI_nat (j:=0) rfl,q'⟩
   walk_at "sy"
   cases own with
   |@ring z y ln r hz =>
    refine go z _ hq2 (Same.refl _) ⟨by decide,λp1 h1'=>⟨p1,_,rfl,.inr (SqT.of upd_same),rfl,by decide +kernel,_,rfl,bT (by rcases hz with rfl | rfl<;>decide +kernel) ?_⟩⟩
    have s3:=Same.upd (o:=.tup [V.str "ring",.str "send"]) h1'
    refine ⟨.inl ⟨_,SqL.of (s3 _ _ hl2)⟩,go z _ hq2 s3 ⟨q,_,_,_,rfl,rfl,SqT.of (s3 _ _ hq2),atI_nat (j:=2) rfl,(by show (2:Nat)<=sizeLine;decide),λt ht=>?_⟩⟩
    have s4:=s3.trans (Same.upd (o:=.tup [V.str z,.str y]) ht)
    exact ⟨l,_,_,rfl,rfl,s4 _ _ hl2,by rw [List.length_map];exact bnd,one_ (z,y) rfl _ t s4 upd_same⟩
   |@begin y ln x r =>
    refine go _ _ hq2 (Same.refl _) ⟨by decide,λp1 h1'=>⟨p1,_,rfl,.inr (SqT.of upd_same),rfl,by decide +kernel,_,rfl,bF (in2F (by decide +kernel) (by decide +kernel)) ?_⟩⟩
    have s3:=Same.upd (o:=.tup [V.str "ring",.str "send"]) h1'
    refine go _ _ hq2 s3 ⟨rfl,ifT rfl ⟨.inl ⟨_,SqL.of (s3 _ _ hl2)⟩,go _ _ hq2 s3 ⟨q,_,_,_,rfl,rfl,SqT.of (s3 _ _ hq2),atI_nat (j:=3) rfl,(by show (2:Nat)<=sizeLine;decide),λt ht=>?_⟩⟩⟩
    have s4:=s3.trans (Same.upd (o:=.tup [V.str "begin",.str y]) ht)
    exact ⟨l,_,_,rfl,rfl,s4 _ _ hl2,by rw [List.length_map];exact bnd,one_ ("begin",y) rfl _ t s4 upd_same⟩
   |@none z r n1 n2 n3 =>
    refine go _ _ hq2 (Same.refl _) ⟨by decide,λp1 h1'=>⟨p1,_,rfl,.inr (SqT.of upd_same),rfl,by decide +kernel,_,rfl,bF (in2F n1 n2) ?_⟩⟩
    have s3:=Same.upd (o:=.tup [V.str "ring",.str "send"]) h1'
    refine go _ _ hq2 s3 ⟨rfl,ifF (λe=>n3 (V.str.inj e)) ?_⟩
    exact none_ rfl _ s3
  ·rintro σ H2 ⟨o1,ps,rfl,hl2,hp2,hle2,s2,hw2,k2⟩
   refine ⟨_,rfl,k l H2 ps hl hl2 ?_ (by omega) s2⟩
   rw [hos.len,List.take_length] at hp2
   rw [eos];exact hp2
theorem sc_is_name_of_value:FnScope ["value"] ["value"] (defScope (top 16)):=⟨rfl,rfl,rfl,by decide +kernel,rfl,by decide +kernel,by decide +kernel⟩
theorem ok_is_name_of_value (T:Tx P w K mg):FnOk P w K mg base CX0 1 T.d_is_name_of_value.f T.d_is_name_of_value.fd ["value"] (spIsName):=by
 refine T.d_is_name_of_value.F.ok sc_is_name_of_value (λvs H Q E h=>?_) (λcdv A outer s H vs Q E hr h=>?_)
 ·obtain ⟨v,rfl,_⟩:=h
  rfl
 ·obtain ⟨v,rfl,hv,k⟩:=h
  refine ⟨_,(pss_one (ps_ret (pe_and (pe_callB call_isinst (by rfl) T.n_isinstance bt_isinstance (pa_cons (pv 0) (pa_cons (pe_bltn (v:=.ty "str") rfl T.n_str bt_str rfl) pa_nil))) (pe_one (pe_not (pe_bm PySem.F.plainAttrs_str PySem.F.slot_str_startswith PySem.F.type_str_startswith mt_startswith (pv 0) (pa_cons pe_str pa_nil))))))),?_⟩
  walk_at "sy"
  rcases hv with ⟨n,rfl⟩ | ⟨z,rfl⟩
  ·exact ⟨_,.int n,false,rfl,iteF (k false (λe=>nomatch e))⟩
  ·exact ⟨_,.str _,true,rfl,iteT ⟨trivial,_,rfl,k _ (λ_=>⟨z,rfl⟩)⟩⟩
theorem sc_Machine___init__:FnScope ["self", "rows"] ["self", "rows"] (defScope (inClass (top 17) 0)):=⟨rfl,rfl,rfl,by decide +kernel,rfl,by decide +kernel,by decide +kernel⟩
theorem ok_Machine___init__ (T:Tx P w K mg) (G_i_frame:FnOk P w K mg base CX0 1 T.i_frame.f T.i_frame.fd ["self", "rows", "line", "scope"] (spFInit T)) (G_i_rounds:FnOk P w K mg base CX0 2 T.i_rounds.f T.i_rounds.fd ["self", "rows", "line", "many"] (spI T .rounds)) (G_i_kept:FnOk P w K mg base CX0 1 T.i_kept.f T.i_kept.fd ["self", "rows", "line", "scope"] (spFInit T)) (G_i_tried:FnOk P w K mg base CX0 2 T.i_tried.f T.i_tried.fd ["self", "rows", "line", "fault", "others"] (spI T .tried)) (G_i_cleaned:FnOk P w K mg base CX0 2 T.i_cleaned.f T.i_cleaned.fd ["self", "rows", "line", "others"] (spI T .cleaned)) (G_i_limited:FnOk P w K mg base CX0 2 T.i_limited.f T.i_limited.fd ["self", "rows", "line", "scope", "others"] (spI T .limited)) (G_i_grouped:FnOk P w K mg base CX0 2 T.i_grouped.f T.i_grouped.fd ["self", "rows", "line", "scope", "named"] (spI T .grouped)):FnOk P w K mg base CX0 4 T.m_Machine___init__.f T.m_Machine___init__.fd ["self", "rows"] (spMInit T):=by
 refine T.m_Machine___init__.F.ok sc_Machine___init__ (λvs H Q E h=>?_) (λcdv A outer s H vs Q E hr h=>?_)
 ·obtain ⟨p,a,rows,rfl,_⟩:=h
  rfl
 ·obtain ⟨p,a,rows,rfl,F,ha,hrl,k⟩:=h
  have hu1:=hu_of hr
  refine ⟨_,(pss_cons (ps_fld (pv 0) (pe_lst (pa_cons (pe_make T.M_frame G_i_frame (hr.mono (by omega)) rfl T.h_frame T.i_frame.b .nil pass0 (pa_cons (pv 1) (pa_cons pe_int (pa_cons pe_int pa_nil)))) pa_nil)) rfl)
  (pss_cons (ps_fld (pv 0) pe_int rfl)
  (pss_cons (ps_fld (pv 0) pe_dnewK rfl)
  (pss_cons (ps_fld (pv 0) pe_int rfl)
  (pss_cons (ps_fld (pv 0) pe_dnewK rfl)
  (pss_cons (ps_fld (pv 0) pe_non rfl)
  (pss_cons (ps_fld (pv 0) pe_bl rfl)
  (pss_cons (ps_fld (pv 0) pe_non rfl)
  (pss_one (ps_fld (pv 0) pe_non rfl)))))))))),?_⟩
  walk_at "sy"
  obtain ⟨dp,fs0,hp0,hF0⟩:=F.ex
  refine ⟨_,rfl,?_⟩
  intro f dx nf ndx nef
  have s0:Same H (upd (upd H dx (.own f)) f (.ins (T.C .frame) dx [])):=(Same.upd ndx).trans (Same.upd (by rw [upd_ne (Ne.symm nef)];exact nf))
  have pf:p≠f:=ne_of_none hp0 nf
  refine ⟨.frame,f,a,rows,.int 0,.int 0,rfl,FrAt.new upd_same,s0 _ _ ha,λG1 c1 Ff=>⟨rfl,(by show (1:Nat)<=sizeLine;decide),λl hl=>?_⟩⟩
  have ha1:=c1 _ _ (ne_of_none ha nf) (s0 _ _ ha)
  have hp1:=c1 _ _ pf (s0 _ _ hp0)
  have bH:But p H G1:=λc o n h=>c1 c o (ne_of_none h nf) (s0 c o h)
  clear c1 s0
  have bH0:=bH
  have hl0:=hl
  have s2:=Same.upd (o:=.lst [V.ref f]) hl
  have hl2:(upd G1 l (.lst [V.ref f])) l=some (.lst [V.ref f]):=upd_same
  have Ff:=Ff.same s2
  have F0:ObAt T 0 (upd G1 l (.lst [V.ref f])) p (λ_=>none):=⟨dp,fs0,s2 _ _ hp1,hF0⟩
  have ha2:=s2 _ _ ha1
  have bH:=bH.trans (But.of s2)
  have hlp:l≠p:=λz=>by rw [z,hp1] at hl;cases hl
  generalize upd G1 l (.lst [V.ref f])=G2 at hl2 Ff F0 ha2 bH |-
  clear hl s2 hp1 ha1
  refine F0.st (l:=.frames) rfl λH2 b2 F2=>?_
  refine F2.st (l:=.lastS) rfl λH3 b3 F3=>?_
  intro d1 hd1
  have s4:=Same.upd (o:=.dK []) hd1
  have e1:(upd H3 d1 (.dK [])) d1=some (.dK []):=upd_same
  have d1p:d1≠p:=λz=>by
   obtain ⟨_,_,q,_⟩:=F3.ex
   rw [<- z,hd1] at q;cases q
  have hlH:H l=none:=by
   cases e:H l with
   |none=>rfl
   |some o =>
    have:=bH0 l o hlp e
    rw [hl0] at this;cases this
  have hd1H:H d1=none:=by
   cases e:H d1 with
   |none=>rfl
   |some o =>
    have:=(bH.trans (b2.trans b3)) d1 o d1p e
    rw [hd1] at this;cases this
  have F3:=F3.same s4
  generalize upd H3 d1 (.dK [])=H3' at s4 e1 F3 |-
  refine F3.st (l:=.values) rfl λH4 b4 F4=>?_
  refine F4.st (l:=.given) rfl λH5 b5 F5=>?_
  intro d2 hd2
  have s6:=Same.upd (o:=.dK []) hd2
  have e2:(upd H5 d2 (.dK [])) d2=some (.dK []):=upd_same
  have d2p:d2≠p:=λz=>by
   obtain ⟨_,_,q,_⟩:=F5.ex
   rw [<- z,hd2] at q;cases q
  have hd2H:H d2=none:=by
   cases e:H d2 with
   |none=>rfl
   |some o =>
    have:=(bH.trans (b2.trans (b3.trans ((But.of s4).trans (b4.trans b5))))) d2 o d2p e
    rw [hd2] at this;cases this
  have e1:=b5 _ _ d1p (b4 _ _ d1p e1)
  have d12:d1≠d2:=ne_of_none e1 hd2
  have F5:=F5.same s6
  have e1:=s6 _ _ e1
  generalize upd H5 d2 (.dK [])=H5' at s6 e1 e2 F5 |-
  refine F5.st (l:=.marks) rfl λH6 b6 F6=>?_
  refine F6.st (l:=.signal) rfl λH7 b7 F7=>?_
  refine F7.st (l:=.struck) rfl λH8 b8 F8=>?_
  refine F8.st (l:=.want) rfl λH9 b9 F9=>?_
  refine F9.st (l:=.ending) rfl λH10 b10 F10=>?_
  have c6:=b6.trans (b7.trans (b8.trans (b9.trans b10)))
  have c2:=b2.trans (b3.trans ((But.of s4).trans (b4.trans (b5.trans ((But.of s6).trans c6)))))
  obtain ⟨df,fsf,hf1,hf2⟩:=Ff.ex
  obtain ⟨_,_,hpz,_⟩:=F0.ex
  have ha9:=c2 _ _ (ne_of ha2 hpz (λz=>nomatch z)) ha2
  have Fr:FAt T .frame H10 f (rootS a rows):=by
   have F9:FrAt T 6 .frame H10 f _:=⟨df,fsf,c2 _ _ pf.symm hf1,hf2⟩
   refine ⟨?_,ha9,ha9,Nat.zero_le _,hrl,hrl⟩
   refine cast ?_ (F9.mono (m:=11) (by decide))
   congr 1
   funext x
   cases x<;>rfl
  refine k H10 f ⟨l,d1,d2,0,.int 0,.non,false,.non,.non⟩ (bH.trans c2) ⟨?_,c2 _ _ hlp hl2,?_,?_,c6 _ _ d1p e1,c6 _ _ d2p e2,d12,?_⟩ rfl rfl rfl rfl rfl nf hlH hd1H hd2H
  ·refine cast ?_ F10
   congr 1
   funext x
   cases x<;>rfl
  ·intro x hx
   rw [List.mem_singleton.mp hx];exact Fr
  ·simp [pf]
  ·intro x hx
   rw [List.mem_singleton.mp hx];exact .inr ⟨0,rfl⟩
theorem sc_Machine_waiting:FnScope ["self"] ["self"] (defScope (inClass (top 17) 1)):=⟨rfl,rfl,rfl,by decide +kernel,rfl,by decide +kernel,by decide +kernel⟩
theorem ok_Machine_waiting (T:Tx P w K mg):FnOk P w K mg base CX0 1 T.m_Machine_waiting.f T.m_Machine_waiting.fd ["self"] (spWaiting T):=by
 refine T.m_Machine_waiting.F.ok sc_Machine_waiting (λvs H Q E h=>?_) (λcdv A outer s H vs Q E hr h=>?_)
 ·obtain ⟨p,m,rfl,_⟩:=h
  rfl
 ·obtain ⟨p,m,rfl,F,k⟩:=h
  refine ⟨_,(pss_one (ps_ret (pe_fld (pv 0) rfl))),?_⟩
  exact F.fld (l:=.want) rfl rfl k
theorem sc_Machine_target:FnScope ["self", "found", "frame"] ["self"] (defScope (inClass (top 17) 5)):=⟨rfl,rfl,rfl,by decide +kernel,rfl,by decide +kernel,by decide +kernel⟩
theorem ok_Machine_target (T:Tx P w K mg) (G_hides:∀ c,FnOk P w K mg base CX0 1 (T.m_hides c).f (T.m_hides c).fd ["self"] (spHides T c)):FnOk P w K mg base CX0 2 T.m_Machine_target.f T.m_Machine_target.fd ["self"] (spTarget T):=by
 refine T.m_Machine_target.F.ok sc_Machine_target (λvs H Q E h=>?_) (λcdv A outer s H vs Q E hr h=>?_)
 ·obtain ⟨p,stk,kv,mk,m,rfl,_⟩:=h
  rfl
 ·obtain ⟨p,stk,kv,mk,m,rfl,M,k⟩:=h
  have hu1:=hu_of hr
  refine ⟨_,(pss_cons (ps_set (i:=1) sc_Machine_target.nd rfl (Or.inl rfl) pe_non)
  (pss_cons (ps_for PassesOwn.never rfl (pi_rev rfl T.n_reversed (pa_cons (pe_fld (pv 0) rfl) pa_nil)) (pg_name (i:=2) sc_Machine_target.nd rfl (Or.inl rfl))
  (pss_cons (ps_if (pt_val (pe_any λc=>(pe_meth0 (pv 2) (T.cl c) (T.m_hides c).me (G_hides c) (hr.mono (by omega)) (T.m_hides c).b .nil pass0)))
  (pss_one (ps_ret (pv 1)))
  pss_nil)
  (pss_one (ps_if (pt_cmp (pc_dinN hu1 (pe_fld (pv 2) rfl) (pe_fld (pv 0) rfl)))
  (pss_one (ps_set (i:=1) sc_Machine_target.nd rfl (Or.inl rfl) (pe_fld (pv 2) rfl)))
  pss_nil))))
  (pss_one (ps_ret (pv 1))))),?_⟩
  walk_at "sy"
  refine M.ob.fld (l:=.frames) rfl rfl ⟨_,_,rfl,SqL.of M.fl,?_⟩
  refine for_rev (K:=K) (a:=m.fl) (xs:=stk.map λx=>V.ref x.a) (λi σ G=>∃ (v2:Option V) (fd:V),σ=[some (.ref p),some fd,v2]/\G=H/\targR mk (stk.reverse.drop i) fd=targR mk stk.reverse .non) ⟨none,_,rfl,rfl,rfl⟩ (λi σ G _ ⟨_,_,_,e,_⟩=>by rw [e];exact SqL.of M.fl) ?_ ?_
  ·rintro i y σ G hx hi ⟨v2,fd,rfl,rfl,et⟩
   rw [List.length_map] at hx hi
   rw [List.getElem?_map] at hx
   cases eb:stk[stk.length-1-i]? with
   |none=>rw [eb] at hx;cases hx
   |some x =>
    rw [eb] at hx
    cases hx
    have hm:x∈stk:=List.mem_of_getElem? eb
    have er:stk.reverse[i]?=some x:=by rw [List.getElem?_reverse hi];exact eb
    have ed:stk.reverse.drop i=x::stk.reverse.drop (i+1):=by
     obtain ⟨h1,h2⟩:=List.getElem?_eq_some_iff.mp er
     rw [List.drop_eq_getElem_cons h1,h2]
    rw [ed] at et
    walk_at "sy"
    refine ⟨x.c,(M.fr x hm).mt nf_hides ⟨x.a,x.s,rfl,M.fr x hm,_,rfl,?_⟩⟩
    by_cases hh:hidesF x.c x.s=true
    ·have et:fd=targR mk stk.reverse .non:=by rw [<- et];show fd=(if hidesF x.c x.s=true then fd else _);rw [if_pos hh]
     rw [if_pos hh,et]
     exact k
    ·have et:targR mk (stk.reverse.drop (i+1)) (if inM mk x.s.sc=true then x.s.sc else fd)=targR mk stk.reverse .non:=by
      rw [<- et];show _=(if hidesF x.c x.s=true then fd else _);rw [if_neg hh]
     rw [if_neg hh]
     refine (M.fr x hm).fr.fld (l:=.scope) rfl rfl (M.ob.fld (l:=.marks) rfl rfl ⟨_,rfl,?_⟩)
     rcases M.sc x hm with e | ⟨j,e⟩
     ·rw [e] at et |-
      exact ⟨none,.inr ⟨rfl,⟨_,Rd.of M.mr⟩,rfl⟩,bF rfl ⟨rfl,et⟩⟩
     ·rw [e] at et |-
      refine ⟨_,.inl (DGet.k (k:=Sum.inl j) M.mr),?_⟩
      have et:targR mk (stk.reverse.drop (i+1)) (if (valV mk (Sum.inl j:Key)).isSome=true then .int j else fd)=targR mk stk.reverse .non:=et
      cases c:(valV mk (Sum.inl j:Key)).isSome with
      |true =>
       rw [c] at et
       exact bT rfl ((M.fr x hm).fr.fld (l:=.scope) rfl (show some x.s.sc=some (.int j) by rw [e]) ⟨rfl,et⟩)
      |false =>
       rw [c] at et
       exact bF rfl ⟨rfl,et⟩
  ·rintro σ G ⟨v2,fd,rfl,rfl,et⟩
   rw [List.length_map,List.drop_eq_nil_of_le (by rw [List.length_reverse];exact Nat.le_refl _)] at et
   have et:fd=targR mk stk.reverse .non:=et
   rw [et]
   exact ⟨_,rfl,k⟩
theorem sc_Machine_might:FnScope ["self", "pairs", "frame"] ["self"] (defScope (inClass (top 17) 7)):=⟨rfl,rfl,rfl,by decide +kernel,rfl,by decide +kernel,by decide +kernel⟩
theorem ok_Machine_might (T:Tx P w K mg) (G_behind:∀ c,FnOk P w K mg base CX0 2 (T.m_behind c).f (T.m_behind c).fd ["self"] (spBehind T c))
  (G_might_of:FnOk P w K mg base CX0 8 T.d_might_of.f T.d_might_of.fd ["rows"] (spMightOf 5)):FnOk P w K mg base CX0 9 T.m_Machine_might.f T.m_Machine_might.fd ["self"] (spMight T):=by
 refine T.m_Machine_might.F.ok sc_Machine_might (λvs H Q E h=>?_) (λcdv A outer s H vs Q E hr h=>?_)
 ·obtain ⟨p,stk,m,mss,rfl,_⟩:=h
  rfl
 ·obtain ⟨p,stk,m,mss,rfl,O,hfl,hF,hB,hl,k⟩:=h
  have hu:=hu100 hr
  have hu1:=hu_of hr
  have hu20:=Nat.lt_of_le_of_lt (Nat.add_le_add_left (show 20<=100 by decide) _) hu
  refine ⟨_,(pss_cons (ps_set (i:=1) sc_Machine_might.nd rfl (Or.inl rfl) (pe_lst pa_nil))
  (pss_cons (ps_for PassesOwn.never rfl (pi_list (pe_fld (pv 0) rfl)) (pg_name (i:=2) sc_Machine_might.nd rfl (Or.inl rfl))
  (pss_one (ps_expr (pe_bm PySem.F.plainAttrs_list PySem.F.slot_list_extend PySem.F.type_list_extend mt_extend (pv 1) (pa_cons (pe_call G_might_of (hr.mono (by omega)) rfl T.d_might_of.hm T.d_might_of.F.kp T.d_might_of.b .nil pass0 (pa_cons (pe_any λc=>(pe_meth0 (pv 2) (T.cl c) (T.m_behind c).me (G_behind c) (hr.mono (by omega)) (T.m_behind c).b .nil pass0)) pa_nil)) pa_nil)))))
  (pss_one (ps_ret (pe_callB (call_sortedPr (w:=w) rfl rfl) (by rfl) T.n_sorted bt_sorted (pa_cons (pe_callTy (call_setPr (w:=w) rfl rfl hu20) (by rfl) T.n_set bt_set (pa_cons (pv 1) pa_nil)) pa_nil)))))),?_⟩
  walk_at "sy"
  refine ⟨by decide,λl hl0=>?_⟩
  have s0:=Same.upd (o:=.lst []) hl0
  refine ObAt.forL (O.same s0) (l:=.frames) rfl rfl ⟨_,SqL.of (s0 _ _ hfl)⟩ ?_
  refine for_list (K:=K) (a:=m.fl) (xs:=stk.map λx=>V.ref x.a) (λi σ G=>∃ (o2:Option V),σ=[some (.ref p),some (.ref l),o2]/\LM H l G (mss.take i).flatten)
   ⟨none,rfl,hl0,⟨[],upd_same,pra_nil _⟩,s0⟩ (λi σ G _ ⟨_,_,L⟩=>SqL.of (L.sm _ _ hfl)) ?_ ?_
  ·rintro i y σ G hi ⟨o2,rfl,L⟩
   rw [List.getElem?_map] at hi
   cases eb:stk[i]? with
   |none=>rw [eb] at hi;cases hi
   |some x =>
    rw [eb] at hi
    cases hi
    have hx:x∈stk:=List.mem_of_getElem? eb
    have hi45:i<45:=Nat.lt_of_lt_of_le (List.getElem?_eq_some_iff.mp eb).1 hl
    obtain ⟨ms,hms,hb⟩:=hB.get eb
    have F:=(hF x hx).same L.sm
    obtain ⟨ns,ha,e⟩:=id (hb.kt (.of L.sm))
    obtain ⟨ps0,hp0,_⟩:=L.ex
    walk_at "sy"
    refine ⟨.inl ⟨_,SqL.of hp0⟩,x.c,F.mt nf_behind ⟨x.a,x.s,rfl,F,λl1 G1 hl1 s1 h1=>?_⟩⟩
    refine ⟨false,l1,_,ns,rfl,⟨h1,behind_len F.rl F.ol,rows_kt (.of s1) ha⟩,Nat.le_refl _,λl2 G2 ps hl2 h2 hpr hle s2=>?_⟩
    rw [<- e] at hpr
    have b1:=take_le (i:=i) (ms:=mss) (c:=186620) λm' hm'=>by
     obtain ⟨y,hy,hb'⟩:=hB.mem m' hm'
     exact hb'.len (hF y hy)
    have b2:i*186620<=44*186620:=Nat.mul_le_mul (by omega) (Nat.le_refl _)
    have b3:=hb.len (hF x hx)
    refine (L.same (s1.trans s2)).ext h2 hpr (by omega) λG' L' _=>?_
    rw [flat_snoc hms];exact L'
  ·rintro σ G ⟨o2,rfl,L⟩
   rw [List.length_map,hB.len,List.take_length] at L
   obtain ⟨ps,hp,hpr⟩:=L.ex
   have hU:=bhs_uu hB
   refine ⟨_,rfl,l,rfl,ps,hp,_,hpr,UU,hU,by decide,λS kz hS hkz=>?_⟩
   have sS:=Same.upd (o:=setHOp w S ps kz) hS
   refine ⟨S,rfl,ps,_,UU,kz,upd_same,pra_same hpr sS,hkz,uu_ok,hU,λr qs hr' hq=>?_⟩
   exact k r _ qs ((L.sm.trans sS).free hr') upd_same (pra_same hq (Same.upd hr')) ((L.sm.trans sS).trans (Same.upd hr'))
theorem sc_Machine_go:FnScope ["self", "value"] ["self", "value"] (defScope (inClass (top 17) 10)):=⟨rfl,rfl,rfl,by decide +kernel,rfl,by decide +kernel,by decide +kernel⟩
theorem ok_Machine_go (T:Tx P w K mg):FnOk P w K mg base CX0 1 T.m_Machine_go.f T.m_Machine_go.fd ["self", "value"] (spGo T):=by
 refine T.m_Machine_go.F.ok sc_Machine_go (λvs H Q E h=>?_) (λcdv A outer s H vs Q E hr h=>?_)
 ·obtain ⟨p,i,S,N,stk,kv,m,t,z,r,rfl,_⟩:=h
  rfl
 ·obtain ⟨p,i,S,N,stk,kv,m,t,z,r,rfl,G,hN,hw,ht,hz,k⟩:=h
  have hu1:=hu_of hr
  have hu:=hu100 hr
  have M:=G.at_
  refine ⟨_,(pss_cons (ps_if (pt_cmpR op_in_seq (pe_ix ix_tup (pe_fld (pv 0) rfl) pe_int (λ_ _=>rfl)) (pe_tup (pa_cons pe_str (pa_cons pe_str pa_nil))) (by with_unfolding_all rfl))
  (pss_one (ps_dput hu1 (pe_fld (pv 0) rfl) (pe_ix ix_tup (pe_fld (pv 0) rfl) pe_int (λ_ _=>rfl)) (pv 1) rfl))
  pss_nil)
  (pss_one (ps_fld (pv 0) pe_non rfl))),?_⟩
  walk_at "sy"
  have hw':m.g .want=some (.ref t):=by rw [<- hw];rfl
  have lt:kv.length<sizeLine:=small1000 (by have:=G.kl;omega)
  have fin:∀ {kv':List (Key×V)} {G':Hp},K3 m H G'->Gd T G' p S (N+1) stk kv' m->sFld K (tVar 0) (tC V.non) "want" { nx:=λx H'=>Q V.non H',rt:=Q } [some (V.ref p),some (.int i)] G':=λ{kv' G'} s1 M'=>by
   refine M'.at_.ob.re (l:=.want) rfl (λz=>nomatch z) λH2 b2 F2=>?_
   rw [g_wt] at F2
   obtain ⟨_,_,hp,_⟩:=M'.at_.ob.ex
   have k2:K3 m G' H2:=K3.but b2 hp
   exact k H2 kv' (s1.trans k2) (M'.by_ (M'.at_.byP b2 F2 rfl rfl rfl) (k2.kt M'.at_) (M'.sg.kt (k2.kt M'.at_)) M'.st)
  refine M.ob.fld (l:=.want) rfl hw' ⟨t,_,_,.str z,rfl,rfl,SqT.of ht,atI_nat (j:=0) rfl,by decide,λp1 h1=>⟨p1,_,rfl,.inr (SqT.of upd_same),rfl,rfl,_,rfl,?_⟩⟩
  have s1:=Same.upd (o:=.tup [V.str "take",.str "ask"]) h1
  have G1:=G.same s1
  have ht1:=s1 _ _ ht
  generalize upd H p1 (.tup [V.str "take",.str "ask"])=H1 at s1 G1 ht1 |-
  by_cases c:z="take"\/z="ask"
  ·rcases hz with ⟨n1,n2⟩ | ⟨ln,b,x,rfl⟩
   ·rcases c with c | c
    ·exact absurd c n1
    ·exact absurd c n2
   ·refine bT (by rcases c with rfl | rfl<;>decide +kernel) ⟨_,rfl,G1.at_.ob.fld (l:=.values) rfl rfl (G1.at_.ob.fld (l:=.want) rfl hw' ⟨t,_,_,.str x,rfl,rfl,SqT.of ht1,atI_nat (j:=3) rfl,_,_,rfl,DPut.k (k:=Sum.inr x) G1.at_.nv lt,fin ((K3.of s1).trans K3.nv) (G1.byN (.inl ⟨i,rfl⟩))⟩)⟩
  ·exact bF (in2F (λe=>c (.inl e)) (λe=>c (.inr e))) (fin (K3.of s1) (G1.up (Nat.le_succ _)))
theorem sc_Machine_joined:FnScope ["self", "faults"] ["self", "faults"] (defScope (inClass (top 17) 12)):=⟨rfl,rfl,rfl,by decide +kernel,rfl,by decide +kernel,by decide +kernel⟩
theorem ok_Machine_joined (T:Tx P w K mg) (G_tell_joined:FnOk P w K mg base CX0 1 T.m_tell_joined.f T.m_tell_joined.fd ["self", "faults"] (spTell T)):FnOk P w K mg base CX0 2 T.m_Machine_joined.f T.m_Machine_joined.fd ["self", "faults"] (spJoined T):=by
 refine T.m_Machine_joined.F.ok sc_Machine_joined (λvs H Q E h=>?_) (λcdv A outer s H vs Q E hr h=>?_)
 ·obtain ⟨p,a,stk,x,kv,mk,m,xs,rfl,_⟩:=h
  rfl
 ·obtain ⟨p,a,stk,x,kv,mk,m,xs,rfl,M,hc,ha,k⟩:=h
  refine ⟨_,(pss_cons (ps_fld (pv 0) pe_non rfl)
  (pss_one (ps_expr (pe_meth (pe_ix ix_list (pe_fld (pv 0) rfl) (pe_un un_neg pe_int) (λ_ _=>rfl)) (T.cl .grouped) T.m_tell_joined.me G_tell_joined (hr.mono (by omega)) T.m_tell_joined.b .nil pass0 (pa_cons (pv 1) pa_nil))))),?_⟩
  walk_at "sy"
  refine M.ob.re (l:=.want) rfl (λz=>nomatch z) λH1 b1 F1=>?_
  rw [g_wt] at F1
  have M1:=M.byP b1 F1 rfl rfl rfl
  have hx:x∈stk++[x]:=List.mem_append_right _ List.mem_cons_self
  have F:=M1.fr x hx
  have hf:=M1.fl
  rw [List.map_append] at hf
  obtain ⟨_,_,hp,_⟩:=M.ob.ex
  have ha1:=b1.tup hp ha
  rw [hc] at F
  walk_at "sy"
  refine M1.ob.fld (l:=.frames) rfl rfl ⟨m.fl,_,_,.ref x.a,rfl,rfl,SqL.of hf,atI_last _ _,?_⟩
  refine ⟨x.a,rfl,F.mt nf_tell ⟨x.a,a,x.s,xs,rfl,F,ha1,λH2 b2 F2=>k H2 (λc o n1 n2 h=>b2 c o n2 (b1 c o n1 h)) ?_⟩⟩
  have M2:=M1.byX b2 (s':={ x.s with told:=.ref a }) (by rw [hc];exact F2) rfl
  exact M2
theorem sc_Machine_leave_innermost:FnScope ["self", "frame"] ["self"] (defScope (inClass (top 17) 15)):=⟨rfl,rfl,rfl,by decide +kernel,rfl,by decide +kernel,by decide +kernel⟩
theorem ok_Machine_leave_innermost (T:Tx P w K mg):FnOk P w K mg base CX0 1 T.m_Machine_leave_innermost.f T.m_Machine_leave_innermost.fd ["self"] (spLeaveIn T):=by
 refine T.m_Machine_leave_innermost.F.ok sc_Machine_leave_innermost (λvs H Q E h=>?_) (λcdv A outer s H vs Q E hr h=>?_)
 ·obtain ⟨p,stk,x,kv,mk,m,rfl,_⟩:=h
  rfl
 ·obtain ⟨p,stk,x,kv,mk,m,rfl,M,k⟩:=h
  have hu1:=hu_of hr
  refine ⟨_,(pss_cons (ps_set (i:=1) sc_Machine_leave_innermost.nd rfl (Or.inl rfl) (pe_bm0 PySem.F.plainAttrs_list PySem.F.slot_list_pop PySem.F.type_list_pop mt_pop (pe_fld (pv 0) rfl)))
  (pss_one (ps_if (pt_cmp (pc_dinN hu1 (pe_fld (pv 1) rfl) (pe_fld (pv 0) rfl)))
  (pss_one (ps_expr (pe_dpop1 (pe_fld (pv 0) rfl) (pe_fld (pv 1) rfl) ⟨rfl,rfl,rfl,rfl⟩)))
  pss_nil))),?_⟩
  walk_at "sy"
  have hx:x∈stk++[x]:=List.mem_append_right _ List.mem_cons_self
  have hf:=M.fl
  rw [List.map_append] at hf
  refine M.ob.fld (l:=.frames) rfl rfl ⟨.inl ⟨_,SqL.of M.fl⟩,m.fl,_,.ref x.a,rfl,rfl,hf,by simp,?_⟩
  have e:(stk.map (λx=>V.ref x.a)++[x].map λx=>V.ref x.a).dropLast=stk.map λx=>V.ref x.a:=by simp
  rw [e]
  have M1:=M.pop
  have F:=M.fr x hx
  have b1:∀ c o,c≠m.fl->H c=some o->(upd H m.fl (.lst (stk.map λx=>V.ref x.a))) c=some o:=λc o n h=>by rw [upd_ne n];exact h
  obtain ⟨dy,gs,h2,h4⟩:=F.fr.ex
  have F1:FrAt T 11 x.c (upd H m.fl (.lst (stk.map λx=>V.ref x.a))) x.a (gOf x.c x.s):=⟨dy,gs,b1 _ _ (ne_of h2 M.fl (λz=>nomatch z)) h2,h4⟩
  generalize upd H m.fl (.lst (stk.map λx=>V.ref x.a))=H1 at M1 b1 F1 |-
  refine F1.fld (l:=.scope) rfl rfl (M1.ob.fld (l:=.marks) rfl rfl ⟨_,rfl,?_⟩)
  rcases M.sc x hx with es | ⟨j,es⟩
  ·rw [es] at k |-
   exact ⟨none,.inr ⟨rfl,⟨_,Rd.of M1.mr⟩,rfl⟩,bF rfl (k H1 (λc o n1 _ h=>b1 c o n1 h) M1)⟩
  ·rw [es] at k |-
   refine ⟨_,.inl (DGet.k (k:=Sum.inl j) M1.mr),?_⟩
   cases c:(valV mk (Sum.inl j:Key)).isSome with
   |false =>
    refine bF rfl (k H1 (λc o n1 _ h=>b1 c o n1 h) ?_)
    show MAt T H1 p stk kv (dropK mk (Sum.inl j)) m
    rw [leave_no c]
    exact M1
   |true =>
    obtain ⟨v,hv⟩:=Option.isSome_iff_exists.mp c
    exact bT rfl (M1.ob.fld (l:=.marks) rfl rfl ⟨_,rfl,.inl ⟨_,Rd.of M1.mr⟩,F1.fld (l:=.scope) rfl (show some x.s.sc=some (.int j) by rw [es]) ⟨_,M1.mr,Sum.inl j,rfl,v,hv,k _ (λc o n1 n2 h=>by rw [upd_ne n2];exact b1 c o n1 h) M1.byR⟩⟩)
theorem sc_Machine_wait_at:FnScope ["self", "want", "target"] ["self", "want"] (defScope (inClass (top 17) 16)):=⟨rfl,rfl,rfl,by decide +kernel,rfl,by decide +kernel,by decide +kernel⟩
theorem ok_Machine_wait_at (T:Tx P w K mg)
  (G_Machine_target:FnOk P w K mg base CX0 2 T.m_Machine_target.f T.m_Machine_target.fd ["self"] (spTarget T)):FnOk P w K mg base CX0 3 T.m_Machine_wait_at.f T.m_Machine_wait_at.fd ["self", "want"] (spWaitAt T):=by
 refine T.m_Machine_wait_at.F.ok sc_Machine_wait_at (λvs H Q E h=>?_) (λcdv A outer s H vs Q E hr h=>?_)
 ·obtain ⟨p,stk,kv,mk,m,q,rfl,_⟩:=h
  rfl
 ·obtain ⟨p,stk,kv,mk,m,q,rfl,M,k1,k2⟩:=h
  refine ⟨_,(pss_cons (ps_set (i:=2) sc_Machine_wait_at.nd rfl (Or.inl rfl) (pe_meth0 (pv 0) T.k_Machine T.m_Machine_target.me G_Machine_target (hr.mono (by omega)) T.m_Machine_target.b .nil pass0))
  (pss_cons (ps_if (pt_cmpR op_notN (pv 2) pe_non (nomark _))
  (pss_cons (ps_fld (pv 0) (pe_tup (pa_cons pe_str (pa_cons (pv 2) pa_nil))) rfl)
  (pss_one (ps_ret pe_non)))
  pss_nil)
  (pss_cons (ps_fld (pv 0) (pv 1) rfl)
  (pss_one (ps_ret (pv 1)))))),?_⟩
  walk_at "sy"
  refine M.ob.call ⟨p,stk,kv,mk,m,rfl,M,?_⟩
  rcases targ_is M with e | ⟨i,e⟩
  ·rw [e]
   refine bF (by simp) ⟨_,rfl,M.ob.re (l:=.want) rfl (λz=>nomatch z) λH1 b1 F1=>⟨_,rfl,?_⟩⟩
   rw [g_wt] at F1
   exact k1 e H1 b1 (M.byP b1 F1 rfl rfl rfl)
  ·rw [e]
   refine bT (by simp) ⟨_,rfl,(by show (2:Nat)<=sizeLine;decide),λt ht=>?_⟩
   have s1:=Same.upd (o:=.tup [V.str "strike",.int i]) ht
   have M1:=M.same s1
   refine M1.ob.re (l:=.signal) rfl (λz=>nomatch z) λH2 b2 F2=>?_
   rw [g_sg] at F2
   obtain ⟨_,_,hp,_⟩:=M1.ob.ex
   exact k2 i e H2 t ((But.of s1).trans b2) (b2 _ _ (ne_of upd_same hp (λz=>nomatch z)) upd_same) (M1.byP b2 F2 rfl rfl rfl)
theorem sc_Machine_leave_group:FnScope ["self", "frame"] ["self", "frame"] (defScope (inClass (top 17) 17)):=⟨rfl,rfl,rfl,by decide +kernel,rfl,by decide +kernel,by decide +kernel⟩
theorem ok_Machine_leave_group (T:Tx P w K mg)
  (G_Machine_leave_innermost:FnOk P w K mg base CX0 1 T.m_Machine_leave_innermost.f T.m_Machine_leave_innermost.fd ["self"] (spLeaveIn T)):FnOk P w K mg base CX0 2 T.m_Machine_leave_group.f T.m_Machine_leave_group.fd ["self", "frame"] (spLeaveG T):=by
 refine T.m_Machine_leave_group.F.ok sc_Machine_leave_group (λvs H Q E h=>?_) (λcdv A outer s H vs Q E hr h=>?_)
 ·obtain ⟨p,stk,x,kv,m,a,rfl,_⟩:=h
  rfl
 ·obtain ⟨p,stk,x,kv,m,a,rfl,M,hc,htold,ha,hh,hsg,A⟩:=h
  have hu:=hu100 hr
  refine ⟨_,(pss_cons (ps_expr (pe_meth0 (pv 0) T.k_Machine T.m_Machine_leave_innermost.me G_Machine_leave_innermost (hr.mono (by omega)) T.m_Machine_leave_innermost.b .nil pass0))
  (pss_mid (ps_if (pt_cmpR (op_neT hu) (pe_fld (pv 1) rfl) (pe_tup pa_nil) (nomark _))
  (pss_one (ps_fld (pv 0) (pe_tup (pa_cons pe_str (pa_cons (pe_fld (pv 1) rfl) pa_nil))) rfl))
  (pss_one (ps_if (pt_cmpR (op_neN hu) (pe_fld (pv 1) rfl) (pe_tup (pa_cons pe_str (pa_cons (pe_fld (pv 1) rfl) pa_nil))) (nomark _))
  (pss_one (ps_fld (pv 0) (pe_fld (pv 1) rfl) rfl))
  pss_nil)))
  (pss_one (ps_ret (pe_tup (pa_cons pe_str (pa_cons (pe_fld (pv 1) rfl) (pa_cons (pe_fld (pv 1) rfl) pa_nil)))))))),?_⟩
  walk_at "sy"
  refine M.ob.call ⟨p,stk,x,kv,[],m,rfl,M,λH1 kp M1=>?_⟩
  rw [leave_nil] at M1
  have k1:K3 m H H1:=K3.kn (Kn.two kp)
  have t1:=k1.kt M
  have F:=M.fr x (List.mem_append_right _ List.mem_cons_self)
  obtain ⟨dy,gs,h2,h4⟩:=F.fr.ex
  have hx1:=kp _ _ (ne_of h2 M.fl (λz=>nomatch z)) (ne_of h2 M.mr (λz=>nomatch z)) h2
  have F1:FrAt T 11 x.c H1 x.a (gOf x.c x.s):=⟨dy,gs,hx1,h4⟩
  have ha1:=t1 _ _ ha
  have gt:gOf x.c x.s .told=some (.ref a):=by
   rw [hc]
   show some x.s.told=_
   rw [htold]
  have npx:x.a≠p:=λz=>(List.nodup_cons.mp M.nd).1 (z▸List.mem_map.mpr ⟨x,List.mem_append_right _ List.mem_cons_self,rfl⟩)
  refine ⟨λσ' G'=>σ'=[some (.ref p),some (.ref x.a)]/\K3 m H G'/\FrAt T 11 x.c G' x.a (gOf x.c x.s)/\MAt T G' p stk kv [] m,?_,?_⟩
  ·walk_at "sy"
   refine F1.fld (l:=.told) rfl gt ⟨by decide,λu hu'=>?_⟩
   have s2:=Same.upd (o:=.tup []) hu'
   have hu2:(upd H1 u (.tup [])) u=some (.tup []):=upd_same
   generalize upd H1 u (.tup [])=H2 at s2 hu2 |-
   have F2:=F1.same s2
   have M2:=M1.same s2
   refine eq_nil (s2 _ _ ha1) hu2 ⟨_,rfl,?_⟩
   refine bF (by simp) ?_
   refine F2.fld (l:=.held) rfl rfl (F2.fld (l:=.scope) rfl rfl ⟨by decide,λv hv=>?_⟩)
   have s3:=Same.upd (o:=.tup [V.str "strike",x.s.sc]) hv
   have hv3:(upd H2 v (.tup [V.str "strike",x.s.sc])) v=some (.tup [V.str "strike",x.s.sc]):=upd_same
   generalize upd H2 v (.tup [V.str "strike",x.s.sc])=H3 at s3 hv3 |-
   have F3:=F2.same s3
   have M3:=M2.same s3
   obtain ⟨_,_,hP3,_⟩:=M3.ob.ex
   have k3:K3 m H H3:=(k1.trans (K3.of s2)).trans (K3.of s3)
   have put:∀ N:St->Hp->Prop,(∀ H4,But p H3 H4->MAt T H4 p stk kv [] { m with sg:=x.s.held }->FrAt T 11 x.c H4 x.a (gOf x.c x.s)->N [some (.ref p),some (.ref x.a)] H4)->sFld K (tVar 0) (tFld K (tVar 1) "held") "signal" { nx:=N,rt:=Q } [some (.ref p),some (.ref x.a)] H3:=λN hN=>by
    simp only [sFld]
    refine F3.fld (l:=.held) rfl rfl ?_
    refine M3.ob.re (l:=.signal) rfl (λz=>nomatch z) λH4 b4 O4=>?_
    rw [g_sg] at O4
    obtain ⟨dz,gz,z1,z2⟩:=F3.ex
    exact hN H4 b4 (M3.byP b4 O4 rfl rfl rfl) ⟨dz,gz,b4 _ _ npx z1,z2⟩
   refine .inr ⟨hh,_,SqT.of hv3,put _ λH4 b4 M4 F4=>⟨rfl,k3.trans (K3.but b4 hP3),F4,?_⟩⟩
   have em:{ m with sg:=x.s.held }=m:=by
    rw [hh,<- hsg]
   rw [em] at M4
   exact M4
  ·rintro σ' G ⟨rfl,kn,FG,MG⟩
   walk_at "sy"
   refine FG.fld (l:=.line) rfl rfl (FG.fld (l:=.scope) rfl rfl ⟨(by show (3:Nat)<=sizeLine;decide),λw hw=>?_⟩)
   have sw:=Same.upd (o:=.tup [V.str "left",.int x.s.line,x.s.sc]) hw
   exact A.k _ w (kn.trans (K3.of sw)) upd_same (MG.same sw)
theorem sc_Machine_begin_clean_up:FnScope ["self", "frame", "signal"] ["self", "frame", "signal"] (defScope (inClass (top 17) 18)):=⟨rfl,rfl,rfl,by decide +kernel,rfl,by decide +kernel,by decide +kernel⟩
theorem ok_Machine_begin_clean_up (T:Tx P w K mg) (G_clean:FnOk P w K mg base CX0 2 T.m_clean.f T.m_clean.fd ["self", "signal"] (spClean T)):FnOk P w K mg base CX0 3 T.m_Machine_begin_clean_up.f T.m_Machine_begin_clean_up.fd ["self", "frame", "signal"] (spBegClean T):=by
 refine T.m_Machine_begin_clean_up.F.ok sc_Machine_begin_clean_up (λvs H Q E h=>?_) (λcdv A outer s H vs Q E hr h=>?_)
 ·obtain ⟨p,v,x,s,rfl,_⟩:=h
  rfl
 ·obtain ⟨p,v,x,s,rfl,F,k⟩:=h
  refine ⟨_,(pss_cons (ps_expr (pe_meth (pv 1) (T.cl .cleaned) T.m_clean.me G_clean (hr.mono (by omega)) T.m_clean.b .nil pass0 (pa_cons (pv 2) pa_nil)))
  (pss_one (ps_ret (pe_tup (pa_cons pe_str (pa_cons (pe_fld (pv 1) rfl) pa_nil)))))),?_⟩
  walk_at "sy"
  refine F.mt nf_clean ⟨x,s,v,rfl,F,λH1 b1 F1=>F1.fr.fld (l:=.line) rfl rfl ⟨(by show (2:Nat)<=sizeLine;decide),λt ht=>k _ t (b1.trans (But.of (Same.upd ht))) (F1.same (Same.upd ht)) upd_same⟩⟩
theorem sc_Machine_end_with:FnScope ["self", "outcome"] ["self", "outcome"] (defScope (inClass (top 17) 19)):=⟨rfl,rfl,rfl,by decide +kernel,rfl,by decide +kernel,by decide +kernel⟩
theorem ok_Machine_end_with (T:Tx P w K mg):FnOk P w K mg base CX0 1 T.m_Machine_end_with.f T.m_Machine_end_with.fd ["self", "outcome"] (spEndWith T):=by
 refine T.m_Machine_end_with.F.ok sc_Machine_end_with (λvs H Q E h=>?_) (λcdv A outer s H vs Q E hr h=>?_)
 ·obtain ⟨p,m,q,rfl,_⟩:=h
  rfl
 ·obtain ⟨p,m,q,rfl,F,k⟩:=h
  refine ⟨_,(pss_cons (ps_fld (pv 0) (pe_lst pa_nil) rfl)
  (pss_cons (ps_fld (pv 0) (pv 1) rfl)
  (pss_one (ps_ret (pe_tup (pa_cons pe_str (pa_cons pe_int (pa_cons (pv 1) pa_nil)))))))),?_⟩
  walk_at "sy"
  refine ⟨by decide,λl hl=>?_⟩
  have s1:=Same.upd (o:=.lst []) hl
  refine (F.same s1).re (l:=.frames) rfl (λz=>nomatch z) λH1 b1 F1=>?_
  rw [g_fl] at F1
  refine ⟨_,rfl,F1.re (l:=.ending) rfl (λz=>nomatch z) λH2 b2 F2=>⟨_,rfl,(by show (3:Nat)<=sizeLine;decide),λt ht=>?_⟩⟩
  rw [g_en] at F2
  obtain ⟨_,_,hp1,_⟩:=(F.same s1).ex
  obtain ⟨_,_,hp2,_⟩:=F1.ex
  have hl2:=b1 l _ (ne_of (show (upd H l (.lst [])) l=some (.lst []) from upd_same) hp1 (λz=>nomatch z)) upd_same
  have hl3:=b2 l _ (ne_of hl2 hp2 (λz=>nomatch z)) hl2
  exact k _ t l ((But.of s1).trans (b1.trans (b2.trans (But.of (Same.upd ht))))) (F2.same (Same.upd ht)) ((Same.upd ht) _ _ hl3) upd_same
theorem sc_Machine_halt_at:FnScope ["self", "frame", "signal", "faults"] ["self", "frame", "signal"] (defScope (inClass (top 17) 21)):=⟨rfl,rfl,rfl,by decide +kernel,rfl,by decide +kernel,by decide +kernel⟩
theorem ok_Machine_halt_at (T:Tx P w K mg) (G_halt:FnOk P w K mg base CX0 2 T.m_halt.f T.m_halt.fd ["self", "signal"] (spHalt T)):FnOk P w K mg base CX0 3 T.m_Machine_halt_at.f T.m_Machine_halt_at.fd ["self", "frame", "signal"] (spHaltAt T):=by
 refine T.m_Machine_halt_at.F.ok sc_Machine_halt_at (λvs H Q E h=>?_) (λcdv A outer s H vs Q E hr h=>?_)
 ·obtain ⟨p,x,t,m,s,g,rfl,_⟩:=h
  rfl
 ·obtain ⟨p,x,t,m,s,g,rfl,O,px,F,ht,k⟩:=h
  have hu:=hu100 hr
  refine ⟨_,(pss_cons (ps_expr (pe_meth (pv 1) (T.cl .grouped) T.m_halt.me G_halt (hr.mono (by omega)) T.m_halt.b .nil pass0 (pa_cons (pv 2) pa_nil)))
  (pss_cons (ps_set (i:=3) sc_Machine_halt_at.nd rfl (Or.inl rfl) (pe_ifExp (pt_cmpR op_eq (pe_ix ix_tup (pv 2) pe_int (λ_ _=>rfl)) pe_str (nomark _)) (pe_ix ix_tup (pv 2) pe_int (λ_ _=>rfl)) (pe_tup pa_nil)))
  (pss_cons (ps_fld (pv 0) (pe_tup (pa_cons pe_str (pa_cons (pe_fld (pv 1) rfl) (pa_cons (pe_fld (pv 1) rfl) (pa_cons (pv 3) pa_nil))))) rfl)
  (pss_one (ps_ret (pe_fld (pv 0) rfl)))))),?_⟩
  walk_at "sy"
  refine F.mt nf_halt ⟨x,t,s,g,rfl,F,ht,λH1 a kp F1=>?_⟩
  obtain ⟨dx,fs,hp,hF⟩:=O.ex
  have O1:ObAt T 9 H1 p m.g:=⟨dx,fs,kp _ _ px hp,hF⟩
  obtain ⟨_,_,hx,_⟩:=F.fr.ex
  have tk1:KT H H1:=λc o h=>kp _ _ (ne_of h hx (λz=>nomatch z)) h
  have ht1:=ht.kt tk1
  cases g with
  |strike n =>
   refine ⟨t,_,_,.str "strike",rfl,rfl,SqT.of ht1,atI_nat (j:=0) rfl,rfl,ifF (λz=>absurd (V.str.inj z) (by decide +kernel)) ⟨by decide,λu hu'=>?_⟩⟩
   have s2:=Same.upd (o:=.tup []) hu'
   have F2:=F1.same s2
   have O2:=O1.same s2
   simp only [sFld,tTup,tCons,tNil,tC]
   refine F2.fr.fld (l:=.line) rfl rfl (F2.fr.fld (l:=.scope) rfl rfl ⟨_,rfl,(by show (4:Nat)<=sizeLine;decide),λw0 hw=>?_⟩)
   have s3:=Same.upd (o:=.tup [V.str "halt",.int s.line,s.sc,.ref u]) hw
   refine (O2.same s3).re (l:=.want) rfl (λz=>nomatch z) λH4 b4 O4=>?_
   rw [g_wt] at O4
   obtain ⟨_,_,hp3,_⟩:=(O2.same s3).ex
   refine O4.fld (l:=.want) rfl rfl (k H4 w0 u a (λc o n1 n2 h=>b4 c o n1 (s3 _ _ (s2 _ _ (kp c o n2 h)))) (b4.tup hp3 upd_same) (b4.tup hp3 (s3 _ _ upd_same)) ?_ O4)
   have F3:=F2.same s3
   exact F3.off b4 (Ne.symm px) hp3
  |faults z r =>
   obtain ⟨u,h1,h2⟩:=ht1
   refine ⟨t,_,_,.str "faults",rfl,rfl,SqT.of h1,atI_nat (j:=0) rfl,rfl,ifT rfl ⟨t,_,_,.ref u,rfl,rfl,SqT.of h1,atI_nat (j:=1) rfl,?_⟩⟩
   simp only [sFld,tTup,tCons,tNil,tC]
   refine F1.fr.fld (l:=.line) rfl rfl (F1.fr.fld (l:=.scope) rfl rfl ⟨_,rfl,(by show (4:Nat)<=sizeLine;decide),λw0 hw=>?_⟩)
   have s3:=Same.upd (o:=.tup [V.str "halt",.int s.line,s.sc,.ref u]) hw
   refine (O1.same s3).re (l:=.want) rfl (λz=>nomatch z) λH4 b4 O4=>?_
   rw [g_wt] at O4
   obtain ⟨_,_,hp3,_⟩:=(O1.same s3).ex
   refine O4.fld (l:=.want) rfl rfl (k H4 w0 u a (λc o n1 n2 h=>b4 c o n1 (s3 _ _ (kp c o n2 h))) (b4.tup hp3 upd_same) (b4.tup hp3 (s3 _ _ h2)) ?_ O4)
   have F3:=F1.same s3
   exact F3.off b4 (Ne.symm px) hp3
theorem sc_Machine_value_of:FnScope ["self", "value"] ["self", "value"] (defScope (inClass (top 17) 22)):=⟨rfl,rfl,rfl,by decide +kernel,rfl,by decide +kernel,by decide +kernel⟩
theorem ok_Machine_value_of (T:Tx P w K mg)
  (G_is_name_of_value:FnOk P w K mg base CX0 1 T.d_is_name_of_value.f T.d_is_name_of_value.fd ["value"] (spIsName)):FnOk P w K mg base CX0 2 T.m_Machine_value_of.f T.m_Machine_value_of.fd ["self", "value"] (spValueOf T):=by
 refine T.m_Machine_value_of.F.ok sc_Machine_value_of (λvs H Q E h=>?_) (λcdv A outer s H vs Q E hr h=>?_)
 ·obtain ⟨p,m,v,kv,rfl,_⟩:=h
  rfl
 ·obtain ⟨p,m,v,kv,rfl,F,hn,hkv,hv,k⟩:=h
  have hu1:=hu_of hr
  refine ⟨_,(pss_one (ps_ret (pe_ifExp (pt_val (pe_call G_is_name_of_value (hr.mono (by omega)) rfl T.d_is_name_of_value.hm T.d_is_name_of_value.F.kp T.d_is_name_of_value.b .nil pass0 (pa_cons (pv 1) pa_nil))) (pe_dget2 hu1 (pe_fld (pv 0) rfl) (pv 1) pe_int ⟨rfl,rfl,rfl,rfl⟩) (pv 1)))),?_⟩
  walk_at "sy"
  refine ⟨_,rfl,hv,λb hb=>⟨_,rfl,?_⟩⟩
  cases b with
  |false=>exact bF rfl (k v hv)
  |true =>
   obtain ⟨z,rfl⟩:=hb rfl
   refine bT rfl (F.fld (l:=.values) rfl rfl ⟨_,rfl,.inl ⟨_,Rd.of hn⟩,_,rfl,_,DGet.k (k:=Sum.inr z) hn,k _ (val_getD hkv _)⟩)
theorem sc_Machine_group_scope:FnScope ["self", "name", "frame"] ["self", "name"] (defScope (inClass (top 17) 23)):=⟨rfl,rfl,rfl,by decide +kernel,rfl,by decide +kernel,by decide +kernel⟩
theorem ok_Machine_group_scope (T:Tx P w K mg):FnOk P w K mg base CX0 1 T.m_Machine_group_scope.f T.m_Machine_group_scope.fd ["self", "name"] (spGroupS T):=by
 refine T.m_Machine_group_scope.F.ok sc_Machine_group_scope (λvs H Q E h=>?_) (λcdv A outer s H vs Q E hr h=>?_)
 ·obtain ⟨p,z,S,N,stk,kv,m,rfl,_⟩:=h
  rfl
 ·obtain ⟨p,z,S,N,stk,kv,m,rfl,G,k⟩:=h
  have hu:=hu100 hr
  have M:=G.at_
  refine ⟨_,(pss_cons (ps_for PassesOwn.never rfl (pi_rev rfl T.n_reversed (pa_cons (pe_fld (pv 0) rfl) pa_nil)) (pg_name (i:=2) sc_Machine_group_scope.nd rfl (Or.inl rfl))
  (pss_one (ps_if (pt_cmpR op_eq (pe_fld (pv 2) rfl) (pv 1) (nomark _))
  (pss_one (ps_ret (pe_fld (pv 2) rfl)))
  pss_nil)))
  (pss_one (ps_ret pe_non))),?_⟩
  walk_at "sy"
  refine M.ob.fld (l:=.frames) rfl rfl ⟨_,_,rfl,SqL.of M.fl,?_⟩
  refine for_rev (K:=K) (a:=m.fl) (xs:=stk.map λx=>V.ref x.a) (λi σ G=>∃ (v2:Option V),σ=[some (.ref p),some (.str z),v2]/\G=H) ⟨none,rfl,rfl⟩ (λi σ G _ ⟨_,_,e⟩=>by rw [e];exact SqL.of M.fl) ?_ ?_
  ·rintro i y σ G' hx hi ⟨v2,rfl,rfl⟩
   rw [List.length_map] at hx hi
   rw [List.getElem?_map] at hx
   cases eb:stk[stk.length-1-i]? with
   |none=>rw [eb] at hx;cases hx
   |some x =>
    rw [eb] at hx
    cases hx
    have hm:x∈stk:=List.mem_of_getElem? eb
    walk_at "sy"
    refine (M.fr x hm).fr.fld (l:=.named) rfl rfl ?_
    have sc:scal x.s.named (.str z)=true:=by
     rcases (G.fr x hm).named with e | ⟨y,e⟩<;>rw [e]<;>rfl
    by_cases c:x.s.named=.str z
    ·exact ⟨sc,ifT c ((M.fr x hm).fr.fld (l:=.scope) rfl rfl (k _ (M.sc x hm)))⟩
    ·exact ⟨sc,ifF c rfl⟩
  ·rintro σ G' ⟨v2,rfl,rfl⟩
   exact k _ (.inl rfl)
theorem sc_Machine_enter_scope:FnScope ["self", "row", "scope"] ["self", "row"] (defScope (inClass (top 17) 25)):=⟨rfl,rfl,rfl,by decide +kernel,rfl,by decide +kernel,by decide +kernel⟩
theorem ok_Machine_enter_scope (T:Tx P w K mg) (G_i_frame:FnOk P w K mg base CX0 1 T.i_frame.f T.i_frame.fd ["self", "rows", "line", "scope"] (spFInit T)) (G_i_rounds:FnOk P w K mg base CX0 2 T.i_rounds.f T.i_rounds.fd ["self", "rows", "line", "many"] (spI T .rounds)) (G_i_kept:FnOk P w K mg base CX0 1 T.i_kept.f T.i_kept.fd ["self", "rows", "line", "scope"] (spFInit T)) (G_i_tried:FnOk P w K mg base CX0 2 T.i_tried.f T.i_tried.fd ["self", "rows", "line", "fault", "others"] (spI T .tried)) (G_i_cleaned:FnOk P w K mg base CX0 2 T.i_cleaned.f T.i_cleaned.fd ["self", "rows", "line", "others"] (spI T .cleaned)) (G_i_limited:FnOk P w K mg base CX0 2 T.i_limited.f T.i_limited.fd ["self", "rows", "line", "scope", "others"] (spI T .limited)) (G_i_grouped:FnOk P w K mg base CX0 2 T.i_grouped.f T.i_grouped.fd ["self", "rows", "line", "scope", "named"] (spI T .grouped)):FnOk P w K mg base CX0 4 T.m_Machine_enter_scope.f T.m_Machine_enter_scope.fd ["self", "row"] (spEnter T):=by
 refine T.m_Machine_enter_scope.F.ok sc_Machine_enter_scope (λvs H Q E h=>?_) (λcdv A outer s H vs Q E hr h=>?_)
 ·obtain ⟨p,q,stk,kv,mk,m,rfl,_⟩:=h
  rfl
 ·obtain ⟨p,q,stk,kv,mk,m,rfl,M,hl,hk⟩:=h
  have hu:=hu100 hr
  refine ⟨_,(pss_cons (ps_fld (pv 0) (pe_op op_add (pe_fld (pv 0) rfl) pe_int) rfl)
  (pss_cons (ps_set (i:=2) sc_Machine_enter_scope.nd rfl (Or.inl rfl) (pe_fld (pv 0) rfl))
  (pss_cons (ps_if (pt_cmpR op_eq (pe_ix ix_tup (pv 1) pe_int (λ_ _=>rfl)) pe_str (nomark _))
  (pss_cons (ps_expr (pe_bm PySem.F.plainAttrs_list PySem.F.slot_list_append PySem.F.type_list_append mt_append (pe_fld (pv 0) rfl) (pa_cons (pe_make T.M_grouped G_i_grouped (hr.mono (by omega)) rfl T.h_grouped T.i_grouped.b .nil pass0 (pa_cons (pe_ix ix_tup (pv 1) pe_int (λ_ _=>rfl)) (pa_cons (pe_ix ix_tup (pv 1) pe_int (λ_ _=>rfl)) (pa_cons (pv 2) (pa_cons (pe_ix ix_tup (pv 1) pe_int (λ_ _=>rfl)) pa_nil))))) pa_nil)))
  (pss_one (ps_ret (pe_tup (pa_cons pe_str (pa_cons (pe_ix ix_tup (pv 1) pe_int (λ_ _=>rfl)) (pa_cons (pv 2) pa_nil)))))))
  pss_nil)
  (pss_cons (ps_expr (pe_bm PySem.F.plainAttrs_list PySem.F.slot_list_append PySem.F.type_list_append mt_append (pe_fld (pv 0) rfl) (pa_cons (pe_make T.M_limited G_i_limited (hr.mono (by omega)) rfl T.h_limited T.i_limited.b .nil pass0 (pa_cons (pe_ix ix_tup (pv 1) pe_int (λ_ _=>rfl)) (pa_cons (pe_ix ix_tup (pv 1) pe_int (λ_ _=>rfl)) (pa_cons (pv 2) (pa_cons (pe_ix ix_tup (pv 1) pe_int (λ_ _=>rfl)) pa_nil))))) pa_nil)))
  (pss_one (ps_ret (pe_tup (pa_cons pe_str (pa_cons (pe_ix ix_tup (pv 1) pe_int (λ_ _=>rfl)) (pa_cons (pv 2) (pa_cons (pe_ix ix_tup (pv 1) pe_int (λ_ _=>rfl)) pa_nil))))))))))),?_⟩
  walk_at "sy"
  simp only [sFld,tOp,tC]
  refine M.ob.fld (l:=.lastS) rfl rfl ⟨_,_,rfl,rfl,M.ob.re (l:=.lastS) rfl (λz=>nomatch z) λH1 b1 F1=>?_⟩
  rw [g_ls] at F1
  have M1:=M.byP b1 F1 rfl rfl rfl
  obtain ⟨_,_,hp,_⟩:=M.ob.ex
  have tk:∀ {c xs},H c=some (.tup xs)->H1 c=some (.tup xs):=λ{c xs} h=>b1 _ _ (ne_of h hp (λz=>nomatch z)) h
  walk_at "sy"
  refine M1.ob.fld (l:=.lastS) rfl rfl ?_
  rcases hk with ⟨ln,nm,ra,rows,hq,hr0,hlr,k⟩ | ⟨ln,n,ra,oa,rows,others,hq,hr0,ho0,hlr,hlo,k⟩
  ·have hq1:=tk hq
   have hr1:=tk hr0
   refine ⟨q,_,_,.str "group",rfl,rfl,SqT.of hq1,atI_nat (j:=0) rfl,rfl,ifT rfl (M1.ob.fld (l:=.frames) rfl rfl ⟨.inl ⟨_,SqL.of M1.fl⟩,q,_,_,.ref ra,rfl,rfl,SqT.of hq1,atI_nat (j:=3) rfl,q,_,_,.int ln,rfl,rfl,SqT.of hq1,atI_nat (j:=1) rfl,q,_,_,.str nm,rfl,rfl,SqT.of hq1,atI_nat (j:=2) rfl,λx dx nx ndx nex=>?_⟩)⟩
   obtain ⟨F0,s0⟩:=mk_new (T:=T) (c:=.grouped) nx ndx nex
   refine ⟨x,grpS ln ra rows (m.ls+1) (.str nm),rfl,⟨rfl,rfl,(λz=>absurd rfl z),(λz=>by rcases z with z | z | z<;>cases z),(λz=>by cases z),λ_=>rfl⟩,F0,s0 _ _ hr1,s0 _ _ hr1,hlr,hlr,λH2 b2 F2=>⟨rfl,?_⟩⟩
   have s2:=same_new nx s0 b2
   refine ⟨m.fl,_,_,rfl,rfl,s2 _ _ M1.fl,by rw [List.length_map];exact small1000 (by omega),?_⟩
   have M3:=M1.push (x:=⟨x,.grouped,grpS ln ra rows (m.ls+1) (.str nm)⟩) s2 nx F2 (.inr ⟨_,rfl⟩)
   have e:(stk++[(⟨x,.grouped,grpS ln ra rows (m.ls+1) (.str nm)⟩:Fm)]).map (λx=>V.ref x.a)=stk.map (λx=>V.ref x.a)++[V.ref x]:=by simp
   rw [e] at M3
   have hq3:(upd H2 m.fl (.lst (stk.map (λx=>V.ref x.a)++[V.ref x]))) q=some (.tup [.str "group",.int ln,.str nm,.ref ra]):=by rw [upd_ne (ne_of (s2 _ _ hq1) (s2 _ _ M1.fl) (λz=>nomatch z))];exact s2 _ _ hq1
   have kp:∀ c o,c≠p->c≠m.fl->H c=some o->(upd H2 m.fl (.lst (stk.map (λx=>V.ref x.a)++[V.ref x]))) c=some o:=λc o n1 n2 h=>by rw [upd_ne n2];exact s2 _ _ (b1 c o n1 h)
   have hx:H x=none:=by
    cases ex:H x with
    |none=>rfl
    |some o =>
     obtain ⟨_,_,hp1,_⟩:=M1.ob.ex
     have:=b1 x o (λz=>by rw [z,hp1] at nx;cases nx) ex
     rw [nx] at this;cases this
   exact ⟨q,_,_,.int ln,rfl,rfl,SqT.of hq3,atI_nat (j:=1) rfl,(by show (3:Nat)<=sizeLine;decide),λt ht=>k x t _ (λc o n1 n2 h=>(Same.upd ht) _ _ (kp c o n1 n2 h)) hx upd_same (M3.same (Same.upd ht))⟩
  ·have hq1:=tk hq
   have hr1:=tk hr0
   have ho1:=tk ho0
   refine ⟨q,_,_,.str "limit",rfl,rfl,SqT.of hq1,atI_nat (j:=0) rfl,rfl,ifF (λz=>absurd (V.str.inj z) (by decide +kernel)) (M1.ob.fld (l:=.frames) rfl rfl ⟨.inl ⟨_,SqL.of M1.fl⟩,q,_,_,.ref ra,rfl,rfl,SqT.of hq1,atI_nat (j:=3) rfl,q,_,_,.int ln,rfl,rfl,SqT.of hq1,atI_nat (j:=1) rfl,q,_,_,.ref oa,rfl,rfl,SqT.of hq1,atI_nat (j:=4) rfl,λx dx nx ndx nex=>?_⟩)⟩
   obtain ⟨F0,s0⟩:=mk_new (T:=T) (c:=.limited) nx ndx nex
   refine ⟨x,limS ln ra rows oa others (m.ls+1),rfl,⟨rfl,rfl,(λ_=>rfl),(λz=>by rcases z with z | z | z<;>cases z),(λz=>by cases z),(λz=>by cases z)⟩,F0,s0 _ _ hr1,s0 _ _ ho1,hlr,hlo,λH2 b2 F2=>⟨rfl,?_⟩⟩
   have s2:=same_new nx s0 b2
   refine ⟨m.fl,_,_,rfl,rfl,s2 _ _ M1.fl,by rw [List.length_map];exact small1000 (by omega),?_⟩
   have M3:=M1.push (x:=⟨x,.limited,limS ln ra rows oa others (m.ls+1)⟩) s2 nx F2 (.inr ⟨_,rfl⟩)
   have e:(stk++[(⟨x,.limited,limS ln ra rows oa others (m.ls+1)⟩:Fm)]).map (λx=>V.ref x.a)=stk.map (λx=>V.ref x.a)++[V.ref x]:=by simp
   rw [e] at M3
   have hq3:(upd H2 m.fl (.lst (stk.map (λx=>V.ref x.a)++[V.ref x]))) q=some (.tup [.str "limit",.int ln,.int n,.ref ra,.ref oa]):=by rw [upd_ne (ne_of (s2 _ _ hq1) (s2 _ _ M1.fl) (λz=>nomatch z))];exact s2 _ _ hq1
   have kp:∀ c o,c≠p->c≠m.fl->H c=some o->(upd H2 m.fl (.lst (stk.map (λx=>V.ref x.a)++[V.ref x]))) c=some o:=λc o n1 n2 h=>by rw [upd_ne n2];exact s2 _ _ (b1 c o n1 h)
   have hx:H x=none:=by
    cases ex:H x with
    |none=>rfl
    |some o =>
     obtain ⟨_,_,hp1,_⟩:=M1.ob.ex
     have:=b1 x o (λz=>by rw [z,hp1] at nx;cases nx) ex
     rw [nx] at this;cases this
   exact ⟨q,_,_,.int ln,rfl,rfl,SqT.of hq3,atI_nat (j:=1) rfl,q,_,_,.int n,rfl,rfl,SqT.of hq3,atI_nat (j:=2) rfl,(by show (4:Nat)<=sizeLine;decide),λt ht=>k x t _ (λc o n1 n2 h=>(Same.upd ht) _ _ (kp c o n1 n2 h)) hx upd_same (M3.same (Same.upd ht))⟩
theorem sc_Machine_do_quietly:FnScope ["self", "row"] ["self", "row"] (defScope (inClass (top 17) 26)):=⟨rfl,rfl,rfl,by decide +kernel,rfl,by decide +kernel,by decide +kernel⟩
theorem ok_Machine_do_quietly (T:Tx P w K mg) (G_i_frame:FnOk P w K mg base CX0 1 T.i_frame.f T.i_frame.fd ["self", "rows", "line", "scope"] (spFInit T)) (G_i_rounds:FnOk P w K mg base CX0 2 T.i_rounds.f T.i_rounds.fd ["self", "rows", "line", "many"] (spI T .rounds)) (G_i_kept:FnOk P w K mg base CX0 1 T.i_kept.f T.i_kept.fd ["self", "rows", "line", "scope"] (spFInit T)) (G_i_tried:FnOk P w K mg base CX0 2 T.i_tried.f T.i_tried.fd ["self", "rows", "line", "fault", "others"] (spI T .tried)) (G_i_cleaned:FnOk P w K mg base CX0 2 T.i_cleaned.f T.i_cleaned.fd ["self", "rows", "line", "others"] (spI T .cleaned)) (G_i_limited:FnOk P w K mg base CX0 2 T.i_limited.f T.i_limited.fd ["self", "rows", "line", "scope", "others"] (spI T .limited)) (G_i_grouped:FnOk P w K mg base CX0 2 T.i_grouped.f T.i_grouped.fd ["self", "rows", "line", "scope", "named"] (spI T .grouped))
  (G_Machine_value_of:FnOk P w K mg base CX0 2 T.m_Machine_value_of.f T.m_Machine_value_of.fd ["self", "value"] (spValueOf T)):FnOk P w K mg base CX0 4 T.m_Machine_do_quietly.f T.m_Machine_do_quietly.fd ["self", "row"] (spQuiet T):=by
 refine T.m_Machine_do_quietly.F.ok sc_Machine_do_quietly (λvs H Q E h=>?_) (λcdv A outer s H vs Q E hr h=>?_)
 ·obtain ⟨p,q,S,N,stk,kv,m,z,r,mm,rfl,_⟩:=h
  rfl
 ·obtain ⟨p,q,S,N,stk,kv,m,z,r,mm,rfl,G,hN,hq,sp,hS,hz,k⟩:=h
  have hu:=hu100 hr
  have hu1:=hu_of hr
  refine ⟨_,(pss_one (ps_if (pt_cmpR op_eq (pe_ix ix_tup (pv 1) pe_int (λ_ _=>rfl)) pe_str (nomark _))
  (pss_one (ps_dput hu1 (pe_fld (pv 0) rfl) (pe_ix ix_tup (pv 1) pe_int (λ_ _=>rfl)) (pe_meth (pv 0) T.k_Machine T.m_Machine_value_of.me G_Machine_value_of (hr.mono (by omega)) T.m_Machine_value_of.b .nil pass0 (pa_cons (pe_ix ix_tup (pv 1) pe_int (λ_ _=>rfl)) pa_nil)) rfl))
  (pss_one (ps_if (pt_cmpR op_eq (pe_ix ix_tup (pv 1) pe_int (λ_ _=>rfl)) pe_str (nomark _))
  (pss_one (ps_fld (pv 0) (pe_meth (pv 0) T.k_Machine T.m_Machine_value_of.me G_Machine_value_of (hr.mono (by omega)) T.m_Machine_value_of.b .nil pass0 (pa_cons (pe_ix ix_tup (pv 1) pe_int (λ_ _=>rfl)) pa_nil)) rfl))
  (pss_one (ps_if (pt_cmpR op_eq (pe_ix ix_tup (pv 1) pe_int (λ_ _=>rfl)) pe_str (nomark _))
  (pss_one (ps_if (pt_cmpR (op_eqM hu) (pe_meth (pv 0) T.k_Machine T.m_Machine_value_of.me G_Machine_value_of (hr.mono (by omega)) T.m_Machine_value_of.b .nil pass0 (pa_cons (pe_ix ix_tup (pv 1) pe_int (λ_ _=>rfl)) pa_nil)) (pe_meth (pv 0) T.k_Machine T.m_Machine_value_of.me G_Machine_value_of (hr.mono (by omega)) T.m_Machine_value_of.b .nil pass0 (pa_cons (pe_ix ix_tup (pv 1) pe_int (λ_ _=>rfl)) pa_nil)) (nomark _))
  (pss_one (ps_expr (pe_bm PySem.F.plainAttrs_list PySem.F.slot_list_append PySem.F.type_list_append mt_append (pe_fld (pv 0) rfl) (pa_cons (pe_make T.M_frame G_i_frame (hr.mono (by omega)) rfl T.h_frame T.i_frame.b1 (show Vals [V.non] [Value.none] from .cons rfl .nil) pass0 (pa_cons (pe_ix ix_tup (pv 1) pe_int (λ_ _=>rfl)) (pa_cons (pe_ix ix_tup (pv 1) pe_int (λ_ _=>rfl)) pa_nil))) pa_nil))))
  pss_nil))
  (pss_one (ps_if (pt_cmpR op_eq (pe_ix ix_tup (pv 1) pe_int (λ_ _=>rfl)) pe_str (nomark _))
  (pss_one (ps_expr (pe_bm PySem.F.plainAttrs_list PySem.F.slot_list_append PySem.F.type_list_append mt_append (pe_fld (pv 0) rfl) (pa_cons (pe_make T.M_rounds G_i_rounds (hr.mono (by omega)) rfl T.h_rounds T.i_rounds.b .nil pass0 (pa_cons (pe_ix ix_tup (pv 1) pe_int (λ_ _=>rfl)) (pa_cons (pe_ix ix_tup (pv 1) pe_int (λ_ _=>rfl)) (pa_cons (pe_ix ix_tup (pv 1) pe_int (λ_ _=>rfl)) pa_nil)))) pa_nil))))
  (pss_one (ps_if (pt_cmpR op_eq (pe_ix ix_tup (pv 1) pe_int (λ_ _=>rfl)) pe_str (nomark _))
  (pss_one (ps_expr (pe_bm PySem.F.plainAttrs_list PySem.F.slot_list_append PySem.F.type_list_append mt_append (pe_fld (pv 0) rfl) (pa_cons (pe_make T.M_kept G_i_kept (hr.mono (by omega)) rfl T.h_kept T.i_kept.b1 (show Vals [V.non] [Value.none] from .cons rfl .nil) pass0 (pa_cons (pe_ix ix_tup (pv 1) pe_int (λ_ _=>rfl)) (pa_cons (pe_ix ix_tup (pv 1) pe_int (λ_ _=>rfl)) pa_nil))) pa_nil))))
  (pss_one (ps_if (pt_cmpR op_eq (pe_ix ix_tup (pv 1) pe_int (λ_ _=>rfl)) pe_str (nomark _))
  (pss_one (ps_expr (pe_bm PySem.F.plainAttrs_list PySem.F.slot_list_append PySem.F.type_list_append mt_append (pe_fld (pv 0) rfl) (pa_cons (pe_make T.M_tried G_i_tried (hr.mono (by omega)) rfl T.h_tried T.i_tried.b .nil pass0 (pa_cons (pe_ix ix_tup (pv 1) pe_int (λ_ _=>rfl)) (pa_cons (pe_ix ix_tup (pv 1) pe_int (λ_ _=>rfl)) (pa_cons (pe_ix ix_tup (pv 1) pe_int (λ_ _=>rfl)) (pa_cons (pe_ix ix_tup (pv 1) pe_int (λ_ _=>rfl)) pa_nil))))) pa_nil))))
  (pss_one (ps_expr (pe_bm PySem.F.plainAttrs_list PySem.F.slot_list_append PySem.F.type_list_append mt_append (pe_fld (pv 0) rfl) (pa_cons (pe_make T.M_cleaned G_i_cleaned (hr.mono (by omega)) rfl T.h_cleaned T.i_cleaned.b .nil pass0 (pa_cons (pe_ix ix_tup (pv 1) pe_int (λ_ _=>rfl)) (pa_cons (pe_ix ix_tup (pv 1) pe_int (λ_ _=>rfl)) (pa_cons (pe_ix ix_tup (pv 1) pe_int (λ_ _=>rfl)) pa_nil)))) pa_nil)))))))))))))))),?_⟩
  walk_at "sy"
  have M:=G.at_
  have hl:stk.length<=100:=Nat.le_trans G.ln (by omega)
  have ix:∀ {j:Nat} {v:V} {G:Hp} {R:VK},Same H G->(.str z::r:List V)[j]?=some v->R v G->rIxT K (.ref q) (.int (j:Nat)) G R:=λs' hv r'=>⟨q,_,_,_,rfl,rfl,SqT.of (s' _ _ hq),atI_nat hv,r'⟩
  have s0:=Same.refl H
  have lt:kv.length<sizeLine:=small1000 (by have:=G.kl;omega)
  obtain ⟨dx,fs,hp,_,_,h4⟩:=id M.ob.ex
  have look:=h4 "value_of" (noml (by decide +kernel))
  have fin:∀ {c:Kd} {s:Sf} {mr mo:List (List Pr)},All2 (RowM H 5) s.rows mr->All2 (RowM H 5) s.others mo->(∀ k∈mr.flatten,S k)->(∀ k∈mo.flatten,S k)->NewQ H s->c≠.limited->c≠.grouped->∀ (a:Addr) (H':Hp),(∀ c o,c≠m.fl->H c=some o->H' c=some o)->H a=none->MAt T H' p (stk++[⟨a,c,s⟩]) kv [] m->Q .non H':=λ{c s mr mo} h1 h2 k1 k2 Nw n1 n2 a H' kp _ M'=>by
   have k3:K3 m H H':=K3.fl kp
   have kt:=k3.kt M
   exact k H' _ _ k3 (G.push M' kt (GdF.new (rows_kt kt h1) (rows_kt kt h2) k1 k2 Nw.hd (λz=>(by rcases z with z | z;exact absurd z n1;exact absurd z n2)) Nw.tl (.inl Nw.nm)) (G.sg.kt kt) G.st)
  cases sp with
  |let_ ln y v hv =>
   exact ix (j:=0) s0 rfl ⟨rfl,ifT rfl ⟨_,rfl,p,dx,fs,rfl,hp,look,⟨_,rfl,q,_,_,v,rfl,rfl,SqT.of hq,atI_nat (j:=3) rfl,p,m,v,kv,rfl,M.ob,M.nv,G.kv,hv,λu hu'=>M.ob.fld (l:=.values) rfl rfl ⟨_,rfl,q,_,_,.str y,rfl,rfl,SqT.of hq,atI_nat (j:=2) rfl,_,_,rfl,DPut.k (k:=Sum.inr y) M.nv lt,k _ _ _ K3.nv (G.byN hu')⟩⟩⟩⟩
  |when ln y v a mm hv ha =>
   obtain ⟨vs,ms,hvs,hvl,hA,em⟩:=ha.get (by decide)
   subst em
   have Nw:=blk_new (H:=H) (ln:=ln) (left:=0) (fault:="") hvs hvs hvl hvl
   refine ix (j:=0) s0 rfl ⟨rfl,ifF (λz=>absurd (V.str.inj z) (by decide +kernel)) (ix (j:=0) s0 rfl ⟨rfl,ifF (λz=>absurd (V.str.inj z) (by decide +kernel)) (ix (j:=0) s0 rfl ⟨rfl,ifT rfl ⟨dx,fs,hp,look,ix (j:=2) s0 rfl ⟨p,m,_,kv,rfl,M.ob,M.nv,G.kv,.inr ⟨y,rfl⟩,λu1 hu1'=>⟨dx,fs,hp,look,ix (j:=3) s0 rfl ⟨p,m,_,kv,rfl,M.ob,M.nv,G.kv,hv,λu2 hu2=>?_⟩⟩⟩⟩⟩)⟩)⟩
   refine .inl ⟨val_scal hu1' hu2,?_⟩
   by_cases c:u1=u2
   ·refine ifT c (M.ob.fld (l:=.frames) rfl rfl ⟨.inl ⟨_,SqL.of M.fl⟩,q,_,_,_,rfl,rfl,SqT.of hq,atI_nat (j:=4) rfl,q,_,_,_,rfl,rfl,SqT.of hq,atI_nat (j:=1) rfl,λx dx nx ndx nex=>?_⟩)
    obtain ⟨F0,s0⟩:=mk_new (T:=T) (c:=.frame) nx ndx nex
    refine ⟨.frame,x,a,vs,.int ln,.non,rfl,F0,s0 _ _ hvs,λH2 b2 F2=>⟨rfl,?_⟩⟩
    have s2:=same_new nx s0 b2
    exact pushed M hl nx s2 (frm_of (.inl rfl) (blk_new (s2 _ _ hvs) (s2 _ _ hvs) hvl hvl) F2) (.inl rfl) (fin hA hA hS hS Nw (by decide) (by decide))
   ·exact ifF c (k H _ _ (K3.refl _ _) (G.up (Nat.le_succ _)))
  |repeat_ ln n a mm ha =>
   obtain ⟨vs,ms,hvs,hvl,hA,em⟩:=ha.get (by decide)
   subst em
   obtain ⟨n,rfl⟩:∃ l:Int,n=l+1:=⟨n-1,by omega⟩
   have Nw:=blk_new (H:=H) (ln:=ln) (left:=n) (fault:="") hvs hvs hvl hvl
   refine ix (j:=0) s0 rfl ⟨rfl,ifF (λz=>absurd (V.str.inj z) (by decide +kernel)) (ix (j:=0) s0 rfl ⟨rfl,ifF (λz=>absurd (V.str.inj z) (by decide +kernel)) (ix (j:=0) s0 rfl ⟨rfl,ifF (λz=>absurd (V.str.inj z) (by decide +kernel)) (ix (j:=0) s0 rfl ⟨rfl,ifT rfl (M.ob.fld (l:=.frames) rfl rfl ⟨.inl ⟨_,SqL.of M.fl⟩,q,_,_,_,rfl,rfl,SqT.of hq,atI_nat (j:=3) rfl,q,_,_,_,rfl,rfl,SqT.of hq,atI_nat (j:=1) rfl,q,_,_,_,rfl,rfl,SqT.of hq,atI_nat (j:=2) rfl,λx dx nx ndx nex=>?_⟩)⟩)⟩)⟩)⟩
   obtain ⟨F0,s0⟩:=mk_new (T:=T) (c:=.rounds) nx ndx nex
   refine ⟨x,blkS ln a vs a vs n "",rfl,⟨rfl,rfl,λ_=>rfl,λ_=>rfl,λ_=>rfl,λ_=>rfl⟩,F0,s0 _ _ hvs,s0 _ _ hvs,hvl,hvl,λH2 b2 F2=>⟨rfl,?_⟩⟩
   exact pushed M hl nx (same_new nx s0 b2) F2 (.inl rfl) (fin hA hA hS hS Nw (by decide) (by decide))
  |keep ln a mm ha =>
   obtain ⟨vs,ms,hvs,hvl,hA,em⟩:=ha.get (by decide)
   subst em
   have Nw:=blk_new (H:=H) (ln:=ln) (left:=0) (fault:="") hvs hvs hvl hvl
   refine ix (j:=0) s0 rfl ⟨rfl,ifF (λz=>absurd (V.str.inj z) (by decide +kernel)) (ix (j:=0) s0 rfl ⟨rfl,ifF (λz=>absurd (V.str.inj z) (by decide +kernel)) (ix (j:=0) s0 rfl ⟨rfl,ifF (λz=>absurd (V.str.inj z) (by decide +kernel)) (ix (j:=0) s0 rfl ⟨rfl,ifF (λz=>absurd (V.str.inj z) (by decide +kernel)) (ix (j:=0) s0 rfl ⟨rfl,ifT rfl (M.ob.fld (l:=.frames) rfl rfl ⟨.inl ⟨_,SqL.of M.fl⟩,q,_,_,_,rfl,rfl,SqT.of hq,atI_nat (j:=2) rfl,q,_,_,_,rfl,rfl,SqT.of hq,atI_nat (j:=1) rfl,λx dx nx ndx nex=>?_⟩)⟩)⟩)⟩)⟩)⟩
   obtain ⟨F0,s0⟩:=mk_new (T:=T) (c:=.kept) nx ndx nex
   refine ⟨.kept,x,a,vs,.int ln,.non,rfl,F0,s0 _ _ hvs,λH2 b2 F2=>⟨rfl,?_⟩⟩
   have s2:=same_new nx s0 b2
   exact pushed M hl nx s2 (frm_of (.inr rfl) (blk_new (s2 _ _ hvs) (s2 _ _ hvs) hvl hvl) F2) (.inl rfl) (fin hA hA hS hS Nw (by decide) (by decide))
  |try_ ln y a b ma mb ha hb =>
   obtain ⟨vs,ms,hvs,hvl,hA,em⟩:=ha.get (by decide)
   obtain ⟨us,ns,hus,hul,hB,en⟩:=hb.get (by decide)
   subst em en
   have Nw:=blk_new (H:=H) (ln:=ln) (left:=0) (fault:=y) hvs hus hvl hul
   refine ix (j:=0) s0 rfl ⟨rfl,ifF (λz=>absurd (V.str.inj z) (by decide +kernel)) (ix (j:=0) s0 rfl ⟨rfl,ifF (λz=>absurd (V.str.inj z) (by decide +kernel)) (ix (j:=0) s0 rfl ⟨rfl,ifF (λz=>absurd (V.str.inj z) (by decide +kernel)) (ix (j:=0) s0 rfl ⟨rfl,ifF (λz=>absurd (V.str.inj z) (by decide +kernel)) (ix (j:=0) s0 rfl ⟨rfl,ifF (λz=>absurd (V.str.inj z) (by decide +kernel)) (ix (j:=0) s0 rfl ⟨rfl,ifT rfl (M.ob.fld (l:=.frames) rfl rfl ⟨.inl ⟨_,SqL.of M.fl⟩,q,_,_,_,rfl,rfl,SqT.of hq,atI_nat (j:=2) rfl,q,_,_,_,rfl,rfl,SqT.of hq,atI_nat (j:=1) rfl,q,_,_,_,rfl,rfl,SqT.of hq,atI_nat (j:=3) rfl,q,_,_,_,rfl,rfl,SqT.of hq,atI_nat (j:=4) rfl,λx dx nx ndx nex=>?_⟩)⟩)⟩)⟩)⟩)⟩)⟩
   obtain ⟨F0,s0⟩:=mk_new (T:=T) (c:=.tried) nx ndx nex
   refine ⟨x,blkS ln a vs b us 0 y,rfl,⟨rfl,rfl,λ_=>rfl,λ_=>rfl,λ_=>rfl,λ_=>rfl⟩,F0,s0 _ _ hvs,s0 _ _ hus,hvl,hul,λH2 b2 F2=>⟨rfl,?_⟩⟩
   exact pushed M hl nx (same_new nx s0 b2) F2 (.inl rfl) (fin hA hB (λk hk=>hS k (List.mem_append_left _ hk)) (λk hk=>hS k (List.mem_append_right _ hk)) Nw (by decide) (by decide))
  |do_ ln a b ma mb ha hb =>
   obtain ⟨vs,ms,hvs,hvl,hA,em⟩:=ha.get (by decide)
   obtain ⟨us,ns,hus,hul,hB,en⟩:=hb.get (by decide)
   subst em en
   have Nw:=blk_new (H:=H) (ln:=ln) (left:=0) (fault:="") hvs hus hvl hul
   refine ix (j:=0) s0 rfl ⟨rfl,ifF (λz=>absurd (V.str.inj z) (by decide +kernel)) (ix (j:=0) s0 rfl ⟨rfl,ifF (λz=>absurd (V.str.inj z) (by decide +kernel)) (ix (j:=0) s0 rfl ⟨rfl,ifF (λz=>absurd (V.str.inj z) (by decide +kernel)) (ix (j:=0) s0 rfl ⟨rfl,ifF (λz=>absurd (V.str.inj z) (by decide +kernel)) (ix (j:=0) s0 rfl ⟨rfl,ifF (λz=>absurd (V.str.inj z) (by decide +kernel)) (ix (j:=0) s0 rfl ⟨rfl,ifF (λz=>absurd (V.str.inj z) (by decide +kernel)) (M.ob.fld (l:=.frames) rfl rfl ⟨.inl ⟨_,SqL.of M.fl⟩,q,_,_,_,rfl,rfl,SqT.of hq,atI_nat (j:=2) rfl,q,_,_,_,rfl,rfl,SqT.of hq,atI_nat (j:=1) rfl,q,_,_,_,rfl,rfl,SqT.of hq,atI_nat (j:=3) rfl,λx dx nx ndx nex=>?_⟩)⟩)⟩)⟩)⟩)⟩)⟩
   obtain ⟨F0,s0⟩:=mk_new (T:=T) (c:=.cleaned) nx ndx nex
   refine ⟨x,blkS ln a vs b us 0 "",rfl,⟨rfl,rfl,λ_=>rfl,λ_=>rfl,λ_=>rfl,λ_=>rfl⟩,F0,s0 _ _ hvs,s0 _ _ hus,hvl,hul,λH2 b2 F2=>⟨rfl,?_⟩⟩
   exact pushed M hl nx (same_new nx s0 b2) F2 (.inl rfl) (fin hA hB (λk hk=>hS k (List.mem_append_left _ hk)) (λk hk=>hS k (List.mem_append_right _ hk)) Nw (by decide) (by decide))
  |_=>exact absurd hz (by decide +kernel)
theorem sc_Machine_do_row:FnScope ["self", "row", "scope"] ["self", "row"] (defScope (inClass (top 17) 24)):=⟨rfl,rfl,rfl,by decide +kernel,rfl,by decide +kernel,by decide +kernel⟩
theorem ok_Machine_do_row (T:Tx P w K mg)
  (G_Machine_wait_at:FnOk P w K mg base CX0 3 T.m_Machine_wait_at.f T.m_Machine_wait_at.fd ["self", "want"] (spWaitAt T))
  (G_Machine_enter_scope:FnOk P w K mg base CX0 4 T.m_Machine_enter_scope.f T.m_Machine_enter_scope.fd ["self", "row"] (spEnter T))
  (G_Machine_value_of:FnOk P w K mg base CX0 2 T.m_Machine_value_of.f T.m_Machine_value_of.fd ["self", "value"] (spValueOf T))
  (G_Machine_group_scope:FnOk P w K mg base CX0 1 T.m_Machine_group_scope.f T.m_Machine_group_scope.fd ["self", "name"] (spGroupS T))
  (G_Machine_do_quietly:FnOk P w K mg base CX0 4 T.m_Machine_do_quietly.f T.m_Machine_do_quietly.fd ["self", "row"] (spQuiet T)):FnOk P w K mg base CX0 5 T.m_Machine_do_row.f T.m_Machine_do_row.fd ["self", "row"] (spDoRow T):=by
 refine T.m_Machine_do_row.F.ok sc_Machine_do_row (λvs H Q E h=>?_) (λcdv A outer s H vs Q E hr h=>?_)
 ·obtain ⟨p,q,S,N,stk,kv,m,mm,rfl,_⟩:=h
  rfl
 ·obtain ⟨p,q,S,N,stk,kv,m,mm,rfl,G,hN,hsg,hwt,⟨q',xs,e,hq,sp⟩,hS,k⟩:=h
  cases e
  have hu:=hu100 hr
  have hu1:=hu_of hr
  refine ⟨_,(pss_cons (ps_if (pt_cmpR op_in_seq (pe_ix ix_tup (pv 1) pe_int (λ_ _=>rfl)) (pe_glob (v:=.ref T.ww) rfl T.wwm rfl) (by with_unfolding_all rfl))
  (pss_one (ps_ret (pe_meth (pv 0) T.k_Machine T.m_Machine_wait_at.me G_Machine_wait_at (hr.mono (by omega)) T.m_Machine_wait_at.b .nil pass0 (pa_cons (pv 1) pa_nil))))
  pss_nil)
  (pss_cons (ps_if (pt_cmpR op_in_seq (pe_ix ix_tup (pv 1) pe_int (λ_ _=>rfl)) (pe_tup (pa_cons pe_str (pa_cons pe_str pa_nil))) (by with_unfolding_all rfl))
  (pss_one (ps_ret (pe_meth (pv 0) T.k_Machine T.m_Machine_enter_scope.me G_Machine_enter_scope (hr.mono (by omega)) T.m_Machine_enter_scope.b .nil pass0 (pa_cons (pv 1) pa_nil))))
  pss_nil)
  (pss_cons (ps_if (pt_cmpR op_eq (pe_ix ix_tup (pv 1) pe_int (λ_ _=>rfl)) pe_str (nomark _))
  (pss_one (ps_ret (pe_tup (pa_cons pe_str (pa_cons (pe_ix ix_tup (pv 1) pe_int (λ_ _=>rfl)) (pa_cons (pe_ix ix_tup (pv 1) pe_int (λ_ _=>rfl)) pa_nil))))))
  pss_nil)
  (pss_cons (ps_if (pt_cmpR op_eq (pe_ix ix_tup (pv 1) pe_int (λ_ _=>rfl)) pe_str (nomark _))
  (pss_one (ps_ret (pe_tup (pa_cons pe_str (pa_cons (pe_ix ix_tup (pv 1) pe_int (λ_ _=>rfl)) (pa_cons (pe_ix ix_tup (pv 1) pe_int (λ_ _=>rfl)) (pa_cons (pe_meth (pv 0) T.k_Machine T.m_Machine_value_of.me G_Machine_value_of (hr.mono (by omega)) T.m_Machine_value_of.b .nil pass0 (pa_cons (pe_ix ix_tup (pv 1) pe_int (λ_ _=>rfl)) pa_nil)) pa_nil)))))))
  pss_nil)
  (pss_cons (ps_if (pt_cmpR op_eq (pe_ix ix_tup (pv 1) pe_int (λ_ _=>rfl)) pe_str (nomark _))
  (pss_cons (ps_fld (pv 0) (pe_tup (pa_cons pe_str (pa_cons (pe_tup (pa_cons (pe_ix ix_tup (pv 1) pe_int (λ_ _=>rfl)) pa_nil)) pa_nil))) rfl)
  (pss_one (ps_ret (pe_tup (pa_cons pe_str (pa_cons (pe_ix ix_tup (pv 1) pe_int (λ_ _=>rfl)) (pa_cons (pe_ix ix_tup (pv 1) pe_int (λ_ _=>rfl)) pa_nil)))))))
  pss_nil)
  (pss_cons (ps_if (pt_cmpR op_eq (pe_ix ix_tup (pv 1) pe_int (λ_ _=>rfl)) pe_str (nomark _))
  (pss_one (ps_ret (pe_tup (pa_cons pe_str (pa_cons (pe_ix ix_tup (pv 1) pe_int (λ_ _=>rfl)) (pa_cons (pe_ix ix_tup (pv 1) pe_int (λ_ _=>rfl)) (pa_cons (pe_ix ix_tup (pv 1) pe_int (λ_ _=>rfl)) (pa_cons (pe_meth (pv 0) T.k_Machine T.m_Machine_group_scope.me G_Machine_group_scope (hr.mono (by omega)) T.m_Machine_group_scope.b .nil pass0 (pa_cons (pe_ix ix_tup (pv 1) pe_int (λ_ _=>rfl)) pa_nil)) (pa_cons (pe_ix ix_tup (pv 1) pe_int (λ_ _=>rfl)) pa_nil)))))))))
  pss_nil)
  (pss_cons (ps_if (pt_cmpR op_eq (pe_ix ix_tup (pv 1) pe_int (λ_ _=>rfl)) pe_str (nomark _))
  (pss_cons (ps_set (i:=2) sc_Machine_do_row.nd rfl (Or.inl rfl) (pe_meth (pv 0) T.k_Machine T.m_Machine_group_scope.me G_Machine_group_scope (hr.mono (by omega)) T.m_Machine_group_scope.b .nil pass0 (pa_cons (pe_ix ix_tup (pv 1) pe_int (λ_ _=>rfl)) pa_nil)))
  (pss_one (ps_ret (pe_tup (pa_cons pe_str (pa_cons (pe_ix ix_tup (pv 1) pe_int (λ_ _=>rfl)) (pa_cons (pe_ifExp (pt_cmpR op_isN (pv 2) pe_non (nomark _)) (pe_ix ix_tup (pv 1) pe_int (λ_ _=>rfl)) (pv 2)) pa_nil)))))))
  pss_nil)
  (pss_cons (ps_expr (pe_meth (pv 0) T.k_Machine T.m_Machine_do_quietly.me G_Machine_do_quietly (hr.mono (by omega)) T.m_Machine_do_quietly.b .nil pass0 (pa_cons (pv 1) pa_nil)))
  (pss_one (ps_ret (pe_tup (pa_cons pe_str (pa_cons (pe_ix ix_tup (pv 1) pe_int (λ_ _=>rfl)) pa_nil))))))))))))),?_⟩
  walk_at "sy"
  have M:=G.at_
  have hl:stk.length<=100:=Nat.le_trans G.ln (by omega)
  have ix:∀ {j:Nat} {v:V} {G:Hp} {R:VK},Same H G->xs[j]?=some v->R v G->rIxT K (.ref q) (.int (j:Nat)) G R:=λs' hv r'=>⟨q,_,_,_,rfl,rfl,SqT.of (s' _ _ hq),atI_nat hv,r'⟩
  have s0:=Same.refl H
  have spq:∀ H1,Same H H1->Shp (RowsM H1 5) xs mm:=λH1 s1=>sp.imp λ_ _ h=>h.kt (.of s1)
  have fin:∀ {H':Hp} {t:Addr} {z:Str} {r:List V},Same H H'->H' t=some (.tup (.str z::r))->z≠"ended"->z≠"join"->z≠"halt"->Q (.ref t) H':=λs' ht h0 h1 h2=>k _ _ (λz=>nomatch z) (Res.plain ht (K3.of s') ((G.same s').up (Nat.le_succ _)) rfl rfl rfl hwt h0 h1 h2)
  have wai:∀ {z:Str} {r:List V},xs=.str z::r->z≠"ended"->z≠"join"->z≠"halt"->Wt z r->spWaitAt T [V.ref p,V.ref q] H Q E0:=λ{z r} ex h0 h1 h2 hw=>by
   refine ⟨p,stk,kv,[],m,q,rfl,M,λ_ H' b M'=>?_,λi e=>?_⟩
   ·obtain ⟨_,_,hp,_⟩:=M.ob.ex
    have k3:K3 m H H':=K3.but b hp
    have kt:=k3.kt M
    refine k _ _ (λz=>nomatch z) ⟨q,z,r,{ m with wt:=.ref q },rfl,by rw [<- ex];exact kt _ _ hq,k3,.inr ⟨h0,stk,kv,(G.by_ M' kt (G.sg.kt kt) G.st).up (Nat.le_succ _),rfl,rfl,rfl,.inr ⟨h1,h2,.inr ⟨rfl,hw⟩⟩⟩⟩
   ·rw [targ_no] at e;cases e
  by_cases qt:∃ (z:Str) (ln:Int) (r:List V),xs=.str z::.int ln::r/\z∈(QL:List Str)
  ·obtain ⟨z,ln,r,rfl,hz⟩:=qt
   have ne:∀ {b:Str},(∀ a∈(QL:List Str),a≠b)->V.str z≠.str b:=λh e=>h z hz (V.str.inj e)
   refine ix (j:=0) s0 rfl ⟨T.ww,_,rfl,.inr (T.wws _),rfl,by decide +kernel,_,rfl,bF ((by decide +kernel:∀ a∈(QL:List Str),inV (.str a) (WORDS.map V.str)=false) z hz) (ix (j:=0) s0 rfl ⟨by decide,λp1 h1=>⟨p1,_,rfl,.inr (SqT.of upd_same),rfl,by decide +kernel,_,rfl,bF ((by decide +kernel:∀ a∈(QL:List Str),inV (.str a) [V.str "group",.str "limit"]=false) z hz) ?_⟩⟩)⟩
   have s1:=Same.upd (o:=.tup [V.str "group",.str "limit"]) h1
   have G1:=G.same s1
   have hq1:=s1 _ _ hq
   generalize upd H p1 (.tup [V.str "group",.str "limit"])=H1 at s1 G1 hq1 |-
   have M1:=G1.at_
   refine ix (j:=0) s1 rfl ⟨rfl,ifF (ne (by decide +kernel)) (ix (j:=0) s1 rfl ⟨rfl,ifF (ne (by decide +kernel)) (ix (j:=0) s1 rfl ⟨rfl,ifF (ne (by decide +kernel)) (ix (j:=0) s1 rfl ⟨rfl,ifF (ne (by decide +kernel)) (ix (j:=0) s1 rfl ⟨rfl,ifF (ne (by decide +kernel)) ((M1.ob.call ⟨p,q,S,N,stk,kv,m,_,_,_,rfl,G1,hN,hq1,spq H1 s1,hS,hz,λH2 stk2 kv2 k2 G2=>?_⟩))⟩)⟩)⟩)⟩)⟩
   have hq2:=(k2.kt M1) _ _ hq1
   refine ⟨q,_,_,_,rfl,rfl,SqT.of hq2,atI_nat (j:=1) rfl,(by show (2:Nat)<=sizeLine;decide),λt ht=>?_⟩
   exact k _ _ (λz=>nomatch z) (Res.plain upd_same (((K3.of s1).trans k2).trans (K3.of (Same.upd ht))) (G2.same (Same.upd ht)) rfl rfl rfl hwt)
  cases sp with
  |wait ln n =>
   exact ix (j:=0) s0 rfl ⟨T.ww,_,rfl,.inr (T.wws _),rfl,by decide +kernel,_,rfl,bT (by decide +kernel) (M.ob.call (wai rfl (by decide +kernel) (by decide +kernel) (by decide +kernel) (.inl ⟨by decide +kernel,by decide +kernel⟩)))⟩
  |hear ln =>
   exact ix (j:=0) s0 rfl ⟨T.ww,_,rfl,.inr (T.wws _),rfl,by decide +kernel,_,rfl,bT (by decide +kernel) (M.ob.call (wai rfl (by decide +kernel) (by decide +kernel) (by decide +kernel) (.inl ⟨by decide +kernel,by decide +kernel⟩)))⟩
  |take ln =>
   exact ix (j:=0) s0 rfl ⟨T.ww,_,rfl,.inr (T.wws _),rfl,by decide +kernel,_,rfl,bT (by decide +kernel) (M.ob.call (wai rfl (by decide +kernel) (by decide +kernel) (by decide +kernel) (.inr ⟨_,_,_,rfl⟩)))⟩
  |ask ln y =>
   exact ix (j:=0) s0 rfl ⟨T.ww,_,rfl,.inr (T.wws _),rfl,by decide +kernel,_,rfl,bT (by decide +kernel) (M.ob.call (wai rfl (by decide +kernel) (by decide +kernel) (by decide +kernel) (.inr ⟨_,_,_,rfl⟩)))⟩
  |group ln y a mm ha =>
   refine ix (j:=0) s0 rfl ⟨T.ww,_,rfl,.inr (T.wws _),rfl,by decide +kernel,_,rfl,bF (by decide +kernel) (ix (j:=0) s0 rfl ⟨by decide,λp1 h1=>⟨p1,_,rfl,.inr (SqT.of upd_same),rfl,by decide +kernel,_,rfl,bT (by decide +kernel) ?_⟩⟩)⟩
   have s1:=Same.upd (o:=.tup [V.str "group",.str "limit"]) h1
   have G1:=G.same s1
   have hq1:=s1 _ _ hq
   generalize upd H p1 (.tup [V.str "group",.str "limit"])=H1 at s1 G1 hq1 |-
   obtain ⟨vs,ms,hvs,hvl,hA,em⟩:=(ha.kt (.of s1)).get (by decide)
   subst em
   have M1:=G1.at_
   obtain ⟨_,_,hp1,_⟩:=M1.ob.ex
   refine M1.ob.call ⟨p,q,stk,kv,[],m,rfl,M1,hl,.inl ⟨ln,y,a,vs,hq1,hvs,hvl,λx t H' kp _ ht M'=>?_⟩⟩
   have k3:K3 m H1 H':=K3.pf kp hp1
   have kt:=k3.kt M1
   exact k _ _ (λz=>nomatch z) (Res.plain ht ((K3.of s1).trans k3) (G1.push M' kt (GdF.new (rows_kt kt hA) (rows_kt kt hA) hS hS rfl (λ_=>⟨_,rfl⟩) rfl (.inr ⟨y,rfl⟩)) (G1.sg.kt kt) G1.st) rfl rfl rfl hwt)
  |limit ln n a b ma mb ha hb =>
   refine ix (j:=0) s0 rfl ⟨T.ww,_,rfl,.inr (T.wws _),rfl,by decide +kernel,_,rfl,bF (by decide +kernel) (ix (j:=0) s0 rfl ⟨by decide,λp1 h1=>⟨p1,_,rfl,.inr (SqT.of upd_same),rfl,by decide +kernel,_,rfl,bT (by decide +kernel) ?_⟩⟩)⟩
   have s1:=Same.upd (o:=.tup [V.str "group",.str "limit"]) h1
   have G1:=G.same s1
   have hq1:=s1 _ _ hq
   generalize upd H p1 (.tup [V.str "group",.str "limit"])=H1 at s1 G1 hq1 |-
   obtain ⟨vs,ms,hvs,hvl,hA,em⟩:=(ha.kt (.of s1)).get (by decide)
   obtain ⟨us,ns,hus,hul,hB,en⟩:=(hb.kt (.of s1)).get (by decide)
   subst em en
   have M1:=G1.at_
   obtain ⟨_,_,hp1,_⟩:=M1.ob.ex
   refine M1.ob.call ⟨p,q,stk,kv,[],m,rfl,M1,hl,.inr ⟨ln,n,a,b,vs,us,hq1,hvs,hus,hvl,hul,λx t H' kp _ ht M'=>?_⟩⟩
   have k3:K3 m H1 H':=K3.pf kp hp1
   have kt:=k3.kt M1
   exact k _ _ (λz=>nomatch z) (Res.plain ht ((K3.of s1).trans k3) (G1.push M' kt (GdF.new (rows_kt kt hA) (rows_kt kt hB) (λk hk=>hS k (List.mem_append_left _ hk)) (λk hk=>hS k (List.mem_append_right _ hk)) rfl (λ_=>⟨_,rfl⟩) rfl (.inl rfl)) (G1.sg.kt kt) G1.st) rfl rfl rfl hwt)
  |ring ln =>
   refine ix (j:=0) s0 rfl ⟨T.ww,_,rfl,.inr (T.wws _),rfl,by decide +kernel,_,rfl,bF (by decide +kernel) (ix (j:=0) s0 rfl ⟨by decide,λp1 h1=>⟨p1,_,rfl,.inr (SqT.of upd_same),rfl,by decide +kernel,_,rfl,bF (by decide +kernel) ?_⟩⟩)⟩
   have s1:=Same.upd (o:=.tup [V.str "group",.str "limit"]) h1
   have G1:=G.same s1
   have hq1:=s1 _ _ hq
   generalize upd H p1 (.tup [V.str "group",.str "limit"])=H1 at s1 G1 hq1 |-
   exact ix (j:=0) s1 rfl ⟨rfl,ifT rfl (ix (j:=1) s1 rfl (ix (j:=2) s1 rfl ⟨(by show (3:Nat)<=sizeLine;decide),λt ht=>fin (s1.trans (Same.upd ht)) upd_same (by decide +kernel) (by decide +kernel) (by decide +kernel)⟩))⟩
  |send ln v hv =>
   refine ix (j:=0) s0 rfl ⟨T.ww,_,rfl,.inr (T.wws _),rfl,by decide +kernel,_,rfl,bF (by decide +kernel) (ix (j:=0) s0 rfl ⟨by decide,λp1 h1=>⟨p1,_,rfl,.inr (SqT.of upd_same),rfl,by decide +kernel,_,rfl,bF (by decide +kernel) ?_⟩⟩)⟩
   have s1:=Same.upd (o:=.tup [V.str "group",.str "limit"]) h1
   have G1:=G.same s1
   have hq1:=s1 _ _ hq
   generalize upd H p1 (.tup [V.str "group",.str "limit"])=H1 at s1 G1 hq1 |-
   have M1:=G1.at_
   exact ix (j:=0) s1 rfl ⟨rfl,ifF (λz=>absurd (V.str.inj z) (by decide +kernel)) (ix (j:=0) s1 rfl ⟨rfl,ifT rfl (ix (j:=1) s1 rfl (ix (j:=2) s1 rfl (M1.ob.call (ix (j:=3) s1 rfl ⟨p,m,v,kv,rfl,M1.ob,M1.nv,G1.kv,hv,λu _=>⟨(by show (4:Nat)<=sizeLine;decide),λt ht=>fin (s1.trans (Same.upd ht)) upd_same (by decide +kernel) (by decide +kernel) (by decide +kernel)⟩⟩))))⟩)⟩
  |raise ln y =>
   refine ix (j:=0) s0 rfl ⟨T.ww,_,rfl,.inr (T.wws _),rfl,by decide +kernel,_,rfl,bF (by decide +kernel) (ix (j:=0) s0 rfl ⟨by decide,λp1 h1=>⟨p1,_,rfl,.inr (SqT.of upd_same),rfl,by decide +kernel,_,rfl,bF (by decide +kernel) ?_⟩⟩)⟩
   have s1:=Same.upd (o:=.tup [V.str "group",.str "limit"]) h1
   have G1:=G.same s1
   have hq1:=s1 _ _ hq
   generalize upd H p1 (.tup [V.str "group",.str "limit"])=H1 at s1 G1 hq1 |-
   have M1:=G1.at_
   refine ix (j:=0) s1 rfl ⟨rfl,ifF (λz=>absurd (V.str.inj z) (by decide +kernel)) (ix (j:=0) s1 rfl ⟨rfl,ifF (λz=>absurd (V.str.inj z) (by decide +kernel)) (ix (j:=0) s1 rfl ⟨rfl,ifT rfl ?_⟩)⟩)⟩
   have put:∀ N':St->Hp->Prop,(∀ H4 t,K3 m H H4->SigAt H4 t (.faults y [])->H4 q=some (.tup [.str "raise",.int ln,.str y])->MAt T H4 p stk kv [] { m with sg:=.ref t }->N' [some (.ref p),some (.ref q),none] H4)->sFld K (tVar 0) (tTup (tCons (tC (.str "faults")) (tCons (tTup (tCons (tOp (rIxT K) (tVar 1) (tC (.int 2))) tNil)) tNil))) "signal" { nx:=N',rt:=Q } [some (.ref p),some (.ref q),none] H1:=λN' hN'=>by
    simp only [sFld,tTup,tCons,tNil,tC,tOp]
    refine ⟨_,rfl,q,_,_,.str y,rfl,rfl,SqT.of hq1,atI_nat (j:=2) rfl,(by show (1:Nat)<=sizeLine;decide),λu hu'=>⟨(by show (2:Nat)<=sizeLine;decide),λt ht=>?_⟩⟩
    have s3:=(Same.upd (o:=.tup [V.str y]) hu').trans (Same.upd (o:=.tup [V.str "faults",.ref u]) ht)
    have M3:=M1.same s3
    obtain ⟨_,_,hP3,_⟩:=M3.ob.ex
    refine M3.ob.re (l:=.signal) rfl (λz=>nomatch z) λH4 b4 O4=>?_
    rw [g_sg] at O4
    exact hN' H4 t (((K3.of s1).trans (K3.of s3)).trans (K3.but b4 hP3)) ⟨u,b4.tup hP3 upd_same,b4.tup hP3 ((Same.upd ht) _ _ upd_same)⟩ (b4.tup hP3 (s3 _ _ hq1)) (M3.byP b4 O4 rfl rfl rfl)
   refine put _ λH4 t k4 hsig hq4 M4=>?_
   refine ⟨_,rfl,q,_,_,.int ln,rfl,rfl,SqT.of hq4,atI_nat (j:=1) rfl,_,rfl,q,_,_,.str y,rfl,rfl,SqT.of hq4,atI_nat (j:=2) rfl,(by show (3:Nat)<=sizeLine;decide),λw hw=>?_⟩
   have sw:=Same.upd (o:=.tup [V.str "raise",.int ln,.str y]) hw
   have kt:=(k4.kt M).trans (.of sw)
   exact k _ _ (λz=>nomatch z) (Res.plain upd_same (k4.trans (K3.of sw)) ((G.by_ (M4.same sw) kt (.inr ⟨t,y,rfl,hsig.same sw⟩) G.st).up (Nat.le_succ _)) rfl rfl rfl hwt)
  |begin ln g n =>
   refine ix (j:=0) s0 rfl ⟨T.ww,_,rfl,.inr (T.wws _),rfl,by decide +kernel,_,rfl,bF (by decide +kernel) (ix (j:=0) s0 rfl ⟨by decide,λp1 h1=>⟨p1,_,rfl,.inr (SqT.of upd_same),rfl,by decide +kernel,_,rfl,bF (by decide +kernel) ?_⟩⟩)⟩
   have s1:=Same.upd (o:=.tup [V.str "group",.str "limit"]) h1
   have G1:=G.same s1
   have hq1:=s1 _ _ hq
   generalize upd H p1 (.tup [V.str "group",.str "limit"])=H1 at s1 G1 hq1 |-
   have M1:=G1.at_
   exact ix (j:=0) s1 rfl ⟨rfl,ifF (λz=>absurd (V.str.inj z) (by decide +kernel)) (ix (j:=0) s1 rfl ⟨rfl,ifF (λz=>absurd (V.str.inj z) (by decide +kernel)) (ix (j:=0) s1 rfl ⟨rfl,ifF (λz=>absurd (V.str.inj z) (by decide +kernel)) (ix (j:=0) s1 rfl ⟨rfl,ifT rfl (ix (j:=1) s1 rfl (ix (j:=2) s1 rfl (ix (j:=3) s1 rfl (M1.ob.call (ix (j:=4) s1 rfl ⟨p,g,S,N,stk,kv,m,rfl,G1,λu _=>ix (j:=5) s1 rfl ⟨(by show (6:Nat)<=sizeLine;decide),λt ht=>fin (s1.trans (Same.upd ht)) upd_same (by decide +kernel) (by decide +kernel) (by decide +kernel)⟩⟩)))))⟩)⟩)⟩)⟩
  |off ln y =>
   refine ix (j:=0) s0 rfl ⟨T.ww,_,rfl,.inr (T.wws _),rfl,by decide +kernel,_,rfl,bF (by decide +kernel) (ix (j:=0) s0 rfl ⟨by decide,λp1 h1=>⟨p1,_,rfl,.inr (SqT.of upd_same),rfl,by decide +kernel,_,rfl,bF (by decide +kernel) ?_⟩⟩)⟩
   have s1:=Same.upd (o:=.tup [V.str "group",.str "limit"]) h1
   have G1:=G.same s1
   have hq1:=s1 _ _ hq
   generalize upd H p1 (.tup [V.str "group",.str "limit"])=H1 at s1 G1 hq1 |-
   have M1:=G1.at_
   refine ix (j:=0) s1 rfl ⟨rfl,ifF (λz=>absurd (V.str.inj z) (by decide +kernel)) (ix (j:=0) s1 rfl ⟨rfl,ifF (λz=>absurd (V.str.inj z) (by decide +kernel)) (ix (j:=0) s1 rfl ⟨rfl,ifF (λz=>absurd (V.str.inj z) (by decide +kernel)) (ix (j:=0) s1 rfl ⟨rfl,ifF (λz=>absurd (V.str.inj z) (by decide +kernel)) (ix (j:=0) s1 rfl ⟨rfl,ifT rfl (M1.ob.call (ix (j:=2) s1 rfl ⟨p,y,S,N,stk,kv,m,rfl,G1,λu _=>ix (j:=1) s1 rfl ?_⟩))⟩)⟩)⟩)⟩)⟩
   by_cases c:u=.non
   ·exact ifT c (ix (j:=2) s1 rfl ⟨(by show (3:Nat)<=sizeLine;decide),λt ht=>fin (s1.trans (Same.upd ht)) upd_same (by decide +kernel) (by decide +kernel) (by decide +kernel)⟩)
   ·exact ifF c ⟨(by show (3:Nat)<=sizeLine;decide),λt ht=>fin (s1.trans (Same.upd ht)) upd_same (by decide +kernel) (by decide +kernel) (by decide +kernel)⟩
  |let_ ln y v hv=>exact absurd ⟨_,_,_,rfl,by decide +kernel⟩ qt
  |keep ln a mm ha=>exact absurd ⟨_,_,_,rfl,by decide +kernel⟩ qt
  |try_ ln y a b ma mb ha hb=>exact absurd ⟨_,_,_,rfl,by decide +kernel⟩ qt
  |do_ ln a b ma mb ha hb=>exact absurd ⟨_,_,_,rfl,by decide +kernel⟩ qt
  |when ln y v a mm hv ha=>exact absurd ⟨_,_,_,rfl,by decide +kernel⟩ qt
  |repeat_ ln n a mm ha=>exact absurd ⟨_,_,_,rfl,by decide +kernel⟩ qt
theorem sc_Machine_go_on:FnScope ["self", "frame", "row", "follows"] ["self"] (defScope (inClass (top 17) 14)):=⟨rfl,rfl,rfl,by decide +kernel,rfl,by decide +kernel,by decide +kernel⟩
theorem ok_Machine_go_on (T:Tx P w K mg) (G_next_row:∀ c,FnOk P w K mg base CX0 1 (T.m_next_row c).f (T.m_next_row c).fd ["self"] (spNext T)) (G_over:∀ c,FnOk P w K mg base CX0 2 (T.m_over c).f (T.m_over c).fd ["self"] (spOver T c))
  (G_Machine_do_row:FnOk P w K mg base CX0 5 T.m_Machine_do_row.f T.m_Machine_do_row.fd ["self", "row"] (spDoRow T))
  (G_Machine_wait_at:FnOk P w K mg base CX0 3 T.m_Machine_wait_at.f T.m_Machine_wait_at.fd ["self", "want"] (spWaitAt T))
  (G_Machine_leave_group:FnOk P w K mg base CX0 2 T.m_Machine_leave_group.f T.m_Machine_leave_group.fd ["self", "frame"] (spLeaveG T))
  (G_Machine_begin_clean_up:FnOk P w K mg base CX0 3 T.m_Machine_begin_clean_up.f T.m_Machine_begin_clean_up.fd ["self", "frame", "signal"] (spBegClean T))
  (G_Machine_end_with:FnOk P w K mg base CX0 1 T.m_Machine_end_with.f T.m_Machine_end_with.fd ["self", "outcome"] (spEndWith T))
  (G_Machine_leave_innermost:FnOk P w K mg base CX0 1 T.m_Machine_leave_innermost.f T.m_Machine_leave_innermost.fd ["self"] (spLeaveIn T)):FnOk P w K mg base CX0 6 T.m_Machine_go_on.f T.m_Machine_go_on.fd ["self"] (spGoOn T):=by
 refine T.m_Machine_go_on.F.ok sc_Machine_go_on (λvs H Q E h=>?_) (λcdv A outer s H vs Q E hr h=>?_)
 ·obtain ⟨p,S,N,stk,kv,m,rfl,_⟩:=h
  rfl
 ·obtain ⟨p,S,N,stk,kv,m,rfl,G,hN,hsg,hwt,k1,k2⟩:=h
  have hu:=hu100 hr
  have hu1:=hu_of hr
  refine ⟨_,(pss_cons (ps_set (i:=1) sc_Machine_go_on.nd rfl (Or.inl rfl) (pe_ix ix_list (pe_fld (pv 0) rfl) (pe_un un_neg pe_int) (λ_ _=>rfl)))
  (pss_cons (ps_set (i:=2) sc_Machine_go_on.nd rfl (Or.inl rfl) (pe_any λc=>(pe_meth0 (pv 1) (T.cl c) (T.m_next_row c).me (G_next_row c) (hr.mono (by omega)) (T.m_next_row c).b .nil pass0)))
  (pss_cons (ps_if (pt_cmpR op_notN (pv 2) pe_non (nomark _))
  (pss_one (ps_ret (pe_meth (pv 0) T.k_Machine T.m_Machine_do_row.me G_Machine_do_row (hr.mono (by omega)) T.m_Machine_do_row.b .nil pass0 (pa_cons (pv 2) pa_nil))))
  pss_nil)
  (pss_cons (ps_set (i:=3) sc_Machine_go_on.nd rfl (Or.inl rfl) (pe_any λc=>(pe_meth0 (pv 1) (T.cl c) (T.m_over c).me (G_over c) (hr.mono (by omega)) (T.m_over c).b .nil pass0)))
  (pss_cons (ps_if (pt_cmpR op_eq (pv 3) pe_str (nomark _))
  (pss_one (ps_ret (pe_meth (pv 0) T.k_Machine T.m_Machine_wait_at.me G_Machine_wait_at (hr.mono (by omega)) T.m_Machine_wait_at.b .nil pass0 (pa_cons (pe_tup (pa_cons pe_str (pa_cons (pe_fld (pv 1) rfl) (pa_cons (pe_fld (pv 1) rfl) pa_nil)))) pa_nil))))
  pss_nil)
  (pss_cons (ps_if (pt_cmpR op_eq (pv 3) pe_str (nomark _))
  (pss_one (ps_ret (pe_meth (pv 0) T.k_Machine T.m_Machine_leave_group.me G_Machine_leave_group (hr.mono (by omega)) T.m_Machine_leave_group.b .nil pass0 (pa_cons (pv 1) pa_nil))))
  pss_nil)
  (pss_cons (ps_if (pt_cmpR op_eq (pv 3) pe_str (nomark _))
  (pss_one (ps_ret (pe_meth (pv 0) T.k_Machine T.m_Machine_begin_clean_up.me G_Machine_begin_clean_up (hr.mono (by omega)) T.m_Machine_begin_clean_up.b .nil pass0 (pa_cons (pv 1) (pa_cons pe_non pa_nil)))))
  pss_nil)
  (pss_cons (ps_if (PW.pt (pw_and (pt_cmpR op_eq (pv 3) pe_str (nomark _)) (pw_and1 (pt_cmpR op_eq (pe_callB call_len (by rfl) T.n_len bt_len (pa_cons (pe_fld (pv 0) rfl) pa_nil)) pe_int (nomark _)))))
  (pss_one (ps_ret (pe_meth (pv 0) T.k_Machine T.m_Machine_end_with.me G_Machine_end_with (hr.mono (by omega)) T.m_Machine_end_with.b .nil pass0 (pa_cons (pe_tup (pa_cons pe_str (pa_cons (pe_fld (pv 0) rfl) pa_nil))) pa_nil))))
  pss_nil)
  (pss_cons (ps_if (pt_cmpR op_eq (pv 3) pe_str (nomark _))
  (pss_cons (ps_expr (pe_meth0 (pv 0) T.k_Machine T.m_Machine_leave_innermost.me G_Machine_leave_innermost (hr.mono (by omega)) T.m_Machine_leave_innermost.b .nil pass0))
  (pss_one (ps_fld (pv 0) (pe_fld (pv 1) rfl) rfl)))
  pss_nil)
  (pss_one (ps_ret pe_non))))))))))),?_⟩
  walk_at "sy"
  obtain ⟨b,x,rfl⟩:=G.lst
  have M:=G.at_
  have hx:x∈b++[x]:=List.mem_append_right _ List.mem_cons_self
  have F:=M.fr x hx
  have g:=G.fr x hx
  have hf:=M.fl
  rw [List.map_append] at hf
  obtain ⟨_,_,hX,_⟩:=F.fr.ex
  cases hrow:x.s.rows[x.s.place]? with
  |some v =>
   have none_:x.s.place≠x.s.rows.length:=λe=>by
    rw [e,List.getElem?_eq_none (Nat.le_refl _)] at hrow
    cases hrow
   refine M.ob.fld (l:=.frames) rfl rfl ⟨m.fl,_,_,.ref x.a,rfl,rfl,SqL.of hf,atI_last _ _,x.c,x.a,rfl,F.mt nf_next ⟨x.c,x.a,x.s,rfl,F,λe=>absurd e none_,λv' hv H1 b1 F1=>?_⟩⟩
   rw [hrow] at hv
   cases hv
   obtain ⟨mm,rm,hS⟩:=g.row hrow
   have M1:=M.byX b1 F1 rfl
   have k3:K3 m H H1:=K3.but b1 hX
   have kt:=k3.kt M
   have G1:=G.last M1 kt (g.next.kt kt) (G.sg.kt kt) G.st (.inl rfl)
   obtain ⟨q,xs,rfl,_⟩:=id rm
   exact bT (by simp) (M1.ob.call ⟨p,q,S,N,_,kv,m,mm,rfl,G1,hN,hsg,hwt,rm.kt kt,hS,λv H' hv R=>k1 v H' hv (R.pre k3 rfl rfl rfl)⟩)
  |none =>
   have hpl:x.s.place=x.s.rows.length:=by
    have:=List.getElem?_eq_none_iff.mp hrow
    have:=F.pl
    omega
   refine M.ob.fld (l:=.frames) rfl rfl ⟨m.fl,_,_,.ref x.a,rfl,rfl,SqL.of hf,atI_last _ _,x.c,x.a,rfl,F.mt nf_next ⟨x.c,x.a,x.s,rfl,F,λ_=>bF (by simp) ?_,λv hv=>(by rw [hrow] at hv;cases hv)⟩⟩
   refine ⟨x.c,x.a,rfl,F.mt nf_over ⟨x.a,x.s,rfl,F,λH1 b1 F1=>?_⟩⟩
   have M1:MAt T H1 p (b++[⟨x.a,x.c,overS x.c x.s⟩]) kv [] m:=M.byX b1 F1 (by unfold overS;split<;>rfl)
   have k3:K3 m H H1:=K3.but b1 hX
   have kt:=k3.kt M
   have G1:=G.last M1 kt (g.over.kt kt) (G.sg.kt kt) G.st (.inl rfl)
   obtain ⟨_,_,hP1,_⟩:=M1.ob.ex
   obtain ⟨_,_,hX1,_⟩:=F1.fr.ex
   have g1:=(g.over).kt kt
   rcases over5 x.c x.s with ⟨eo,es⟩ | ⟨eo,ec,hlf⟩ | ⟨eo,ec,hcl⟩ | ⟨eo,ec,htl⟩ | ⟨eo,ec,htl⟩
   ·rw [es] at M1 F1 G1 g1
    rw [eo]
    have ll:((b++[(⟨x.a,x.c,x.s⟩:Fm)]).map λx=>V.ref x.a).length=b.length+1:=by simp
    refine ⟨rfl,ifF (λz=>absurd (V.str.inj z) (by decide +kernel)) ⟨rfl,ifF (λz=>absurd (V.str.inj z) (by decide +kernel)) ⟨rfl,ifF (λz=>absurd (V.str.inj z) (by decide +kernel)) ⟨rfl,ifT rfl (M1.ob.fld (l:=.frames) rfl rfl ⟨_,.inl ⟨_,SqL.of M1.fl,rfl⟩,rfl,?_⟩)⟩⟩⟩⟩
    by_cases hb:b=[]
    ·refine ifT (by rw [ll,hb];rfl) (M1.ob.call (M1.ob.fld (l:=.given) rfl rfl ⟨(by show (2:Nat)<=sizeLine;decide),λt ht=>?_⟩))
     have s2:=Same.upd (o:=.tup [V.str "value",m.gv]) ht
     refine ⟨p,m,t,rfl,M1.ob.same s2,λH' w l b' O' hl hw=>?_⟩
     exact k1 _ _ (λz=>nomatch z) ⟨w,_,_,_,rfl,hw,(k3.trans (K3.of s2)).trans (K3.but b' (s2 _ _ hP1)),.inl ⟨rfl,O',hl⟩⟩
    ·have lp:0<b.length:=List.length_pos_iff.mpr hb
     refine ifF (λz=>by rw [ll] at z;omega) ⟨rfl,ifT rfl (M1.ob.call ⟨p,b,⟨x.a,x.c,x.s⟩,kv,[],m,rfl,M1,λH2 kp M2=>?_⟩)⟩
     rw [leave_nil] at M2
     obtain ⟨dy,gs,h2,h4⟩:=F1.fr.ex
     have F2:FrAt T 11 x.c H2 x.a (gOf x.c x.s):=⟨dy,gs,kp _ _ (ne_of h2 M1.fl (λz=>nomatch z)) (ne_of h2 M1.mr (λz=>nomatch z)) h2,h4⟩
     simp only [sFld]
     refine F2.fld (l:=.held) rfl rfl ?_
     refine M2.ob.re (l:=.signal) rfl (λz=>nomatch z) λH3 b3 O3=>?_
     rw [g_sg] at O3
     obtain ⟨_,_,hP2,_⟩:=M2.ob.ex
     have k4:K3 m H1 H3:=(K3.kn (Kn.two kp)).trans (K3.but b3 hP2)
     refine k2 H3 b _ (k3.trans k4) (G1.pop (M2.byP b3 O3 rfl rfl rfl) (k4.kt M1) hb (g1.held.kt (k4.kt M1)) G.st) ?_ hwt rfl rfl rfl
     rw [mz_app];omega
   ·rw [eo]
    refine ⟨rfl,ifF (λz=>absurd (V.str.inj z) (by decide +kernel)) ⟨rfl,ifF (λz=>absurd (V.str.inj z) (by decide +kernel)) ⟨rfl,ifF (λz=>absurd (V.str.inj z) (by decide +kernel)) ⟨rfl,ifF (λz=>absurd (V.str.inj z) (by decide +kernel)) ⟨rfl,ifF (λz=>absurd (V.str.inj z) (by decide +kernel)) ?_⟩⟩⟩⟩⟩
    refine k2 H1 _ m k3 G1 ?_ hwt rfl rfl rfl
    rw [mz_app,mz_app]
    have:(overS x.c x.s).left=x.s.left-1:=by unfold overS;rw [if_pos ⟨ec,hlf⟩]
    show _+((overS x.c x.s).left.toNat+1)<_
    rw [this];omega
   ·have es:overS x.c x.s=x.s:=overS_no (by rw [ec];decide)
    rw [es] at M1 F1 G1 g1
    rw [eo]
    refine ⟨rfl,ifF (λz=>absurd (V.str.inj z) (by decide +kernel)) ⟨rfl,ifF (λz=>absurd (V.str.inj z) (by decide +kernel)) ⟨rfl,ifT rfl (M1.ob.call ?_)⟩⟩⟩
    refine ⟨p,.non,x.a,x.s,rfl,by rw [ec] at F1;exact F1,λH' t b2 F' ht=>?_⟩
    have k4:K3 m H1 H':=K3.but b2 hX1
    have kt4:=k4.kt M1
    have M2:MAt T H' p (b++[⟨x.a,x.c,cleanS x.s .non⟩]) kv [] m:=M1.byX b2 (by rw [ec];exact F') rfl
    exact k1 _ _ (λz=>nomatch z) (Res.plain ht (k3.trans k4) ((G1.last M2 kt4 ((g1.kt kt4).clean ec hcl (.inl rfl)) (G1.sg.kt kt4) G1.st (.inl rfl)).up (Nat.le_succ _)) rfl rfl rfl hwt)
   ·have es:overS x.c x.s=x.s:=overS_no (by rw [ec];decide)
    rw [es] at M1 F1 G1 g1
    rw [eo]
    refine ⟨rfl,ifT rfl (M1.ob.call (F1.fr.fld (l:=.line) rfl rfl (F1.fr.fld (l:=.scope) rfl rfl ⟨(by show (3:Nat)<=sizeLine;decide),λt ht=>?_⟩)))⟩
    have s2:=Same.upd (o:=.tup [V.str "join",.int x.s.line,x.s.sc]) ht
    have hj:(upd H1 t (.tup [V.str "join",.int x.s.line,x.s.sc])) t=some (.tup [V.str "join",.int x.s.line,x.s.sc]):=upd_same
    have G2:=G1.same s2
    have M2:=G2.at_
    refine ⟨p,_,kv,[],m,t,rfl,M2,λ_ H' b2 M'=>?_,λi e=>?_⟩
    ·obtain ⟨_,_,hp2,_⟩:=M2.ob.ex
     have k4:K3 m _ H':=K3.but b2 hp2
     have kt4:=k4.kt M2
     exact k1 _ _ (λz=>nomatch z) ⟨t, "join",_,_,rfl,kt4 _ _ hj,(k3.trans (K3.of s2)).trans k4,.inr ⟨by decide +kernel,_,kv,(G2.by_ M' kt4 (G2.sg.kt kt4) G2.st).up (Nat.le_succ _),rfl,rfl,rfl,.inl ⟨.inl rfl,b,_,rfl,ec⟩⟩⟩
    ·rw [targ_no] at e;cases e
   ·have es:overS x.c x.s=x.s:=overS_no (by rw [ec];decide)
    rw [es] at M1 F1 G1 g1
    rw [eo]
    have hb:b≠[]:=λe=>by
     subst e
     have:=G.bt x rfl
     rw [ec] at this
     cases this
    rcases g1.told with e | ⟨a,e,ha⟩
    ·exact absurd e htl
    ·refine ⟨rfl,ifF (λz=>absurd (V.str.inj z) (by decide +kernel)) ⟨rfl,ifT rfl (M1.ob.call ⟨p,b,⟨x.a,x.c,x.s⟩,kv,m,a,rfl,M1,ec,e,ha,g1.gh ec,hsg,⟨λH' t k4 ht M'=>?_⟩⟩)⟩⟩
     have kt4:=k4.kt M1
     exact k1 _ _ (λz=>nomatch z) (Res.plain ht (k3.trans k4) ((G1.pop M' kt4 hb (G1.sg.kt kt4) G1.st).up (Nat.le_succ _)) rfl rfl rfl hwt)
theorem sc_Machine_send_out:FnScope ["self", "signal", "frame", "follows"] ["self"] (defScope (inClass (top 17) 20)):=⟨rfl,rfl,rfl,by decide +kernel,rfl,by decide +kernel,by decide +kernel⟩
theorem ok_Machine_send_out (T:Tx P w K mg) (G_meets:∀ c,FnOk P w K mg base CX0 1 (T.m_meets c).f (T.m_meets c).fd ["self", "signal"] (spMeets T c)) (G_i_frame:FnOk P w K mg base CX0 1 T.i_frame.f T.i_frame.fd ["self", "rows", "line", "scope"] (spFInit T)) (G_i_rounds:FnOk P w K mg base CX0 2 T.i_rounds.f T.i_rounds.fd ["self", "rows", "line", "many"] (spI T .rounds)) (G_i_kept:FnOk P w K mg base CX0 1 T.i_kept.f T.i_kept.fd ["self", "rows", "line", "scope"] (spFInit T)) (G_i_tried:FnOk P w K mg base CX0 2 T.i_tried.f T.i_tried.fd ["self", "rows", "line", "fault", "others"] (spI T .tried)) (G_i_cleaned:FnOk P w K mg base CX0 2 T.i_cleaned.f T.i_cleaned.fd ["self", "rows", "line", "others"] (spI T .cleaned)) (G_i_limited:FnOk P w K mg base CX0 2 T.i_limited.f T.i_limited.fd ["self", "rows", "line", "scope", "others"] (spI T .limited)) (G_i_grouped:FnOk P w K mg base CX0 2 T.i_grouped.f T.i_grouped.fd ["self", "rows", "line", "scope", "named"] (spI T .grouped))
  (G_Machine_leave_innermost:FnOk P w K mg base CX0 1 T.m_Machine_leave_innermost.f T.m_Machine_leave_innermost.fd ["self"] (spLeaveIn T))
  (G_Machine_begin_clean_up:FnOk P w K mg base CX0 3 T.m_Machine_begin_clean_up.f T.m_Machine_begin_clean_up.fd ["self", "frame", "signal"] (spBegClean T))
  (G_Machine_halt_at:FnOk P w K mg base CX0 3 T.m_Machine_halt_at.f T.m_Machine_halt_at.fd ["self", "frame", "signal"] (spHaltAt T))
  (G_Machine_end_with:FnOk P w K mg base CX0 1 T.m_Machine_end_with.f T.m_Machine_end_with.fd ["self", "outcome"] (spEndWith T)):FnOk P w K mg base CX0 4 T.m_Machine_send_out.f T.m_Machine_send_out.fd ["self"] (spSendOut T):=by
 refine T.m_Machine_send_out.F.ok sc_Machine_send_out (λvs H Q E h=>?_) (λcdv A outer s H vs Q E hr h=>?_)
 ·obtain ⟨p,S,N,stk,kv,m,rfl,_⟩:=h
  rfl
 ·obtain ⟨p,S,N,stk0,kv,m,rfl,G0,hN,hsg,hwt,k⟩:=h
  have hu:=hu100 hr
  have hu1:=hu_of hr
  obtain ⟨t,fa,es,ht⟩:=G0.sg.resolve_left hsg
  refine ⟨_,(pss_cons (ps_set (i:=1) sc_Machine_send_out.nd rfl (Or.inl rfl) (pe_fld (pv 0) rfl))
  (pss_cons (ps_fld (pv 0) pe_non rfl)
  (pss_cons (ps_while PassesOwn.never (PW.pt (pw_and (pt_cmpR op_gt (pe_callB call_len (by rfl) T.n_len bt_len (pa_cons (pe_fld (pv 0) rfl) pa_nil)) pe_int (nomark _)) (pw_and1 (pt_cmpR op_eq (pe_any λc=>(pe_meth (pe_ix ix_list (pe_fld (pv 0) rfl) (pe_un un_neg pe_int) (λ_ _=>rfl)) (T.cl c) (T.m_meets c).me (G_meets c) (hr.mono (by omega)) (T.m_meets c).b .nil pass0 (pa_cons (pv 1) pa_nil))) pe_str (nomark _)))))
  (pss_one (ps_expr (pe_meth0 (pv 0) T.k_Machine T.m_Machine_leave_innermost.me G_Machine_leave_innermost (hr.mono (by omega)) T.m_Machine_leave_innermost.b .nil pass0))))
  (pss_cons (ps_set (i:=2) sc_Machine_send_out.nd rfl (Or.inl rfl) (pe_ix ix_list (pe_fld (pv 0) rfl) (pe_un un_neg pe_int) (λ_ _=>rfl)))
  (pss_cons (ps_set (i:=3) sc_Machine_send_out.nd rfl (Or.inl rfl) (pe_any λc=>(pe_meth (pv 2) (T.cl c) (T.m_meets c).me (G_meets c) (hr.mono (by omega)) (T.m_meets c).b .nil pass0 (pa_cons (pv 1) pa_nil))))
  (pss_cons (ps_if (pt_cmpR op_eq (pv 3) pe_str (nomark _))
  (pss_one (ps_ret (pe_meth (pv 0) T.k_Machine T.m_Machine_begin_clean_up.me G_Machine_begin_clean_up (hr.mono (by omega)) T.m_Machine_begin_clean_up.b .nil pass0 (pa_cons (pv 2) (pa_cons (pv 1) pa_nil)))))
  pss_nil)
  (pss_cons (ps_if (pt_cmpR op_eq (pv 3) pe_str (nomark _))
  (pss_one (ps_ret (pe_meth (pv 0) T.k_Machine T.m_Machine_halt_at.me G_Machine_halt_at (hr.mono (by omega)) T.m_Machine_halt_at.b .nil pass0 (pa_cons (pv 2) (pa_cons (pv 1) pa_nil)))))
  pss_nil)
  (pss_cons (ps_if (pt_cmpR op_eq (pv 3) pe_str (nomark _))
  (pss_one (ps_ret (pe_meth (pv 0) T.k_Machine T.m_Machine_end_with.me G_Machine_end_with (hr.mono (by omega)) T.m_Machine_end_with.b .nil pass0 (pa_cons (pe_ifExp (pt_cmpR op_eq (pe_ix ix_tup (pv 1) pe_int (λ_ _=>rfl)) pe_str (nomark _)) (pv 1) (pe_tup (pa_cons (pe_dget hu1 (pe_fld (pv 0) rfl) pe_int (λ_ _=>rfl)) pa_nil))) pa_nil))))
  pss_nil)
  (pss_cons (ps_expr (pe_meth0 (pv 0) T.k_Machine T.m_Machine_leave_innermost.me G_Machine_leave_innermost (hr.mono (by omega)) T.m_Machine_leave_innermost.b .nil pass0))
  (pss_cons (ps_expr (pe_bm PySem.F.plainAttrs_list PySem.F.slot_list_append PySem.F.type_list_append mt_append (pe_fld (pv 0) rfl) (pa_cons (pe_make T.M_frame G_i_frame (hr.mono (by omega)) rfl T.h_frame T.i_frame.b1 (show Vals [V.non] [Value.none] from .cons rfl .nil) pass0 (pa_cons (pe_fld (pv 2) rfl) (pa_cons (pe_fld (pv 2) rfl) pa_nil))) pa_nil)))
  (pss_cons (ps_if (pt_cmpR op_eq (pv 3) pe_str (nomark _))
  (pss_one (ps_ret (pe_tup (pa_cons pe_str (pa_cons (pe_fld (pv 2) rfl) (pa_cons (pe_fld (pv 2) rfl) pa_nil))))))
  pss_nil)
  (pss_one (ps_ret (pe_tup (pa_cons pe_str (pa_cons (pe_fld (pv 2) rfl) (pa_cons (pe_ix ix_tup (pv 1) pe_int (λ_ _=>rfl)) pa_nil))))))))))))))))),?_⟩
  walk_at "sy"
  have M0:=G0.at_
  have hs:m.g .signal=some (.ref t):=by rw [<- es];rfl
  obtain ⟨_,_,hp,_⟩:=M0.ob.ex
  refine M0.ob.fld (l:=.signal) rfl hs ?_
  refine M0.ob.re (l:=.signal) rfl (λz=>nomatch z) λH1 b1 F1=>?_
  rw [g_sg] at F1
  have k1:K3 m H H1:=K3.but b1 hp
  have kt1:=k1.kt M0
  have G1:Gd T H1 p S N stk0 kv { m with sg:=.non }:=G0.by_ (M0.byP b1 F1 rfl rfl rfl) kt1 (.inl rfl) G0.st
  have ht1:=ht.kt kt1
  have ktm:∀ {G2 H':Hp} {stk:List Fm},MAt T G2 p stk kv [] { m with sg:=.non }->K3 m G2 H'->KT G2 H':=λM k=>K3.kt (m:={ m with sg:=.non }) k M
  have mlast:∀ {l:List Fm} {y:Fm},y∈l++[y]:=λ{l y}=>List.mem_append_right _ List.mem_cons_self
  refine while_hold (λσ' G'=>σ'=[some (.ref p),some (.ref t),none,none]/\∃ stk:List Fm,Gd T G' p S N stk kv { m with sg:=.non }/\SigAt G' t (.faults fa [])/\K3 m H G') ?_ ?_
  ·rintro σ' G ⟨rfl,stk,GG,hg,kn⟩
   obtain ⟨base,x,rfl⟩:=GG.lst
   have M:=GG.at_
   have F:=M.fr x mlast
   have hf:=M.fl
   rw [List.map_append] at hf
   have hl:(base++[x]).length<=100:=Nat.le_trans GG.ln (by omega)
   walk_at "sy"
   refine M.ob.fld (l:=.frames) rfl rfl ⟨m.fl,_,_,.ref x.a,rfl,rfl,SqL.of hf,atI_last _ _,x.c,x.a,rfl,F.mt nf_meets ⟨x.a,t,x.s,.faults fa [],rfl,F,hg,λe=>(GG.fr x mlast).sc (.inl e),λG2 s2=>⟨rfl,?_⟩⟩⟩
   have GG2:=GG.same s2
   have M2:=GG2.at_
   have F2:=F.same s2
   have hg2:=hg.same s2
   have g2:=GG2.fr x mlast
   have kn2:K3 m H G2:=kn.trans (K3.of s2)
   have np:p≠x.a:=λz=>(List.nodup_cons.mp M.nd).1 (List.mem_map.mpr ⟨x,mlast,z.symm⟩)
   obtain ⟨_,_,hp2,_⟩:=M2.ob.ex
   obtain ⟨_,_,hx2,_⟩:=F2.fr.ex
   rcases meets5 x.c x.s (.faults fa []) with e | ⟨e,ec⟩ | ⟨e,ec⟩ | ⟨e,ec⟩ | ⟨e,ec,z,r,eg⟩
   ·rw [e]
    refine ifF (λz=>absurd (V.str.inj z) (by decide +kernel)) ⟨rfl,ifF (λz=>absurd (V.str.inj z) (by decide +kernel)) ⟨rfl,ifT rfl (M2.ob.call ?_)⟩⟩
    obtain ⟨u,h1,h2⟩:=hg2
    refine ⟨t,_,_,.str "faults",rfl,rfl,SqT.of h1,atI_nat (j:=0) rfl,rfl,ifT rfl ⟨p,_,t,rfl,M2.ob,λH' w0 l b F' hl0 hw=>?_⟩⟩
    exact k _ _ (λz=>nomatch z) ⟨w0,_,_,_,rfl,hw,kn2.trans (K3.but b hp2),.inl ⟨rfl,F',hl0⟩⟩
   ·have hcl:x.s.cleaning=false:=by
     rw [ec] at e
     cases hc:x.s.cleaning with
     |false=>rfl
     |true =>
      have e':(if x.s.cleaning=true then ("out":Str) else "clean")="clean":=e
      rw [if_pos hc] at e'
      exact absurd e' (by decide +kernel)
    rw [e]
    have F2':=F2
    rw [ec] at F2'
    refine ifT rfl (M2.ob.call ⟨p,.ref t,x.a,x.s,rfl,F2',λH' w0 b F' hw=>?_⟩)
    have k4:K3 m G2 H':=K3.but b hx2
    have kt4:=ktm M2 k4
    have M3:MAt T H' p (base++[⟨x.a,x.c,cleanS x.s (.ref t)⟩]) kv [] { m with sg:=.non }:=M2.byX b (by rw [ec];exact F') rfl
    exact k _ _ (λz=>nomatch z) (Res.plain hw (kn2.trans k4) ((GG2.last M3 kt4 ((g2.kt kt4).clean ec hcl (.inr ⟨t,fa,rfl,hg2.kt kt4⟩)) (.inl rfl) GG2.st (.inl rfl)).up (Nat.le_succ _)) rfl rfl rfl hwt)
   ·rw [e]
    have F2':=F2
    rw [ec] at F2'
    refine ifF (λz=>absurd (V.str.inj z) (by decide +kernel)) ⟨rfl,ifT rfl (M2.ob.call ⟨p,x.a,t,_,x.s,.faults fa [],rfl,M2.ob,np,F2',hg2,λH' w0 u a b hw hu F' O'=>?_⟩)⟩
    have k4:K3 m G2 H':=K3.two b hp2 hx2
    have kt4:=ktm M2 k4
    have M3:MAt T H' p (base++[⟨x.a,x.c,haltS x.s a t (.faults fa [])⟩]) kv [] { m with sg:=.non,wt:=.ref w0 }:=M2.byPX b (by rw [ec];exact F') rfl O' rfl rfl rfl
    exact k _ _ (λz=>nomatch z) ⟨w0, "halt",_,_,rfl,hw,kn2.trans k4,.inr ⟨by decide +kernel,_,kv,(GG2.last M3 kt4 ((g2.kt kt4).halt ec) (.inl rfl) GG2.st (.inl rfl)).up (Nat.le_succ _),rfl,rfl,rfl,.inl ⟨.inr rfl,base,_,rfl,ec⟩⟩⟩
   ·rw [ec] at e
    exact absurd e (show ("out":Str)≠"late" by decide +kernel)
   ·have hb:base≠[]:=λe'=>by
     subst e'
     have:=GG.bt x rfl
     rw [ec] at this
     cases this
    rw [e]
    refine ifF (λz=>absurd (V.str.inj z) (by decide +kernel)) ⟨rfl,ifF (λz=>absurd (V.str.inj z) (by decide +kernel)) ⟨rfl,ifF (λz=>absurd (V.str.inj z) (by decide +kernel)) (M2.ob.call ⟨p,base,x,kv,[],_,rfl,M2,λG3 kp M3=>?_⟩)⟩⟩
    rw [leave_nil] at M3
    have k3:K3 m G2 G3:=K3.kn (Kn.two kp)
    obtain ⟨dy,gs,h2,h4⟩:=F2.fr.ex
    have h3:=kp _ _ (ne_of h2 M2.fl (λz=>nomatch z)) (ne_of h2 M2.mr (λz=>nomatch z)) h2
    have F3:FrAt T 11 x.c G3 x.a (gOf x.c x.s):=⟨dy,gs,h3,h4⟩
    have ho3:=(ktm M2 k3) _ _ F2.os
    have go:gOf x.c x.s .others=some (.ref x.s.oa):=by rw [ec];rfl
    refine M3.ob.fld (l:=.frames) rfl rfl ⟨.inl ⟨_,SqL.of M3.fl⟩,F3.fld (l:=.others) rfl go (F3.fld (l:=.line) rfl rfl λy dx ny ndx ney=>?_)⟩
    obtain ⟨F0,s0⟩:=mk_new (T:=T) (c:=.frame) ny ndx ney
    refine ⟨.frame,y,x.s.oa,x.s.others,.int x.s.line,.non,rfl,F0,s0 _ _ ho3,λH4 b4 F4=>⟨rfl,?_⟩⟩
    have s4:=same_new ny s0 b4
    have FF:FAt T .frame H4 y (plainS x.s):=frm_of (.inl rfl) ⟨rfl,rfl,rfl,rfl,rfl,rfl,s4 _ _ ho3,s4 _ _ ho3,F2.ol,F2.ol⟩ F4
    have M5:=M3.push (x:=⟨y,.frame,plainS x.s⟩) s4 ny FF (.inl rfl)
    have el:(base++[(⟨y,.frame,plainS x.s⟩:Fm)]).map (λx=>V.ref x.a)=base.map (λx=>V.ref x.a)++[V.ref y]:=by simp
    rw [el] at M5
    refine ⟨m.fl,_,_,rfl,rfl,s4 _ _ M3.fl,by rw [List.length_map];rw [List.length_append] at hl;exact small1000 (by omega),rfl,ifF (λz=>absurd (V.str.inj z) (by decide +kernel)) ?_⟩
    have F5:FrAt T 11 x.c (upd H4 m.fl (.lst (base.map (λx=>V.ref x.a)++[V.ref y]))) x.a (gOf x.c x.s):=⟨dy,gs,by rw [upd_ne (ne_of (s4 _ _ h3) (s4 _ _ M3.fl) (λz=>nomatch z))];exact s4 _ _ h3,h4⟩
    have k5:K3 m G2 (upd H4 m.fl (.lst (base.map (λx=>V.ref x.a)++[V.ref y]))):=(k3.trans (K3.of s4)).trans (K3.fl λc o n1 h=>by rw [upd_ne n1];exact h)
    obtain ⟨u,g1,g2'⟩:=hg2.kt (ktm M2 k5)
    refine F5.fld (l:=.line) rfl rfl ⟨t,_,_,.ref u,rfl,rfl,SqT.of g1,atI_nat (j:=1) rfl,(by show (3:Nat)<=sizeLine;decide),λw0 hw=>?_⟩
    have sw:=Same.upd (o:=.tup [V.str "caught",.int x.s.line,.ref u]) hw
    have kt5:=(ktm M2 k5).trans (.of sw)
    exact k _ _ (λz=>nomatch z) (Res.plain upd_same (kn2.trans (k5.trans (K3.of sw))) ((GG2.last (M5.same sw) kt5 ((g2.kt kt5).plain (.inl ec)) (.inl rfl) GG2.st (.inr hb)).up (Nat.le_succ _)) rfl rfl rfl hwt)
  ·intro U hU
   refine ⟨λk' σ G=>σ=[some (.ref p),some (.ref t),none,none]/\∃ stk:List Fm,k'=stk.length/\Gd T G p S N stk kv { m with sg:=.non }/\SigAt G t (.faults fa [])/\K3 m H G,⟨_,rfl,stk0,rfl,G1,ht1,k1⟩,?_⟩
   rintro k' σ G ⟨rfl,stk,rfl,GG,hg,kn⟩
   obtain ⟨base,x,rfl⟩:=GG.lst
   have M:=GG.at_
   have F:=M.fr x mlast
   have hf:=M.fl
   rw [List.map_append] at hf
   walk_at "sy"
   refine M.ob.fld (l:=.frames) rfl rfl ⟨_,.inl ⟨_,SqL.of M.fl,rfl⟩,?_⟩
   by_cases c1:(1:Int)<(((base++[x]).map λx=>V.ref x.a).length:Nat)
   ·refine ifT c1 ⟨x.c,M.ob.fld (l:=.frames) rfl rfl ⟨m.fl,_,_,.ref x.a,rfl,rfl,SqL.of hf,atI_last _ _,x.a,rfl,F.mt nf_meets ⟨x.a,t,x.s,.faults fa [],rfl,F,hg,λe=>(GG.fr x mlast).sc (.inl e),λG2 s2=>⟨rfl,?_⟩⟩⟩⟩
    have GG2:=GG.same s2
    have M2:=GG2.at_
    by_cases eo:meetsF x.c x.s (.faults fa [])="out"
    ·have hb:base≠[]:=λe=>by
      rw [e] at c1
      exact absurd c1 (by show ¬ (1:Int)<((1:Nat):Int);decide)
     refine ifT (by rw [eo]) ⟨_,λ_ _ h=>h,M2.ob.call ⟨p,base,x,kv,[],_,rfl,M2,λG3 kp M3=>?_⟩⟩
     rw [leave_nil] at M3
     have k3:K3 m G2 G3:=K3.kn (Kn.two kp)
     have kt3:=ktm M2 k3
     exact ⟨base.length,by rw [List.length_append];exact Nat.lt_succ_self _,rfl,base,rfl,GG2.pop M3 kt3 hb (.inl rfl) GG2.st,(hg.same s2).kt kt3,(kn.trans (K3.of s2)).trans k3⟩
    ·exact ifF (λz=>eo (V.str.inj z)) (hU _ _ ⟨rfl,_,GG2,hg.same s2,kn.trans (K3.of s2)⟩)
   ·exact ifF c1 (iteF (hU _ _ ⟨rfl,_,GG,hg,kn⟩))
theorem sc_Machine_step:FnScope ["self", "told"] ["self"] (defScope (inClass (top 17) 13)):=⟨rfl,rfl,rfl,by decide +kernel,rfl,by decide +kernel,by decide +kernel⟩
theorem ok_Machine_step (T:Tx P w K mg)
  (G_Machine_target:FnOk P w K mg base CX0 2 T.m_Machine_target.f T.m_Machine_target.fd ["self"] (spTarget T))
  (G_Machine_go_on:FnOk P w K mg base CX0 6 T.m_Machine_go_on.f T.m_Machine_go_on.fd ["self"] (spGoOn T))
  (G_Machine_send_out:FnOk P w K mg base CX0 4 T.m_Machine_send_out.f T.m_Machine_send_out.fd ["self"] (spSendOut T)):FnOk P w K mg base CX0 7 T.m_Machine_step.f T.m_Machine_step.fd ["self"] (spStep T):=by
 refine T.m_Machine_step.F.ok sc_Machine_step (λvs H Q E h=>?_) (λcdv A outer s H vs Q E hr h=>?_)
 ·obtain ⟨p,S,N,stk,kv,m,rfl,_⟩:=h
  rfl
 ·obtain ⟨p,S,N,stk0,kv,m,rfl,G0,hN,hwt,k⟩:=h
  have hu:=hu100 hr
  have hu1:=hu_of hr
  refine ⟨_,(pss_cons (ps_if (pt_val (pe_fld (pv 0) rfl))
  (pss_cons (ps_fld (pv 0) pe_bl rfl)
  (pss_one (ps_fld (pv 0) (pe_tup (pa_cons pe_str (pa_cons (pe_meth0 (pv 0) T.k_Machine T.m_Machine_target.me G_Machine_target (hr.mono (by omega)) T.m_Machine_target.b .nil pass0) pa_nil))) rfl)))
  pss_nil)
  (pss_cons (ps_while PassesOwn.never (pt_cmpR op_isN (pe_fld (pv 0) rfl) pe_non (nomark _))
  (pss_cons (ps_set (i:=1) sc_Machine_step.nd rfl (Or.inl rfl) (pe_meth0 (pv 0) T.k_Machine T.m_Machine_go_on.me G_Machine_go_on (hr.mono (by omega)) T.m_Machine_go_on.b .nil pass0))
  (pss_one (ps_if (pt_cmpR op_notN (pv 1) pe_non (nomark _))
  (pss_one (ps_ret (pv 1)))
  pss_nil))))
  (pss_one (ps_ret (pe_meth0 (pv 0) T.k_Machine T.m_Machine_send_out.me G_Machine_send_out (hr.mono (by omega)) T.m_Machine_send_out.b .nil pass0))))),?_⟩
  walk_at "sy"
  have M0:=G0.at_
  refine M0.ob.fld (l:=.struck) rfl (show some (V.bl m.st)=some (.bl false) by rw [G0.st]) ⟨_,rfl,bF rfl ?_⟩
  refine ⟨λk' σ G=>∃ (v1:Option V) (stk:List Fm) (m':Mc),σ=[some (.ref p),v1]/\k'=mz stk/\Gd T G p S N stk kv m'/\m'.wt=.non/\m'.fl=m.fl/\m'.nv=m.nv/\m'.mr=m.mr/\K3 m H G,⟨_,_,stk0,m,rfl,rfl,G0,hwt,rfl,rfl,rfl,K3.refl _ _⟩,?_⟩
  rintro k' σ G ⟨v1,stk,m',rfl,rfl,GG,hw,e1,e2,e3,kn⟩
  have M:=GG.at_
  walk_at "sy"
  by_cases c:m'.sg=.non
  ·refine M.ob.fld (l:=.signal) rfl (show some m'.sg=some .non by rw [c]) (bT (by simp) ⟨_,λ_ _ h=>h,?_⟩)
   refine M.ob.call ⟨p,S,N,stk,kv,m',rfl,GG,hN,c,hw,λv H' hv R=>bT (by simp [hv]) (k v H' hv (R.pre kn e1 e2 e3)),λH' stk' m2 k2 G2 hlt hw2 f1 f2 f3=>bF (by simp) ?_⟩
   have k2':K3 m G H':=λc o n1 n2 n3=>k2 c o (by rw [e1];exact n1) (by rw [e2];exact n2) (by rw [e3];exact n3)
   exact ⟨mz stk',hlt,_,rfl,stk',rfl,m2,G2,hw2,f1.trans e1,f2.trans e2,f3.trans e3,kn.trans k2'⟩
  ·obtain ⟨t,fa,et,_⟩:=GG.sg.resolve_left c
   refine M.ob.fld (l:=.signal) rfl (show some m'.sg=some (.ref t) by rw [et]) (bF (by simp) ?_)
   exact M.ob.call ⟨p,S,N,stk,kv,m',rfl,GG,hN,c,hw,λv H' hv R=>k v H' hv (R.pre kn e1 e2 e3)⟩
theorem sc_l_held:FnScope ["_law_held_here", "_law_pair"] ["_law_held_here"] (defScope (top 20)):=⟨rfl,rfl,rfl,by decide +kernel,rfl,by decide +kernel,by decide +kernel⟩
theorem ok_l_held (T:Tx P w K mg):FnOk P w K mg base CX0 1 T.d_l_held.f T.d_l_held.fd ["_law_held_here"] (spHeld K):=by
 refine T.d_l_held.F.ok sc_l_held (λvs H Q E h=>?_) (λcdv A outer s H vs Q E hr h=>?_)
 ·obtain ⟨f,h,n,rfl,_⟩:=h
  rfl
 ·obtain ⟨f,h,n,rfl,A0,hn,k⟩:=h
  have hu:=hu100 hr
  refine ⟨_,(pss_cons (ps_for PassesOwn.never rfl (pi_list (pv 0)) (pg_name (i:=1) sc_l_held.nd rfl (Or.inl rfl))
  (pss_one (ps_if (pt_cmpR (op_neL hu) (pe_ix ix_tup (pv 1) pe_int (λ_ _=>rfl)) (pe_ix ix_tup (pv 1) pe_int (λ_ _=>rfl)) (nomark _))
  (pss_one (ps_ret pe_bl))
  pss_nil)))
  (pss_one (ps_ret pe_bl))),?_⟩
  obtain ⟨ts,h1,h2,h3⟩:=A0.ex
  walk_at "sw"
  refine ⟨_,rfl,h,rfl,⟨_,SqL.of h1⟩,?_⟩
  refine for_list (K:=K) (a:=h) (xs:=ts.map V.ref) (λi σ G=>∃ o:Option V,σ=[some (.ref h),o]/\Same H G) ⟨none,rfl,Same.refl _⟩ (λi σ G _ ⟨_,_,s⟩=>SqL.of (s _ _ h1)) ?_ ?_
  ·rintro i y σ G hi ⟨o,rfl,s⟩
   rw [List.getElem?_map] at hi
   cases eb:ts[i]? with
   |none=>rw [eb] at hi;cases hi
   |some t =>
    rw [eb] at hi
    cases hi
    obtain ⟨a,b,xs,e1,e2,e3,_,_,_,_,hx⟩:=h3 t (List.mem_of_getElem? eb)
    walk_at "sy"
    refine ⟨t,_,_,.ref a,rfl,rfl,SqT.of (s _ _ e1),atI_nat (j:=0) rfl,t,_,_,.ref b,rfl,rfl,SqT.of (s _ _ e1),atI_nat (j:=1) rfl,?_⟩
    exact neSame (s _ _ e2) (s _ _ e3) hx ⟨_,rfl,bF rfl s⟩
  ·rintro σ G ⟨o,rfl,s⟩
   exact k G s
theorem sc_l_mixed:FnScope ["_law_cell", "_law_k", "_law_mixed_here"] ["_law_cell", "_law_k"] (defScope (top 21)):=⟨rfl,rfl,rfl,by decide +kernel,rfl,by decide +kernel,by decide +kernel⟩
theorem ok_l_mixed (T:Tx P w K mg):FnOk P w K mg base CX0 1 T.d_l_mixed.f T.d_l_mixed.fd ["_law_cell", "_law_k"] (spMixed):=by
 refine T.d_l_mixed.F.ok sc_l_mixed (λvs H Q E h=>?_) (λcdv A outer s H vs Q E hr h=>?_)
 ·obtain ⟨c,k,rfl,_⟩:=h
  rfl
 ·obtain ⟨c,k,rfl,h0,h1,kk⟩:=h
  refine ⟨_,(pss_cons (ps_set (i:=2) sc_l_mixed.nd rfl (Or.inl rfl) (pe_op op_mod (pe_op op_mul (pe_op op_add (pe_op op_add (pv 0) (pe_op op_mul pe_int (pv 1))) (pe_op op_mul (pe_op op_mul pe_int (pv 1)) (pv 1))) pe_int) pe_int))
  (pss_one (ps_ret (pe_op op_mod (pe_op op_mul (pv 2) (pe_op op_add (pe_op op_add (pe_op op_mod (pv 2) pe_int) (pv 1)) pe_int)) pe_int)))),?_⟩
  walk_at "sy"
  have e1:=Int.emod_nonneg ((c+7919*k+104729*k*k)*48271) (show (2147483647:Int)≠0 by decide)
  have e2:=Int.emod_lt_of_pos ((c+7919*k+104729*k*k)*48271) (show (0:Int)<2147483647 by decide)
  exact ⟨.inl ⟨by decide,by decide⟩,.inl ⟨by decide,by decide⟩,.inr ⟨by omega,by omega⟩,.inr ⟨by decide,by decide⟩,by decide,by decide,.inl ⟨by omega,by omega⟩,by decide,kk _ (Int.emod_nonneg _ (by decide)) (Int.emod_lt_of_pos _ (by decide))⟩
theorem sc_l_pick:FnScope ["_law_state", "_law_many", "_law_script", "_law_cell"] ["_law_state", "_law_many"] (defScope (top 22)):=⟨rfl,rfl,rfl,by decide +kernel,rfl,by decide +kernel,by decide +kernel⟩
theorem ok_l_pick (T:Tx P w K mg)
  (G_l_mixed:FnOk P w K mg base CX0 1 T.d_l_mixed.f T.d_l_mixed.fd ["_law_cell", "_law_k"] (spMixed)):FnOk P w K mg base CX0 2 T.d_l_pick.f T.d_l_pick.fd ["_law_state", "_law_many"] (spPick K):=by
 refine T.d_l_pick.F.ok sc_l_pick (λvs H Q E h=>?_) (λcdv A outer s H vs Q E hr h=>?_)
 ·obtain ⟨d,n,C,rfl,_⟩:=h
  rfl
 ·obtain ⟨d,n,C,rfl,D,hC,hn,k⟩:=h
  have hu:=hu100 hr
  have hu1:=hu_of hr
  refine ⟨_,(pss_cons (ps_dput hu1 (pv 0) pe_str (pe_op op_add (pe_dget hu1 (pv 0) pe_str (λ_ _=>rfl)) pe_int) rfl)
  (pss_cons (ps_set (i:=2) sc_l_pick.nd rfl (Or.inl rfl) (pe_dget hu1 (pv 0) pe_str (λ_ _=>rfl)))
  (pss_cons (ps_set (i:=3) sc_l_pick.nd rfl (Or.inl rfl) pe_int)
  (pss_cons (ps_if (pt_cmpR (op_neL hu) (pv 2) (pe_lst pa_nil) (nomark _))
  (pss_one (ps_set (i:=3) sc_l_pick.nd rfl (Or.inl rfl) (pe_ix ix_list (pv 2) (pe_op op_mod (pe_op op_mul (pe_dget hu1 (pv 0) pe_str (λ_ _=>rfl)) pe_int) (pe_callB call_len (by rfl) T.n_len bt_len (pa_cons (pv 2) pa_nil))) (λ_ _=>rfl))))
  pss_nil)
  (pss_one (ps_ret (pe_op op_mod (pe_op op_fdiv (pe_call G_l_mixed (hr.mono (by omega)) rfl T.d_l_mixed.hm T.d_l_mixed.F.kp T.d_l_mixed.b .nil pass0 (pa_cons (pv 3) (pa_cons (pe_dget hu1 (pv 0) pe_str (λ_ _=>rfl)) pa_nil))) pe_int) (pv 1)))))))),?_⟩
  obtain ⟨a,ns,c,l,g1,hs,hl,g2,c0,cC,_,pt,_⟩:=D.get
  walk_at "sy"
  simp only [sDPut,tOp,tC,tDGet,tVar]
  obtain ⟨H2,p2,b2,q1,q2,hs2⟩:=pt (by omega)
  refine ⟨_,rfl,d,_,rfl,g2,_,_,rfl,rfl,_,rfl,d,H2,rfl,p2,?_⟩
  walk_at "sd"
  refine ⟨_,q1,by decide,λp hp=>?_⟩
  have s3:=Same.upd (o:=.lst []) hp
  have hp3:(upd H2 p (.lst [])) p=some (.lst []):=upd_same
  generalize upd H2 p (.lst [])=H3 at s3 hp3 |-
  have hs3:=sql_same hs2 s3
  have q23:=dget_same (k:=(.inr "at":Key)) q2 s3
  have hC':C+1<=1000000000:=hC
  have fin:∀ x:Int,spMixed [.int x,.int (c+1)] H3 (λx H1=>∃ i,x=V.int i/\CDiv i 8/\0<n/\Q (V.int (i / 8%n)) H1) E0:=λx =>
   ⟨x,c+1,rfl,by omega,by omega,λr r0 r1=>⟨r,rfl,⟨by decide,by decide⟩,by omega,k _ _ (Int.emod_nonneg _ (by omega)) (Int.emod_lt_of_pos _ (by omega)) (b2.s s3)⟩⟩
  refine eqL_nil hs3 hp3 ⟨_,rfl,?_⟩
  by_cases e:ns=[]
  ·refine bF (by rw [e];rfl) ⟨_,q23,fin 0⟩
  ·refine bT (by simp [e]) ⟨_,q23,_,rfl,.inr ⟨by decide,by decide⟩,_,.inl ⟨_,hs3,rfl⟩,?_,?_⟩
   ·rw [List.length_map]
    have:=List.length_pos_iff.mpr e
    omega
   ·obtain ⟨j,y,hj,e1,_⟩:=pick_at e ((c+1)*7)
    rw [List.length_map,e1]
    exact ⟨a,_,_,.int y,rfl,rfl,hs3,atI_nat (by rw [List.getElem?_map,hj];rfl),_,q23,fin y⟩
theorem sc_l_line:FnScope ["_law_state"] ["_law_state"] (defScope (top 23)):=⟨rfl,rfl,rfl,by decide +kernel,rfl,by decide +kernel,by decide +kernel⟩
theorem ok_l_line (T:Tx P w K mg):FnOk P w K mg base CX0 1 T.d_l_line.f T.d_l_line.fd ["_law_state"] (spLine K):=by
 refine T.d_l_line.F.ok sc_l_line (λvs H Q E h=>?_) (λcdv A outer s H vs Q E hr h=>?_)
 ·obtain ⟨d,C,rfl,_⟩:=h
  rfl
 ·obtain ⟨d,C,rfl,D,k⟩:=h
  have hu:=hu100 hr
  have hu1:=hu_of hr
  refine ⟨_,(pss_cons (ps_dput hu1 (pv 0) pe_str (pe_op op_add (pe_dget hu1 (pv 0) pe_str (λ_ _=>rfl)) pe_int) rfl)
  (pss_one (ps_ret (pe_dget hu1 (pv 0) pe_str (λ_ _=>rfl))))),?_⟩
  obtain ⟨a,ns,c,l,_,_,_,_,_,_,g3,_,H2,p2,b2,q2⟩:=D.get
  walk_at "sy"
  simp only [sDPut,tOp,tC,tDGet,tVar]
  refine ⟨_,rfl,d,_,rfl,g3,_,_,rfl,rfl,_,rfl,d,H2,rfl,p2,?_⟩
  walk_at "sd"
  exact ⟨_,q2,k _ _ b2⟩
theorem sc_l_value:FnScope ["_law_state"] ["_law_state"] (defScope (top 24)):=⟨rfl,rfl,rfl,by decide +kernel,rfl,by decide +kernel,by decide +kernel⟩
theorem ok_l_value (T:Tx P w K mg)
  (G_l_pick:FnOk P w K mg base CX0 2 T.d_l_pick.f T.d_l_pick.fd ["_law_state", "_law_many"] (spPick K)):FnOk P w K mg base CX0 3 T.d_l_value.f T.d_l_value.fd ["_law_state"] (spValue K):=by
 refine T.d_l_value.F.ok sc_l_value (λvs H Q E h=>?_) (λcdv A outer s H vs Q E hr h=>?_)
 ·obtain ⟨d,C,rfl,_⟩:=h
  rfl
 ·obtain ⟨d,C,rfl,D,hC,k⟩:=h
  have hu1:=hu_of hr
  refine ⟨_,(pss_one (ps_ret (pe_ix ix_list (pe_lst (pa_cons (pe_call G_l_pick (hr.mono (by omega)) rfl T.d_l_pick.hm T.d_l_pick.F.kp T.d_l_pick.b .nil pass0 (pa_cons (pv 0) (pa_cons pe_int pa_nil))) (pa_cons pe_str (pa_cons pe_str (pa_cons pe_str (pa_cons pe_str (pa_cons pe_int pa_nil))))))) (pe_call G_l_pick (hr.mono (by omega)) rfl T.d_l_pick.hm T.d_l_pick.F.kp T.d_l_pick.b .nil pass0 (pa_cons (pv 0) (pa_cons pe_int pa_nil))) (λ_ _=>rfl)))),?_⟩
  walk_at "sy"
  refine ⟨d,3,C,rfl,D,by omega,by decide,λx H1 _ _ b1=>⟨by decide,λp hp=>?_⟩⟩
  have s1:=Same.upd (o:=.lst [V.int x,V.str "x",V.str "y",V.str ":off",V.str ":boom",V.int 999999]) hp
  have b1':=b1.s s1
  refine ⟨d,6,C+1,rfl,b1'.dr,by omega,by decide,λy H2 y0 y1 b2=>?_⟩
  refine ixAny (SqL.of (b2.lst b1'.dr upd_same)) y0 y1 λv hv=>k v H2 ?_ (b1'.trans b2)
  simp only [List.mem_cons,List.not_mem_nil,or_false] at hv
  rcases hv with rfl | rfl | rfl | rfl | rfl | rfl<;>first | exact .inl ⟨_,rfl⟩ | exact .inr ⟨_,rfl⟩
theorem sc_l_clean:FnScope ["_law_state", "_law_line_here"] ["_law_state"] (defScope (top 25)):=⟨rfl,rfl,rfl,by decide +kernel,rfl,by decide +kernel,by decide +kernel⟩
theorem ok_l_clean (T:Tx P w K mg)
  (G_l_line:FnOk P w K mg base CX0 1 T.d_l_line.f T.d_l_line.fd ["_law_state"] (spLine K))
  (G_l_value:FnOk P w K mg base CX0 3 T.d_l_value.f T.d_l_value.fd ["_law_state"] (spValue K))
  (G_l_pick:FnOk P w K mg base CX0 2 T.d_l_pick.f T.d_l_pick.fd ["_law_state", "_law_many"] (spPick K)):FnOk P w K mg base CX0 4 T.d_l_clean.f T.d_l_clean.fd ["_law_state"] (spClean_ K):=by
 refine T.d_l_clean.F.ok sc_l_clean (λvs H Q E h=>?_) (λcdv A outer s H vs Q E hr h=>?_)
 ·obtain ⟨d,C,rfl,_⟩:=h
  rfl
 ·obtain ⟨d,C,rfl,D,hC,k⟩:=h
  have hu1:=hu_of hr
  refine ⟨_,(pss_cons (ps_set (i:=1) sc_l_clean.nd rfl (Or.inl rfl) (pe_call G_l_line (hr.mono (by omega)) rfl T.d_l_line.hm T.d_l_line.F.kp T.d_l_line.b .nil pass0 (pa_cons (pv 0) pa_nil)))
  (pss_one (ps_ret (pe_ix ix_list (pe_lst (pa_cons (pe_tup (pa_cons pe_str (pa_cons (pv 1) (pa_cons pe_str pa_nil)))) (pa_cons (pe_tup (pa_cons pe_str (pa_cons (pv 1) (pa_cons pe_str (pa_cons (pe_call G_l_value (hr.mono (by omega)) rfl T.d_l_value.hm T.d_l_value.F.kp T.d_l_value.b .nil pass0 (pa_cons (pv 0) pa_nil)) pa_nil))))) (pa_cons (pe_tup (pa_cons pe_str (pa_cons (pv 1) (pa_cons pe_int pa_nil)))) (pa_cons (pe_tup (pa_cons pe_str (pa_cons (pv 1) (pa_cons pe_str (pa_cons (pe_call G_l_value (hr.mono (by omega)) rfl T.d_l_value.hm T.d_l_value.F.kp T.d_l_value.b .nil pass0 (pa_cons (pv 0) pa_nil)) pa_nil))))) pa_nil))))) (pe_call G_l_pick (hr.mono (by omega)) rfl T.d_l_pick.hm T.d_l_pick.F.kp T.d_l_pick.b .nil pass0 (pa_cons (pv 0) (pa_cons pe_int pa_nil))) (λ_ _=>rfl))))),?_⟩
  walk_at "sy"
  refine ⟨d,C,rfl,D,λln H1 b1=>⟨by decide,λp1 h1=>?_⟩⟩
  have s1:=Same.upd (o:=.tup [V.str "ring",.int ln,.str "bell"]) h1
  have b1':=b1.s s1
  have t1:(upd H1 p1 (.tup [V.str "ring",.int ln,.str "bell"])) p1=some (.tup [V.str "ring",.int ln,.str "bell"]):=upd_same
  generalize upd H1 p1 (.tup [V.str "ring",.int ln,.str "bell"])=G1 at s1 b1' t1 |-
  refine ⟨d,C,rfl,b1'.dr,by omega,λv1 H2 hv1 b2=>⟨by decide,λp2 h2=>⟨by decide,λp3 h3=>?_⟩⟩⟩
  have s2:=Same.upd (o:=.tup [V.str "send",.int ln,.str "box",v1]) h2
  have t2:(upd H2 p2 (.tup [V.str "send",.int ln,.str "box",v1])) p2=some (.tup [V.str "send",.int ln,.str "box",v1]):=upd_same
  generalize upd H2 p2 (.tup [V.str "send",.int ln,.str "box",v1])=G2 at s2 t2 h3 |-
  have s3:=Same.upd (o:=.tup [V.str "wait",.int ln,.int 2]) h3
  have t3:(upd G2 p3 (.tup [V.str "wait",.int ln,.int 2])) p3=some (.tup [V.str "wait",.int ln,.int 2]):=upd_same
  generalize upd G2 p3 (.tup [V.str "wait",.int ln,.int 2])=G3 at s3 t3 |-
  have b2':=(b1'.trans b2).s (s2.trans s3)
  refine ⟨d,C+2,rfl,b2'.dr,by omega,λv2 H3 hv2 b3=>⟨by decide,λp4 h4=>⟨by decide,λp5 h5=>?_⟩⟩⟩
  have s4:=Same.upd (o:=.tup [V.str "let",.int ln,.str "x",v2]) h4
  have t4:(upd H3 p4 (.tup [V.str "let",.int ln,.str "x",v2])) p4=some (.tup [V.str "let",.int ln,.str "x",v2]):=upd_same
  generalize upd H3 p4 (.tup [V.str "let",.int ln,.str "x",v2])=G4 at s4 t4 h5 |-
  have s5:=Same.upd (o:=.lst [V.ref p1,V.ref p2,V.ref p3,V.ref p4]) h5
  have t5:(upd G4 p5 (.lst [V.ref p1,V.ref p2,V.ref p3,V.ref p4])) p5=some (.lst [V.ref p1,V.ref p2,V.ref p3,V.ref p4]):=upd_same
  generalize upd G4 p5 (.lst [V.ref p1,V.ref p2,V.ref p3,V.ref p4])=G5 at s5 t5 |-
  have b3':=(b2'.trans b3).s (s4.trans s5)
  refine ⟨d,4,C+2+2,rfl,b3'.dr,by omega,by decide,λy H6 y0 y1 b6=>?_⟩
  have k6:=b6.kt b3'.dr
  have r3:KT G3 H6:=((b3.kt b2'.dr).trans (.of (s4.trans s5))).trans k6
  have e1:=r3 _ _ ((s2.trans s3) _ _ ((b2.kt b1'.dr) _ _ t1))
  have e2:=r3 _ _ (s3 _ _ t2)
  have e3:=r3 _ _ t3
  have e4:=k6 _ _ (s5 _ _ t4)
  refine ixAny (SqL.of (b6.lst b3'.dr t5)) y0 y1 λv hv=>?_
  simp only [List.mem_cons,List.not_mem_nil,or_false] at hv
  rcases hv with rfl | rfl | rfl | rfl
  ·exact k _ _ H6 (row0 e1 (.ring _)) (b3'.trans b6)
  ·exact k _ _ H6 (row0 e2 (.send _ _ hv1)) (b3'.trans b6)
  ·exact k _ _ H6 (row0 e3 (.wait _ _)) (b3'.trans b6)
  ·exact k _ _ H6 (row0 e4 (.let_ _ _ _ hv2)) (b3'.trans b6)
theorem sc_l_simple:FnScope ["_law_state", "_law_groups", "_law_line_here", "_law_kind"] ["_law_state", "_law_groups"] (defScope (top 26)):=⟨rfl,rfl,rfl,by decide +kernel,rfl,by decide +kernel,by decide +kernel⟩
theorem ok_l_simple (T:Tx P w K mg)
  (G_l_line:FnOk P w K mg base CX0 1 T.d_l_line.f T.d_l_line.fd ["_law_state"] (spLine K))
  (G_l_value:FnOk P w K mg base CX0 3 T.d_l_value.f T.d_l_value.fd ["_law_state"] (spValue K))
  (G_l_pick:FnOk P w K mg base CX0 2 T.d_l_pick.f T.d_l_pick.fd ["_law_state", "_law_many"] (spPick K)):FnOk P w K mg base CX0 4 T.d_l_simple.f T.d_l_simple.fd ["_law_state", "_law_groups"] (spSimple K):=by
 refine T.d_l_simple.F.ok sc_l_simple (λvs H Q E h=>?_) (λcdv A outer s H vs Q E hr h=>?_)
 ·obtain ⟨d,g,zs,C,rfl,_⟩:=h
  rfl
 ·obtain ⟨d,g,zs,C,rfl,D,hC,hg,hz,k⟩:=h
  have hu:=hu100 hr
  have hu1:=hu_of hr
  refine ⟨_,(pss_cons (ps_set (i:=2) sc_l_simple.nd rfl (Or.inl rfl) (pe_call G_l_line (hr.mono (by omega)) rfl T.d_l_line.hm T.d_l_line.F.kp T.d_l_line.b .nil pass0 (pa_cons (pv 0) pa_nil)))
  (pss_cons (ps_set (i:=3) sc_l_simple.nd rfl (Or.inl rfl) (pe_call G_l_pick (hr.mono (by omega)) rfl T.d_l_pick.hm T.d_l_pick.F.kp T.d_l_pick.b .nil pass0 (pa_cons (pv 0) (pa_cons pe_int pa_nil))))
  (pss_mid (ps_if (pt_cmpR op_lt (pv 3) pe_int (nomark _))
  (pss_one (ps_ret (pe_ix ix_list (pe_lst (pa_cons (pe_tup (pa_cons pe_str (pa_cons (pv 2) (pa_cons (pe_op op_add pe_int (pe_call G_l_pick (hr.mono (by omega)) rfl T.d_l_pick.hm T.d_l_pick.F.kp T.d_l_pick.b .nil pass0 (pa_cons (pv 0) (pa_cons pe_int pa_nil)))) pa_nil)))) (pa_cons (pe_tup (pa_cons pe_str (pa_cons (pv 2) (pa_cons pe_str pa_nil)))) (pa_cons (pe_tup (pa_cons pe_str (pa_cons (pv 2) (pa_cons pe_str (pa_cons pe_str pa_nil))))) pa_nil)))) (pv 3) (λ_ _=>rfl))))
  pss_nil)
  (pss_mid (ps_if (pt_cmpR op_eq (pv 3) pe_int (nomark _))
  (pss_one (ps_ret (pe_tup (pa_cons pe_str (pa_cons (pv 2) (pa_cons pe_str (pa_cons (pe_ix ix_list (pe_lst (pa_cons pe_str (pa_cons pe_str pa_nil))) (pe_call G_l_pick (hr.mono (by omega)) rfl T.d_l_pick.hm T.d_l_pick.F.kp T.d_l_pick.b .nil pass0 (pa_cons (pv 0) (pa_cons pe_int pa_nil))) (λ_ _=>rfl)) pa_nil)))))))
  pss_nil)
  (pss_mid (ps_if (pt_cmpR op_lt (pv 3) pe_int (nomark _))
  (pss_one (ps_ret (pe_tup (pa_cons pe_str (pa_cons (pv 2) (pa_cons (pe_ix ix_list (pe_lst (pa_cons pe_str (pa_cons pe_str pa_nil))) (pe_op op_sub (pv 3) pe_int) (λ_ _=>rfl)) pa_nil))))))
  pss_nil)
  (pss_mid (ps_if (PW.pt (pw_and (pt_cmpR op_eq (pv 3) pe_int (nomark _)) (pw_and1 (pt_cmpR (op_neL hu) (pv 1) (pe_lst pa_nil) (nomark _)))))
  (pss_one (ps_ret (pe_tup (pa_cons pe_str (pa_cons (pv 2) (pa_cons pe_str (pa_cons pe_str (pa_cons (pe_ix ix_list (pv 1) (pe_call G_l_pick (hr.mono (by omega)) rfl T.d_l_pick.hm T.d_l_pick.F.kp T.d_l_pick.b .nil pass0 (pa_cons (pv 0) (pa_cons (pe_callB call_len (by rfl) T.n_len bt_len (pa_cons (pv 1) pa_nil)) pa_nil))) (λ_ _=>rfl)) (pa_cons (pe_op op_mul (pe_call G_l_pick (hr.mono (by omega)) rfl T.d_l_pick.hm T.d_l_pick.F.kp T.d_l_pick.b .nil pass0 (pa_cons (pv 0) (pa_cons pe_int pa_nil))) pe_int) pa_nil)))))))))
  pss_nil)
  (pss_mid (ps_if (pt_cmpR op_eq (pv 3) pe_int (nomark _))
  (pss_one (ps_ret (pe_tup (pa_cons pe_str (pa_cons (pv 2) (pa_cons (pe_ix ix_list (pe_op op_cat (pv 1) (pe_lst (pa_cons pe_str pa_nil))) (pe_call G_l_pick (hr.mono (by omega)) rfl T.d_l_pick.hm T.d_l_pick.F.kp T.d_l_pick.b .nil pass0 (pa_cons (pv 0) (pa_cons (pe_op op_add (pe_callB call_len (by rfl) T.n_len bt_len (pa_cons (pv 1) pa_nil)) pe_int) pa_nil))) (λ_ _=>rfl)) pa_nil))))))
  pss_nil)
  (pss_mid (ps_if (pt_cmpR op_lt (pv 3) pe_int (nomark _))
  (pss_one (ps_ret (pe_tup (pa_cons pe_str (pa_cons (pv 2) (pa_cons (pe_ix ix_list (pe_lst (pa_cons pe_str (pa_cons pe_str pa_nil))) (pe_op op_sub (pv 3) pe_int) (λ_ _=>rfl)) (pa_cons (pe_call G_l_value (hr.mono (by omega)) rfl T.d_l_value.hm T.d_l_value.F.kp T.d_l_value.b .nil pass0 (pa_cons (pv 0) pa_nil)) pa_nil)))))))
  pss_nil)
  (pss_one (ps_ret (pe_ix ix_list (pe_lst (pa_cons (pe_tup (pa_cons pe_str (pa_cons (pv 2) (pa_cons pe_str pa_nil)))) (pa_cons (pe_tup (pa_cons pe_str (pa_cons (pv 2) (pa_cons pe_str (pa_cons (pe_call G_l_value (hr.mono (by omega)) rfl T.d_l_value.hm T.d_l_value.F.kp T.d_l_value.b .nil pass0 (pa_cons (pv 0) pa_nil)) pa_nil))))) pa_nil))) (pe_op op_sub (pv 3) pe_int) (λ_ _=>rfl)))))))))))),?_⟩
  walk_at "sy"
  refine ⟨d,C,rfl,D,λln H1 b1=>⟨d,12,C,rfl,b1.dr,by omega,by decide,λi H2 i0 i1 b2=>?_⟩⟩
  have B2:=b1.trans b2
  have hg2:=B2.lst D hg
  have fin:∀ {G:Hp} {C':Nat} {v:V} {m:List Pr},Db K d H G C'->C'<=C+20->RowM G 0 v m->Q v G:=λB h r=>k _ _ _ r (B.up h)
  have mk:∀ {G:Hp} {C':Nat} {xs:List V} {m:List Pr} (p:Addr),Db K d H G C'->C'<=C+20->G p=none->(∀ RS:V->List Pr->Prop,Shp RS xs m)->Q (.ref p) (upd G p (.tup xs)):=λp B h hp s=>fin (B.s (Same.upd hp)) h (row0 upd_same (s _))
  refine ⟨λσ' G=>σ'=[some (.ref d),some (.ref g),some (.int ln),some (.int i)]/\H2=G/\¬ i<3,?_,?_⟩
  ·walk_at "sy"
   by_cases c:i<3
   ·refine ifT c ⟨d,9,C+1,rfl,B2.dr,by omega,by decide,λx H3 x0 x1 b3=>⟨x,rfl,by decide,λp1 h1=>⟨by decide,λp2 h2=>⟨by decide,λp3 h3=>⟨by decide,λp4 h4=>?_⟩⟩⟩⟩⟩
    have s1:=Same.upd (o:=.tup [V.str "wait",.int ln,.int (1+x)]) h1
    have s2:=Same.upd (o:=.tup [V.str "hear",.int ln,.str "bell"]) h2
    have s3:=Same.upd (o:=.tup [V.str "take",.int ln,.str "box",.str "x"]) h3
    have s4:=Same.upd (o:=.lst [V.ref p1,V.ref p2,V.ref p3]) h4
    have B:=(B2.trans b3).s (s1.trans (s2.trans (s3.trans s4)))
    refine ixAny (SqL.of upd_same) i0 c λv hv=>?_
    simp only [List.mem_cons,List.not_mem_nil,or_false] at hv
    rcases hv with rfl | rfl | rfl
    ·exact fin B (by omega) (row0 ((s2.trans (s3.trans s4)) _ _ upd_same) (.wait _ _))
    ·exact fin B (by omega) (row0 ((s3.trans s4) _ _ upd_same) (.hear _))
    ·exact fin B (by omega) (row0 (s4 _ _ upd_same) (.take _))
   ·exact ifF c c
  ·rintro σ' G ⟨rfl,rfl,n3⟩
   refine ⟨λσ' G=>σ'=[some (.ref d),some (.ref g),some (.int ln),some (.int i)]/\H2=G/\i≠3,?_,?_⟩
   ·walk_at "sy"
    by_cases c:i=3
    ·refine ⟨rfl,ifT c ⟨by decide,λp hp=>⟨d,2,C+1,rfl,(B2.s (Same.upd hp)).dr,by omega,by decide,λy H3 y0 y1 b3=>?_⟩⟩⟩
     have B:=(B2.s (Same.upd (o:=.lst [V.str "x",V.str "y"]) hp))
     refine ixAny (SqL.of (b3.lst B.dr upd_same)) y0 y1 λv hv=>⟨by decide,λp' hp'=>?_⟩
     simp only [List.mem_cons,List.not_mem_nil,or_false] at hv
     rcases hv with rfl | rfl<;>exact mk p' (B.trans b3) (by omega) hp' λ_=>.ask _ _
    ·exact ⟨rfl,ifF c c⟩
   ·rintro σ' G ⟨rfl,rfl,n3'⟩
    refine ⟨λσ' G=>σ'=[some (.ref d),some (.ref g),some (.int ln),some (.int i)]/\H2=G/\¬ i<6,?_,?_⟩
    ·walk_at "sy"
     by_cases c:i<6
     ·refine ifT c ⟨by decide,λp hp=>ixAny (SqL.of upd_same) (by omega) (show i-4<((2:Nat):Int) by omega) λv hv=>⟨by decide,λp' hp'=>?_⟩⟩
      simp only [List.mem_cons,List.not_mem_nil,or_false] at hv
      rcases hv with rfl | rfl<;>exact mk p' (B2.s (Same.upd hp)) (by omega) hp' λ_=>.raise _ _
     ·exact ifF c c
    ·rintro σ' G ⟨rfl,rfl,n6⟩
     refine ⟨λσ' G=>σ'=[some (.ref d),some (.ref g),some (.int ln),some (.int i)]/\Db K d H G (C+1)/\G g=some (.lst (zs.map V.str)),?_,?_⟩
     ·walk_at "sy"
      by_cases c:i=6
      ·refine ⟨rfl,ifT c ⟨by decide,λp hp=>?_⟩⟩
       have s1:=Same.upd (o:=.lst []) hp
       have hp1:(upd H2 p (.lst [])) p=some (.lst []):=upd_same
       generalize upd H2 p (.lst [])=G1 at s1 hp1 |-
       have B3:=B2.s s1
       have hg3:=s1 _ _ hg2
       refine eqL_nil (SqL.of hg3) hp1 ⟨_,rfl,?_⟩
       by_cases e:zs.map V.str=[]
       ·exact bF (by simp [e]) ⟨B3,hg3⟩
       ·have lp:0<(zs.map V.str).length:=List.length_pos_iff.mpr e
        refine bT (by simp [e]) ⟨_,.inl ⟨_,SqL.of hg3,rfl⟩,d,_,C+1,rfl,B3.dr,by omega,by omega,λy H4 y0 y1 b4=>?_⟩
        refine ixAny (SqL.of (b4.lst B3.dr hg3)) y0 y1 λv hv=>?_
        obtain ⟨z,_,rfl⟩:=List.mem_map.mp hv
        refine ⟨d,2,C+1+1,rfl,b4.dr,by omega,by decide,λx H5 x0 x1 b5=>⟨x,rfl,.inr ⟨by decide,by decide⟩,by decide,λp' hp'=>?_⟩⟩
        exact mk p' ((B3.trans b4).trans b5) (by omega) hp' λ_=>.begin _ _ _
      ·exact ⟨rfl,ifF c (iteF ⟨B2,hg2⟩)⟩
     ·rintro σ' G ⟨rfl,B,hgG⟩
      refine ⟨λσ' G=>σ'=[some (.ref d),some (.ref g),some (.int ln),some (.int i)]/\Db K d H G (C+1)/\i≠7,?_,?_⟩
      ·walk_at "sy"
       by_cases c:i=7
       ·refine ⟨rfl,ifT c ⟨by decide,λp hp=>?_⟩⟩
        have s1:=Same.upd (o:=.lst [V.str "la"]) hp
        have hp1:(upd G p (.lst [V.str "la"])) p=some (.lst [V.str "la"]):=upd_same
        generalize upd G p (.lst [V.str "la"])=G1 at s1 hp1 |-
        refine ⟨g,p,_,_,rfl,rfl,s1 _ _ hgG,hp1,by rw [List.length_map];exact Nat.le_of_lt (small1000 (by simp;omega)),λp2 hp2=>?_⟩
        have s2:=Same.upd (o:=.lst (zs.map V.str++[V.str "la"])) hp2
        have hp3:(upd G1 p2 (.lst (zs.map V.str++[V.str "la"]))) p2=some (.lst (zs.map V.str++[V.str "la"])):=upd_same
        generalize upd G1 p2 (.lst (zs.map V.str++[V.str "la"]))=G2 at s2 hp3 |-
        have B3:=B.s (s1.trans s2)
        refine ⟨_,.inl ⟨_,SqL.of (s2 _ _ (s1 _ _ hgG)),rfl⟩,d,_,C+1,rfl,B3.dr,by omega,by omega,λy H4 y0 y1 b4=>?_⟩
        refine ixAny (SqL.of (b4.lst B3.dr hp3)) y0 (by rw [List.length_append];exact y1) λv hv=>⟨by decide,λp' hp'=>?_⟩
        obtain ⟨z,rfl⟩:∃ z:Str,v=.str z:=by
         rcases List.mem_append.mp hv with q | q
         ·obtain ⟨z,_,rfl⟩:=List.mem_map.mp q
          exact ⟨z,rfl⟩
         ·exact ⟨_,List.mem_singleton.mp q⟩
        exact mk p' (B3.trans b4) (by omega) hp' λ_=>.off _ _
       ·exact ⟨rfl,ifF c ⟨B,c⟩⟩
      ·rintro σ' G ⟨rfl,B,n7⟩
       refine ⟨λσ' G=>σ'=[some (.ref d),some (.ref g),some (.int ln),some (.int i)]/\Db K d H G (C+1)/\¬ i<10,?_,?_⟩
       ·walk_at "sy"
        by_cases c:i<10
        ·refine ifT c ⟨by decide,λp hp=>?_⟩
         have s1:=Same.upd (o:=.lst [V.str "x",V.str "y"]) hp
         have hp1:(upd G p (.lst [V.str "x",V.str "y"])) p=some (.lst [V.str "x",V.str "y"]):=upd_same
         generalize upd G p (.lst [V.str "x",V.str "y"])=G1 at s1 hp1 |-
         have B3:=B.s s1
         have at_:∃ z:Str,atI [V.str "x",V.str "y"] (i-8)=some (.str z):=by
          have:i=6\/i=8\/i=9:=by omega
          rcases this with rfl | rfl | rfl<;>exact ⟨_,rfl⟩
         obtain ⟨z,hz'⟩:=at_
         refine ⟨p,_,_,_,rfl,rfl,SqL.of hp1,hz',d,C+1,rfl,B3.dr,by omega,λv H4 hv b4=>⟨by decide,λp' hp'=>?_⟩⟩
         exact mk p' (B3.trans b4) (by omega) hp' λ_=>.let_ _ _ _ hv
        ·exact ifF c ⟨B,c⟩
       ·rintro σ' G ⟨rfl,B,n10⟩
        walk_at "sy"
        refine ⟨by decide,λp hp=>?_⟩
        have s1:=Same.upd (o:=.tup [V.str "ring",.int ln,.str "bell"]) hp
        have hp1:(upd G p (.tup [V.str "ring",.int ln,.str "bell"])) p=some (.tup [V.str "ring",.int ln,.str "bell"]):=upd_same
        generalize upd G p (.tup [V.str "ring",.int ln,.str "bell"])=G1 at s1 hp1 |-
        have B3:=B.s s1
        refine ⟨d,C+1,rfl,B3.dr,by omega,λv H4 hv b4=>⟨by decide,λp1 h1=>⟨by decide,λp2 h2=>?_⟩⟩⟩
        have s3:=Same.upd (o:=.tup [V.str "send",.int ln,.str "box",v]) h1
        have s4:=Same.upd (o:=.lst [V.ref p,V.ref p1]) h2
        have B5:=(B3.trans b4).s (s3.trans s4)
        refine ixAny (SqL.of upd_same) (by omega) (show i-10<((2:Nat):Int) by omega) λu hu'=>?_
        simp only [List.mem_cons,List.not_mem_nil,or_false] at hu'
        rcases hu' with rfl | rfl
        ·exact fin B5 (by omega) (row0 ((s3.trans s4) _ _ ((b4.kt B3.dr) _ _ hp1)) (.ring _))
        ·exact fin B5 (by omega) (row0 (s4 _ _ upd_same) (.send _ _ hv))

theorem sc_l_block:FnScope ["_law_state", "_law_deep", "_law_groups", "_law_line_here", "_law_kind", "_law_named", "_law_fault", "_law_cleans", "_law_value_here"] ["_law_state", "_law_deep", "_law_groups"] (defScope (top 27)):=⟨rfl,rfl,rfl,by decide +kernel,rfl,by decide +kernel,by decide +kernel⟩
theorem sc_l_rows:FnScope ["_law_state", "_law_deep", "_law_groups", "_law_found", "_law_k"] ["_law_state", "_law_deep", "_law_groups"] (defScope (top 28)):=⟨rfl,rfl,rfl,by decide +kernel,rfl,by decide +kernel,by decide +kernel⟩
theorem block_step (T:Tx P w K mg) (G_l_pick:FnOk P w K mg base CX0 2 T.d_l_pick.f T.d_l_pick.fd ["_law_state", "_law_many"] (spPick K))
  (G_l_line:FnOk P w K mg base CX0 1 T.d_l_line.f T.d_l_line.fd ["_law_state"] (spLine K))
  (G_l_value:FnOk P w K mg base CX0 3 T.d_l_value.f T.d_l_value.fd ["_law_state"] (spValue K))
  (G_l_clean:FnOk P w K mg base CX0 4 T.d_l_clean.f T.d_l_clean.fd ["_law_state"] (spClean_ K)) (n:Nat)
  (G_l_rows:FnOk P w K mg base CX0 (5+2*n) T.d_l_rows.f T.d_l_rows.fd ["_law_state", "_law_deep", "_law_groups"] (spRows K n)) :
  FnOk P w K mg base CX0 (5+2*n+1) T.d_l_block.f T.d_l_block.fd ["_law_state", "_law_deep", "_law_groups"] (spBlock K n):=by
 refine T.d_l_block.F.ok (k:=5+2*n) sc_l_block (λvs H Q E h=>?_) (λcdv A outer s H vs Q E hr h=>?_)
 ·obtain ⟨d,g,e,C,rfl,_⟩:=h
  rfl
 ·obtain ⟨d,g,e,C,rfl,D,hC,hg,k⟩:=h
  have hu:=hu100 hr
  have hu1:=hu_of hr
  refine ⟨_,(pss_cons (ps_set (i:=3) sc_l_block.nd rfl (Or.inl rfl) (pe_call G_l_line (hr.mono (by omega)) rfl T.d_l_line.hm T.d_l_line.F.kp T.d_l_line.b .nil pass0 (pa_cons (pv 0) pa_nil)))
  (pss_cons (ps_set (i:=4) sc_l_block.nd rfl (Or.inl rfl) (pe_call G_l_pick (hr.mono (by omega)) rfl T.d_l_pick.hm T.d_l_pick.F.kp T.d_l_pick.b .nil pass0 (pa_cons (pv 0) (pa_cons pe_int pa_nil))))
  (pss_mid (ps_if (pt_cmpR op_lt (pv 4) pe_int (nomark _))
  (pss_cons (ps_set (i:=5) sc_l_block.nd rfl (Or.inl rfl) (pe_ix ix_list (pe_lst (pa_strs (zs:=["ga", "gb", "gc"]) (by decide +kernel))) (pe_op op_mod (pv 1) pe_int) (λ_ _=>rfl)))
  (pss_one (ps_ret (pe_tup (pa_cons pe_str (pa_cons (pv 3) (pa_cons (pv 5) (pa_cons (pe_call G_l_rows (hr.mono (by omega)) rfl T.d_l_rows.hm T.d_l_rows.F.kp T.d_l_rows.b .nil pass0 (pa_cons (pv 0) (pa_cons (pe_op op_add (pv 1) pe_int) (pa_cons (pe_op op_cat (pv 2) (pe_lst (pa_cons (pv 5) pa_nil))) pa_nil)))) pa_nil))))))))
  pss_nil)
  (pss_mid (ps_if (pt_cmpR op_eq (pv 4) pe_int (nomark _))
  (pss_one (ps_ret (pe_tup (pa_cons pe_str (pa_cons (pv 3) (pa_cons (pe_op op_add pe_int (pe_call G_l_pick (hr.mono (by omega)) rfl T.d_l_pick.hm T.d_l_pick.F.kp T.d_l_pick.b .nil pass0 (pa_cons (pv 0) (pa_cons pe_int pa_nil)))) (pa_cons (pe_call G_l_rows (hr.mono (by omega)) rfl T.d_l_rows.hm T.d_l_rows.F.kp T.d_l_rows.b .nil pass0 (pa_cons (pv 0) (pa_cons (pe_op op_add (pv 1) pe_int) (pa_cons (pv 2) pa_nil)))) (pa_cons (pe_call G_l_rows (hr.mono (by omega)) rfl T.d_l_rows.hm T.d_l_rows.F.kp T.d_l_rows.b .nil pass0 (pa_cons (pv 0) (pa_cons (pe_op op_add (pv 1) pe_int) (pa_cons (pv 2) pa_nil)))) pa_nil))))))))
  pss_nil)
  (pss_mid (ps_if (pt_cmpR op_eq (pv 4) pe_int (nomark _))
  (pss_one (ps_ret (pe_tup (pa_cons pe_str (pa_cons (pv 3) (pa_cons (pe_call G_l_rows (hr.mono (by omega)) rfl T.d_l_rows.hm T.d_l_rows.F.kp T.d_l_rows.b .nil pass0 (pa_cons (pv 0) (pa_cons (pe_op op_add (pv 1) pe_int) (pa_cons (pv 2) pa_nil)))) pa_nil))))))
  pss_nil)
  (pss_mid (ps_if (pt_cmpR op_eq (pv 4) pe_int (nomark _))
  (pss_cons (ps_set (i:=6) sc_l_block.nd rfl (Or.inl rfl) (pe_ix ix_list (pe_lst (pa_strs (zs:=["boom", "oops", "any"]) (by decide +kernel))) (pe_call G_l_pick (hr.mono (by omega)) rfl T.d_l_pick.hm T.d_l_pick.F.kp T.d_l_pick.b .nil pass0 (pa_cons (pv 0) (pa_cons pe_int pa_nil))) (λ_ _=>rfl)))
  (pss_one (ps_ret (pe_tup (pa_cons pe_str (pa_cons (pv 3) (pa_cons (pe_call G_l_rows (hr.mono (by omega)) rfl T.d_l_rows.hm T.d_l_rows.F.kp T.d_l_rows.b .nil pass0 (pa_cons (pv 0) (pa_cons (pe_op op_add (pv 1) pe_int) (pa_cons (pv 2) pa_nil)))) (pa_cons (pv 6) (pa_cons (pe_call G_l_rows (hr.mono (by omega)) rfl T.d_l_rows.hm T.d_l_rows.F.kp T.d_l_rows.b .nil pass0 (pa_cons (pv 0) (pa_cons (pe_op op_add (pv 1) pe_int) (pa_cons (pv 2) pa_nil)))) pa_nil)))))))))
  pss_nil)
  (pss_mid (ps_if (pt_cmpR op_eq (pv 4) pe_int (nomark _))
  (pss_cons (ps_set (i:=7) sc_l_block.nd rfl (Or.inl rfl) (pe_callTy call_tuple_of (by rfl) T.n_tuple bt_tuple (pa_cons (pe_lc (N':=["_law_k", "_law_state"]) (sel:=[none,some 0]) rfl rfl rfl (pi_range1 rfl T.n_range (pa_cons (pe_call G_l_pick (hr.mono (by omega)) rfl T.d_l_pick.hm T.d_l_pick.F.kp T.d_l_pick.b .nil pass0 (pa_cons (pv 0) (pa_cons pe_int pa_nil))) pa_nil)) (gk_name rfl) (λ_ _ _ _ _=>⟨(pg_name (i:=0) (show (["_law_k", "_law_state"]:List Str).Nodup by decide +kernel) rfl (Or.inl rfl)),pts_nil,(pe_call G_l_clean (hr.mono (by omega)) rfl T.d_l_clean.hm T.d_l_clean.F.kp T.d_l_clean.b .nil pass0 (pa_cons (pv 1) pa_nil))⟩)) pa_nil)))
  (pss_one (ps_ret (pe_tup (pa_cons pe_str (pa_cons (pv 3) (pa_cons (pe_call G_l_rows (hr.mono (by omega)) rfl T.d_l_rows.hm T.d_l_rows.F.kp T.d_l_rows.b .nil pass0 (pa_cons (pv 0) (pa_cons (pe_op op_add (pv 1) pe_int) (pa_cons (pv 2) pa_nil)))) (pa_cons (pv 7) pa_nil))))))))
  pss_nil)
  (pss_mid (ps_if (pt_cmpR op_eq (pv 4) pe_int (nomark _))
  (pss_cons (ps_set (i:=8) sc_l_block.nd rfl (Or.inl rfl) (pe_call G_l_value (hr.mono (by omega)) rfl T.d_l_value.hm T.d_l_value.F.kp T.d_l_value.b .nil pass0 (pa_cons (pv 0) pa_nil)))
  (pss_one (ps_ret (pe_tup (pa_cons pe_str (pa_cons (pv 3) (pa_cons (pe_ix ix_list (pe_lst (pa_cons pe_str (pa_cons pe_str pa_nil))) (pe_call G_l_pick (hr.mono (by omega)) rfl T.d_l_pick.hm T.d_l_pick.F.kp T.d_l_pick.b .nil pass0 (pa_cons (pv 0) (pa_cons pe_int pa_nil))) (λ_ _=>rfl)) (pa_cons (pv 8) (pa_cons (pe_call G_l_rows (hr.mono (by omega)) rfl T.d_l_rows.hm T.d_l_rows.F.kp T.d_l_rows.b .nil pass0 (pa_cons (pv 0) (pa_cons (pe_op op_add (pv 1) pe_int) (pa_cons (pv 2) pa_nil)))) pa_nil)))))))))
  pss_nil)
  (pss_one (ps_ret (pe_tup (pa_cons pe_str (pa_cons (pv 3) (pa_cons (pe_op op_add pe_int (pe_call G_l_pick (hr.mono (by omega)) rfl T.d_l_pick.hm T.d_l_pick.F.kp T.d_l_pick.b .nil pass0 (pa_cons (pv 0) (pa_cons pe_int pa_nil)))) (pa_cons (pe_call G_l_rows (hr.mono (by omega)) rfl T.d_l_rows.hm T.d_l_rows.F.kp T.d_l_rows.b .nil pass0 (pa_cons (pv 0) (pa_cons (pe_op op_add (pv 1) pe_int) (pa_cons (pv 2) pa_nil)))) pa_nil))))))))))))))),?_⟩
  walk_at "sy"
  have hg0:=hg.ex
  obtain ⟨zs,hzs,hzl⟩:=hg0
  refine ⟨d,C,rfl,D,λln H1 b1=>⟨d,8,C,rfl,b1.dr,by omega,by decide,λi H2 i0 i1 b2=>?_⟩⟩
  have B2:=b1.trans b2
  have hg2:=hg.db D B2
  have mkB:∀ {G:Hp} {C':Nat} {xs:List V} {m:List Pr} (p:Addr),Db K d H G C'->C'<=C+(20+2*bd n)->G p=none->Shp (RowsM G (n+1)) xs m->Q (.ref p) (upd G p (.tup xs)):=λp B h hp s=>k _ _ _ ⟨p,_,rfl,upd_same,s.imp λ_ _ h=>h.kt (.of (Same.upd hp))⟩ ((B.s (Same.upd hp)).up h)
  have r1:∀ {G:Hp} {C':Nat} {R:VK},Db K d H G C'->C'<=C+20->(∀ (a:Addr) (m:List Pr) (H':Hp),RowsM H' (n+1) (.ref a) m->Db K d H H' (C'+bd n)->KT G H'->R (.ref a) H')->spRows K n [.ref d,.int (e+1),.ref g] G R E0:=λ{G C' R} B h q=>⟨d,g,e+1,C',rfl,B.dr,by omega,(hg.db D B).d1,λv m H' hR b=>by
   obtain ⟨a,rfl⟩:=hR.ref
   exact q a m H' hR (B.trans b) (b.kt B.dr)⟩
  have r2:∀ {G:Hp} {C':Nat} {R:VK},Db K d H G C'->C'<=C+20+bd n->(∀ (a:Addr) (m:List Pr) (H':Hp),RowsM H' (n+1) (.ref a) m->Db K d H H' (C'+bd n)->KT G H'->R (.ref a) H')->spRows K n [.ref d,.int (e+2),.ref g] G R E0:=λ{G C' R} B h q=>⟨d,g,e+2,C',rfl,B.dr,by omega,(hg.db D B).d2,λv m H' hR b=>by
   obtain ⟨a,rfl⟩:=hR.ref
   exact q a m H' hR (B.trans b) (b.kt B.dr)⟩
  refine ⟨λσ' G=>σ'=[some (.ref d),some (.int e),some (.ref g),some (.int ln),some (.int i),none,none,none,none]/\H2=G,?_,?_⟩
  ·walk_at "sy"
   by_cases c:i<2
   ·refine ifT c ⟨by decide,λp hp=>⟨by decide,?_⟩⟩
    have s1:=Same.upd (o:=.lst [V.str "ga",V.str "gb",V.str "gc"]) hp
    have hp1:(upd H2 p (.lst [V.str "ga",V.str "gb",V.str "gc"])) p=some (.lst [V.str "ga",V.str "gb",V.str "gc"]):=upd_same
    generalize upd H2 p (.lst [V.str "ga",V.str "gb",V.str "gc"])=G1 at s1 hp1 |-
    refine ixAny (SqL.of hp1) (Int.emod_nonneg _ (by decide)) (show e%3<((3:Nat):Int) from Int.emod_lt_of_pos _ (by decide)) λv hv=>?_
    obtain ⟨z,rfl⟩:∃ z:Str,v=.str z:=by
     simp only [List.mem_cons,List.not_mem_nil,or_false] at hv
     rcases hv with rfl | rfl | rfl<;>exact ⟨_,rfl⟩
    refine ⟨by decide,λp2 hp2=>?_⟩
    have s2:=Same.upd (o:=.lst [V.str z]) hp2
    have h2':(upd G1 p2 (.lst [V.str z])) p2=some (.lst [V.str z]):=upd_same
    generalize upd G1 p2 (.lst [V.str z])=G2 at s2 h2' |-
    have hgG:G2 g=some (.lst (zs.map V.str)):=s2 _ _ (s1 _ _ (B2.lst D hzs))
    refine ⟨g,p2,_,_,rfl,rfl,hgG,h2',by rw [List.length_map];exact Nat.le_of_lt (small1000 (by simp;omega)),λp3 hp3=>?_⟩
    have s3:=Same.upd (o:=.lst (zs.map V.str++[V.str z])) hp3
    have h3':(upd G2 p3 (.lst (zs.map V.str++[V.str z]))) p3=some (.lst (zs.map V.str++[V.str z])):=upd_same
    generalize upd G2 p3 (.lst (zs.map V.str++[V.str z]))=G3 at s3 h3' |-
    have B3:=B2.s ((s1.trans s2).trans s3)
    have lo:=hg.lo
    have hi:=hg.hi
    refine ⟨d,p3,e+1,C+1,rfl,B3.dr,by omega,⟨⟨zs++[z],by rw [h3',List.map_append];rfl,by rw [List.length_append];simp;omega⟩,by omega,by omega⟩,λv m H4 hR b4=>⟨by decide,λp' hp'=>?_⟩⟩
    obtain ⟨a,rfl⟩:=hR.ref
    exact mkB p' (B3.trans b4) (by omega) hp' (.group _ _ _ _ hR)
   ·exact ifF c trivial
  rintro σ' G ⟨rfl,rfl⟩
  refine ⟨λσ' G=>σ'=[some (.ref d),some (.int e),some (.ref g),some (.int ln),some (.int i),none,none,none,none]/\H2=G,?_,?_⟩
  ·walk_at "sy"
   by_cases c:i=2
   ·refine ⟨rfl,ifT c ⟨d,9,C+1,rfl,B2.dr,by omega,by decide,λx H3 x0 x1 b3=>⟨x,rfl,r1 (B2.trans b3) (by omega) λa m H4 hR4 B4 _=>r2 B4 (by omega) λa' m' H5 hR5 B5 k5=>⟨by decide,λp hp=>?_⟩⟩⟩⟩
    exact mkB p B5 (by omega) hp (.limit _ _ _ _ _ _ (hR4.kt k5) hR5)
   ·exact ⟨rfl,ifF c trivial⟩
  rintro σ' G ⟨rfl,rfl⟩
  refine ⟨λσ' G=>σ'=[some (.ref d),some (.int e),some (.ref g),some (.int ln),some (.int i),none,none,none,none]/\H2=G,?_,?_⟩
  ·walk_at "sy"
   by_cases c:i=3
   ·refine ⟨rfl,ifT c (r1 B2 (by omega) λa m H4 hR4 B4 _=>⟨by decide,λp hp=>?_⟩)⟩
    exact mkB p B4 (by omega) hp (.keep _ _ _ hR4)
   ·exact ⟨rfl,ifF c trivial⟩
  rintro σ' G ⟨rfl,rfl⟩
  refine ⟨λσ' G=>σ'=[some (.ref d),some (.int e),some (.ref g),some (.int ln),some (.int i),none,none,none,none]/\H2=G,?_,?_⟩
  ·walk_at "sy"
   by_cases c:i=4
   ·refine ⟨rfl,ifT c ⟨by decide,λp hp=>?_⟩⟩
    have s1:=Same.upd (o:=.lst [V.str "boom",V.str "oops",V.str "any"]) hp
    have hp1:(upd H2 p (.lst [V.str "boom",V.str "oops",V.str "any"])) p=some (.lst [V.str "boom",V.str "oops",V.str "any"]):=upd_same
    generalize upd H2 p (.lst [V.str "boom",V.str "oops",V.str "any"])=G1 at s1 hp1 |-
    have B3:=B2.s s1
    refine ⟨d,3,C+1,rfl,B3.dr,by omega,by decide,λy H4 y0 y1 b4=>?_⟩
    refine ixAny (SqL.of (b4.lst B3.dr hp1)) y0 y1 λv hv=>?_
    obtain ⟨z,rfl⟩:∃ z:Str,v=.str z:=by
     simp only [List.mem_cons,List.not_mem_nil,or_false] at hv
     rcases hv with rfl | rfl | rfl<;>exact ⟨_,rfl⟩
    refine r1 (B3.trans b4) (by omega) λa m H5 hR5 B5 _=>r2 B5 (by omega) λa' m' H6 hR6 B6 k6=>⟨by decide,λp' hp'=>?_⟩
    exact mkB p' B6 (by omega) hp' (.try_ _ _ _ _ _ _ (hR5.kt k6) hR6)
   ·exact ⟨rfl,ifF c trivial⟩
  rintro σ' G ⟨rfl,rfl⟩
  refine ⟨λσ' G=>σ'=[some (.ref d),some (.int e),some (.ref g),some (.int ln),some (.int i),none,none,none,none]/\H2=G,?_,?_⟩
  ·walk_at "sw"
   by_cases c:i=5
   ·refine ⟨rfl,ifT c ⟨_,rfl,d,3,C+1,rfl,B2.dr,by omega,by decide,λx H3 x0 x1 b3=>⟨x,rfl,by omega,by omega,?_⟩⟩⟩
    have B3:=B2.trans b3
    refine lc_range (λj ys G=>Db K d H G (C+2+5*j)/\(∃ ms,All2 (RowM G 0) ys ms)/\ys.length<=j) ⟨B3,⟨[],.nil⟩,Nat.zero_le _⟩ ?_ ?_ ?_ ?_
    ·rintro j ys G hj ⟨_,_,h⟩
     exact h
    ·exact Nat.le_trans (m:=3) (by omega) (by decide)
    ·rintro j ys G hj ⟨BG,⟨ms,hms⟩,hle⟩
     walk_at "sx"
     refine ⟨d,_,rfl,BG.dr,by omega,λv m H4 hv b4=>⟨(BG.trans b4).up (by omega),⟨ms++[m],(rows_kt (b4.kt BG.dr) hms).app (.cons hv .nil)⟩,by rw [List.length_append];simp;omega⟩⟩
    ·rintro ys G ⟨BG,⟨ms,hms⟩,hle⟩ p hp
     have s1:=Same.upd (o:=.lst ys) hp
     refine ⟨ys,.inl ⟨SqL.of upd_same,λl hl=>?_⟩⟩
     have s2:=Same.upd (o:=.tup ys) hl
     have hl2:(upd (upd G p (.lst ys)) l (.tup ys)) l=some (.tup ys):=upd_same
     generalize upd (upd G p (.lst ys)) l (.tup ys)=G2 at s2 hl2 |-
     have B4:=BG.s (s1.trans s2)
     refine r1 B4 (by omega) λa m H5 hR5 B5 k5=>⟨by decide,λp' hp'=>?_⟩
     have hR:RowsM H5 (n+1) (.ref l) ms.flatten:=⟨l,ys,ms,rfl,k5 _ _ hl2,by omega,(rows_kt ((KT.of (s1.trans s2)).trans k5) hms).imp λ_ _ h=>RowM.le h (Nat.zero_le _),rfl⟩
     exact mkB p' B5 (by omega) hp' (.do_ _ _ _ _ _ hR5 hR)
   ·exact ⟨rfl,ifF c trivial⟩
  rintro σ' G ⟨rfl,rfl⟩
  refine ⟨λσ' G=>σ'=[some (.ref d),some (.int e),some (.ref g),some (.int ln),some (.int i),none,none,none,none]/\H2=G,?_,?_⟩
  ·walk_at "sy"
   by_cases c:i=6
   ·refine ⟨rfl,ifT c ⟨d,C+1,rfl,B2.dr,by omega,λv H3 hv b3=>⟨by decide,λp hp=>?_⟩⟩⟩
    have s1:=Same.upd (o:=.lst [V.str "x",V.str "y"]) hp
    have hp1:(upd H3 p (.lst [V.str "x",V.str "y"])) p=some (.lst [V.str "x",V.str "y"]):=upd_same
    generalize upd H3 p (.lst [V.str "x",V.str "y"])=G1 at s1 hp1 |-
    have B3:=(B2.trans b3).s s1
    refine ⟨d,2,C+1+2,rfl,B3.dr,by omega,by decide,λy H4 y0 y1 b4=>?_⟩
    refine ixAny (SqL.of (b4.lst B3.dr hp1)) y0 y1 λu hu'=>?_
    obtain ⟨z,rfl⟩:∃ z:Str,u=.str z:=by
     simp only [List.mem_cons,List.not_mem_nil,or_false] at hu'
     rcases hu' with rfl | rfl<;>exact ⟨_,rfl⟩
    refine r1 (B3.trans b4) (by omega) λa m H5 hR5 B5 _=>⟨by decide,λp' hp'=>?_⟩
    exact mkB p' B5 (by omega) hp' (.when _ _ _ _ _ hv hR5)
   ·exact ⟨rfl,ifF c trivial⟩
  rintro σ' G ⟨rfl,rfl⟩
  walk_at "sy"
  refine ⟨d,3,C+1,rfl,B2.dr,by omega,by decide,λx H3 x0 x1 b3=>⟨x,rfl,r1 (B2.trans b3) (by omega) λa m H4 hR4 B4 _=>⟨by decide,λp hp=>?_⟩⟩⟩
  exact mkB p B4 (by omega) hp (.repeat_ _ _ _ _ hR4)
theorem rows_step (T:Tx P w K mg) (G_l_pick:FnOk P w K mg base CX0 2 T.d_l_pick.f T.d_l_pick.fd ["_law_state", "_law_many"] (spPick K))
  (G_l_simple:FnOk P w K mg base CX0 4 T.d_l_simple.f T.d_l_simple.fd ["_law_state", "_law_groups"] (spSimple K)) (n:Nat)
  (G_l_block:FnOk P w K mg base CX0 (4+2*n) T.d_l_block.f T.d_l_block.fd ["_law_state", "_law_deep", "_law_groups"] (spBlk K n)) :
  FnOk P w K mg base CX0 (4+2*n+1) T.d_l_rows.f T.d_l_rows.fd ["_law_state", "_law_deep", "_law_groups"] (spRows K n):=by
 refine T.d_l_rows.F.ok (k:=4+2*n) sc_l_rows (λvs H Q E h=>?_) (λcdv A outer s H vs Q E hr h=>?_)
 ·obtain ⟨d,g,e,C,rfl,_⟩:=h
  rfl
 ·obtain ⟨d,g,e,C,rfl,D,hC,hg,k⟩:=h
  have hu:=hu100 hr
  have hu1:=hu_of hr
  refine ⟨_,(pss_cons (ps_set (i:=3) sc_l_rows.nd rfl (Or.inl rfl) (pe_lst pa_nil))
  (pss_cons (ps_for PassesOwn.never rfl (pi_range1 rfl T.n_range (pa_cons (pe_op op_add pe_int (pe_call G_l_pick (hr.mono (by omega)) rfl T.d_l_pick.hm T.d_l_pick.F.kp T.d_l_pick.b .nil pass0 (pa_cons (pv 0) (pa_cons pe_int pa_nil)))) pa_nil)) (pg_name (i:=4) sc_l_rows.nd rfl (Or.inl rfl))
  (pss_cons (ps_if (pt_cmpR op_gt (pe_dget hu1 (pv 0) pe_str (λ_ _=>rfl)) pe_int (nomark _))
  (pss_one ps_break)
  pss_nil)
  (pss_one (ps_if (PW.pt (pw_and (pt_cmpR op_lt (pv 1) pe_int (nomark _)) (pw_and1 (pt_cmpR op_gt (pe_call G_l_pick (hr.mono (by omega)) rfl T.d_l_pick.hm T.d_l_pick.F.kp T.d_l_pick.b .nil pass0 (pa_cons (pv 0) (pa_cons pe_int pa_nil))) pe_int (nomark _)))))
  (pss_one (ps_expr (pe_bm PySem.F.plainAttrs_list PySem.F.slot_list_append PySem.F.type_list_append mt_append (pv 3) (pa_cons (pe_call G_l_block (hr.mono (by omega)) rfl T.d_l_block.hm T.d_l_block.F.kp T.d_l_block.b .nil pass0 (pa_cons (pv 0) (pa_cons (pv 1) (pa_cons (pv 2) pa_nil)))) pa_nil))))
  (pss_one (ps_expr (pe_bm PySem.F.plainAttrs_list PySem.F.slot_list_append PySem.F.type_list_append mt_append (pv 3) (pa_cons (pe_call G_l_simple (hr.mono (by omega)) rfl T.d_l_simple.hm T.d_l_simple.F.kp T.d_l_simple.b .nil pass0 (pa_cons (pv 0) (pa_cons (pv 2) pa_nil))) pa_nil))))))))
  (pss_one (ps_ret (pe_callTy call_tuple_of (by rfl) T.n_tuple bt_tuple (pa_cons (pv 3) pa_nil)))))),?_⟩
  walk_at "sy"
  refine ⟨by decide,λl hl=>?_⟩
  have s0:=Same.upd (o:=.lst []) hl
  have B0:=Db.of D s0
  have h1:(upd H l (.lst [])) l=some (.lst []):=upd_same
  have bn:100<=bd n:=by cases n<;>(show 100<=_;unfold bd;omega)
  have bn2:∀ n',n=n'+1->bd n=100+6*bd n':=λn' h=>by rw [h];rfl
  generalize upd H l (.lst [])=H1 at s0 B0 h1 |-
  refine for_hold (λσ' G=>∃ (o:Option V) (ys:List V) (ms:List (List Pr)),σ'=[some (.ref d),some (.int e),some (.ref g),some (.ref l),o]/\G l=some (.lst ys)/\All2 (RowM G n) ys ms/\ys.length<=3/\Db K d H G (C+bd n)) ?_ ?_
  ·rintro σ' G ⟨o,ys,ms,rfl,hG,hA,hy,B⟩
   walk_at "sy"
   refine ⟨ys,.inl ⟨SqL.of hG,λl2 hl2=>?_⟩⟩
   have s2:=Same.upd (o:=.tup ys) hl2
   exact k _ ms.flatten _ ⟨l2,ys,ms,rfl,upd_same,hy,rows_kt (.of s2) hA,rfl⟩ (B.s s2)
  ·intro U hU
   refine ⟨_,rfl,d,3,C,rfl,B0.dr,by omega,by decide,λx H2 x0 x1 b2=>⟨_,_,rfl,rfl,_,rfl,by omega,by omega,?_⟩⟩
   obtain ⟨ct,c1,c2,c3⟩:∃ ct,1+3*ct<=bd n/\21<=ct/\∀ n',n=n'+1->21+2*bd n'<=ct:=by
    cases n with
    |zero=>exact ⟨21,by decide,Nat.le_refl _,λ_ h=>nomatch h⟩
    |succ n' =>
     refine ⟨21+2*bd n',?_,by omega,λm h=>?_⟩
     ·have:=bn2 n' rfl
      omega
     ·cases h
      exact Nat.le_refl _
   have B2:=B0.trans b2
   refine for_range (λi σ G=>∃ (o:Option V) (ys:List V) (ms:List (List Pr)),σ=[some (.ref d),some (.int e),some (.ref g),some (.ref l),o]/\G l=some (.lst ys)/\All2 (RowM G n) ys ms/\ys.length<=i/\Db K d H G (C+1+i*ct))
    ⟨none,[],[],rfl,b2.lst B0.dr h1,.nil,Nat.zero_le _,by rw [Nat.zero_mul];exact B2⟩ ?_ ?_
   ·rintro i σ G hi ⟨o,ys,ms,rfl,hG,hA,hy,B⟩
    have hi2:i<=2:=by omega
    have ic:i*ct<=2*ct:=Nat.mul_le_mul hi2 (Nat.le_refl _)
    have lt:ys.length<sizeLine:=small1000 (by omega)
    obtain ⟨a,ns,c,ll,_,_,_,_,_,_,g3,_⟩:=B.dr.get
    have app:∀ {G':Hp} {v:V} {m:List Pr} {C':Nat} {R:VK},Db K d H G' C'->C'<=C+1+(i+1)*ct->G' l=some (.lst ys)->All2 (RowM G' n) ys ms->RowM G' n v m->(∀ G2 (ys':List V) (ms':List (List Pr)),G2 l=some (.lst ys')->All2 (RowM G2 n) ys' ms'->ys'.length<=i+1->Db K d H G2 (C+1+(i+1)*ct)->R .non G2)->rAppend (.ref l) [v] G' R:=λ{G' v m C' R} B' hC' hG' hA' hv q=>by
     have kt:KT G' (upd G' l (.lst (ys++[v]))):=KT.put hG'
     exact ⟨l,_,_,rfl,rfl,hG',lt,q _ (ys++[v]) (ms++[m]) upd_same ((rows_kt kt hA').app (.cons (hv.kt kt) .nil)) (by rw [List.length_append];simp;omega) ((B'.put D hl hG').up hC')⟩
    have i1:(i+1)*ct=i*ct+ct:=Nat.succ_mul _ _
    have hgG:=hg.db D B
    walk_at "sd"
    refine ⟨_,g3,_,rfl,?_⟩
    by_cases c:26<ll
    ·refine ifT c (hU _ _ ⟨_,ys,ms,rfl,hG,hA,by omega,B.up (by omega)⟩)
    ·refine ifF c ?_
     obtain ⟨zs,hzs,hzl⟩:=hgG.ex
     have smp:∀ {G':Hp} {C':Nat},Db K d H G' C'->C'<=C+1+i*ct+1->G' l=some (.lst ys)->All2 (RowM G' n) ys ms->G' g=some (.lst (zs.map V.str))->spSimple K [V.ref d,V.ref g] G' (λx H1=>rAppend (V.ref l) [x] H1 λx H1=>∃ x,H1 l=some (HO.lst x)/\∃ x_1,All2 (RowM H1 n) x x_1/\x.length<=i+1/\Db K d H H1 (C+1+(i+1)*ct)) E0:=λ{G' C'} B' hC' hG' hA' hg' =>
      ⟨d,g,zs,C',rfl,B'.dr,by omega,hg',by omega,λv m H4 hv b4=>app (B'.trans b4) (by omega) (b4.lst B'.dr hG') (rows_kt (b4.kt B'.dr) hA') (RowM.le hv (Nat.zero_le _)) λG2 ys' ms' q1 q2 q3 q4=>⟨ys',q1,ms',q2,q3,q4⟩⟩
     by_cases c5:e<5
     ·refine ifT c5 ⟨d,5,_,rfl,B.dr,by omega,by decide,λy H4 y0 y1 b4=>⟨y,rfl,?_⟩⟩
      have B4:=B.trans b4
      have hG4:=b4.lst B.dr hG
      have hA4:=rows_kt (b4.kt B.dr) hA
      by_cases cy:1<y
      ·refine ifT cy ⟨.inl ⟨_,SqL.of hG4⟩,?_⟩
       cases n with
       |zero=>exact absurd hg.hi (by omega)
       |succ n' =>
        have c3':=c3 n' rfl
        have bn':=bn2 n' rfl
        exact ⟨d,g,e,_,rfl,B4.dr,by omega,hgG.db B.dr b4,λv m H5 hv b5=>app (B4.trans b5) (by omega) (b5.lst B4.dr hG4) (rows_kt (b5.kt B4.dr) hA4) hv λG2 ys' ms' q1 q2 q3 q4=>⟨ys',q1,ms',q2,q3,q4⟩⟩
      ·exact ifF cy ⟨.inl ⟨_,SqL.of hG4⟩,smp B4 (by omega) hG4 hA4 (b4.lst B.dr hzs)⟩
     ·exact ifF c5 (iteF ⟨.inl ⟨_,SqL.of hG⟩,smp B (by omega) hG hA hzs⟩)
   ·rintro σ G ⟨o,ys,ms,rfl,hG,hA,hy,B⟩
    have:((1+x).toNat)*ct<=3*ct:=Nat.mul_le_mul (by omega) (Nat.le_refl _)
    exact hU _ _ ⟨_,ys,ms,rfl,hG,hA,by omega,B.up (by omega)⟩
theorem no_blk {f:Addr} {fd:FuncData} {ps:List Str} {k:Nat}:FnOk P w K mg base CX0 k f fd ps (spBlk K 0):=fn_no
theorem ok_rows_n (T:Tx P w K mg) (G_l_pick:FnOk P w K mg base CX0 2 T.d_l_pick.f T.d_l_pick.fd ["_law_state", "_law_many"] (spPick K))
  (G_l_line:FnOk P w K mg base CX0 1 T.d_l_line.f T.d_l_line.fd ["_law_state"] (spLine K))
  (G_l_value:FnOk P w K mg base CX0 3 T.d_l_value.f T.d_l_value.fd ["_law_state"] (spValue K))
  (G_l_clean:FnOk P w K mg base CX0 4 T.d_l_clean.f T.d_l_clean.fd ["_law_state"] (spClean_ K))
  (G_l_simple:FnOk P w K mg base CX0 4 T.d_l_simple.f T.d_l_simple.fd ["_law_state", "_law_groups"] (spSimple K)):∀ n,FnOk P w K mg base CX0 (4+2*n+1) T.d_l_rows.f T.d_l_rows.fd ["_law_state", "_law_deep", "_law_groups"] (spRows K n)
 |0=>rows_step T G_l_pick G_l_simple 0 no_blk
 |n+1=>rows_step T G_l_pick G_l_simple (n+1) ((block_step T G_l_pick G_l_line G_l_value G_l_clean n ((ok_rows_n T G_l_pick G_l_line G_l_value G_l_clean G_l_simple n).mono (by omega))).mono (by omega))
theorem ok_l_rows (T:Tx P w K mg) (G_l_pick:FnOk P w K mg base CX0 2 T.d_l_pick.f T.d_l_pick.fd ["_law_state", "_law_many"] (spPick K))
  (G_l_line:FnOk P w K mg base CX0 1 T.d_l_line.f T.d_l_line.fd ["_law_state"] (spLine K))
  (G_l_value:FnOk P w K mg base CX0 3 T.d_l_value.f T.d_l_value.fd ["_law_state"] (spValue K))
  (G_l_clean:FnOk P w K mg base CX0 4 T.d_l_clean.f T.d_l_clean.fd ["_law_state"] (spClean_ K))
  (G_l_simple:FnOk P w K mg base CX0 4 T.d_l_simple.f T.d_l_simple.fd ["_law_state", "_law_groups"] (spSimple K)):FnOk P w K mg base CX0 15 T.d_l_rows.f T.d_l_rows.fd ["_law_state", "_law_deep", "_law_groups"] (spRows K 5):=ok_rows_n T G_l_pick G_l_line G_l_value G_l_clean G_l_simple 5

theorem sc_l_might:FnScope ["_law_rows_here", "_law_found", "_law_row", "_law_part"] ["_law_rows_here"] (defScope (top 29)):=⟨rfl,rfl,rfl,by decide +kernel,rfl,by decide +kernel,by decide +kernel⟩
theorem might_step (T:Tx P w K mg) (n:Nat) (G_l_might:FnOk P w K mg base CX0 (n+1) T.d_l_might.f T.d_l_might.fd ["_law_rows_here"] (spLMight n)) :
  FnOk P w K mg base CX0 (n+2) T.d_l_might.f T.d_l_might.fd ["_law_rows_here"] (spLMight (n+1)):=by
 refine T.d_l_might.F.ok (k:=n+1) sc_l_might (λvs H Q E h=>?_) (λcdv A outer s H vs Q E hr h=>?_)
 ·obtain ⟨v,m,rfl,_⟩:=h
  rfl
 ·obtain ⟨v,m,rfl,hv,hn,k⟩:=h
  obtain ⟨b,ys,ms,rfl,hb,h3,hys,em⟩:=hv
  refine ⟨_,(pss_cons (ps_set (i:=1) sc_l_might.nd rfl (Or.inl rfl) (pe_lst pa_nil))
  (pss_cons (ps_for PassesOwn.never rfl (pi_tup (pv 0)) (pg_name (i:=2) sc_l_might.nd rfl (Or.inl rfl))
  (pss_mid (ps_if (pt_cmpR op_in_seq (pe_ix ix_tup (pv 2) pe_int (λ_ _=>rfl)) (pe_tup (pa_cons pe_str (pa_cons pe_str pa_nil))) (by with_unfolding_all rfl))
  (pss_one (ps_expr (pe_bm PySem.F.plainAttrs_list PySem.F.slot_list_append PySem.F.type_list_append mt_append (pv 1) (pa_cons (pe_tup (pa_cons (pe_ix ix_tup (pv 2) pe_int (λ_ _=>rfl)) (pa_cons (pe_ix ix_tup (pv 2) pe_int (λ_ _=>rfl)) pa_nil))) pa_nil))))
  pss_nil)
  (pss_mid (ps_if (pt_cmpR op_eq (pe_ix ix_tup (pv 2) pe_int (λ_ _=>rfl)) pe_str (nomark _))
  (pss_one (ps_expr (pe_bm PySem.F.plainAttrs_list PySem.F.slot_list_append PySem.F.type_list_append mt_append (pv 1) (pa_cons (pe_tup (pa_cons (pe_ix ix_tup (pv 2) pe_int (λ_ _=>rfl)) (pa_cons (pe_ix ix_tup (pv 2) pe_int (λ_ _=>rfl)) pa_nil))) pa_nil))))
  pss_nil)
  (pss_one (ps_for PassesOwn.never rfl (pi_tup (pe_slice sl_tupW (pv 2) (po_some pe_int) po_none)) (pg_name (i:=3) sc_l_might.nd rfl (Or.inl rfl))
  (pss_one (ps_if (pt_val (pe_callB call_isinst (by rfl) T.n_isinstance bt_isinstance (pa_cons (pv 3) (pa_cons (pe_bltn (v:=.ty "tuple") rfl T.n_tuple bt_tuple rfl) pa_nil))))
  (pss_one (ps_set (i:=1) sc_l_might.nd rfl (Or.inl rfl) (pe_op op_cat (pv 1) (pe_call G_l_might (hr.mono (by omega)) rfl T.d_l_might.hm T.d_l_might.F.kp T.d_l_might.b .nil pass0 (pa_cons (pv 3) pa_nil)))))
  pss_nil)))))))
  (pss_one (ps_ret (pv 1))))),?_⟩
  walk_at "sy"
  have c5:cn n<=4665:=by
   have:n=0\/n=1\/n=2\/n=3\/n=4\/n=5:=by omega
   rcases this with rfl | rfl | rfl | rfl | rfl | rfl<;>decide +kernel
  have lm:∀ m∈ms,m.length<=1+2*cn n:=λm hm=>by
   obtain ⟨v,_,hv⟩:=hys.mem m hm
   exact RowM.len hv
  refine ⟨by decide,λl hl=>⟨_,rfl,b,rfl,⟨_,SqT.of ((Same.upd hl) b _ hb)⟩,?_⟩⟩
  refine for_tup (K:=K) (a:=b) (xs:=ys) (λi σ H2=>∃ (lf:Addr) (o1 o2:Option V),σ=[some (.ref b),some (.ref lf),o1,o2]/\LM H lf H2 (ms.take i).flatten)
   ⟨l,none,none,rfl,hl,⟨[],upd_same,pra_nil _⟩,Same.upd hl⟩ (λi σ H2 _ ⟨_,_,_,_,L⟩=>SqT.of (L.sm b _ hb)) ?_ ?_
  ·rintro i y σ H2 hi ⟨lf,o1,o2,rfl,L⟩
   have hi3:i<3:=Nat.lt_of_lt_of_le (List.getElem?_eq_some_iff.mp hi).1 h3
   obtain ⟨m1,hm1,q,xs,rfl,hq,sp⟩:=hys.get hi
   obtain ⟨z,ln,r,o,m',rfl,_,rl,ho,htl,em1,_⟩:=sp.prt.ex
   obtain ⟨z',r',oa,ob,exs,eo,ha,hb'⟩:=ho.split
   cases exs
   have bi:=take_le (i:=i) lm
   have bi2:i*(1+2*cn n)<=2*(1+2*cn n):=Nat.mul_le_mul (by omega) (Nat.le_refl _)
   have oal:oa.length+ob.length<=1:=by have:=ho.len;rw [eo,List.length_append] at this;exact this
   walk_at "sx"
   have go:∀ {G:Hp} {R:VK},Same H G->R (.str z) G->rIxT K (.ref q) (.int 0) G R:=λ{G R} s' q'=>⟨q,_,0,.str z,rfl,rfl,SqT.of (s' _ _ hq),atI_nat (j:=0) rfl,q'⟩
   refine ⟨λσ' G=>σ'=[some (.ref b),some (.ref lf),some (.ref q),o2]/\LM H lf G ((ms.take i).flatten++oa),?_,?_⟩
   ·walk_at "sy"
    refine go L.sm ⟨by decide,λp1 h1'=>⟨p1,_,rfl,.inr (SqT.of upd_same),rfl,by decide +kernel,_,rfl,?_⟩⟩
    have s3:=Same.upd (o:=.tup [V.str "ring",.str "send"]) h1'
    have L3:=L.same s3
    generalize upd H2 p1 (.tup [V.str "ring",.str "send"])=G at s3 L3 |-
    rcases ha with ⟨hz,ln',y,r',er,rfl⟩ | ⟨n1,n2,rfl⟩
    ·obtain ⟨ps,hp,_⟩:=L3.ex
     refine bT (by rcases hz with rfl | rfl<;>decide +kernel) ⟨.inl ⟨_,SqL.of hp⟩,go L3.sm ⟨q,_,_,.str y,rfl,rfl,SqT.of (L3.sm _ _ hq),atI_nat (j:=2) (by rw [er];rfl),(by show (2:Nat)<=sizeLine;decide),λt ht=>?_⟩⟩
     exact (L3.same (Same.upd (o:=.tup [V.str z,.str y]) ht)).push (k:=(z,y)) upd_same (by omega) λG' L' _=>L'
    ·refine bF (in2F n1 n2) ?_
     rw [List.append_nil];exact L3
   ·rintro σ' G ⟨rfl,LG⟩
    refine ⟨λσ' G=>σ'=[some (.ref b),some (.ref lf),some (.ref q),o2]/\LM H lf G ((ms.take i).flatten++o),?_,?_⟩
    ·walk_at "sy"
     rcases hb' with ⟨rfl,ln',x,y,r',er,rfl⟩ | ⟨n1,rfl⟩
     ·obtain ⟨ps,hp,_⟩:=LG.ex
      refine go LG.sm ⟨rfl,ifT rfl ⟨.inl ⟨_,SqL.of hp⟩,go LG.sm ⟨q,_,_,.str y,rfl,rfl,SqT.of (LG.sm _ _ hq),atI_nat (j:=3) (by rw [er];rfl),(by show (2:Nat)<=sizeLine;decide),λt ht=>?_⟩⟩⟩
      refine (LG.same (Same.upd (o:=.tup [V.str "begin",.str y]) ht)).push (k:=("begin",y)) upd_same (by rw [List.length_append];omega) λG' L' _=>?_
      rw [eo,<- List.append_assoc];exact L'
     ·refine go LG.sm ⟨rfl,ifF (λe=>n1 (V.str.inj e)) ?_⟩
      rw [eo,List.append_nil];exact LG
    ·rintro σ' G ⟨rfl,LG⟩
     obtain ⟨ns,hns,ens⟩:=htl.all
     have ln_:∀ m∈ns,m.length<=cn n:=λm hm=>by
      obtain ⟨v,_,hv⟩:=hns.mem m hm
      rcases hv with ⟨_,e⟩ | ⟨_,_,hv⟩
      ·rw [e];exact Nat.zero_le _
      ·exact hv.len

     refine for_sl rfl (LG.sm _ _ hq) λsq G1 s1 hsq=>?_
     refine for_tup (K:=K) (a:=sq) (xs:=r) (λj σ G2=>∃ (lf:Addr) (o2:Option V),σ=[some (.ref b),some (.ref lf),some (.ref q),o2]/\LM H lf G2 ((ms.take i).flatten++o++(ns.take j).flatten)/\G2 sq=some (.tup r))
      ⟨lf,o2,rfl,by rw [show (List.take 0 ns).flatten=[] from rfl,List.append_nil];exact LG.same s1,hsq⟩ (λj σ G2 _ ⟨_,_,_,_,h2⟩=>SqT.of h2) ?_ ?_
     ·rintro j pt σ G2 hj ⟨lf2,o3,rfl,L2',hsq2⟩
      have hj4:j<4:=Nat.lt_of_lt_of_le (List.getElem?_eq_some_iff.mp hj).1 rl
      obtain ⟨n1,hn1,hp⟩:=hns.get hj
      have bj:=take_le (i:=j) ln_
      have bj2:j*cn n<=4*cn n:=Nat.mul_le_mul (by omega) (Nat.le_refl _)
      walk_at "sx"
      rcases hp with ⟨hf,rfl⟩ | ⟨a1,rfl,hR⟩
      ·have L3:LM H lf2 G2 ((List.take i ms).flatten++o++(List.take (j+1) ns).flatten):=by
        rw [flat_snoc hn1,List.append_nil];exact L2'
       obtain ⟨ty,h1,h2⟩:=flat_ty (K:=K) (H:=G2) hf
       exact ⟨ty,h1,false,h2,bF rfl ⟨L3,hsq2⟩⟩
      ·cases n with
       |zero=>exact hR.elim
       |succ n =>
       obtain ⟨c,vs',ms',e1,hc,h3',hA,epm⟩:=id hR
       cases e1
       refine ⟨_,.tup (L2'.sm _ _ hc),true,rfl,bT rfl ⟨_,n1,rfl,hR.kt (.of L2'.sm),by omega,λl2 G3 ps hl2 h2 hpr hle s3=>?_⟩⟩
       obtain ⟨ps0,hp0,hpr0⟩:=L2'.ex
       have l4:=hR.len
       have ol:=ho.len
       refine ⟨lf2,l2,_,_,rfl,rfl,s3 _ _ hp0,h2,?_,λp hp=>?_⟩
       ·rw [List.length_map,List.length_map,hpr0.1,hpr.1,List.length_append,List.length_append]
        exact Nat.le_trans (m:=100000) (by omega) (by decide)
       ·refine ⟨p,rfl,⟨(L2'.sm.trans s3).free hp,⟨ps0++ps,by rw [upd_same,List.map_append],?_⟩,(L2'.sm.trans s3).trans (Same.upd hp)⟩,(s3.trans (Same.upd hp)) _ _ hsq2⟩
        rw [flat_snoc hn1,<- List.append_assoc]
        exact pra_same (pra_app (pra_same hpr0 s3) hpr) (Same.upd hp)
     ·rintro σ G2 ⟨lf2,o3,rfl,L2',hsq2⟩
      refine ⟨lf2,_,_,rfl,?_⟩
      rw [flat_snoc hm1,em1,ens,<- List.append_assoc]
      rw [hns.len,List.take_length] at L2'
      exact L2'
  ·rintro σ H2 ⟨lf,o1,o2,rfl,L⟩
   obtain ⟨ps,hp,hpr⟩:=L.ex
   rw [hys.len,List.take_length,<- em] at hpr
   refine ⟨_,rfl,k lf H2 ps L.fr hp hpr ?_ L.sm⟩
   rw [hpr.1,em]
   have:=take_le (i:=ms.length) lm
   rw [List.take_length] at this
   rw [hys.len] at h3
   exact Nat.le_trans this (Nat.mul_le_mul h3 (Nat.le_refl _))
theorem no_might (T:Tx P w K mg):FnOk P w K mg base CX0 1 T.d_l_might.f T.d_l_might.fd ["_law_rows_here"] (spLMight 0):=⟨λ_ _ _ _ ⟨_,_,_,h,_⟩=>h.elim,λ_ _ _ _ _ _ _ _ _ _ _ _ _ ⟨_,_,_,h,_⟩=>h.elim⟩
theorem ok_l_might (T:Tx P w K mg):∀ n,FnOk P w K mg base CX0 (n+1) T.d_l_might.f T.d_l_might.fd ["_law_rows_here"] (spLMight n)
 |0=>no_might T
 |n+1=>might_step T n (ok_l_might T n)

theorem sc_law:FnScope ["_law_script", "_law_state", "_law_rows_here", "_law_found", "_law_machine", "_law_held_here", "_law_due", "_law_turn", "_law_told", "_law_want"] ["_law_script"] (defScope (top 30)):=⟨rfl,rfl,rfl,by decide +kernel,rfl,by decide +kernel,by decide +kernel⟩
theorem ok_law (T:Tx P w K mg) {f:Addr} {fd:FuncData} (F:Fun K "law" "law" (top 30) f fd)
  (G_might_of:FnOk P w K mg base CX0 8 T.d_might_of.f T.d_might_of.fd ["rows"] (spMightOf 5))
  (G_Machine___init__:FnOk P w K mg base CX0 4 T.m_Machine___init__.f T.m_Machine___init__.fd ["self", "rows"] (spMInit T))
  (G_Machine_waiting:FnOk P w K mg base CX0 1 T.m_Machine_waiting.f T.m_Machine_waiting.fd ["self"] (spWaiting T))
  (G_Machine_might:FnOk P w K mg base CX0 9 T.m_Machine_might.f T.m_Machine_might.fd ["self"] (spMight T))
  (G_Machine_go:FnOk P w K mg base CX0 1 T.m_Machine_go.f T.m_Machine_go.fd ["self", "value"] (spGo T))
  (G_Machine_joined:FnOk P w K mg base CX0 2 T.m_Machine_joined.f T.m_Machine_joined.fd ["self", "faults"] (spJoined T))
  (G_Machine_step:FnOk P w K mg base CX0 7 T.m_Machine_step.f T.m_Machine_step.fd ["self"] (spStep T))
  (G_l_rows:FnOk P w K mg base CX0 15 T.d_l_rows.f T.d_l_rows.fd ["_law_state", "_law_deep", "_law_groups"] (spRows K 5))
  (G_l_might:FnOk P w K mg base CX0 7 T.d_l_might.f T.d_l_might.fd ["_law_rows_here"] (spLMight 6))
  (G_l_held:FnOk P w K mg base CX0 1 T.d_l_held.f T.d_l_held.fd ["_law_held_here"] (spHeld K)):FnOk P w K mg base CX0 22 f fd ["_law_script"] (spLaw K):=by
 refine F.ok sc_law (λvs H Q E h=>?_) (λcdv A outer s H vs Q E hr h=>?_)
 ·obtain ⟨a,ns,rfl,_⟩:=h
  rfl
 ·obtain ⟨a,ns,rfl,hs,hn,k⟩:=h
  have hu:=hu100 hr
  have hu1:=hu_of hr
  have hu20:=Nat.lt_of_le_of_lt (Nat.add_le_add_left (show 20<=100 by decide) _) hu
  refine ⟨_,(pss_cons (ps_set (i:=1) sc_law.nd rfl (Or.inl rfl) (pe_disp (pps_cons pe_str (pv 0) (pps_cons pe_str pe_int (pps_cons pe_str pe_int pps_nil))) rfl rfl (by simp) (by decide)))
  (pss_cons (ps_set (i:=2) sc_law.nd rfl (Or.inl rfl) (pe_call G_l_rows (hr.mono (by omega)) rfl T.d_l_rows.hm T.d_l_rows.F.kp T.d_l_rows.b .nil pass0 (pa_cons (pv 1) (pa_cons pe_int (pa_cons (pe_lst pa_nil) pa_nil)))))
  (pss_cons (ps_set (i:=3) sc_law.nd rfl (Or.inl rfl) (pe_call G_might_of (hr.mono (by omega)) rfl T.d_might_of.hm T.d_might_of.F.kp T.d_might_of.b .nil pass0 (pa_cons (pv 2) pa_nil)))
  (pss_mid (ps_if (PW.pt (pw_or (pt_not (pt_val (pe_callB call_isinst (by rfl) T.n_isinstance bt_isinstance (pa_cons (pv 3) (pa_cons (pe_bltn (v:=.ty "list") rfl T.n_list bt_list rfl) pa_nil))))) (pw_or (pt_cmpR (op_neL hu) (pv 3) (pe_call G_l_might (hr.mono (by omega)) rfl T.d_l_might.hm T.d_l_might.F.kp T.d_l_might.b .nil pass0 (pa_cons (pv 2) pa_nil)) (nomark _)) (pw_or1 (pt_cmpR (op_neL hu) (pe_call G_might_of (hr.mono (by omega)) rfl T.d_might_of.hm T.d_might_of.F.kp T.d_might_of.b .nil pass0 (pa_cons (pe_callTy call_list_of (by rfl) T.n_list bt_list (pa_cons (pv 2) pa_nil)) pa_nil)) (pv 3) (nomark _))))))
  (pss_one (ps_ret pe_bl))
  pss_nil)
  (pss_cons (ps_set (i:=4) sc_law.nd rfl (Or.inl rfl) (pe_make T.M_Machine G_Machine___init__ (hr.mono (by omega)) rfl T.h_Machine T.m_Machine___init__.b .nil pass0 (pa_cons (pv 2) pa_nil)))
  (pss_cons (ps_set (i:=5) sc_law.nd rfl (Or.inl rfl) (pe_lst pa_nil))
  (pss_cons (ps_set (i:=6) sc_law.nd rfl (Or.inr rfl) (pe_callB (call_sortedPr (w:=w) rfl rfl) (by rfl) T.n_sorted bt_sorted (pa_cons (pe_callTy (call_setPr (w:=w) rfl rfl hu20) (by rfl) T.n_set bt_set (pa_cons (pe_call G_l_might (hr.mono (by omega)) rfl T.d_l_might.hm T.d_l_might.F.kp T.d_l_might.b .nil pass0 (pa_cons (pv 2) pa_nil)) pa_nil)) pa_nil)))
  (pss_cons (ps_for PassesOwn.never rfl (pi_range1 rfl T.n_range (pa_cons pe_int pa_nil)) (pg_name (i:=7) sc_law.nd rfl (Or.inl rfl))
  (pss_cons (ps_set (i:=8) sc_law.nd rfl (Or.inl rfl) (pe_meth0 (pv 4) T.k_Machine T.m_Machine_might.me G_Machine_might (hr.mono (by omega)) T.m_Machine_might.b .nil pass0))
  (pss_mid (ps_if (PW.pt (pw_or (pt_not (pt_val (pe_callB call_isinst (by rfl) T.n_isinstance bt_isinstance (pa_cons (pv 8) (pa_cons (pe_bltn (v:=.ty "list") rfl T.n_list bt_list rfl) pa_nil))))) (pw_or (pt_cmpR (op_neL hu) (pe_lc (N':=["_law_one", "_law_due"]) (sel:=[none,some 6]) rfl rfl rfl (pi_list (pv 8)) (gk_name rfl) (λ_ _ _ _ _=>⟨(pg_name (i:=0) (show (["_law_one", "_law_due"]:List Str).Nodup by decide +kernel) rfl (Or.inl rfl)),(pts_one (pt_cmpR (op_notInDK (K:=K) rfl hu) (pv 0) (pv 1) (by with_unfolding_all rfl))),(pv 0)⟩)) (pe_lst pa_nil) (nomark _)) (pw_or1 (pt_cmpR (op_neL hu) (pv 8) (pe_callB (call_sortedPr (w:=w) rfl rfl) (by rfl) T.n_sorted bt_sorted (pa_cons (pe_callTy (call_setPr (w:=w) rfl rfl hu20) (by rfl) T.n_set bt_set (pa_cons (pv 8) pa_nil)) pa_nil)) (nomark _))))))
  (pss_one (ps_ret pe_bl))
  pss_nil)
  (pss_mid (ps_if (PW.pt (pw_and (pt_cmpR op_eq (pv 7) pe_int (nomark _)) (pw_and1 (pt_cmpR (op_neL hu) (pv 8) (pv 6) (nomark _)))))
  (pss_one (ps_ret pe_bl))
  pss_nil)
  (pss_cons (ps_expr (pe_bm PySem.F.plainAttrs_list PySem.F.slot_list_append PySem.F.type_list_append mt_append (pv 8) (pa_cons pe_non pa_nil)))
  (pss_cons (ps_expr (pe_bm PySem.F.plainAttrs_list PySem.F.slot_list_append PySem.F.type_list_append mt_append (pv 5) (pa_cons (pe_tup (pa_cons (pv 8) (pa_cons (pe_callTy call_list_of (by rfl) T.n_list bt_list (pa_cons (pv 8) pa_nil)) pa_nil))) pa_nil)))
  (pss_cons (ps_set (i:=9) sc_law.nd rfl (Or.inl rfl) (pe_meth0 (pv 4) T.k_Machine T.m_Machine_step.me G_Machine_step (hr.mono (by omega)) T.m_Machine_step.b .nil pass0))
  (pss_mid (ps_if (pt_cmpR op_eq (pe_ix ix_tup (pv 9) pe_int (λ_ _=>rfl)) pe_str (nomark _))
  (pss_one (ps_ret (pe_and (pe_call G_l_held (hr.mono (by omega)) rfl T.d_l_held.hm T.d_l_held.F.kp T.d_l_held.b .nil pass0 (pa_cons (pv 5) pa_nil)) (pe_one (pe_cmpR (op_eqL hu) (pe_meth0 (pv 4) T.k_Machine T.m_Machine_might.me G_Machine_might (hr.mono (by omega)) T.m_Machine_might.b .nil pass0) (pe_lst pa_nil) (nomark _))))))
  pss_nil)
  (pss_mid (ps_if (pt_cmpR op_in_seq (pe_ix ix_tup (pv 9) pe_int (λ_ _=>rfl)) (pe_tup (pa_cons pe_str (pa_cons pe_str pa_nil))) (by with_unfolding_all rfl))
  (pss_one (ps_expr (pe_meth (pv 4) T.k_Machine T.m_Machine_joined.me G_Machine_joined (hr.mono (by omega)) T.m_Machine_joined.b .nil pass0 (pa_cons (pe_tup pa_nil) pa_nil))))
  (pss_one (ps_if (pt_cmpR op_notN (pe_meth0 (pv 4) T.k_Machine T.m_Machine_waiting.me G_Machine_waiting (hr.mono (by omega)) T.m_Machine_waiting.b .nil pass0) pe_non (nomark _))
  (pss_one (ps_expr (pe_meth (pv 4) T.k_Machine T.m_Machine_go.me G_Machine_go (hr.mono (by omega)) T.m_Machine_go.b .nil pass0 (pa_cons (pv 7) pa_nil))))
  pss_nil)))
  (pss_one (ps_set (i:=6) sc_law.nd rfl (Or.inr rfl) (pe_slice sl_list (pv 8) po_none (po_some (pe_un un_neg pe_int))))))))))))))
  (pss_one (ps_ret (pe_call G_l_held (hr.mono (by omega)) rfl T.d_l_held.hm T.d_l_held.F.kp T.d_l_held.b .nil pass0 (pa_cons (pv 5) pa_nil)))))))))))),?_⟩
  walk_at "sy"
  simp only [tDisp,tPairs,tC,tVar]
  refine λd hd=>⟨_,rfl,upd_same,kv0 a,rfl,(by show (3:Nat)<=15;decide),by decide,λg hg=>?_⟩
  have sH:Same H (upd (upd H d (.dK [])) d (.dK (mergeK [] (kv0 a)))):=λc o e=>by rw [upd_ne (ne_of_none e hd),upd_ne (ne_of_none e hd)];exact e
  have hd1:(upd (upd H d (.dK [])) d (.dK (mergeK [] (kv0 a)))) d=some (.dK (mergeK [] (kv0 a))):=upd_same
  generalize upd (upd H d (.dK [])) d (.dK (mergeK [] (kv0 a)))=H1 at sH hd1 hg |-
  have D1:=dr0 hd1 (sql_same hs sH) hn
  have s2:=Same.upd (o:=.lst []) hg
  have hg2:(upd H1 g (.lst [])) g=some (.lst []):=upd_same
  generalize upd H1 g (.lst [])=H2 at s2 hg2 |-
  refine ⟨d,g,0,0,rfl,D1.same s2,by decide +kernel,⟨⟨[],hg2,by decide⟩,by decide,by decide⟩,λv m0 H3 hR _=>?_⟩
  obtain ⟨r,vs,ms,rfl,hr3,hvl,hA,em0⟩:=id hR
  have sq:Seq H3 true r vs 5 ms:=⟨hr3,by omega,hA⟩
  refine ⟨true,r,vs,ms,rfl,sq,Nat.le_refl _,λfd H4 ps4 hfd4 h4 p4 _ s4=>?_⟩
  rw [<- em0] at p4
  refine ⟨λσ' G=>σ'=[some (.ref a),some (.ref d),some (.ref r),some (.ref fd),none,none,none,none,none,none]/\Same H3 G,?_,?_⟩
  ·walk_at "sy"
   refine ⟨_,.lst h4,true,rfl,bF rfl ⟨.ref r,m0,rfl,hR.kt (.of s4),Nat.le_refl _,λl5 H5 ps5 _ h5 p5 _ s5=>?_⟩⟩
   refine neP (s5 _ _ h4) h5 (pra_same p4 s5) p5 ⟨_,rfl,bF rfl ⟨_,.inr (SqT.of ((s4.trans s5) _ _ hr3)),λl6 h6=>?_⟩⟩
   have s6:=Same.upd (o:=.lst vs) h6
   have s36:=(s4.trans s5).trans s6
   refine ⟨false,l6,vs,ms,rfl,⟨upd_same,by omega,rows_kt (.of s36) hA⟩,Nat.le_refl _,λl7 H7 ps7 _ h7 p7 _ s7=>?_⟩
   rw [<- em0] at p7
   have s47:=(s5.trans s6).trans s7
   exact neP h7 (s47 _ _ h4) p7 (pra_same p4 s47) ⟨_,rfl,bF rfl (s36.trans s7)⟩
  ·rintro σ' G ⟨rfl,sG⟩
   have hRG:=hR.kt (.of sG)
   have hrG:=sG _ _ hr3
   have hAG:=rows_kt (.of sG) hA
   walk_at "sy"
   intro pm dm hpm hdm nem
   have sm:Same G (upd (upd G dm (.own pm)) pm (.ins T.C_Machine dm [])):=(Same.upd hdm).trans (Same.upd (by rw [upd_ne (Ne.symm nem)];exact hpm))
   refine ⟨pm,r,vs,rfl,ObAt.new upd_same,sm _ _ hrG,by omega,λH5 f m b5 M5 _ hsg hwt hst _ _ _ _ _=>⟨rfl,by decide,λh hh=>?_⟩⟩
   have s5:Same G H5:=same_new hpm sm b5
   have s6:=Same.upd (o:=.lst []) hh
   have nh:h≠m.fl:=λe=>by rw [e,M5.fl] at hh;cases hh
   have hh6:(upd H5 h (.lst [])) h=some (.lst []):=upd_same
   generalize upd H5 h (.lst [])=H6 at s6 hh6 |-
   have sG6:=s5.trans s6
   refine ⟨.ref r,m0,rfl,hRG.kt (.of sG6),Nat.le_refl _,λl7 H7 ps7 _ h7 p7 _ s7=>⟨l7,rfl,ps7,h7,m0,p7,UU,hR.uu,by decide,λS kz hS hkz=>?_⟩⟩
   have s8:=Same.upd (o:=setHOp w S ps7 kz) hS
   refine ⟨ps7,m0,UU,kz,upd_same,pra_same p7 s8,hkz,uu_ok,hR.uu,λdu qs hdu hq=>?_⟩
   have s9:=Same.upd (o:=.lst (qs.map V.ref)) hdu
   have hdu9:(upd (upd H7 S (setHOp w S ps7 kz)) du (.lst (qs.map V.ref))) du=some (.lst (qs.map V.ref)):=upd_same
   have hq9:=pra_same hq s9
   generalize upd (upd H7 S (setHOp w S ps7 kz)) du (.lst (qs.map V.ref))=H9 at s9 hdu9 hq9 |-
   have s59:=((s6.trans s7).trans s8).trans s9
   have em:[m0].flatten=m0:=by simp
   have L0:Lp T H9 pm h du 0 [⟨f,.frame,rootS r vs⟩] [] m [m0] (UU.filter λk=>decide (k∈m0)):=by
    refine ⟨?_,hwt,.cons ?_ .nil,⟨nh,[],((s7.trans s8).trans s9) _ _ hh6,Nat.le_refl _,λt ht=>(by cases ht)⟩,⟨qs,hdu9,hq9⟩,λk hk=>?_,λ_=>by rw [em]⟩
    ·rw [em0]
     exact root_gd (M5.same s59) (rows_kt (.of (s5.trans s59)) hAG) hsg hst
    ·rw [em0]
     exact root_bh (rows_kt (.of (s5.trans s59)) hAG)
    ·rw [em] at hk
     exact List.mem_filter.mpr ⟨hR.uu k hk,decide_eq_true hk⟩
   clear hq9 hdu9 s59
   refine ⟨_,rfl,by decide,by decide,?_⟩
   refine for_range (λi σ G=>∃ (o7 o8 o9:Option V) (du:Addr) (stk:List Fm) (kv:List (Key×V)) (m:Mc) (mss:List (List Pr)) (ks:List Pr),σ=[some (.ref a),some (.ref d),some (.ref r),some (.ref fd),some (.ref pm),some (.ref h),some (.ref du),o7,o8,o9]/\Lp T G pm h du i stk kv m mss ks)
    ⟨none,none,none,du,_,_,m,_,_,rfl,L0⟩ ?_ ?_
   ·rintro i σ G hi ⟨o7,o8,o9,du,stk,kv,m,mss,ks,rfl,L⟩
    have i0:(0:Int)+(i:Nat)=(i:Nat):=by omega
    rw [i0]
    have M:=L.gd.at_
    have ln:stk.length<=45:=Nat.le_trans L.gd.ln (by omega)
    walk_at "sy"
    refine M.ob.call ⟨pm,stk,m,mss,rfl,M.ob,M.fl,M.fr,L.bh,ln,λl G1 qs hl0 hl1 hq1 s1=>?_⟩
    generalize htk:UU.filter (λk=>decide (k∈mss.flatten))=tk at hq1
    have nlf:l≠m.fl:=λe=>by rw [e,M.fl] at hl0;cases hl0
    have nlh:l≠h:=λe=>by
     obtain ⟨ts,e1,_⟩:=L.held.ex
     rw [e,e1] at hl0;cases hl0
    have tkU:∀ k∈tk,k∈UU:=λk hk=>by rw [<- htk] at hk;exact (List.mem_filter.mp hk).1
    have tkS:∀ k∈mss.flatten,k∈tk:=λk hk=>by rw [<- htk];exact List.mem_filter.mpr ⟨bhs_uu L.bh k hk,decide_eq_true hk⟩
    have tkm:∀ k∈tk,k∈mss.flatten:=λk hk=>by rw [<- htk] at hk;exact of_decide_eq_true (List.mem_filter.mp hk).2
    have ql:qs.length<=3:=by
     rw [hq1.1,<- htk]
     exact Nat.le_trans (List.length_filter_le _ _) (by decide)
    obtain ⟨dps,hdu,hdp⟩:=L.due.ex
    refine ⟨λσ' G'=>σ'=[some (.ref a),some (.ref d),some (.ref r),some (.ref fd),some (.ref pm),some (.ref h),some (.ref du),some (.int i),some (.ref l),o9]/\Same G G'/\G' l=some (.lst (qs.map V.ref))/\PrA G' qs tk,?_,?_⟩
    ·walk_at "sw"
     refine ⟨_,.lst hl1,true,rfl,bF rfl ⟨⟨_,SqL.of hl1⟩,?_⟩⟩
     refine lc_list (xs:=qs.map V.ref) (λj ys G'=>ys=[]/\G1=G') ⟨rfl,rfl⟩ ?_ ?_ ?_ ?_
     ·rintro j ys G' hj ⟨rfl,rfl⟩
      exact ⟨SqL.of hl1,Nat.zero_le _⟩
     ·rw [List.length_map];exact Nat.le_trans ql (by decide)
     ·rintro j x ys G' hx ⟨rfl,rfl⟩
      rw [List.getElem?_map] at hx
      cases eb:qs[j]? with
      |none=>rw [eb] at hx;cases hx
      |some q =>
       rw [eb] at hx
       cases hx
       have hj:j<tk.length:=by rw [<- hq1.1];exact (List.getElem?_eq_some_iff.mp eb).1
       have hqj:=hq1.2 j q _ eb (List.getElem?_eq_getElem hj)
       walk_at "sx"
       exact notin hqj (s1 _ _ hdu) (pra_same hdp s1) (L.sub _ (tkm _ (List.getElem_mem hj))) ⟨_,rfl,bF rfl rfl⟩
     ·rintro ys G' ⟨rfl,rfl⟩ D hD
      refine ⟨by decide,λpe hpe=>?_⟩
      have t1:=Same.upd (o:=.lst []) hD
      have t2:=Same.upd (o:=.lst []) hpe
      refine eqL_nil (SqL.of (t2 _ _ upd_same)) upd_same ⟨_,rfl,bF (by simp) ?_⟩
      have t12:=t1.trans t2
      generalize upd (upd G1 D (.lst [])) pe (.lst [])=G3 at t2 t12 |-
      refine ⟨qs,t12 _ _ hl1,tk,pra_same hq1 t12,UU,tkU,by decide,λS' kz hS' hkz=>?_⟩
      have t3:=Same.upd (o:=setHOp w S' qs kz) hS'
      refine ⟨qs,tk,UU,kz,upd_same,pra_same (pra_same hq1 t12) t3,hkz,uu_ok,tkU,λr' qs' hr' hq'=>?_⟩
      have t4:=Same.upd (o:=.lst (qs'.map V.ref)) hr'
      have t14:=(t12.trans t3).trans t4
      have ef:UU.filter (λk=>decide (k∈tk))=tk:=by
       conv=>lhs;rw [<- htk]
       rw [filt_filt];exact htk
      rw [ef] at hq'
      exact neP (t14 _ _ hl1) upd_same (pra_same hq1 t14) (pra_same hq' t4) ⟨_,rfl,bF rfl ⟨s1.trans t14,t14 _ _ hl1,pra_same hq1 t14⟩⟩
    rintro σ' G2 ⟨rfl,sG2,hl2,hq2⟩
    refine ⟨λσ' G'=>σ'=[some (.ref a),some (.ref d),some (.ref r),some (.ref fd),some (.ref pm),some (.ref h),some (.ref du),some (.int i),some (.ref l),o9]/\G2=G',?_,?_⟩
    ·walk_at "sy"
     by_cases c:i=0
     ·have ek:=L.first c
      rw [htk] at ek
      refine ⟨rfl,ifT (by rw [c];rfl) (neP hl2 (sG2 _ _ hdu) hq2 (by rw [<- ek];exact pra_same hdp sG2) ⟨_,rfl,bF rfl rfl⟩)⟩
     ·exact ⟨rfl,ifF (by omega) (iteF trivial)⟩
    rintro σ' G2' ⟨rfl,rfl⟩
    walk_at "sy"
    refine ⟨.inl ⟨_,SqL.of hl2⟩,l,_,_,rfl,rfl,hl2,by rw [List.length_map];exact small1000 (by omega),?_⟩
    have sG3:=same_set sG2 hl0 (o:=.lst (qs.map V.ref++[.non]))
    have hl3:(upd G2 l (.lst (qs.map V.ref++[.non]))) l=some (.lst (qs.map V.ref++[.non])):=upd_same
    have hq3:=pra_kt hq2 (KT.put (ys':=qs.map V.ref++[.non]) hl2)
    generalize upd G2 l (.lst (qs.map V.ref++[.non]))=G3 at sG3 hl3 hq3 |-
    obtain ⟨ts0,hts0,_⟩:=(L.held.same sG3).ex
    refine ⟨.inl ⟨_,SqL.of hts0⟩,_,.inl (SqL.of hl3),λl2 hl2'=>⟨by decide,λt ht=>?_⟩⟩
    have t1:=Same.upd (o:=.lst (qs.map V.ref++[.non])) hl2'
    have t2:=Same.upd (o:=.tup [V.ref l,.ref l2]) ht
    have ht4:(upd (upd G3 l2 (.lst (qs.map V.ref++[.non]))) t (.tup [V.ref l,.ref l2])) t=some (.tup [V.ref l,.ref l2]):=upd_same
    have hl24:=t2 _ _ (show (upd G3 l2 (.lst (qs.map V.ref++[.non]))) l2=some (.lst (qs.map V.ref++[.non])) from upd_same)
    have t12:=t1.trans t2
    generalize upd (upd G3 l2 (.lst (qs.map V.ref++[.non]))) t (.tup [V.ref l,.ref l2])=G4 at t2 t12 ht4 hl24 |-
    have sG4:=sG3.trans t12
    have n2f:l2≠m.fl:=λe=>by rw [e,sG3 _ _ M.fl] at hl2';cases hl2'
    have n2h:l2≠h:=λe=>by rw [e,hts0] at hl2';cases hl2'
    have P4:PrH G4 m.fl h t:=⟨l,l2,_,ht4,t12 _ _ hl3,hl24,nlf,n2f,nlh,n2h,λx hx=>by
     rcases List.mem_append.mp hx with q | q
     ·obtain ⟨u,_,rfl⟩:=List.mem_map.mp q
      exact .inr ⟨u,rfl⟩
     ·exact .inl (List.mem_singleton.mp q)⟩
    obtain ⟨xs,hxs,hxl,A5⟩:=(L.held.same sG4).push P4
    refine ⟨h,_,_,rfl,rfl,hxs,small1000 (by omega),?_⟩
    have b5:But h G4 (upd G4 h (.lst (xs++[.ref t]))):=λc o n e=>by rw [upd_ne n];exact e
    have Gd5:=(L.gd.same sG4).offL b5 hxs L.held.nh
    have hl5:=b5 _ _ nlh (t12 _ _ hl3)
    have hq5:=pra_kt (pra_same hq3 t12) (KT.put (ys':=xs++[.ref t]) hxs)
    generalize upd G4 h (.lst (xs++[.ref t]))=G5 at b5 A5 Gd5 hl5 hq5 |-
    have M5':=Gd5.at_
    refine M5'.ob.call ⟨pm,_,1+2*i,stk,kv,m,rfl,Gd5,by omega,L.wt,λv G6 hv R=>?_⟩
    obtain ⟨tt,z,rr,m',rfl,htt,k36,hres⟩:=R.ex
    have kl6:=k36.kl M5'
    have kt6:=k36.kt M5'
    have A6:=A5.kl kl6 kt6
    have hl6:G6 l=some (.lst (qs.map V.ref++[.non])):=kl6 l (.lst (qs.map V.ref++[.non])) nlf (λ_ _ _ z=>nomatch z) (λ_ z=>nomatch z) hl5
    have hq6:=pra_kt hq5 kt6
    refine ⟨λσ' G'=>σ'=[some (.ref a),some (.ref d),some (.ref r),some (.ref fd),some (.ref pm),some (.ref h),some (.ref du),some (.int i),some (.ref l),some (.ref tt)]/\G6=G'/\z≠"ended",?_,?_⟩
    ·walk_at "sy"
     refine ⟨tt,_,_,.str z,rfl,rfl,SqT.of htt,atI_nat (j:=0) rfl,rfl,?_⟩
     by_cases c:z="ended"
     ·rcases hres with ⟨_,ob,hfl⟩ | ⟨h0,_⟩
      ·refine ifT (by rw [c]) ⟨m.fl,h,i+1,rfl,A6,by omega,λG7 s7=>⟨true,rfl,bT rfl ((ob.same s7).call ?_)⟩⟩
       refine ⟨pm,[],m',[],rfl,ob.same s7,s7 _ _ hfl,λx hx=>(by cases hx),.nil,by decide,λl8 G8 qs8 _ h8 p8 s8=>⟨by decide,λpe hpe=>?_⟩⟩
       have e8:UU.filter (λk=>decide (k∈([]:List (List Pr)).flatten))=[]:=by decide +kernel
       rw [e8] at p8
       exact neP (qs:=[]) ((Same.upd hpe) _ _ h8) upd_same (pra_same p8 (Same.upd hpe)) (pra_nil _) (k _)
      ·exact absurd c h0
     ·exact ifF (λe=>c (V.str.inj e)) ⟨rfl,c⟩
    rintro σ' G6' ⟨rfl,rfl,hz⟩
    obtain ⟨_,stk6,kv6,G6d,e1,e2,e3,hw6⟩:=hres.resolve_left λe=>hz e.1
    have M6:=G6d.at_
    refine ⟨λσ' G'=>σ'=[some (.ref a),some (.ref d),some (.ref r),some (.ref fd),some (.ref pm),some (.ref h),some (.ref du),some (.int i),some (.ref l),some (.ref tt)]/\Af T G' pm h l m.fl i (λk=>k∈mss.flatten) qs tk,?_,?_⟩
    ·walk_at "sy"
     refine ⟨tt,_,_,.str z,rfl,rfl,SqT.of htt,atI_nat (j:=0) rfl,by decide,λp1 h1=>⟨p1,_,rfl,.inr (SqT.of upd_same),rfl,by decide +kernel,_,rfl,?_⟩⟩
     have u1:=Same.upd (o:=.tup [V.str "join",.str "halt"]) h1
     have Gd7:=G6d.same u1
     have A7:=A6.same u1
     have hl7:=u1 _ _ hl6
     have hq7:=pra_same hq6 u1
     have htt7:=u1 _ _ htt
     generalize upd G6 p1 (.tup [V.str "join",.str "halt"])=G7 at u1 Gd7 A7 hl7 hq7 htt7 |-
     have M7:=Gd7.at_
     have nl':l≠m'.fl:=by rw [e1];exact nlf
     have aft:∀ {G8:Hp} {stk8:List Fm} {kv8:List (Key×V)} {m8:Mc},K3 m' G7 G8->Gd T G8 pm (λk=>k∈mss.flatten) (3+2*i) stk8 kv8 m8->m8.wt=.non->m8.fl=m'.fl->Af T G8 pm h l m.fl i (λk=>k∈mss.flatten) qs tk:=λ{G8 stk8 kv8 m8} k8 g8 hw8 hf8=>by
      have kl8:=k8.kl M7
      have kt8:=k8.kt M7
      rw [e1] at kl8
      exact ⟨⟨stk8,kv8,m8,g8,hw8,hf8.trans e1⟩,A7.kl kl8 kt8,kl8 l (.lst (qs.map V.ref++[.non])) nlf (λ_ _ _ z=>nomatch z) (λ_ z=>nomatch z) hl7,pra_kt hq7 kt8⟩
     by_cases c:z="join"\/z="halt"
     ·obtain ⟨_,b,x,rfl,hc⟩:=hw6.resolve_right λe=>c.elim e.1 e.2.1
      refine bT (by rcases c with rfl | rfl<;>decide +kernel) (M7.ob.call ⟨by decide,λp2 h2=>?_⟩)
      have u2:=Same.upd (o:=.tup []) h2
      have hp2:(upd G7 p2 (.tup [])) p2=some (.tup []):=upd_same
      generalize upd G7 p2 (.tup [])=G8 at u2 hp2 |-
      have Gd8:=Gd7.same u2
      have M8:=Gd8.at_
      have hx8:x∈b++[x]:=List.mem_append_right _ List.mem_cons_self
      obtain ⟨_,_,hP8,_⟩:=M8.ob.ex
      obtain ⟨_,_,hX8,_⟩:=(M8.fr x hx8).fr.ex
      refine ⟨pm,p2,b,x,kv6,[],m',[],rfl,M8,hc,hp2,λG9 kp M9=>?_⟩
      have k9:K3 m' G8 G9:=K3.two kp hP8 hX8
      have kt9:=k9.kt M8
      exact aft ((K3.of u2).trans k9) ((Gd8.last M9 kt9 (((Gd8.fr x hx8).kt kt9).tell (kt9 _ _ hp2)) (Gd8.sg.kt kt9) Gd8.st (.inl rfl)).up (by omega)) rfl rfl
     ·refine bF (in2F (λe=>c (.inl e)) (λe=>c (.inr e))) (M7.ob.call ⟨pm,m',rfl,M7.ob,?_⟩)
      obtain ⟨_,_,hw⟩:=hw6.resolve_left λe=>c e.1
      rcases hw with hw | ⟨hw,hWt⟩
      ·rw [hw]
       exact bF (by simp) (aft (K3.refl _ _) (Gd7.up (by omega)) hw rfl)
      ·rw [hw]
       refine bT (by simp) (M7.ob.call ⟨pm,i,_,1+2*i+1,stk6,kv6,m',tt,z,rr,rfl,Gd7,by omega,hw,htt7,hWt,λG8 kv8 k8 g8=>?_⟩)
       exact aft k8 (g8.up (by omega)) rfl rfl
    rintro σ' G7 ⟨rfl,Af7⟩
    walk_at "sy"
    obtain ⟨stk7,kv7,m7,g7,hw7,hf7⟩:=Af7.gd
    refine ⟨l,_,rfl,SqL.of Af7.told,λdu' hdu'=>?_⟩
    have u8:=Same.upd (o:=.lst (cutV (qs.map V.ref++[.non]) none (some (-1)))) hdu'
    obtain ⟨mss8,b8,s8,g8⟩:=(g7.same u8).mss
    refine ⟨_,_,_,du',rfl,rfl,rfl,rfl,stk7,kv7,m7,mss8,tk,⟨by rw [show 1+2*(i+1)=3+2*i by omega];exact g8,hw7,b8,by rw [hf7];exact Af7.held.same u8,⟨qs,by rw [upd_same,cut_last],pra_same Af7.pr u8⟩,λk hk=>tkS k (s8 k hk),λe=>absurd e (by omega)⟩⟩
   ·rintro σ G ⟨o7,o8,o9,du,stk,kv,m,mss,ks,rfl,L⟩
    walk_at "sy"
    exact ⟨m.fl,h,_,rfl,L.held,by decide,λH' _=>k H'⟩
theorem law_fn {l:PySem.W.OpenLaw} {h:Heap} {fa:Addr} (X:K.In h) (G:h.Ns mainGlobals mg) (hfa:mg "law"=some (.ref fa))
  (i11:InK K "parts" (top 11))
  (i12:InK K "walk" (top 12))
  (i15:InK K "might_of" (top 15))
  (i16:InK K "is_name_of_value" (top 16))
  (i20:InK K "_law_held" (top 20))
  (i21:InK K "_law_mixed" (top 21))
  (i22:InK K "_law_pick" (top 22))
  (i23:InK K "_law_line" (top 23))
  (i24:InK K "_law_value" (top 24))
  (i25:InK K "_law_clean" (top 25))
  (i26:InK K "_law_simple" (top 26))
  (i27:InK K "_law_block" (top 27))
  (i28:InK K "_law_rows" (top 28))
  (i29:InK K "_law_might" (top 29))
  (i30:InK K "law" (top 30))
  {C_Machine:Addr} (c_Machine:InC K "Machine" C_Machine)
  (na_Machine_frames:PySem.W.findIn K (.ref C_Machine) "frames"=some none)
  (na_Machine_last_scope:PySem.W.findIn K (.ref C_Machine) "last_scope"=some none)
  (na_Machine_named_values:PySem.W.findIn K (.ref C_Machine) "named_values"=some none)
  (na_Machine_given:PySem.W.findIn K (.ref C_Machine) "given"=some none)
  (na_Machine_marks:PySem.W.findIn K (.ref C_Machine) "marks"=some none)
  (na_Machine_signal:PySem.W.findIn K (.ref C_Machine) "signal"=some none)
  (na_Machine_struck:PySem.W.findIn K (.ref C_Machine) "struck"=some none)
  (na_Machine_want:PySem.W.findIn K (.ref C_Machine) "want"=some none)
  (na_Machine_ending:PySem.W.findIn K (.ref C_Machine) "ending"=some none)
  (im_Machine___init__:InM K C_Machine "__init__" "Machine.__init__" (inClass (top 17) 0))
  (im_Machine_waiting:InM K C_Machine "waiting" "Machine.waiting" (inClass (top 17) 1))
  (im_Machine_target:InM K C_Machine "target" "Machine.target" (inClass (top 17) 5))
  (im_Machine_might:InM K C_Machine "might" "Machine.might" (inClass (top 17) 7))
  (im_Machine_go:InMD K C_Machine "go" "Machine.go" (inClass (top 17) 10))
  (im_Machine_joined:InM K C_Machine "joined" "Machine.joined" (inClass (top 17) 12))
  (im_Machine_step:InM K C_Machine "step" "Machine.step" (inClass (top 17) 13))
  (im_Machine_go_on:InM K C_Machine "go_on" "Machine.go_on" (inClass (top 17) 14))
  (im_Machine_leave_innermost:InM K C_Machine "leave_innermost" "Machine.leave_innermost" (inClass (top 17) 15))
  (im_Machine_wait_at:InM K C_Machine "wait_at" "Machine.wait_at" (inClass (top 17) 16))
  (im_Machine_leave_group:InM K C_Machine "leave_group" "Machine.leave_group" (inClass (top 17) 17))
  (im_Machine_begin_clean_up:InM K C_Machine "begin_clean_up" "Machine.begin_clean_up" (inClass (top 17) 18))
  (im_Machine_end_with:InM K C_Machine "end_with" "Machine.end_with" (inClass (top 17) 19))
  (im_Machine_send_out:InM K C_Machine "send_out" "Machine.send_out" (inClass (top 17) 20))
  (im_Machine_halt_at:InM K C_Machine "halt_at" "Machine.halt_at" (inClass (top 17) 21))
  (im_Machine_value_of:InM K C_Machine "value_of" "Machine.value_of" (inClass (top 17) 22))
  (im_Machine_group_scope:InM K C_Machine "group_scope" "Machine.group_scope" (inClass (top 17) 23))
  (im_Machine_do_row:InM K C_Machine "do_row" "Machine.do_row" (inClass (top 17) 24))
  (im_Machine_enter_scope:InM K C_Machine "enter_scope" "Machine.enter_scope" (inClass (top 17) 25))
  (im_Machine_do_quietly:InM K C_Machine "do_quietly" "Machine.do_quietly" (inClass (top 17) 26))
  (iPP:InPP w K)
  
  
  
  
  (iW:InT K "WAITING_WORDS" WORDS)
  
  
  
  
  
  
  
  
  
  
  
  
  
  
  
  
  
  
  
  
  
  
  
  
  
  
  
  
  
  
  
  
  
  
  
  
  {C_frame:Addr} (c_frame:InC K "Frame" C_frame)
  (na_frame:∀ l:Fl,PySem.W.findIn K (.ref C_frame) (Fl.name l)=some none)
  (im_next_row_frame:InM K C_frame "next_row" "Frame.next_row" (inClass (top 2) 1))
  (im_begin_anew_frame:InM K C_frame "begin_anew" "Frame.begin_anew" (inClass (top 2) 2))
  (im_rest_frame:InM K C_frame "rest" "Frame.rest" (inClass (top 2) 6))
  (im_behind_frame:InM K C_frame "behind" "Frame.behind" (inClass (top 2) 7))
  (im_hides_frame:InM K C_frame "hides" "Frame.hides" (inClass (top 2) 3))
  (im_over_frame:InM K C_frame "over" "Frame.over" (inClass (top 2) 4))
  (im_meets_frame:InM K C_frame "meets" "Frame.meets" (inClass (top 2) 5))
  (im_init_frame:InMD K C_frame "__init__" "Frame.__init__" (inClass (top 2) 0))
  {C_rounds:Addr} (c_rounds:InC K "Rounds" C_rounds)
  (na_rounds:∀ l:Fl,PySem.W.findIn K (.ref C_rounds) (Fl.name l)=some none)
  (im_next_row_rounds:InM K C_rounds "next_row" "Frame.next_row" (inClass (top 2) 1))
  (im_begin_anew_rounds:InM K C_rounds "begin_anew" "Frame.begin_anew" (inClass (top 2) 2))
  (im_rest_rounds:InM K C_rounds "rest" "Frame.rest" (inClass (top 2) 6))
  (im_behind_rounds:InM K C_rounds "behind" "Rounds.behind" (inClass (top 3) 2))
  (im_hides_rounds:InM K C_rounds "hides" "Frame.hides" (inClass (top 2) 3))
  (im_over_rounds:InM K C_rounds "over" "Rounds.over" (inClass (top 3) 1))
  (im_meets_rounds:InM K C_rounds "meets" "Frame.meets" (inClass (top 2) 5))
  (im___init___rounds:InM K C_rounds "__init__" "Rounds.__init__" (inClass (top 3) 0))
  {C_kept:Addr} (c_kept:InC K "Kept" C_kept)
  (na_kept:∀ l:Fl,PySem.W.findIn K (.ref C_kept) (Fl.name l)=some none)
  (im_next_row_kept:InM K C_kept "next_row" "Frame.next_row" (inClass (top 2) 1))
  (im_begin_anew_kept:InM K C_kept "begin_anew" "Frame.begin_anew" (inClass (top 2) 2))
  (im_rest_kept:InM K C_kept "rest" "Frame.rest" (inClass (top 2) 6))
  (im_behind_kept:InM K C_kept "behind" "Frame.behind" (inClass (top 2) 7))
  (im_hides_kept:InM K C_kept "hides" "Kept.hides" (inClass (top 4) 0))
  (im_over_kept:InM K C_kept "over" "Frame.over" (inClass (top 2) 4))
  (im_meets_kept:InM K C_kept "meets" "Frame.meets" (inClass (top 2) 5))
  (im_init_kept:InMD K C_kept "__init__" "Frame.__init__" (inClass (top 2) 0))
  {C_tried:Addr} (c_tried:InC K "Tried" C_tried)
  (na_tried:∀ l:Fl,PySem.W.findIn K (.ref C_tried) (Fl.name l)=some none)
  (im_next_row_tried:InM K C_tried "next_row" "Frame.next_row" (inClass (top 2) 1))
  (im_begin_anew_tried:InM K C_tried "begin_anew" "Frame.begin_anew" (inClass (top 2) 2))
  (im_rest_tried:InM K C_tried "rest" "Frame.rest" (inClass (top 2) 6))
  (im_behind_tried:InM K C_tried "behind" "Tried.behind" (inClass (top 5) 2))
  (im_hides_tried:InM K C_tried "hides" "Frame.hides" (inClass (top 2) 3))
  (im_over_tried:InM K C_tried "over" "Frame.over" (inClass (top 2) 4))
  (im_meets_tried:InM K C_tried "meets" "Tried.meets" (inClass (top 5) 1))
  (im___init___tried:InM K C_tried "__init__" "Tried.__init__" (inClass (top 5) 0))
  {C_cleaned:Addr} (c_cleaned:InC K "Cleaned" C_cleaned)
  (na_cleaned:∀ l:Fl,PySem.W.findIn K (.ref C_cleaned) (Fl.name l)=some none)
  (im_next_row_cleaned:InM K C_cleaned "next_row" "Frame.next_row" (inClass (top 2) 1))
  (im_begin_anew_cleaned:InM K C_cleaned "begin_anew" "Frame.begin_anew" (inClass (top 2) 2))
  (im_rest_cleaned:InM K C_cleaned "rest" "Frame.rest" (inClass (top 2) 6))
  (im_behind_cleaned:InM K C_cleaned "behind" "Cleaned.behind" (inClass (top 6) 5))
  (im_hides_cleaned:InM K C_cleaned "hides" "Cleaned.hides" (inClass (top 6) 2))
  (im_over_cleaned:InM K C_cleaned "over" "Cleaned.over" (inClass (top 6) 3))
  (im_meets_cleaned:InM K C_cleaned "meets" "Cleaned.meets" (inClass (top 6) 4))
  (im_clean_cleaned:InM K C_cleaned "clean" "Cleaned.clean" (inClass (top 6) 1))
  (im___init___cleaned:InM K C_cleaned "__init__" "Cleaned.__init__" (inClass (top 6) 0))
  {C_limited:Addr} (c_limited:InC K "Limited" C_limited)
  (na_limited:∀ l:Fl,PySem.W.findIn K (.ref C_limited) (Fl.name l)=some none)
  (im_next_row_limited:InM K C_limited "next_row" "Frame.next_row" (inClass (top 2) 1))
  (im_begin_anew_limited:InM K C_limited "begin_anew" "Frame.begin_anew" (inClass (top 2) 2))
  (im_rest_limited:InM K C_limited "rest" "Frame.rest" (inClass (top 2) 6))
  (im_behind_limited:InM K C_limited "behind" "Limited.behind" (inClass (top 7) 2))
  (im_hides_limited:InM K C_limited "hides" "Frame.hides" (inClass (top 2) 3))
  (im_over_limited:InM K C_limited "over" "Frame.over" (inClass (top 2) 4))
  (im_meets_limited:InM K C_limited "meets" "Limited.meets" (inClass (top 7) 1))
  (im___init___limited:InM K C_limited "__init__" "Limited.__init__" (inClass (top 7) 0))
  {C_grouped:Addr} (c_grouped:InC K "Grouped" C_grouped)
  (na_grouped:∀ l:Fl,PySem.W.findIn K (.ref C_grouped) (Fl.name l)=some none)
  (im_next_row_grouped:InM K C_grouped "next_row" "Frame.next_row" (inClass (top 2) 1))
  (im_begin_anew_grouped:InM K C_grouped "begin_anew" "Frame.begin_anew" (inClass (top 2) 2))
  (im_rest_grouped:InM K C_grouped "rest" "Frame.rest" (inClass (top 2) 6))
  (im_behind_grouped:InM K C_grouped "behind" "Frame.behind" (inClass (top 2) 7))
  (im_hides_grouped:InM K C_grouped "hides" "Frame.hides" (inClass (top 2) 3))
  (im_over_grouped:InM K C_grouped "over" "Grouped.over" (inClass (top 8) 3))
  (im_meets_grouped:InM K C_grouped "meets" "Grouped.meets" (inClass (top 8) 4))
  (im_halt_grouped:InM K C_grouped "halt" "Grouped.halt" (inClass (top 8) 1))
  (im_tell_joined_grouped:InM K C_grouped "tell_joined" "Grouped.tell_joined" (inClass (top 8) 2))
  (im___init___grouped:InM K C_grouped "__init__" "Grouped.__init__" (inClass (top 8) 0))
  (z_len:PySem.W.nsIn K mainGlobals "len"=some none)
  (z_range:PySem.W.nsIn K mainGlobals "range"=some none)
  (z_tuple:PySem.W.nsIn K mainGlobals "tuple"=some none)
  (z_list:PySem.W.nsIn K mainGlobals "list"=some none)
  (z_isinstance:PySem.W.nsIn K mainGlobals "isinstance"=some none)
  (z_reversed:PySem.W.nsIn K mainGlobals "reversed"=some none)
  (z_str:PySem.W.nsIn K mainGlobals "str"=some none)
  (z_set:PySem.W.nsIn K mainGlobals "set"=some none)
  (z_sorted:PySem.W.nsIn K mainGlobals "sorted"=some none)
  : ∃ fd:FuncData,(∀ (s:Shared) (v:Value),BindsTo s fd ⟨[v],[]⟩ [("_law_script",v)])/\∀ base:Heap,K.In base->base.Ns mainGlobals mg->FnOk l.prog w K mg base CX0 22 fa fd ["_law_script"] (spLaw K):=by
 obtain ⟨d11⟩:=i11.def (ps:=["row"]) X G λ_ _ _ _ _ _ us hl=>len1 hl (λ_=>rfl)
 obtain ⟨d12⟩:=i12.def (ps:=["rows"]) X G λ_ _ _ _ _ _ us hl=>len1 hl (λ_=>rfl)
 obtain ⟨d15⟩:=i15.def (ps:=["rows"]) X G λ_ _ _ _ _ _ us hl=>len1 hl (λ_=>rfl)
 obtain ⟨d16⟩:=i16.def (ps:=["value"]) X G λ_ _ _ _ _ _ us hl=>len1 hl (λ_=>rfl)
 obtain ⟨d20⟩:=i20.def (ps:=["_law_held_here"]) X G λ_ _ _ _ _ _ us hl=>len1 hl (λ_=>rfl)
 obtain ⟨d21⟩:=i21.def (ps:=["_law_cell", "_law_k"]) X G λ_ _ _ _ _ _ us hl=>len2 hl (λ_ _=>rfl)
 obtain ⟨d22⟩:=i22.def (ps:=["_law_state", "_law_many"]) X G λ_ _ _ _ _ _ us hl=>len2 hl (λ_ _=>rfl)
 obtain ⟨d23⟩:=i23.def (ps:=["_law_state"]) X G λ_ _ _ _ _ _ us hl=>len1 hl (λ_=>rfl)
 obtain ⟨d24⟩:=i24.def (ps:=["_law_state"]) X G λ_ _ _ _ _ _ us hl=>len1 hl (λ_=>rfl)
 obtain ⟨d25⟩:=i25.def (ps:=["_law_state"]) X G λ_ _ _ _ _ _ us hl=>len1 hl (λ_=>rfl)
 obtain ⟨d26⟩:=i26.def (ps:=["_law_state", "_law_groups"]) X G λ_ _ _ _ _ _ us hl=>len2 hl (λ_ _=>rfl)
 obtain ⟨d27⟩:=i27.def (ps:=["_law_state", "_law_deep", "_law_groups"]) X G λ_ _ _ _ _ _ us hl=>len3 hl (λ_ _ _=>rfl)
 obtain ⟨d28⟩:=i28.def (ps:=["_law_state", "_law_deep", "_law_groups"]) X G λ_ _ _ _ _ _ us hl=>len3 hl (λ_ _ _=>rfl)
 obtain ⟨d29⟩:=i29.def (ps:=["_law_rows_here"]) X G λ_ _ _ _ _ _ us hl=>len1 hl (λ_=>rfl)
 obtain ⟨e_Machine___init__⟩:=im_Machine___init__.def (ps:=["self", "rows"]) λ_ _ _ _ _ _ us hl=>len2 hl (λ_ _=>rfl)
 obtain ⟨e_Machine_waiting⟩:=im_Machine_waiting.def (ps:=["self"]) λ_ _ _ _ _ _ us hl=>len1 hl (λ_=>rfl)
 obtain ⟨e_Machine_target⟩:=im_Machine_target.def (ps:=["self"]) λ_ _ _ _ _ _ us hl=>len1 hl (λ_=>rfl)
 obtain ⟨e_Machine_might⟩:=im_Machine_might.def (ps:=["self"]) λ_ _ _ _ _ _ us hl=>len1 hl (λ_=>rfl)
 obtain ⟨e_Machine_go⟩:=im_Machine_go.def (ps:=["self", "value"]) (λ_ _ _ _ _ _ _ us hl=>len2 hl (λ_ _=>⟨_,rfl,rfl⟩)) (λ_ _ _ _ _ _ _ us hl=>by first|exact len1 (Nat.succ.inj hl) (λ_=>⟨_,rfl,rfl⟩)|exact len1 (show us.length=1 from Nat.succ.inj hl) (λ_=>⟨_,rfl,rfl⟩)|exact (match us,hl with|[_],_=>⟨_,rfl,rfl⟩))
 obtain ⟨e_Machine_joined⟩:=im_Machine_joined.def (ps:=["self", "faults"]) λ_ _ _ _ _ _ us hl=>len2 hl (λ_ _=>rfl)
 obtain ⟨e_Machine_step⟩:=im_Machine_step.def (ps:=["self"]) λ_ _ _ _ _ _ us hl=>len1 hl (λ_=>rfl)
 obtain ⟨e_Machine_go_on⟩:=im_Machine_go_on.def (ps:=["self"]) λ_ _ _ _ _ _ us hl=>len1 hl (λ_=>rfl)
 obtain ⟨e_Machine_leave_innermost⟩:=im_Machine_leave_innermost.def (ps:=["self"]) λ_ _ _ _ _ _ us hl=>len1 hl (λ_=>rfl)
 obtain ⟨e_Machine_wait_at⟩:=im_Machine_wait_at.def (ps:=["self", "want"]) λ_ _ _ _ _ _ us hl=>len2 hl (λ_ _=>rfl)
 obtain ⟨e_Machine_leave_group⟩:=im_Machine_leave_group.def (ps:=["self", "frame"]) λ_ _ _ _ _ _ us hl=>len2 hl (λ_ _=>rfl)
 obtain ⟨e_Machine_begin_clean_up⟩:=im_Machine_begin_clean_up.def (ps:=["self", "frame", "signal"]) λ_ _ _ _ _ _ us hl=>len3 hl (λ_ _ _=>rfl)
 obtain ⟨e_Machine_end_with⟩:=im_Machine_end_with.def (ps:=["self", "outcome"]) λ_ _ _ _ _ _ us hl=>len2 hl (λ_ _=>rfl)
 obtain ⟨e_Machine_send_out⟩:=im_Machine_send_out.def (ps:=["self"]) λ_ _ _ _ _ _ us hl=>len1 hl (λ_=>rfl)
 obtain ⟨e_Machine_halt_at⟩:=im_Machine_halt_at.def (ps:=["self", "frame", "signal"]) λ_ _ _ _ _ _ us hl=>len3 hl (λ_ _ _=>rfl)
 obtain ⟨e_Machine_value_of⟩:=im_Machine_value_of.def (ps:=["self", "value"]) λ_ _ _ _ _ _ us hl=>len2 hl (λ_ _=>rfl)
 obtain ⟨e_Machine_group_scope⟩:=im_Machine_group_scope.def (ps:=["self", "name"]) λ_ _ _ _ _ _ us hl=>len2 hl (λ_ _=>rfl)
 obtain ⟨e_Machine_do_row⟩:=im_Machine_do_row.def (ps:=["self", "row"]) λ_ _ _ _ _ _ us hl=>len2 hl (λ_ _=>rfl)
 obtain ⟨e_Machine_enter_scope⟩:=im_Machine_enter_scope.def (ps:=["self", "row"]) λ_ _ _ _ _ _ us hl=>len2 hl (λ_ _=>rfl)
 obtain ⟨e_Machine_do_quietly⟩:=im_Machine_do_quietly.def (ps:=["self", "row"]) λ_ _ _ _ _ _ us hl=>len2 hl (λ_ _=>rfl)
 obtain ⟨pp,pkv,ppm,pd,pv⟩:=iPP.get (P:=l.prog) X G
 obtain ⟨p,dd,its,n,sl,aK,lK,hsz,hst⟩:=iW.ex
 obtain ⟨e_next_row_frame⟩:=im_next_row_frame.def (ps:=["self"]) λ_ _ _ _ _ _ us hl=>len1 hl (λ_=>rfl)
 obtain ⟨e_begin_anew_frame⟩:=im_begin_anew_frame.def (ps:=["self", "rows"]) λ_ _ _ _ _ _ us hl=>len2 hl (λ_ _=>rfl)
 obtain ⟨e_rest_frame⟩:=im_rest_frame.def (ps:=["self"]) λ_ _ _ _ _ _ us hl=>len1 hl (λ_=>rfl)
 obtain ⟨e_behind_frame⟩:=im_behind_frame.def (ps:=["self"]) λ_ _ _ _ _ _ us hl=>len1 hl (λ_=>rfl)
 obtain ⟨e_hides_frame⟩:=im_hides_frame.def (ps:=["self"]) λ_ _ _ _ _ _ us hl=>len1 hl (λ_=>rfl)
 obtain ⟨e_over_frame⟩:=im_over_frame.def (ps:=["self"]) λ_ _ _ _ _ _ us hl=>len1 hl (λ_=>rfl)
 obtain ⟨e_meets_frame⟩:=im_meets_frame.def (ps:=["self", "signal"]) λ_ _ _ _ _ _ us hl=>len2 hl (λ_ _=>rfl)
 obtain ⟨e_init_frame⟩:=im_init_frame.def (ps:=["self", "rows", "line", "scope"]) (λ_ _ _ _ _ _ _ us hl=>len4 hl (λ_ _ _ _=>⟨_,rfl,rfl⟩)) (λ_ _ _ _ _ _ _ us hl=>len3 (Nat.succ.inj hl) (λ_ _ _=>⟨_,rfl,rfl⟩))
 obtain ⟨e_next_row_rounds⟩:=im_next_row_rounds.def (ps:=["self"]) λ_ _ _ _ _ _ us hl=>len1 hl (λ_=>rfl)
 obtain ⟨e_begin_anew_rounds⟩:=im_begin_anew_rounds.def (ps:=["self", "rows"]) λ_ _ _ _ _ _ us hl=>len2 hl (λ_ _=>rfl)
 obtain ⟨e_rest_rounds⟩:=im_rest_rounds.def (ps:=["self"]) λ_ _ _ _ _ _ us hl=>len1 hl (λ_=>rfl)
 obtain ⟨e_behind_rounds⟩:=im_behind_rounds.def (ps:=["self"]) λ_ _ _ _ _ _ us hl=>len1 hl (λ_=>rfl)
 obtain ⟨e_hides_rounds⟩:=im_hides_rounds.def (ps:=["self"]) λ_ _ _ _ _ _ us hl=>len1 hl (λ_=>rfl)
 obtain ⟨e_over_rounds⟩:=im_over_rounds.def (ps:=["self"]) λ_ _ _ _ _ _ us hl=>len1 hl (λ_=>rfl)
 obtain ⟨e_meets_rounds⟩:=im_meets_rounds.def (ps:=["self", "signal"]) λ_ _ _ _ _ _ us hl=>len2 hl (λ_ _=>rfl)
 obtain ⟨e_init_rounds⟩:=im___init___rounds.def (ps:=["self", "rows", "line", "many"]) λ_ _ _ _ _ _ us hl=>len4 hl (λ_ _ _ _=>rfl)
 obtain ⟨e_next_row_kept⟩:=im_next_row_kept.def (ps:=["self"]) λ_ _ _ _ _ _ us hl=>len1 hl (λ_=>rfl)
 obtain ⟨e_begin_anew_kept⟩:=im_begin_anew_kept.def (ps:=["self", "rows"]) λ_ _ _ _ _ _ us hl=>len2 hl (λ_ _=>rfl)
 obtain ⟨e_rest_kept⟩:=im_rest_kept.def (ps:=["self"]) λ_ _ _ _ _ _ us hl=>len1 hl (λ_=>rfl)
 obtain ⟨e_behind_kept⟩:=im_behind_kept.def (ps:=["self"]) λ_ _ _ _ _ _ us hl=>len1 hl (λ_=>rfl)
 obtain ⟨e_hides_kept⟩:=im_hides_kept.def (ps:=["self"]) λ_ _ _ _ _ _ us hl=>len1 hl (λ_=>rfl)
 obtain ⟨e_over_kept⟩:=im_over_kept.def (ps:=["self"]) λ_ _ _ _ _ _ us hl=>len1 hl (λ_=>rfl)
 obtain ⟨e_meets_kept⟩:=im_meets_kept.def (ps:=["self", "signal"]) λ_ _ _ _ _ _ us hl=>len2 hl (λ_ _=>rfl)
 obtain ⟨e_init_kept⟩:=im_init_kept.def (ps:=["self", "rows", "line", "scope"]) (λ_ _ _ _ _ _ _ us hl=>len4 hl (λ_ _ _ _=>⟨_,rfl,rfl⟩)) (λ_ _ _ _ _ _ _ us hl=>len3 (Nat.succ.inj hl) (λ_ _ _=>⟨_,rfl,rfl⟩))
 obtain ⟨e_next_row_tried⟩:=im_next_row_tried.def (ps:=["self"]) λ_ _ _ _ _ _ us hl=>len1 hl (λ_=>rfl)
 obtain ⟨e_begin_anew_tried⟩:=im_begin_anew_tried.def (ps:=["self", "rows"]) λ_ _ _ _ _ _ us hl=>len2 hl (λ_ _=>rfl)
 obtain ⟨e_rest_tried⟩:=im_rest_tried.def (ps:=["self"]) λ_ _ _ _ _ _ us hl=>len1 hl (λ_=>rfl)
 obtain ⟨e_behind_tried⟩:=im_behind_tried.def (ps:=["self"]) λ_ _ _ _ _ _ us hl=>len1 hl (λ_=>rfl)
 obtain ⟨e_hides_tried⟩:=im_hides_tried.def (ps:=["self"]) λ_ _ _ _ _ _ us hl=>len1 hl (λ_=>rfl)
 obtain ⟨e_over_tried⟩:=im_over_tried.def (ps:=["self"]) λ_ _ _ _ _ _ us hl=>len1 hl (λ_=>rfl)
 obtain ⟨e_meets_tried⟩:=im_meets_tried.def (ps:=["self", "signal"]) λ_ _ _ _ _ _ us hl=>len2 hl (λ_ _=>rfl)
 obtain ⟨e_init_tried⟩:=im___init___tried.def (ps:=["self", "rows", "line", "fault", "others"]) λ_ _ _ _ _ _ us hl=>len5 hl (λ_ _ _ _ _=>rfl)
 obtain ⟨e_next_row_cleaned⟩:=im_next_row_cleaned.def (ps:=["self"]) λ_ _ _ _ _ _ us hl=>len1 hl (λ_=>rfl)
 obtain ⟨e_begin_anew_cleaned⟩:=im_begin_anew_cleaned.def (ps:=["self", "rows"]) λ_ _ _ _ _ _ us hl=>len2 hl (λ_ _=>rfl)
 obtain ⟨e_rest_cleaned⟩:=im_rest_cleaned.def (ps:=["self"]) λ_ _ _ _ _ _ us hl=>len1 hl (λ_=>rfl)
 obtain ⟨e_behind_cleaned⟩:=im_behind_cleaned.def (ps:=["self"]) λ_ _ _ _ _ _ us hl=>len1 hl (λ_=>rfl)
 obtain ⟨e_hides_cleaned⟩:=im_hides_cleaned.def (ps:=["self"]) λ_ _ _ _ _ _ us hl=>len1 hl (λ_=>rfl)
 obtain ⟨e_over_cleaned⟩:=im_over_cleaned.def (ps:=["self"]) λ_ _ _ _ _ _ us hl=>len1 hl (λ_=>rfl)
 obtain ⟨e_meets_cleaned⟩:=im_meets_cleaned.def (ps:=["self", "signal"]) λ_ _ _ _ _ _ us hl=>len2 hl (λ_ _=>rfl)
 obtain ⟨e_clean_cleaned⟩:=im_clean_cleaned.def (ps:=["self", "signal"]) λ_ _ _ _ _ _ us hl=>len2 hl (λ_ _=>rfl)
 obtain ⟨e_init_cleaned⟩:=im___init___cleaned.def (ps:=["self", "rows", "line", "others"]) λ_ _ _ _ _ _ us hl=>len4 hl (λ_ _ _ _=>rfl)
 obtain ⟨e_next_row_limited⟩:=im_next_row_limited.def (ps:=["self"]) λ_ _ _ _ _ _ us hl=>len1 hl (λ_=>rfl)
 obtain ⟨e_begin_anew_limited⟩:=im_begin_anew_limited.def (ps:=["self", "rows"]) λ_ _ _ _ _ _ us hl=>len2 hl (λ_ _=>rfl)
 obtain ⟨e_rest_limited⟩:=im_rest_limited.def (ps:=["self"]) λ_ _ _ _ _ _ us hl=>len1 hl (λ_=>rfl)
 obtain ⟨e_behind_limited⟩:=im_behind_limited.def (ps:=["self"]) λ_ _ _ _ _ _ us hl=>len1 hl (λ_=>rfl)
 obtain ⟨e_hides_limited⟩:=im_hides_limited.def (ps:=["self"]) λ_ _ _ _ _ _ us hl=>len1 hl (λ_=>rfl)
 obtain ⟨e_over_limited⟩:=im_over_limited.def (ps:=["self"]) λ_ _ _ _ _ _ us hl=>len1 hl (λ_=>rfl)
 obtain ⟨e_meets_limited⟩:=im_meets_limited.def (ps:=["self", "signal"]) λ_ _ _ _ _ _ us hl=>len2 hl (λ_ _=>rfl)
 obtain ⟨e_init_limited⟩:=im___init___limited.def (ps:=["self", "rows", "line", "scope", "others"]) λ_ _ _ _ _ _ us hl=>len5 hl (λ_ _ _ _ _=>rfl)
 obtain ⟨e_next_row_grouped⟩:=im_next_row_grouped.def (ps:=["self"]) λ_ _ _ _ _ _ us hl=>len1 hl (λ_=>rfl)
 obtain ⟨e_begin_anew_grouped⟩:=im_begin_anew_grouped.def (ps:=["self", "rows"]) λ_ _ _ _ _ _ us hl=>len2 hl (λ_ _=>rfl)
 obtain ⟨e_rest_grouped⟩:=im_rest_grouped.def (ps:=["self"]) λ_ _ _ _ _ _ us hl=>len1 hl (λ_=>rfl)
 obtain ⟨e_behind_grouped⟩:=im_behind_grouped.def (ps:=["self"]) λ_ _ _ _ _ _ us hl=>len1 hl (λ_=>rfl)
 obtain ⟨e_hides_grouped⟩:=im_hides_grouped.def (ps:=["self"]) λ_ _ _ _ _ _ us hl=>len1 hl (λ_=>rfl)
 obtain ⟨e_over_grouped⟩:=im_over_grouped.def (ps:=["self"]) λ_ _ _ _ _ _ us hl=>len1 hl (λ_=>rfl)
 obtain ⟨e_meets_grouped⟩:=im_meets_grouped.def (ps:=["self", "signal"]) λ_ _ _ _ _ _ us hl=>len2 hl (λ_ _=>rfl)
 obtain ⟨e_halt_grouped⟩:=im_halt_grouped.def (ps:=["self", "signal"]) λ_ _ _ _ _ _ us hl=>len2 hl (λ_ _=>rfl)
 obtain ⟨e_tell_joined_grouped⟩:=im_tell_joined_grouped.def (ps:=["self", "faults"]) λ_ _ _ _ _ _ us hl=>len2 hl (λ_ _=>rfl)
 obtain ⟨e_init_grouped⟩:=im___init___grouped.def (ps:=["self", "rows", "line", "scope", "named"]) λ_ _ _ _ _ _ us hl=>len5 hl (λ_ _ _ _ _=>rfl)
 obtain ⟨f,oc,od,kV,doc,pm,an,cdv,ct,osl,a,lk,c,kp⟩:=i30.ex
 have F:=fun_mk (x:="law") (qual:="law") (st:=top 30) lk c kp
 have e:=hfa.symm.trans (PySem.W.mg_of X G a)
 cases e
 have T:Tx l.prog w K mg:=⟨d11,d12,d15,d16,d20,d21,d22,d23,d24,d25,d26,d27,d28,d29,C_Machine,c_Machine.cls,PySem.W.mg_of X G c_Machine.a,na_Machine_frames,na_Machine_last_scope,na_Machine_named_values,na_Machine_given,na_Machine_marks,na_Machine_signal,na_Machine_struck,na_Machine_want,na_Machine_ending,e_Machine___init__,e_Machine_waiting,e_Machine_target,e_Machine_might,e_Machine_go,e_Machine_joined,e_Machine_step,e_Machine_go_on,e_Machine_leave_innermost,e_Machine_wait_at,e_Machine_leave_group,e_Machine_begin_clean_up,e_Machine_end_with,e_Machine_send_out,e_Machine_halt_at,e_Machine_value_of,e_Machine_group_scope,e_Machine_do_row,e_Machine_enter_scope,e_Machine_do_quietly,⟨c_Machine.mak,e_Machine___init__.me.at_,e_Machine___init__.me.fn,c_Machine.kp⟩,pp,ppm,pkv,pd,pv,p,PySem.W.mg_of X G aK,λH=>.inr ⟨_,its,n,lK,rfl,rfl,hsz,strsOf_vals hst⟩,(λc=>match c with | .frame=>C_frame | .rounds=>C_rounds | .kept=>C_kept | .tried=>C_tried | .cleaned=>C_cleaned | .limited=>C_limited | .grouped=>C_grouped),(λc=>match c with | .frame=>c_frame.cls | .rounds=>c_rounds.cls | .kept=>c_kept.cls | .tried=>c_tried.cls | .cleaned=>c_cleaned.cls | .limited=>c_limited.cls | .grouped=>c_grouped.cls),(λc=>match c with | .frame=>na_frame | .rounds=>na_rounds | .kept=>na_kept | .tried=>na_tried | .cleaned=>na_cleaned | .limited=>na_limited | .grouped=>na_grouped),(λc=>match c with | .frame=>e_next_row_frame | .rounds=>e_next_row_rounds | .kept=>e_next_row_kept | .tried=>e_next_row_tried | .cleaned=>e_next_row_cleaned | .limited=>e_next_row_limited | .grouped=>e_next_row_grouped),(λc=>match c with | .frame=>e_begin_anew_frame | .rounds=>e_begin_anew_rounds | .kept=>e_begin_anew_kept | .tried=>e_begin_anew_tried | .cleaned=>e_begin_anew_cleaned | .limited=>e_begin_anew_limited | .grouped=>e_begin_anew_grouped),(λc=>match c with | .frame=>e_rest_frame | .rounds=>e_rest_rounds | .kept=>e_rest_kept | .tried=>e_rest_tried | .cleaned=>e_rest_cleaned | .limited=>e_rest_limited | .grouped=>e_rest_grouped),(λc=>match c with | .frame=>e_behind_frame | .rounds=>e_behind_rounds | .kept=>e_behind_kept | .tried=>e_behind_tried | .cleaned=>e_behind_cleaned | .limited=>e_behind_limited | .grouped=>e_behind_grouped),(λc=>match c with | .frame=>e_hides_frame | .rounds=>e_hides_rounds | .kept=>e_hides_kept | .tried=>e_hides_tried | .cleaned=>e_hides_cleaned | .limited=>e_hides_limited | .grouped=>e_hides_grouped),(λc=>match c with | .frame=>e_over_frame | .rounds=>e_over_rounds | .kept=>e_over_kept | .tried=>e_over_tried | .cleaned=>e_over_cleaned | .limited=>e_over_limited | .grouped=>e_over_grouped),(λc=>match c with | .frame=>e_meets_frame | .rounds=>e_meets_rounds | .kept=>e_meets_kept | .tried=>e_meets_tried | .cleaned=>e_meets_cleaned | .limited=>e_meets_limited | .grouped=>e_meets_grouped),e_halt_grouped,e_tell_joined_grouped,e_clean_cleaned,PySem.W.mg_of X G c_frame.a,PySem.W.mg_of X G c_rounds.a,PySem.W.mg_of X G c_kept.a,PySem.W.mg_of X G c_tried.a,PySem.W.mg_of X G c_cleaned.a,PySem.W.mg_of X G c_limited.a,PySem.W.mg_of X G c_grouped.a,e_init_frame,e_init_rounds,e_init_kept,e_init_tried,e_init_cleaned,e_init_limited,e_init_grouped,⟨c_frame.mak,e_init_frame.me.at_,e_init_frame.me.fn,c_frame.kp⟩,⟨c_rounds.mak,e_init_rounds.me.at_,e_init_rounds.me.fn,c_rounds.kp⟩,⟨c_kept.mak,e_init_kept.me.at_,e_init_kept.me.fn,c_kept.kp⟩,⟨c_tried.mak,e_init_tried.me.at_,e_init_tried.me.fn,c_tried.kp⟩,⟨c_cleaned.mak,e_init_cleaned.me.at_,e_init_cleaned.me.fn,c_cleaned.kp⟩,⟨c_limited.mak,e_init_limited.me.at_,e_init_limited.me.fn,c_limited.kp⟩,⟨c_grouped.mak,e_init_grouped.me.at_,e_init_grouped.me.fn,c_grouped.kp⟩,PySem.W.mg_none_of X G z_len,PySem.W.mg_none_of X G z_range,PySem.W.mg_none_of X G z_tuple,PySem.W.mg_none_of X G z_list,PySem.W.mg_none_of X G z_isinstance,PySem.W.mg_none_of X G z_reversed,PySem.W.mg_none_of X G z_str,PySem.W.mg_none_of X G z_set,PySem.W.mg_none_of X G z_sorted⟩
 refine ⟨PySem.W.fnOf "law" "law" (defArgs (top 30)) (defBody (top 30)) (defScope (top 30)) .none kV doc pm an cdv ct,λs v=>.of_eq rfl,λbase _ _=>?_⟩
 have g_parts:=ok_parts (P:=l.prog) (w:=w) (base:=base) T  
 have g_walk:=ok_walk (P:=l.prog) (w:=w) (base:=base) T  g_parts 5
 have g_might_of:=ok_might_of (P:=l.prog) (w:=w) (base:=base) T  g_walk
 have g_is_name_of_value:=ok_is_name_of_value (P:=l.prog) (w:=w) (base:=base) T  
 have g_Machine___init__:=ok_Machine___init__ (P:=l.prog) (w:=w) (base:=base) T (ok_Frame___init__ T T.i_frame.F) (ok_Rounds___init__ T T.i_rounds.F (ok_Frame___init__ T T.i_frame.F)) (ok_Frame___init__ T T.i_kept.F) (ok_Tried___init__ T T.i_tried.F (ok_Frame___init__ T T.i_frame.F)) (ok_Cleaned___init__ T T.i_cleaned.F (ok_Frame___init__ T T.i_frame.F)) (ok_Limited___init__ T T.i_limited.F (ok_Frame___init__ T T.i_frame.F)) (ok_Grouped___init__ T T.i_grouped.F (ok_Frame___init__ T T.i_frame.F)) 
 have g_Machine_waiting:=ok_Machine_waiting (P:=l.prog) (w:=w) (base:=base) T  
 have g_Machine_target:=ok_Machine_target (P:=l.prog) (w:=w) (base:=base) T (ok_all_hides T) 
 have g_Machine_might:=ok_Machine_might (P:=l.prog) (w:=w) (base:=base) T (ok_all_behind T) g_might_of
 have g_Machine_go:=ok_Machine_go (P:=l.prog) (w:=w) (base:=base) T  
 have g_Machine_joined:=ok_Machine_joined (P:=l.prog) (w:=w) (base:=base) T (ok_Grouped_tell_joined T T.m_tell_joined.F) 
 have g_Machine_leave_innermost:=ok_Machine_leave_innermost (P:=l.prog) (w:=w) (base:=base) T  
 have g_Machine_wait_at:=ok_Machine_wait_at (P:=l.prog) (w:=w) (base:=base) T  g_Machine_target
 have g_Machine_leave_group:=ok_Machine_leave_group (P:=l.prog) (w:=w) (base:=base) T  g_Machine_leave_innermost
 have g_Machine_begin_clean_up:=ok_Machine_begin_clean_up (P:=l.prog) (w:=w) (base:=base) T (ok_Cleaned_clean T T.m_clean.F (ok_all_begin_anew T)) 
 have g_Machine_end_with:=ok_Machine_end_with (P:=l.prog) (w:=w) (base:=base) T  
 have g_Machine_halt_at:=ok_Machine_halt_at (P:=l.prog) (w:=w) (base:=base) T (ok_Grouped_halt T T.m_halt.F (ok_all_begin_anew T)) 
 have g_Machine_value_of:=ok_Machine_value_of (P:=l.prog) (w:=w) (base:=base) T  g_is_name_of_value
 have g_Machine_group_scope:=ok_Machine_group_scope (P:=l.prog) (w:=w) (base:=base) T  
 have g_Machine_enter_scope:=ok_Machine_enter_scope (P:=l.prog) (w:=w) (base:=base) T (ok_Frame___init__ T T.i_frame.F) (ok_Rounds___init__ T T.i_rounds.F (ok_Frame___init__ T T.i_frame.F)) (ok_Frame___init__ T T.i_kept.F) (ok_Tried___init__ T T.i_tried.F (ok_Frame___init__ T T.i_frame.F)) (ok_Cleaned___init__ T T.i_cleaned.F (ok_Frame___init__ T T.i_frame.F)) (ok_Limited___init__ T T.i_limited.F (ok_Frame___init__ T T.i_frame.F)) (ok_Grouped___init__ T T.i_grouped.F (ok_Frame___init__ T T.i_frame.F)) 
 have g_Machine_do_quietly:=ok_Machine_do_quietly (P:=l.prog) (w:=w) (base:=base) T (ok_Frame___init__ T T.i_frame.F) (ok_Rounds___init__ T T.i_rounds.F (ok_Frame___init__ T T.i_frame.F)) (ok_Frame___init__ T T.i_kept.F) (ok_Tried___init__ T T.i_tried.F (ok_Frame___init__ T T.i_frame.F)) (ok_Cleaned___init__ T T.i_cleaned.F (ok_Frame___init__ T T.i_frame.F)) (ok_Limited___init__ T T.i_limited.F (ok_Frame___init__ T T.i_frame.F)) (ok_Grouped___init__ T T.i_grouped.F (ok_Frame___init__ T T.i_frame.F)) g_Machine_value_of
 have g_Machine_do_row:=ok_Machine_do_row (P:=l.prog) (w:=w) (base:=base) T  g_Machine_wait_at g_Machine_enter_scope g_Machine_value_of g_Machine_group_scope g_Machine_do_quietly
 have g_Machine_go_on:=ok_Machine_go_on (P:=l.prog) (w:=w) (base:=base) T (ok_all_next_row T) (ok_all_over T) g_Machine_do_row g_Machine_wait_at g_Machine_leave_group g_Machine_begin_clean_up g_Machine_end_with g_Machine_leave_innermost
 have g_Machine_send_out:=ok_Machine_send_out (P:=l.prog) (w:=w) (base:=base) T (ok_all_meets T) (ok_Frame___init__ T T.i_frame.F) (ok_Rounds___init__ T T.i_rounds.F (ok_Frame___init__ T T.i_frame.F)) (ok_Frame___init__ T T.i_kept.F) (ok_Tried___init__ T T.i_tried.F (ok_Frame___init__ T T.i_frame.F)) (ok_Cleaned___init__ T T.i_cleaned.F (ok_Frame___init__ T T.i_frame.F)) (ok_Limited___init__ T T.i_limited.F (ok_Frame___init__ T T.i_frame.F)) (ok_Grouped___init__ T T.i_grouped.F (ok_Frame___init__ T T.i_frame.F)) g_Machine_leave_innermost g_Machine_begin_clean_up g_Machine_halt_at g_Machine_end_with
 have g_Machine_step:=ok_Machine_step (P:=l.prog) (w:=w) (base:=base) T  g_Machine_target g_Machine_go_on g_Machine_send_out
 have g_l_held:=ok_l_held (P:=l.prog) (w:=w) (base:=base) T  
 have g_l_mixed:=ok_l_mixed (P:=l.prog) (w:=w) (base:=base) T  
 have g_l_pick:=ok_l_pick (P:=l.prog) (w:=w) (base:=base) T  g_l_mixed
 have g_l_line:=ok_l_line (P:=l.prog) (w:=w) (base:=base) T  
 have g_l_value:=ok_l_value (P:=l.prog) (w:=w) (base:=base) T  g_l_pick
 have g_l_clean:=ok_l_clean (P:=l.prog) (w:=w) (base:=base) T  g_l_line g_l_value g_l_pick
 have g_l_simple:=ok_l_simple (P:=l.prog) (w:=w) (base:=base) T  g_l_line g_l_value g_l_pick
 have g_l_rows:=ok_l_rows (P:=l.prog) (w:=w) (base:=base) T  g_l_pick g_l_line g_l_value g_l_clean g_l_simple
 have g_l_might:=ok_l_might (P:=l.prog) (w:=w) (base:=base) T   6
 exact ok_law T F  g_might_of g_Machine___init__ g_Machine_waiting g_Machine_might g_Machine_go g_Machine_joined g_Machine_step g_l_rows g_l_might g_l_held

end
end K55
open PySem PySem.W PyProof.Rows
namespace PySem.W.Fast
def tw17396733818377740049:=()
def tw2086965848378192930:=()
def tw9436864795885341697:=()
def tw13416625518351705377:=()
def tw11225708847229614095:=()
def tw3946319354564775394:=()
def tw17993469491159047730:=()
def tw8795146642430084103:=()
def tw14025168687365319147:=()
def tw10908214921551460981:=()
def tw168482891928313890:=()
def tw6199684566548951262:=()
def tw874005565840442336:=()
def tw15486421987478403069:=()
def tw17080749260414968489:=()
def tw3268276051840226984:=()
def tw15965057198117460378:=()
def tw3188108673006794140:=()
def tw4079257681089745600:=()
def tw3390664696096147869:=()
def tw14968015343760724006:=()
def tw6217615673626288402:=()
def tw6583171395464113698:=()
def tw10576989191692284003:=()
def tw15196683285436213256:=()
def tw12366407665379221415:=()
def tw9893939118900315193:=()
def tw1047904191574914497:=()
def tw3849070776489170849:=()
def tw16351284099157888296:=()
def tw8784718244979269500:=()
def tw5208088041587735612:=()
def tw12315297910536226253:=()
def tw7893735094392674626:=()
def tw13814150356703114147:=()
def tw2089998245781150952:=()
def tw13947756115121690:=()
def tw585413478489959600:=()
def tw7781979316672819548:=()
def tw17334245213339866451:=()
def tw17577805712076174796:=()
def tw7565292526357879810:=()
def tw8178987376000575375:=()
def tw12017357269780376035:=()
def tw9001146249062327246:=()
def tw2120873511114409986:=()
def tw8458258445296913580:=()
def tw725572408121075293:=()
def tw14915553906011605695:=()
def tw73979730259652562:=()
def tw3959019079229744376:=()
def tw12051662452158058059:=()
def tw5167337551928474456:=()
def tw7275793597484999021:=()
def tw18141972861307903993:=()
def tw12768263895544149271:=()
def tw6796019093333016613:=()
def tw1515753890095697325:=()
def tw3836894196042959180:=()
def tw7609829633452033471:=()
def tw13162030279200475458:=()
def tw14972657888592587344:=()
def tw6543572113024805612:=()
def tw6538573663730352661:=()
def tw2278099953260238832:=()
def tw5845886612747638592:=()
def tw4754757320816610618:=()
def tw6017577279524010187:=()
def tw8924603152514803345:=()
def tw681629977891758721:=()
def tw9111274612860477976:=()
def tw9924566284007579897:=()
def tw7002375362694896784:=()
def tw2219605676229522401:=()
def tw16108077713844163286:=()
def tw3082881663674350322:=()
def tw13025029051486147838:=()
def tw4958677642793615280:=()
def tw15979003515804547728:=()
def tw1772658472073540255:=()
def tw17574503444972106955:=()
def tw4237137523633234433:=()
def tw8882878330057296129:=()
def tw5236991914687688702:=()
def tw12880781894172314687:=()
def tw16604734310511737900:=()
def tw7400968092335066259:=()
def tw3204770389733043007:=()
def tw1266420944033706828:=()
def tw10622906916388833913:=()
def tw6846734332378927160:=()
def tw448123550259951178:=()
def tw9158210907658559692:=()
def tw11503288793138533981:=()
def tw10970373196138946642:=()
def tw6365840536114719134:=()
def tw4064581343240344133:=()
def tw6450449389430776907:=()
def tw12865375925791879336:=()
def tw11519034296954399891:=()
def tw11328285194598358725:=()
def tw13676191134293629993:=()
def tw10006267395010500378:=()
def tw3375664445401615874:=()
def tw1366271166462608531:=()
def tw12595562981737425968:=()
def tw15709565128092672365:=()
def tw16636211860356858085:=()
def tw13931645382204789513:=()
def tw16219741826262154647:=()
def tw7317894279495728825:=()
def tw14664957232875074330:=()
def tw1966612836684714314:=()
def tw17239743233560054835:=()
def tw9322014051327296930:=()
def tw1423525847957481099:=()
def tw10183321626631241392:=()
def tw6270729434783323792:=()
def tw18032865626075228270:=()
def tw2414536573758459119:=()
def tw18310396077941524019:=()
def tw12724980995048902018:=()
def tw10885883890729411475:=()
def tw18158063757312971104:=()
def tw15173435846025522526:=()
def tw14107984667907830438:=()
def tw8312155672670019772:=()
def tw6076285885429302355:=()
def tw3518103190068362423:=()
def tw525233872633030861:=()
def tw17512985969259163377:=()
def tw4836763507699577842:=()
def tw2139864401730183154:=()
def tw11185856706347301815:=()
def tw4570255226125407262:=()
def tw8219851686627474944:=()
def tw32431017193254191:=()
def tw15625476984271928040:=()
def tw11147004845544744304:=()
def tw4033135443272221836:=()
def tw10561910255374779375:=()
def tw5578070638845004977:=()
def tw15557810058253024792:=()
def tw8546406322881112810:=()
def tw2833976784340137108:=()
def tw13152510889762140735:=()
def tw9683042539859545230:=()
def tw291293873179684037:=()
def tw9776118366110674502:=()
def tw10323758207135444333:=()
def tw1030742935976014399:=()
def tw445118244181980050:=()
def tw2178976793082120523:=()
def tw1620718123348602670:=()
def tw14530816174476831441:=()
def tw1434564576851398297:=()
def tw13816305457030921271:=()
def tw10429730192397489143:=()
def tw347972288363056346:=()
def tw3074384699538149182:=()
def tw381366162019052194:=()
def tw1397711962108866235:=()
def tw10858206107146982701:=()
def tw9379741618623239202:=()
def tw5578521209081445868:=()
def tw7967208899547541425:=()
def tw9539748167413889426:=()
def tw9181892647834572757:=()
def tw898861706917439495:=()
def tw2577615448797162485:=()
def tw4538919840134993449:=()
def tw11188199162123367521:=()
def tw9294251500090487823:=()
def tw7996172232978348319:=()
def tw6291662645192467563:=()
def tw11903606086575528751:=()
def tw16366203081123820750:=()
def tw6806519794333747541:=()
def tw3196311052534973296:=()
def tw3731169583931498135:=()
def tw10907463105041677067:=()
def tw3344860596387086274:=()
def tw13128844672621940276:=()
def tw18292879585866228790:=()
def tw1336121055766868381:=()
def tw2210183294932442229:=()
def tw1419687143338382631:=()
def tw11340794133985087218:=()
def tw16005378626056074940:=()
def tw18338954068214198728:=()
def tw4995293599357594954:=()
def tw2625599585030029655:=()
def tw1843393258607272855:=()
def tw881682495656279919:=()
def tw1721278961040712782:=()
def tw9717644311219101126:=()
def tw15413717357609907431:=()
def tw1337496155198035895:=()
def tw2858269462792964710:=()
def tw17308283928359069277:=()
def tw14889134654695621177:=()
def tw16554203247413721129:=()
def tw5512087792388889244:=()
def tw8363713493132486108:=()
def tw14805599923813366157:=()
def tw14306541700368228837:=()
def tw6852889502224757141:=()
def tw7412577358213089700:=()
def tw832712975735239308:=()
def tw7313357990794661292:=()
def tw14226931669099698294:=()
def tw7057397071926840820:=()
def tw4774148443544936642:=()
def tw3771233826973490625:=()
def tw649285960432541623:=()
def tw10299434284311357338:=()
def tw7752275000868090889:=()
def tw3762680217167316567:=()
def tw664027444020621605:=()
def tw3719900083660606322:=()
def tw16682558645655376338:=()
def tw11738593801069160368:=()
def tw3159153768900074062:=()
def tw18392365079689054000:=()
def tw1058378777332823326:=()
def tw10890146163092245230:=()
def tw7353541189562701728:=()
def tw3135951008618117334:=()
def tw11206560412772220454:=()
def tw253701754390813929:=()
def tw17651494262070531998:=()
def tw15406996866473209677:=()
def tw15166878979569325915:=()
def tw8787161900785952657:=()
def tw17698693896166906964:=()
def tw14597288128269191850:=()
def tw17692312442551686396:=()
def tw14543720711660040080:=()
def tw15968977987651659351:=()
def tw9482132105383814337:=()
def tw8942886616762278965:=()
def tw4351425467851609443:=()
def tw16534176853607541004:=()
def tw13035364006273263735:=()
def tw3117257738802396800:=()
def tw17680489674903637183:=()
def tw3539984861971477259:=()
def tw5827608847782195748:=()
def tw6570788943681675671:=()
def tw1426648427971552107:=()
def tw7873338006670692223:=()
def tw16349922209741596395:=()
def tw14689832813881001459:=()
def tw392944564661430296:=()
def tw17802421267820183393:=()
def tw15757764914464234951:=()
def tw12642143831975162960:=()
def tw7804930258860190369:=()
def tw16036452430780698775:=()
def tw12569677962622166829:=()
def tw3950821841448264907:=()
def tw6666556394333834159:=()
def tw542541537024949496:=()
def tw1325144366146330663:=()
def tw7643992674764561837:=()
def tw13212743155847468527:=()
def tw7960297515222296693:=()
def tw6171408982497923860:=()
def tw3662476364682041077:=()
def tw2422683350336906560:=()
def tw2130611608185227418:=()
def tw7774876190271647199:=()
def tw8946273998609596046:=()
def tw8398870231252261076:=()
def tw1891505279668870898:=()
def tw14384994377065441750:=()
def tw7051911950424197256:=()
def tw6433005984128539962:=()
def tw4109825039050294919:=()
def tw3887598880735555497:=()
def tw15129519639033102882:=()
def tw12933308420695047698:=()
def tw7872001002615600794:=()
def tw9952940344966012879:=()
def tw5173084286710115132:=()
def tw17585277192343007310:=()
def tw16470637145808443769:=()
def tw1530600921355067338:=()
def tw10340276687346600346:=()
def tw1206904096954629658:=()
def tw8844019529362900453:=()
def tw678976973268411959:=()
def tw6497374248123681444:=()
def tw6411544603943813280:=()
def tw3935561615440504104:=()
def tw18240890646804378818:=()
def tw17075075946604755231:=()
def tw15812992865033159150:=()
def tw14747073017122080199:=()
def tw12981421774046909143:=()
def tw12800529646753485555:=()
def tw10717502569584124802:=()
def tw7320951532757207826:=()
def tw7255248821549427552:=()
def tw4137618596894780285:=()
def tw3075839108447557071:=()
def tw2291007894421383063:=()
def tw15339921145301574545:=()
def tw1437739902383925563:=()
def tw10060949226489880602:=()
def tw11339644930513308607:=()
def tw15687211031781940368:=()
def tw12776133655716646117:=()
def tw11612923301218156903:=()
def tw16100255555937193879:=()
def tw8963456669653624872:=()
def tw7754052589440928399:=()
def tw18009084662045137523:=()
def tw1013158582002652370:=()
def tw843306596943316980:=()
def tw6810100338107837318:=()
def tw6178643319415457147:=()
def tw579620933781390062:=()
def tw1264468182987908770:=()
def tw6007463756098964819:=()
def tw4593890342821980788:=()
def tw18254064279488570050:=()
def tw11067412047735719264:=()
def tw6240053857091787716:=()
def tw13313845149050609975:=()
def tw12828255807001492560:=()
def tw17703553745016030692:=()
def tw12461464011352220224:=()
def tw9440901552546500823:=()
def tw4720066035138110450:=()
def tw6675294771606241270:=()
def tw13781058917999292660:=()
def tw16784923940816161589:=()
def tw13584111489758847062:=()
def tw7324352055591482717:=()
def tw3742412365987719004:=()
def tw3663430701437773634:=()
def tw12400790388121580260:=()
def tw4100762307979137625:=()
def tw3694725634196018219:=()
def tw2966624419800672771:=()
def tw1784631600398746779:=()
def tw15598394716018218746:=()
def tw6092781834351977882:=()
def tw16560092153792147366:=()
def tw2461072395558461705:=()
def tw13002669440095154811:=()
def tw11865530442933962372:=()
def tw11782419610205973889:=()
def tw6401824617542232707:=()
def tw11257981305308220293:=()
def tw4486443355682276321:=()
def tw14711359666459698326:=()
def tw16683615229680820661:=()
def tw3540423038588980125:=()
def tw5992391353499975943:=()
def tw1809756163921747131:=()
def tw11967107010875434342:=()
def tw3637522867219362765:=()
def tw11966836001764772350:=()
def tw8129888252953912901:=()
def tw649583074483600875:=()
def tw5673319818227131829:=()
def tw4509149677087403526:=()
def tw13696284526980606461:=()
def tw13377262092859207860:=()
def tw6296954088793222192:=()
def tw8119941202954314932:=()
def tw8072436015581729983:=()
def tw482537687927276214:=()
def tw1389295296705454077:=()
def tw9942046687319147027:=()
def tw3258916358312760145:=()
def tw10811959748445549681:=()
def tw16181277996973891875:=()
def tw1422716222869670796:=()
def tw11533519939232469020:=()
def tw10288571895562335146:=()
def tw15591677668702216659:=()
def tw7007453612280116335:=()
def tw1460203066923389205:=()
def tw15387656469502558435:=()
def tw11548301804765295345:=()
def tw3767689657349332053:=()
def tw12513243179970108344:=()
def tw16419537339498106788:=()
def tw6516747487447371985:=()
def tw4972407705562032086:=()
def tw13895560106963069271:=()
end PySem.W.Fast
set_option maxRecDepth 100000 in
set_option maxHeartbeats 0 in
theorem PySem.Challenge.cw_nightwatch_k55_what_it_might_holds : PySem.Challenge.rw_nightwatch_k55_what_it_might.Holds := by
  w_on; o_law; k_head; (case hw => w_witness2)
  k_fill
  refine L2.walk_ofK (l := PySem.Challenge.rw_nightwatch_k55_what_it_might) (n := 63) (k := 22) (x := "_law_script") (CX := L2.CX0) (sp := K55.spLaw) rfl (by decide) rfl ⟨rfl, by decide, by decide⟩ (fun w h Y => PySem.W.kIn_of Y) ?F (fun K H a ns hl _ hS => ⟨a, ns, rfl, hS, hl, fun _ => rfl⟩) (fun _ _ _ _ z => z)
  case F =>
    intro w mg fa h KX G hmg
    refine' K55.law_fn KX G hmg ?i11 ?i12 ?i15 ?i16 ?i20 ?i21 ?i22 ?i23 ?i24 ?i25 ?i26 ?i27 ?i28 ?i29 ?i30 ?c_Machine ?na_Machine_frames ?na_Machine_last_scope ?na_Machine_named_values ?na_Machine_given ?na_Machine_marks ?na_Machine_signal ?na_Machine_struck ?na_Machine_want ?na_Machine_ending ?im_Machine___init__ ?im_Machine_waiting ?im_Machine_target ?im_Machine_might ?im_Machine_go ?im_Machine_joined ?im_Machine_step ?im_Machine_go_on ?im_Machine_leave_innermost ?im_Machine_wait_at ?im_Machine_leave_group ?im_Machine_begin_clean_up ?im_Machine_end_with ?im_Machine_send_out ?im_Machine_halt_at ?im_Machine_value_of ?im_Machine_group_scope ?im_Machine_do_row ?im_Machine_enter_scope ?im_Machine_do_quietly ?iPP ?iW ?c_frame ?na_frame ?im_next_row_frame ?im_begin_anew_frame ?im_rest_frame ?im_behind_frame ?im_hides_frame ?im_over_frame ?im_meets_frame ?im_init_frame ?c_rounds ?na_rounds ?im_next_row_rounds ?im_begin_anew_rounds ?im_rest_rounds ?im_behind_rounds ?im_hides_rounds ?im_over_rounds ?im_meets_rounds ?im___init___rounds ?c_kept ?na_kept ?im_next_row_kept ?im_begin_anew_kept ?im_rest_kept ?im_behind_kept ?im_hides_kept ?im_over_kept ?im_meets_kept ?im_init_kept ?c_tried ?na_tried ?im_next_row_tried ?im_begin_anew_tried ?im_rest_tried ?im_behind_tried ?im_hides_tried ?im_over_tried ?im_meets_tried ?im___init___tried ?c_cleaned ?na_cleaned ?im_next_row_cleaned ?im_begin_anew_cleaned ?im_rest_cleaned ?im_behind_cleaned ?im_hides_cleaned ?im_over_cleaned ?im_meets_cleaned ?im_clean_cleaned ?im___init___cleaned ?c_limited ?na_limited ?im_next_row_limited ?im_begin_anew_limited ?im_rest_limited ?im_behind_limited ?im_hides_limited ?im_over_limited ?im_meets_limited ?im___init___limited ?c_grouped ?na_grouped ?im_next_row_grouped ?im_begin_anew_grouped ?im_rest_grouped ?im_behind_grouped ?im_hides_grouped ?im_over_grouped ?im_meets_grouped ?im_halt_grouped ?im_tell_joined_grouped ?im___init___grouped ?z_len ?z_range ?z_tuple ?z_list ?z_isinstance ?z_reversed ?z_str ?z_set ?z_sorted
    case i11 =>
      refine' L2.InK.of ?a ?l ?c ?k
      (case a => k_is); (case l => k_is); (case c => k_is); (case k => k_is)
    case i12 =>
      refine' L2.InK.of ?a ?l ?c ?k
      (case a => k_is); (case l => k_is); (case c => k_is); (case k => k_is)
    case i15 =>
      refine' L2.InK.of ?a ?l ?c ?k
      (case a => k_is); (case l => k_is); (case c => k_is); (case k => k_is)
    case i16 =>
      refine' L2.InK.of ?a ?l ?c ?k
      (case a => k_is); (case l => k_is); (case c => k_is); (case k => k_is)
    case i20 =>
      refine' L2.InK.of ?a ?l ?c ?k
      (case a => k_is); (case l => k_is); (case c => k_is); (case k => k_is)
    case i21 =>
      refine' L2.InK.of ?a ?l ?c ?k
      (case a => k_is); (case l => k_is); (case c => k_is); (case k => k_is)
    case i22 =>
      refine' L2.InK.of ?a ?l ?c ?k
      (case a => k_is); (case l => k_is); (case c => k_is); (case k => k_is)
    case i23 =>
      refine' L2.InK.of ?a ?l ?c ?k
      (case a => k_is); (case l => k_is); (case c => k_is); (case k => k_is)
    case i24 =>
      refine' L2.InK.of ?a ?l ?c ?k
      (case a => k_is); (case l => k_is); (case c => k_is); (case k => k_is)
    case i25 =>
      refine' L2.InK.of ?a ?l ?c ?k
      (case a => k_is); (case l => k_is); (case c => k_is); (case k => k_is)
    case i26 =>
      refine' L2.InK.of ?a ?l ?c ?k
      (case a => k_is); (case l => k_is); (case c => k_is); (case k => k_is)
    case i27 =>
      refine' L2.InK.of ?a ?l ?c ?k
      (case a => k_is); (case l => k_is); (case c => k_is); (case k => k_is)
    case i28 =>
      refine' L2.InK.of ?a ?l ?c ?k
      (case a => k_is); (case l => k_is); (case c => k_is); (case k => k_is)
    case i29 =>
      refine' L2.InK.of ?a ?l ?c ?k
      (case a => k_is); (case l => k_is); (case c => k_is); (case k => k_is)
    case i30 =>
      refine' L2.InK.of ?a ?l ?c ?k
      (case a => k_is); (case l => k_is); (case c => k_is); (case k => k_is)
    case c_Machine =>
      refine' L2.InC.mk ?a ?b ?c ?d ?e ?f ?g
      (case a => k_is); (case b => k_is); (case c => k_is); (case d => k_is); (case e => k_is); (case f => k_is); (case g => k_is)
    (case na_Machine_frames => k_is)
    (case na_Machine_last_scope => k_is)
    (case na_Machine_named_values => k_is)
    (case na_Machine_given => k_is)
    (case na_Machine_marks => k_is)
    (case na_Machine_signal => k_is)
    (case na_Machine_struck => k_is)
    (case na_Machine_want => k_is)
    (case na_Machine_ending => k_is)
    case im_Machine___init__ =>
      refine' L2.InM.of ?a ?i ?l ?c ?k
      (case a => k_is); (case i => k_is); (case l => k_is); (case c => k_is); (case k => k_is)
    case im_Machine_waiting =>
      refine' L2.InM.of ?a ?i ?l ?c ?k
      (case a => k_is); (case i => k_is); (case l => k_is); (case c => k_is); (case k => k_is)
    case im_Machine_target =>
      refine' L2.InM.of ?a ?i ?l ?c ?k
      (case a => k_is); (case i => k_is); (case l => k_is); (case c => k_is); (case k => k_is)
    case im_Machine_might =>
      refine' L2.InM.of ?a ?i ?l ?c ?k
      (case a => k_is); (case i => k_is); (case l => k_is); (case c => k_is); (case k => k_is)
    case im_Machine_go =>
      refine' L2.InMD.of ?a ?i ?l ?c ?k ?d ?ga ?rd ?fi
      (case a => k_is); (case i => k_is); (case l => k_is); (case c => k_is); (case k => k_is); (case d => k_is); (case ga => k_is); (case rd => k_is); (case fi => k_is)
    case im_Machine_joined =>
      refine' L2.InM.of ?a ?i ?l ?c ?k
      (case a => k_is); (case i => k_is); (case l => k_is); (case c => k_is); (case k => k_is)
    case im_Machine_step =>
      refine' L2.InM.of ?a ?i ?l ?c ?k
      (case a => k_is); (case i => k_is); (case l => k_is); (case c => k_is); (case k => k_is)
    case im_Machine_go_on =>
      refine' L2.InM.of ?a ?i ?l ?c ?k
      (case a => k_is); (case i => k_is); (case l => k_is); (case c => k_is); (case k => k_is)
    case im_Machine_leave_innermost =>
      refine' L2.InM.of ?a ?i ?l ?c ?k
      (case a => k_is); (case i => k_is); (case l => k_is); (case c => k_is); (case k => k_is)
    case im_Machine_wait_at =>
      refine' L2.InM.of ?a ?i ?l ?c ?k
      (case a => k_is); (case i => k_is); (case l => k_is); (case c => k_is); (case k => k_is)
    case im_Machine_leave_group =>
      refine' L2.InM.of ?a ?i ?l ?c ?k
      (case a => k_is); (case i => k_is); (case l => k_is); (case c => k_is); (case k => k_is)
    case im_Machine_begin_clean_up =>
      refine' L2.InM.of ?a ?i ?l ?c ?k
      (case a => k_is); (case i => k_is); (case l => k_is); (case c => k_is); (case k => k_is)
    case im_Machine_end_with =>
      refine' L2.InM.of ?a ?i ?l ?c ?k
      (case a => k_is); (case i => k_is); (case l => k_is); (case c => k_is); (case k => k_is)
    case im_Machine_send_out =>
      refine' L2.InM.of ?a ?i ?l ?c ?k
      (case a => k_is); (case i => k_is); (case l => k_is); (case c => k_is); (case k => k_is)
    case im_Machine_halt_at =>
      refine' L2.InM.of ?a ?i ?l ?c ?k
      (case a => k_is); (case i => k_is); (case l => k_is); (case c => k_is); (case k => k_is)
    case im_Machine_value_of =>
      refine' L2.InM.of ?a ?i ?l ?c ?k
      (case a => k_is); (case i => k_is); (case l => k_is); (case c => k_is); (case k => k_is)
    case im_Machine_group_scope =>
      refine' L2.InM.of ?a ?i ?l ?c ?k
      (case a => k_is); (case i => k_is); (case l => k_is); (case c => k_is); (case k => k_is)
    case im_Machine_do_row =>
      refine' L2.InM.of ?a ?i ?l ?c ?k
      (case a => k_is); (case i => k_is); (case l => k_is); (case c => k_is); (case k => k_is)
    case im_Machine_enter_scope =>
      refine' L2.InM.of ?a ?i ?l ?c ?k
      (case a => k_is); (case i => k_is); (case l => k_is); (case c => k_is); (case k => k_is)
    case im_Machine_do_quietly =>
      refine' L2.InM.of ?a ?i ?l ?c ?k
      (case a => k_is); (case i => k_is); (case l => k_is); (case c => k_is); (case k => k_is)
    case iPP =>
      refine' K55.InPP.of ?a ?l ?s ?q1 ?q2 ?q3 ?q4 ?q5 ?q6 ?q7
      (case a => k_is); (case l => k_is); (case s => decide)
      case q1 =>
        refine' K55.InI.of ?l ?s ?v
        (case l => k_is); (case s => decide); (case v => decide +kernel)
      case q2 =>
        refine' K55.InI.of ?l ?s ?v
        (case l => k_is); (case s => decide); (case v => decide +kernel)
      case q3 =>
        refine' K55.InI.of ?l ?s ?v
        (case l => k_is); (case s => decide); (case v => decide +kernel)
      case q4 =>
        refine' K55.InI.of ?l ?s ?v
        (case l => k_is); (case s => decide); (case v => decide +kernel)
      case q5 =>
        refine' K55.InI.of ?l ?s ?v
        (case l => k_is); (case s => decide); (case v => decide +kernel)
      case q6 =>
        refine' K55.InI.of ?l ?s ?v
        (case l => k_is); (case s => decide); (case v => decide +kernel)
      case q7 =>
        refine' K55.InI.of ?l ?s ?v
        (case l => k_is); (case s => decide); (case v => decide +kernel)
    case iW =>
      refine' L2.InT.of ?a ?l ?s ?v
      (case a => k_is); (case l => k_is); (case s => decide); (case v => decide +kernel)
    case c_frame =>
      refine' L2.InC.mk ?a ?b ?c ?d ?e ?f ?g
      (case a => k_is); (case b => k_is); (case c => k_is); (case d => k_is); (case e => k_is); (case f => k_is); (case g => k_is)
    case na_frame =>
      intro l
      cases l <;> dsimp only [K55.Fl.name] <;> k_is
    case im_next_row_frame =>
      refine' L2.InM.of ?a ?i ?l ?c ?k
      (case a => k_is); (case i => k_is); (case l => k_is); (case c => k_is); (case k => k_is)
    case im_begin_anew_frame =>
      refine' L2.InM.of ?a ?i ?l ?c ?k
      (case a => k_is); (case i => k_is); (case l => k_is); (case c => k_is); (case k => k_is)
    case im_rest_frame =>
      refine' L2.InM.of ?a ?i ?l ?c ?k
      (case a => k_is); (case i => k_is); (case l => k_is); (case c => k_is); (case k => k_is)
    case im_behind_frame =>
      refine' L2.InM.of ?a ?i ?l ?c ?k
      (case a => k_is); (case i => k_is); (case l => k_is); (case c => k_is); (case k => k_is)
    case im_hides_frame =>
      refine' L2.InM.of ?a ?i ?l ?c ?k
      (case a => k_is); (case i => k_is); (case l => k_is); (case c => k_is); (case k => k_is)
    case im_over_frame =>
      refine' L2.InM.of ?a ?i ?l ?c ?k
      (case a => k_is); (case i => k_is); (case l => k_is); (case c => k_is); (case k => k_is)
    case im_meets_frame =>
      refine' L2.InM.of ?a ?i ?l ?c ?k
      (case a => k_is); (case i => k_is); (case l => k_is); (case c => k_is); (case k => k_is)
    case im_init_frame =>
      refine' L2.InMD.of ?a ?i ?l ?c ?k ?d ?ga ?rd ?fi
      (case a => k_is); (case i => k_is); (case l => k_is); (case c => k_is); (case k => k_is); (case d => k_is); (case ga => k_is); (case rd => k_is); (case fi => k_is)
    case c_rounds =>
      refine' L2.InC.mk ?a ?b ?c ?d ?e ?f ?g
      (case a => k_is); (case b => k_is); (case c => k_is); (case d => k_is); (case e => k_is); (case f => k_is); (case g => k_is)
    case na_rounds =>
      intro l
      cases l <;> dsimp only [K55.Fl.name] <;> k_is
    case im_next_row_rounds =>
      refine' L2.InM.of ?a ?i ?l ?c ?k
      (case a => k_is); (case i => k_is); (case l => k_is); (case c => k_is); (case k => k_is)
    case im_begin_anew_rounds =>
      refine' L2.InM.of ?a ?i ?l ?c ?k
      (case a => k_is); (case i => k_is); (case l => k_is); (case c => k_is); (case k => k_is)
    case im_rest_rounds =>
      refine' L2.InM.of ?a ?i ?l ?c ?k
      (case a => k_is); (case i => k_is); (case l => k_is); (case c => k_is); (case k => k_is)
    case im_behind_rounds =>
      refine' L2.InM.of ?a ?i ?l ?c ?k
      (case a => k_is); (case i => k_is); (case l => k_is); (case c => k_is); (case k => k_is)
    case im_hides_rounds =>
      refine' L2.InM.of ?a ?i ?l ?c ?k
      (case a => k_is); (case i => k_is); (case l => k_is); (case c => k_is); (case k => k_is)
    case im_over_rounds =>
      refine' L2.InM.of ?a ?i ?l ?c ?k
      (case a => k_is); (case i => k_is); (case l => k_is); (case c => k_is); (case k => k_is)
    case im_meets_rounds =>
      refine' L2.InM.of ?a ?i ?l ?c ?k
      (case a => k_is); (case i => k_is); (case l => k_is); (case c => k_is); (case k => k_is)
    case im___init___rounds =>
      refine' L2.InM.of ?a ?i ?l ?c ?k
      (case a => k_is); (case i => k_is); (case l => k_is); (case c => k_is); (case k => k_is)
    case c_kept =>
      refine' L2.InC.mk ?a ?b ?c ?d ?e ?f ?g
      (case a => k_is); (case b => k_is); (case c => k_is); (case d => k_is); (case e => k_is); (case f => k_is); (case g => k_is)
    case na_kept =>
      intro l
      cases l <;> dsimp only [K55.Fl.name] <;> k_is
    case im_next_row_kept =>
      refine' L2.InM.of ?a ?i ?l ?c ?k
      (case a => k_is); (case i => k_is); (case l => k_is); (case c => k_is); (case k => k_is)
    case im_begin_anew_kept =>
      refine' L2.InM.of ?a ?i ?l ?c ?k
      (case a => k_is); (case i => k_is); (case l => k_is); (case c => k_is); (case k => k_is)
    case im_rest_kept =>
      refine' L2.InM.of ?a ?i ?l ?c ?k
      (case a => k_is); (case i => k_is); (case l => k_is); (case c => k_is); (case k => k_is)
    case im_behind_kept =>
      refine' L2.InM.of ?a ?i ?l ?c ?k
      (case a => k_is); (case i => k_is); (case l => k_is); (case c => k_is); (case k => k_is)
    case im_hides_kept =>
      refine' L2.InM.of ?a ?i ?l ?c ?k
      (case a => k_is); (case i => k_is); (case l => k_is); (case c => k_is); (case k => k_is)
    case im_over_kept =>
      refine' L2.InM.of ?a ?i ?l ?c ?k
      (case a => k_is); (case i => k_is); (case l => k_is); (case c => k_is); (case k => k_is)
    case im_meets_kept =>
      refine' L2.InM.of ?a ?i ?l ?c ?k
      (case a => k_is); (case i => k_is); (case l => k_is); (case c => k_is); (case k => k_is)
    case im_init_kept =>
      refine' L2.InMD.of ?a ?i ?l ?c ?k ?d ?ga ?rd ?fi
      (case a => k_is); (case i => k_is); (case l => k_is); (case c => k_is); (case k => k_is); (case d => k_is); (case ga => k_is); (case rd => k_is); (case fi => k_is)
    case c_tried =>
      refine' L2.InC.mk ?a ?b ?c ?d ?e ?f ?g
      (case a => k_is); (case b => k_is); (case c => k_is); (case d => k_is); (case e => k_is); (case f => k_is); (case g => k_is)
    case na_tried =>
      intro l
      cases l <;> dsimp only [K55.Fl.name] <;> k_is
    case im_next_row_tried =>
      refine' L2.InM.of ?a ?i ?l ?c ?k
      (case a => k_is); (case i => k_is); (case l => k_is); (case c => k_is); (case k => k_is)
    case im_begin_anew_tried =>
      refine' L2.InM.of ?a ?i ?l ?c ?k
      (case a => k_is); (case i => k_is); (case l => k_is); (case c => k_is); (case k => k_is)
    case im_rest_tried =>
      refine' L2.InM.of ?a ?i ?l ?c ?k
      (case a => k_is); (case i => k_is); (case l => k_is); (case c => k_is); (case k => k_is)
    case im_behind_tried =>
      refine' L2.InM.of ?a ?i ?l ?c ?k
      (case a => k_is); (case i => k_is); (case l => k_is); (case c => k_is); (case k => k_is)
    case im_hides_tried =>
      refine' L2.InM.of ?a ?i ?l ?c ?k
      (case a => k_is); (case i => k_is); (case l => k_is); (case c => k_is); (case k => k_is)
    case im_over_tried =>
      refine' L2.InM.of ?a ?i ?l ?c ?k
      (case a => k_is); (case i => k_is); (case l => k_is); (case c => k_is); (case k => k_is)
    case im_meets_tried =>
      refine' L2.InM.of ?a ?i ?l ?c ?k
      (case a => k_is); (case i => k_is); (case l => k_is); (case c => k_is); (case k => k_is)
    case im___init___tried =>
      refine' L2.InM.of ?a ?i ?l ?c ?k
      (case a => k_is); (case i => k_is); (case l => k_is); (case c => k_is); (case k => k_is)
    case c_cleaned =>
      refine' L2.InC.mk ?a ?b ?c ?d ?e ?f ?g
      (case a => k_is); (case b => k_is); (case c => k_is); (case d => k_is); (case e => k_is); (case f => k_is); (case g => k_is)
    case na_cleaned =>
      intro l
      cases l <;> dsimp only [K55.Fl.name] <;> k_is
    case im_next_row_cleaned =>
      refine' L2.InM.of ?a ?i ?l ?c ?k
      (case a => k_is); (case i => k_is); (case l => k_is); (case c => k_is); (case k => k_is)
    case im_begin_anew_cleaned =>
      refine' L2.InM.of ?a ?i ?l ?c ?k
      (case a => k_is); (case i => k_is); (case l => k_is); (case c => k_is); (case k => k_is)
    case im_rest_cleaned =>
      refine' L2.InM.of ?a ?i ?l ?c ?k
      (case a => k_is); (case i => k_is); (case l => k_is); (case c => k_is); (case k => k_is)
    case im_behind_cleaned =>
      refine' L2.InM.of ?a ?i ?l ?c ?k
      (case a => k_is); (case i => k_is); (case l => k_is); (case c => k_is); (case k => k_is)
    case im_hides_cleaned =>
      refine' L2.InM.of ?a ?i ?l ?c ?k
      (case a => k_is); (case i => k_is); (case l => k_is); (case c => k_is); (case k => k_is)
    case im_over_cleaned =>
      refine' L2.InM.of ?a ?i ?l ?c ?k
      (case a => k_is); (case i => k_is); (case l => k_is); (case c => k_is); (case k => k_is)
    case im_meets_cleaned =>
      refine' L2.InM.of ?a ?i ?l ?c ?k
      (case a => k_is); (case i => k_is); (case l => k_is); (case c => k_is); (case k => k_is)
    case im_clean_cleaned =>
      refine' L2.InM.of ?a ?i ?l ?c ?k
      (case a => k_is); (case i => k_is); (case l => k_is); (case c => k_is); (case k => k_is)
    case im___init___cleaned =>
      refine' L2.InM.of ?a ?i ?l ?c ?k
      (case a => k_is); (case i => k_is); (case l => k_is); (case c => k_is); (case k => k_is)
    case c_limited =>
      refine' L2.InC.mk ?a ?b ?c ?d ?e ?f ?g
      (case a => k_is); (case b => k_is); (case c => k_is); (case d => k_is); (case e => k_is); (case f => k_is); (case g => k_is)
    case na_limited =>
      intro l
      cases l <;> dsimp only [K55.Fl.name] <;> k_is
    case im_next_row_limited =>
      refine' L2.InM.of ?a ?i ?l ?c ?k
      (case a => k_is); (case i => k_is); (case l => k_is); (case c => k_is); (case k => k_is)
    case im_begin_anew_limited =>
      refine' L2.InM.of ?a ?i ?l ?c ?k
      (case a => k_is); (case i => k_is); (case l => k_is); (case c => k_is); (case k => k_is)
    case im_rest_limited =>
      refine' L2.InM.of ?a ?i ?l ?c ?k
      (case a => k_is); (case i => k_is); (case l => k_is); (case c => k_is); (case k => k_is)
    case im_behind_limited =>
      refine' L2.InM.of ?a ?i ?l ?c ?k
      (case a => k_is); (case i => k_is); (case l => k_is); (case c => k_is); (case k => k_is)
    case im_hides_limited =>
      refine' L2.InM.of ?a ?i ?l ?c ?k
      (case a => k_is); (case i => k_is); (case l => k_is); (case c => k_is); (case k => k_is)
    case im_over_limited =>
      refine' L2.InM.of ?a ?i ?l ?c ?k
      (case a => k_is); (case i => k_is); (case l => k_is); (case c => k_is); (case k => k_is)
    case im_meets_limited =>
      refine' L2.InM.of ?a ?i ?l ?c ?k
      (case a => k_is); (case i => k_is); (case l => k_is); (case c => k_is); (case k => k_is)
    case im___init___limited =>
      refine' L2.InM.of ?a ?i ?l ?c ?k
      (case a => k_is); (case i => k_is); (case l => k_is); (case c => k_is); (case k => k_is)
    case c_grouped =>
      refine' L2.InC.mk ?a ?b ?c ?d ?e ?f ?g
      (case a => k_is); (case b => k_is); (case c => k_is); (case d => k_is); (case e => k_is); (case f => k_is); (case g => k_is)
    case na_grouped =>
      intro l
      cases l <;> dsimp only [K55.Fl.name] <;> k_is
    case im_next_row_grouped =>
      refine' L2.InM.of ?a ?i ?l ?c ?k
      (case a => k_is); (case i => k_is); (case l => k_is); (case c => k_is); (case k => k_is)
    case im_begin_anew_grouped =>
      refine' L2.InM.of ?a ?i ?l ?c ?k
      (case a => k_is); (case i => k_is); (case l => k_is); (case c => k_is); (case k => k_is)
    case im_rest_grouped =>
      refine' L2.InM.of ?a ?i ?l ?c ?k
      (case a => k_is); (case i => k_is); (case l => k_is); (case c => k_is); (case k => k_is)
    case im_behind_grouped =>
      refine' L2.InM.of ?a ?i ?l ?c ?k
      (case a => k_is); (case i => k_is); (case l => k_is); (case c => k_is); (case k => k_is)
    case im_hides_grouped =>
      refine' L2.InM.of ?a ?i ?l ?c ?k
      (case a => k_is); (case i => k_is); (case l => k_is); (case c => k_is); (case k => k_is)
    case im_over_grouped =>
      refine' L2.InM.of ?a ?i ?l ?c ?k
      (case a => k_is); (case i => k_is); (case l => k_is); (case c => k_is); (case k => k_is)
    case im_meets_grouped =>
      refine' L2.InM.of ?a ?i ?l ?c ?k
      (case a => k_is); (case i => k_is); (case l => k_is); (case c => k_is); (case k => k_is)
    case im_halt_grouped =>
      refine' L2.InM.of ?a ?i ?l ?c ?k
      (case a => k_is); (case i => k_is); (case l => k_is); (case c => k_is); (case k => k_is)
    case im_tell_joined_grouped =>
      refine' L2.InM.of ?a ?i ?l ?c ?k
      (case a => k_is); (case i => k_is); (case l => k_is); (case c => k_is); (case k => k_is)
    case im___init___grouped =>
      refine' L2.InM.of ?a ?i ?l ?c ?k
      (case a => k_is); (case i => k_is); (case l => k_is); (case c => k_is); (case k => k_is)
    (case z_len => k_is)
    (case z_range => k_is)
    (case z_tuple => k_is)
    (case z_list => k_is)
    (case z_isinstance => k_is)
    (case z_reversed => k_is)
    (case z_str => k_is)
    (case z_set => k_is)
    (case z_sorted => k_is)
#print axioms PySem.Challenge.cw_nightwatch_k55_what_it_might_holds

