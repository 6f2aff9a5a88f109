import PyProof.Rows.All
import Wide.All
import OpenK.AllK
import Wide.FinOn
import Lean
import PyProof.EqAt
import PyProof.EqKinds
import PyProof.NeKinds
import PyProof.TupleCall
import KE.KPairComp
import KE.KIntText
import PyProof.Rows.StrSplitCount
import PyProof.ZipIter
import PyProof.EnumMake
import PyProof.Draws
import PyProof.Rows.CallKwBuiltin
import PyProof.Rows.StrJoin2
import PyProof.Rows.Range3
import KE.KIsAll
import PyProof.ExcAttrAll.ValueError
import PyProof.StrCalls6
import PyProof.StrLawsReplace
import KE.RegKIsAll
import PySem.Challenge.RW_nightwatch_k81_texts_refused
set_option Elab.async false
set_option linter.all false
set_option genSizeOf false
set_option maxRecDepth 100000
namespace L2
open PySem PySem.Spec PyProof.Rows

abbrev Key := Sum Int Str
def keyIs : Key → Value → Bool
  | .inl k, v => Value.isInt k v
  | .inr x, v => Value.isStrOf x v
def keyH (w : World) : Key → Int
  | .inl k => hashInt k
  | .inr x => hashStr w x
theorem keyIs_shape : ∀ {k : Key} {v : Value}, keyIs k v = true → (∃ i t, k = Sum.inl i ∧ v = Value.int i t) ∨ (∃ x t, k = Sum.inr x ∧ v = Value.str x t)
  | .inl i, v, h => by
    obtain ⟨t, e⟩ := Value.isInt_shape (k := i) (v := v) h
    exact .inl ⟨i, t, rfl, e⟩
  | .inr x, v, h => by
    obtain ⟨t, e⟩ := Value.isStrOf_shape (x := x) (v := v) h
    exact .inr ⟨x, t, rfl, e⟩
theorem keyIs_int (i : Int) (t : Tok) : keyIs (.inl i) (.int i t) = true := by simp [keyIs, Value.isInt]
theorem keyIs_str (x : Str) (t : Tok) : keyIs (.inr x) (.str x t) = true := by simp [keyIs, Value.isStrOf]
theorem key_ll (a b : Int) : decide ((Sum.inl a : Key) = Sum.inl b) = (a == b) := by
  by_cases e : a = b
  · subst e; simp
  · have h : ¬ (Sum.inl a : Key) = Sum.inl b := fun q => e (Sum.inl.inj q)
    rw [decide_eq_false h]
    exact (beq_eq_false_iff_ne.mpr e).symm
theorem key_rr (a b : Str) : decide ((Sum.inr a : Key) = Sum.inr b) = decide (a = b) := by
  by_cases e : a = b
  · subst e; simp
  · have h : ¬ (Sum.inr a : Key) = Sum.inr b := fun q => e (Sum.inr.inj q)
    rw [decide_eq_false h, decide_eq_false e]
theorem key_lr (a : Int) (b : Str) : decide ((Sum.inl a : Key) = Sum.inr b) = false := decide_eq_false (fun q => nomatch q)
theorem key_rl (a : Str) (b : Int) : decide ((Sum.inr a : Key) = Sum.inl b) = false := decide_eq_false (fun q => nomatch q)

def mixKind (prog : Program) (w : World) : PySem.KeyKind prog w Key where
  is := keyIs
  hash := keyH w
  inj := fun v a b ha hb => by
    rcases keyIs_shape ha with ⟨i, t, rfl, rfl⟩ | ⟨x, t, rfl, rfl⟩
    · rcases keyIs_shape hb with ⟨j, u, rfl, e⟩ | ⟨y, u, rfl, e⟩
      · injection e with e1 _; rw [e1]
      · exact nomatch e
    · rcases keyIs_shape hb with ⟨j, u, rfl, e⟩ | ⟨y, u, rfl, e⟩
      · exact nomatch e
      · injection e with e1 _; rw [e1]
  byValue := fun k v h => by
    rcases keyIs_shape h with ⟨i, t, rfl, rfl⟩ | ⟨x, t, rfl, rfl⟩ <;> rfl
  pyHash := fun hv h => by
    rcases keyIs_shape hv with ⟨i, t, rfl, rfl⟩ | ⟨x, t, rfl, rfl⟩
    · exact wpAny_pyHash_int h
    · exact wpAny_pyHash_str h
  eqBool := fun hu hv h => by
    rcases keyIs_shape hu with ⟨i, t, rfl, rfl⟩ | ⟨x, t, rfl, rfl⟩
    · rcases keyIs_shape hv with ⟨j, u, rfl, rfl⟩ | ⟨y, u, rfl, rfl⟩
      · rw [key_ll] at h; exact wpAny_eqBool_int h
      · rw [key_lr] at h; exact SeqAt.EqAt.int_str i t y u _ _ _ _ h
    · rcases keyIs_shape hv with ⟨j, u, rfl, rfl⟩ | ⟨y, u, rfl, rfl⟩
      · rw [key_rl] at h; exact SeqAt.EqAt.str_int x t j u _ _ _ _ h
      · rw [key_rr] at h; exact wpAny_eqBool_str h
  «strs» := fun k x t v h => by
    rcases keyIs_shape h with ⟨i, u, rfl, e⟩ | ⟨y, u, rfl, e⟩
    · exact nomatch e
    · injection e with e1 _
      subst e1
      cases v <;> rfl

theorem mixKind_int (prog : Program) (w : World) (i : Int) (t : Tok) : (mixKind prog w).is (.inl i) (.int i t) = true := keyIs_int i t
theorem mixKind_str (prog : Program) (w : World) (x : Str) (t : Tok) : (mixKind prog w).is (.inr x) (.str x t) = true := keyIs_str x t
end L2

namespace L2
open PySem PySem.Spec PyProof.Rows

inductive V where
  | non | bl (b : Bool) | int (i : Int) | str (x : Str) | byt (b : Array UInt8) | flt (b : UInt64) | ref (a : Addr) | ty (n : String)
  deriving DecidableEq

def RelV : V → Value → Prop
  | .non, u => u = Value.none
  | .bl b, u => u = Value.bool b
  | .int i, u => ∃ t, u = Value.int i t
  | .str x, u => ∃ t, u = Value.str x t
  | .byt b, u => ∃ t, u = Value.bytes b t
  | .flt b, u => ∃ t, u = Value.float b t
  | .ref a, u => u = Value.ref a
  | .ty n, u => u = Value.type n

abbrev Vals : List V → List Value → Prop := Paired RelV
theorem Vals.length {xs : List V} {us : List Value} (r : Vals xs us) : xs.length = us.length := Paired.length r
theorem Vals.get : ∀ {xs : List V} {us : List Value} {i : Nat} {x : V}, Vals xs us → xs[i]? = some x → ∃ u, us[i]? = some u ∧ RelV x u
  | _, _, _, _, .nil, e => by simp at e
  | _, _, 0, _, .cons r _, e => by simp at e; subst e; exact ⟨_, rfl, r⟩
  | _, _, i + 1, x, .cons _ t, e => by
    obtain ⟨u, h1, h2⟩ := Vals.get (i := i) (x := x) t (by simpa using e)
    exact ⟨u, by simpa using h1, h2⟩
theorem Vals.set {x : V} {u : Value} (r : RelV x u) : ∀ {xs : List V} {us : List Value} (i : Nat), Vals xs us → Vals (xs.set i x) (us.set i u)
  | _, _, _, .nil => .nil
  | _, _, 0, .cons _ t => .cons r t
  | _, _, i + 1, .cons q t => .cons q (Vals.set r i t)
theorem Vals.append : ∀ {xs ys : List V} {us ws : List Value}, Vals xs us → Vals ys ws → Vals (xs ++ ys) (us ++ ws)
  | _, _, _, _, .nil, s => s
  | _, _, _, _, .cons r t, s => .cons r (Vals.append t s)
theorem Vals.take : ∀ {xs : List V} {us : List Value} (n : Nat), Vals xs us → Vals (xs.take n) (us.take n)
  | _, _, 0, _ => .nil
  | _, _, _ + 1, .nil => .nil
  | _, _, n + 1, .cons r t => .cons r (Vals.take n t)
theorem Vals.drop : ∀ {xs : List V} {us : List Value} (n : Nat), Vals xs us → Vals (xs.drop n) (us.drop n)
  | _, _, 0, r => r
  | _, _, _ + 1, .nil => .nil
  | _, _, n + 1, .cons _ t => Vals.drop n t
def RelO : Option V → Option Value → Prop
  | some v, some u => RelV v u
  | none, none => True
  | _, _ => False
def KV {κ : Type} : List (κ × V) → List (κ × Value) → Prop := Paired fun (p : κ × V) (q : κ × Value) => p.1 = q.1 ∧ RelV p.2 q.2

def kV : Key → V
  | .inl i => .int i
  | .inr x => .str x

inductive HO where
  | lst (xs : List V)
  | tup (xs : List V)
  | dK (kvs : List (Key × V)) | dT (kvs : List (List Key × V))
  | set (S : Int → Bool) (n : Nat)
  | ins (C dx : Addr) (fs : List (Str × V))
  | own (x : Addr)
  | xd (fs : List (Str × V))
  | met (f x : Addr)
  | rng (lo hi : Int)
  | frz (o : Obj) (u : HO)
  | tbl (ps : Array Value)
  | ext (φ : Heap → Prop)

abbrev Hp := Addr → Option HO
def upd (H : Hp) (a : Addr) (o : HO) : Hp := fun b => if b = a then some o else H b
theorem upd_same {H : Hp} {a : Addr} {o : HO} : upd H a o a = some o := by unfold upd; rw [if_pos rfl]
theorem upd_ne {H : Hp} {a b : Addr} {o : HO} (h : b ≠ a) : upd H a o b = H b := by unfold upd; rw [if_neg h]
theorem ne_of_none {H : Hp} {a b : Addr} {o : HO} (h : H a = some o) (h' : H b = none) : a ≠ b := by
  intro e; subst e; rw [h] at h'; cases h'

section
variable (P : Program) (w : World)
def ObjOk (H : Hp) (h : Heap) (a : Addr) : HO → Prop
  | .lst xs => xs.length ≤ sizeLine ∧ ∃ (its : List Value) (n : Nat), Vals xs its ∧ h.get? a = some { cls := .type "list", data := .seq its.toArray n }
  | .tup xs => xs.length ≤ sizeLine ∧ ∃ its : List Value, Vals xs its ∧ IsTup h a its.toArray
  | .dK kvs => kvs.length ≤ sizeLine ∧ (a == sysModules) = false ∧ ∃ vs, KV kvs vs ∧ h.DictOf (mixKind P w) a vs
  | .dT kvs => kvs.length ≤ sizeLine ∧ (a == sysModules) = false ∧ ∃ xs : List (List Key × Addr × Value),
      Paired (fun (p : List Key × V) (q : List Key × Addr × Value) => p.1 = q.1 ∧ H q.2.1 = some (.tup (p.1.map kV)) ∧ RelV p.2 q.2.2) kvs xs ∧
      ∃ o es ep, h.get? a = some o ∧ o.ExactDict ∧ o.data = .dict es ep ∧ es.toList = xs.map (entryOfKey (tupleKind (mixKind P w))) ∧ (xs.map (·.1)).Nodup
  | .set S n => h.SetOf (intKind P w) a S n
  | .ins C dx fs => H dx = some (.own a) ∧ fs.length ≤ 1000 ∧ dx ≠ a ∧ h.get? a = some (PySem.W.instObj C dx) ∧
      ∃ mA, h.Ns1 dx mA ∧ (∀ f, RelO (fs.lookup f) (mA f)) ∧ PySem.Within mA (fs.map (·.1))
  | .own _ => ∃ o, h.get? a = some o
  | .xd fs => ∃ mA, h.Ns1 a mA ∧ ∀ f, RelO (fs.lookup f) (mA f)
  | .rng lo hi => ∃ t u v, h.get? a = some { cls := .type "range", data := .fields #[.int lo t, .int hi u, .int 1 v] }
  | .frz o u => h.get? a = some o ∧ ObjOk H h a u
  | .tbl ps => h.get? a = some { cls := .none, data := .fields ps }
  | .met f x => h.get? a = some (PySem.W.methodObj (.ref f) (.ref x))
  | .ext φ => φ h ∧ (∃ o, h.get? a = some o) ∧ ∀ h1 h2 : Heap, φ h1 → (∀ o, h1.get? a = some o → h2.get? a = some o) → φ h2
def HOk (H : Hp) (h : Heap) : Prop := ∀ a o, H a = some o → ObjOk P w H h a o
end

section
variable {P : Program} {w : World} {H H' : Hp} {h h' : Heap} {a : Addr} {o : HO}
theorem ObjOk.lt (x : ObjOk P w H h a o) : a < h.objs.size := by
  cases o with
  | lst xs => obtain ⟨_, _, _, _, e⟩ := x; exact Heap.lt_size e
  | tup xs => obtain ⟨_, _, _, p⟩ := x; exact p.lt
  | dK kvs => obtain ⟨_, _, _, _, o, _, _, e, _⟩ := x; exact Heap.lt_size e
  | dT kvs => obtain ⟨_, _, _, _, o, _, _, e, _⟩ := x; exact Heap.lt_size e
  | set S n => obtain ⟨o, _, _, _, e, _⟩ := x; exact Heap.lt_size e
  | ins C dx fs => obtain ⟨_, _, _, e, _⟩ := x; exact Heap.lt_size e
  | own y => obtain ⟨_, e⟩ := x; exact Heap.lt_size e
  | xd fs => obtain ⟨_, ⟨_, _, _, e, _⟩, _⟩ := x; exact Heap.lt_size e
  | rng lo hi => obtain ⟨_, _, _, e⟩ := x; exact Heap.lt_size e
  | frz ob u => obtain ⟨e, _⟩ := x; exact Heap.lt_size e
  | tbl ps => exact Heap.lt_size (show h.get? a = some _ from x)
  | met f y => exact Heap.lt_size (show h.get? a = some _ from x)
  | ext φ => obtain ⟨_, ⟨_, e⟩, _⟩ := x; exact Heap.lt_size e
theorem Paired.mapP {α β : Type} {F G : α → β → Prop} : ∀ {l₁ : List α} {l₂ : List β}, Paired F l₁ l₂ → (∀ a b, F a b → G a b) → Paired G l₁ l₂
  | _, _, .nil, _ => .nil
  | _, _, .cons r t, f => .cons (f _ _ r) (Paired.mapP t f)
theorem ObjOk.stay (x : ObjOk P w H h a o) (k : ∀ b u, (b = a ∨ H b = some (.own a)) → h.get? b = some u → h'.get? b = some u)
    (ho : ∀ b, H b = some (.own a) → H' b = some (.own a)) (ht : ∀ b xs, H b = some (.tup xs) → H' b = some (.tup xs)) : ObjOk P w H' h' a o := by
  induction o with
  | lst xs => obtain ⟨z, its, n, r, e⟩ := x; exact ⟨z, its, n, r, k _ _ (.inl rfl) e⟩
  | tup xs => obtain ⟨z, its, r, ob, e, c⟩ := x; exact ⟨z, its, r, ob, k _ _ (.inl rfl) e, c⟩
  | dK kvs => obtain ⟨z, y, vs, r, ob, es, ep, e, c⟩ := x; exact ⟨z, y, vs, r, ob, es, ep, k _ _ (.inl rfl) e, c⟩
  | dT kvs =>
    obtain ⟨z, y, xs, r, ob, es, ep, e, c⟩ := x
    exact ⟨z, y, xs, Paired.mapP r fun p q z => ⟨z.1, ht _ _ z.2.1, z.2.2⟩, ob, es, ep, k _ _ (.inl rfl) e, c⟩
  | set S n => obtain ⟨ob, es, ep, t, e, c⟩ := x; exact ⟨ob, es, ep, t, k _ _ (.inl rfl) e, c⟩
  | ins C dx fs =>
    obtain ⟨d, z, ne, e, mA, ⟨od, es, ep, e2, c⟩, r⟩ := x
    exact ⟨ho _ d, z, ne, k _ _ (.inl rfl) e, mA, ⟨od, es, ep, k _ _ (.inr d) e2, c⟩, r⟩
  | own y => obtain ⟨ob, e⟩ := x; exact ⟨ob, k _ _ (.inl rfl) e⟩
  | xd fs => obtain ⟨mA, ⟨od, es, ep, e, c⟩, r⟩ := x; exact ⟨mA, ⟨od, es, ep, k _ _ (.inl rfl) e, c⟩, r⟩
  | rng lo hi => obtain ⟨t, u, v, e⟩ := x; exact ⟨t, u, v, k _ _ (.inl rfl) e⟩
  | frz ob u ih => obtain ⟨e, q⟩ := x; exact ⟨k _ _ (.inl rfl) e, ih q⟩
  | tbl ps =>
    have e : h.get? a = some { cls := .none, data := .fields ps } := x
    show h'.get? a = some { cls := .none, data := .fields ps }
    exact k a _ (.inl rfl) e
  | met f y =>
    have e : h.get? a = some (PySem.W.methodObj (.ref f) (.ref y)) := x
    show h'.get? a = some (PySem.W.methodObj (.ref f) (.ref y))
    exact k a _ (.inl rfl) e
  | ext φ => obtain ⟨p, ⟨o, e⟩, st⟩ := x; exact ⟨st _ _ p fun o q => k _ _ (.inl rfl) q, ⟨o, k _ _ (.inl rfl) e⟩, st⟩
theorem HOk.lt (x : HOk P w H h) (e : H a = some o) : a < h.objs.size := (x a o e).lt
theorem HOk.fresh (x : HOk P w H h) (e : h.objs.size ≤ a) : H a = none := by
  cases q : H a with
  | none => rfl
  | some u => exact absurd (Nat.lt_of_lt_of_le (x.lt q) e) (Nat.lt_irrefl _)
theorem HOk.kept (x : HOk P w H h) (k : ∀ b u, h.get? b = some u → h'.get? b = some u) : HOk P w H h' := fun a o e =>
  (x a o e).stay (fun b u _ q => k b u q) (fun _ q => q) fun _ _ q => q
theorem HOk.laid (x : HOk P w H h) (k : ∀ b u, h.get? b = some u → h'.get? b = some u) (hp : h.objs.size ≤ a) (new : ObjOk P w (upd H a o) h' a o) : HOk P w (upd H a o) h' := fun b u e => by
  have hn := x.fresh hp
  by_cases hb : b = a
  · subst hb; rw [upd_same] at e; cases e; exact new
  · rw [upd_ne hb] at e
    exact (x b u e).stay (fun c v _ q => k c v q) (fun c q => by rw [upd_ne (ne_of_none q hn)]; exact q) fun c xs q => by rw [upd_ne (ne_of_none q hn)]; exact q
end

def Rd (H : Hp) (a : Addr) (u : HO) : Prop := H a = some u ∨ ∃ o, H a = some (.frz o u)
theorem Rd.ok {P : Program} {w : World} {H : Hp} {h : Heap} {a : Addr} {u : HO} (r : Rd H a u) (x : HOk P w H h) : ObjOk P w H h a u := by
  rcases r with r | ⟨o, r⟩
  · exact x a u r
  · obtain ⟨_, q⟩ := x a _ r
    exact q
def Mut : Option HO → Prop
  | some (.lst _) => True
  | some (.dK _) => True
  | some (.dT _) => True
  | some (.set _ _) => True
  | some (.ins _ _ _) => True
  | some (.ext _) => True
  | _ => False
section
variable {P : Program} {w : World} {H : Hp} {h h' : Heap} {x e : Addr} {o' : HO}
theorem HOk.write (ok : HOk P w H h) (mu : Mut (H x)) (he : e = x ∨ H e = some (.own x)) (k : ∀ b u, b ≠ e → h.get? b = some u → h'.get? b = some u) (heo : ∃ u, h'.get? e = some u)
    (new : ObjOk P w (upd H x o') h' x o') : HOk P w (upd H x o') h' := fun b u q => by
  have nown : ∀ c y, H c = some (.own y) → c ≠ x := fun c y r z => by subst z; rw [r] at mu; exact mu
  have ntup : ∀ c xs, H c = some (.tup xs) → c ≠ x := fun c xs r z => by subst z; rw [r] at mu; exact mu
  by_cases hb : b = x
  · subst hb; rw [upd_same] at q; cases q; exact new
  · rw [upd_ne hb] at q
    by_cases hbe : b = e
    · have q' : H b = some (.own x) := by
        rcases he with z | z
        · exact absurd (hbe.trans z) hb
        · rw [hbe]; exact z
      rw [q] at q'; cases q'
      obtain ⟨v, hv⟩ := heo
      exact ⟨v, by rw [hbe]; exact hv⟩
    · refine (ok b u q).stay (fun c v hc r => k c v ?_ r) (fun c r => by rw [upd_ne (nown c b r)]; exact r) fun c xs r => by rw [upd_ne (ntup c xs r)]; exact r
      rcases hc with rfl | hc
      · exact hbe
      · rintro rfl
        rcases he with z | z
        · exact nown c b hc z
        · rw [hc] at z; cases z; exact hb rfl
end

structure Un (fs ex : List Addr) (H H' : Hp) (h h' : Heap) : Prop where
  keep : ∀ b o, h.get? b = some o → H b = none → b ∉ fs → b ∉ ex → h'.get? b = some o
  slot : ∀ b o, h.get? b = some o → H b = none → b ∈ fs → b ∉ ex → ∃ sl, h'.get? b = some { o with slots := sl }
  free : ∀ b o, h.get? b = some o → H b = none → b ∉ ex → H' b = none
  there : ∀ b o, h.get? b = some o → b ∉ ex → ∃ o', h'.get? b = some o'
  tups : ∀ b xs, H b = some (.tup xs) → H' b = some (.tup xs)
  frzs : ∀ b o u, H b = some (.frz o u) → H' b = some (.frz o u)
  tbls : ∀ b ps, H b = some (.tbl ps) → ∃ more, H' b = some (.tbl (ps ++ more))
section
variable {fs fs' ex ex' : List Addr} {H H1 H2 : Hp} {h h1 h2 h' : Heap} {a x e : Addr} {o : HO}
theorem Un.any (u : Un fs ex H H1 h h1) {b : Addr} {ob : Obj} (q : h.get? b = some ob) (n : H b = none) (hx : b ∉ ex) : ∃ sl, h1.get? b = some { ob with slots := sl } := by
  by_cases hb : b ∈ fs
  · exact u.slot b ob q n hb hx
  · exact ⟨ob.slots, u.keep b ob q n hb hx⟩
theorem Un.kept (k : ∀ b u, h.get? b = some u → h'.get? b = some u) : Un fs ex H H h h' :=
  ⟨fun b ob q _ _ _ => k b ob q, fun b ob q _ _ _ => ⟨ob.slots, k b ob q⟩, fun _ _ _ n _ => n, fun b ob q _ => ⟨ob, k b ob q⟩, fun _ _ q => q, fun _ _ _ q => q, fun _ ps q => ⟨#[], by rw [q]; simp⟩⟩
theorem Un.refl : Un fs ex H H h h := Un.kept fun _ _ q => q
theorem Un.laid (k : ∀ b u, h.get? b = some u → h'.get? b = some u) (hp : h.objs.size ≤ a) (hn : H a = none) : Un fs ex H (upd H a o) h h' where
  keep := fun b u q _ _ _ => k b u q
  slot := fun b u q _ _ _ => ⟨u.slots, k b u q⟩
  free := fun b u q n _ => by rw [upd_ne (Nat.ne_of_lt (Nat.lt_of_lt_of_le (Heap.lt_size q) hp))]; exact n
  there := fun b u q _ => ⟨u, k b u q⟩
  tups := fun b xs q => by rw [upd_ne (ne_of_none q hn)]; exact q
  frzs := fun b u xs q => by rw [upd_ne (ne_of_none q hn)]; exact q
  tbls := fun b ps q => ⟨#[], by rw [upd_ne (ne_of_none q hn), q]; simp⟩
theorem Un.write (mu : Mut (H x)) (he : e = x ∨ H e = some (.own x)) (k : ∀ b u, b ≠ e → h.get? b = some u → h'.get? b = some u) (heo : ∃ u, h'.get? e = some u) : Un fs ex H (upd H x o) h h' := by
  have hx : ∀ b, H b = none → b ≠ x := fun b n z => by subst z; rw [n] at mu; exact mu
  have hb : ∀ b, H b = none → b ≠ e := fun b n z => by
    subst z
    rcases he with r | r
    · exact hx b n r
    · rw [n] at r; cases r
  have hm : ∀ b u, H b = some u → ¬ Mut (some u) → b ≠ x := fun b u q nm z => by subst z; rw [q] at mu; exact nm mu
  refine ⟨fun b u q n _ _ => k b u (hb b n) q, fun b u q n _ _ => ⟨u.slots, k b u (hb b n) q⟩, fun b u q n _ => by rw [upd_ne (hx b n)]; exact n, fun b u q _ => ?_,
    fun b xs q => by rw [upd_ne (hm b _ q fun z => z)]; exact q, fun b u xs q => by rw [upd_ne (hm b _ q fun z => z)]; exact q, fun b ps q => ⟨#[], by rw [upd_ne (hm b _ q fun z => z), q]; simp⟩⟩
  by_cases hbe : b = e
  · subst hbe; exact heo
  · exact ⟨u, k b u hbe q⟩
end

def trk (h : Heap) (H : Hp) : List Addr := (List.range h.objs.size).filter fun a => (H a).isSome
def hidT (h : Heap) (H : Hp) : Heap := PySem.W.hideAll h (trk h H)
theorem hidT_size (h : Heap) (H : Hp) : (hidT h H).objs.size = h.objs.size := PySem.W.hideAll_size _ _
theorem hidT_get {h : Heap} {H : Hp} {b : Addr} {o : Obj} (e : h.get? b = some o) (n : H b = none) : (hidT h H).get? b = some o :=
  PySem.W.hideAll_get _ e fun hm => by
    have q : (H b).isSome = true := (List.mem_filter.mp hm).2
    rw [n] at q; simp at q
theorem of_hidT {h : Heap} {H : Hp} {b : Addr} {o : Obj} (e : (hidT h H).get? b = some o) : h.get? b = some o ∧ H b = none := by
  have e' : h.get? b = some o := PySem.W.of_hideAll (trk h H) e
  refine ⟨e', ?_⟩
  cases q : H b with
  | none => rfl
  | some x =>
    have hm : b ∈ trk h H := List.mem_filter.mpr ⟨List.mem_range.mpr (Heap.lt_size e'), by simp [q]⟩
    have z : (hidT h H).get? b = none := PySem.W.hideAll_none (trk h H) hm
    rw [z] at e; cases e

def allNews (g h : Heap) (L : Addr) : List (Addr × Obj) := (List.range h.objs.size).filterMap fun a => if a = L ∨ (g.get? a).isSome = true then none else (h.get? a).map fun o => (a, o)
def rest (g h : Heap) (L d : Addr) : List (Addr × Obj) := (allNews g h L).filter fun p => decide (p.1 ≠ d)
end L2

namespace L2
open PySem PySem.Spec PyProof.Rows

structure Mod (K : PySem.W.Frag) (mg : Str → Option Value) (base : Heap) : Prop where
  kin : K.In base
  glob : base.Ns mainGlobals mg
  blt : ∃ mb, base.Ns builtinsNs mb ∧ ∀ x : Str, x ≠ "__name__" → mb x = bootBuiltins x
  nolimit : base.NoLimit

set_option genInjectivity false in
structure Cx where
  prog : Program
  w : World
  K : PySem.W.Frag
  mg : Str → Option Value
  base : Heap
  A : Around
  N : List Str
  s₀ : Shared
  H₀ : Hp
  env : Env
  outer : List Env
  stack : List Env
  ex : List Addr
  fn : Str → Bool
  calm : Bool
  pn : List (Addr × Obj)
  xe : Value → Shared → Prop
def frs (l : List Env) : List Addr := l.filterMap (·.frame)
abbrev Cx.fs (X : Cx) : List Addr := frs X.outer

def Vis (sc : Scope) (x : Str) : Prop := sc.names.lookup x = some .local ∨ sc.names.lookup x = some .cell ∨ sc.names.lookup x = some .free
def Loc (sc : Scope) (x : Str) : Prop := sc.names.lookup x = some .local ∨ sc.names.lookup x = some .cell
def Look (env : Env) (h : Heap) (m : Str → Option Value) (x : Str) (u : Value) : Prop :=
  (env.kindOf x = some .local ∧ m x = some u) ∨ ((env.kindOf x = some .cell ∨ env.kindOf x = some .free) ∧ ∃ c, env.cells.lookup x = some c ∧ h.IsCell c (some u))

structure Cx.Ok (X : Cx) : Prop where
  mod : Mod X.K X.mg X.base
  kind : X.env.scope.kind = .function
  glob : X.env.globals = mainGlobals
  blt : X.env.builtins = builtinsNs
  above : X.s₀.heap.objs.size ≤ X.env.locals
  inj : ∀ x y c, X.env.cells.lookup x = some c → X.env.cells.lookup y = some c → x = y
  has : ∀ x, (X.env.kindOf x = some .cell ∨ X.env.kindOf x = some .free) → ∃ c, X.env.cells.lookup x = some c
  cab : ∀ x c, X.fn x = true → X.env.cells.lookup x = some c → X.s₀.heap.objs.size ≤ c
  hd : X.calm = true → X.A.handled = none
  frames : X.A.frames = some X.stack
  stk : X.stack = X.outer ∨ (X.stack = X.env :: X.outer ∧ X.env.frame = some X.env.locals)
  exf : ∀ b ∈ X.ex, b ≠ X.env.locals ∧ ∀ x c, X.env.cells.lookup x = some c → c ≠ b
  bs : ∀ b o, X.base.get? b = some o → X.s₀.heap.get? b = some o ∧ X.H₀ b = none
  bsz : X.base.objs.size ≤ X.s₀.heap.objs.size
  noex : ∀ b o, X.base.get? b = some o → b ∉ X.ex
  exfs : ∀ b ∈ X.ex, b ∉ X.fs
  funs : X.s₀.heap.FunFrames X.base X.outer
  frf : ∀ b ∈ X.fs, X.H₀ b = none

structure Inv (X : Cx) (pins : List (Addr × Obj)) (σ : List (Option V)) (H : Hp) (s : Shared) : Prop where
  ok : X.Ok
  os : s.os = X.s₀.os
  bare : AllBare s.gens
  base : Un X.fs X.ex X.H₀ H X.s₀.heap s.heap
  loc : ∃ m, s.heap.Ns X.env.locals m ∧ ∀ (i : Nat) (x : Str) (v : V), X.N[i]? = some x → σ[i]? = some (some v) → Vis X.env.scope x → ∃ u, RelV v u ∧ Look X.env s.heap m x u
  cell : ∀ x c, X.env.cells.lookup x = some c → ∃ v, s.heap.IsCell c v
  free : H X.env.locals = none
  freeC : ∀ x c, X.env.cells.lookup x = some c → H c = none
  pin : ∀ p ∈ X.pn ++ pins, s.heap.get? p.1 = some p.2 ∧ H p.1 = none ∧ p.1 ≠ X.env.locals ∧ p.1 ∉ X.fs ∧ ∀ v, p.2.data ≠ .cell v
  hok : HOk X.prog X.w H s.heap
  len : σ.length = X.N.length

section
variable {X : Cx} {pins : List (Addr × Obj)} {σ : List (Option V)} {H H' : Hp} {s : Shared} {h' : Heap}

theorem Cx.Ok.nofr (ok : X.Ok) {b : Addr} {o : Obj} (e : X.base.get? b = some o) : b ∉ X.fs := fun hb => by
  have := (ok.funs.mem hb).1
  rw [e] at this; cases this
theorem Inv.bs (I : Inv X pins σ H s) : ∀ b o, X.base.get? b = some o → s.heap.get? b = some o ∧ H b = none := fun b o e =>
  ⟨I.base.keep b o (I.ok.bs b o e).1 (I.ok.bs b o e).2 (I.ok.nofr e) (I.ok.noex b o e), I.base.free b o (I.ok.bs b o e).1 (I.ok.bs b o e).2 (I.ok.noex b o e)⟩
theorem Inv.bk (I : Inv X pins σ H s) : ∀ b o, X.base.get? b = some o → s.heap.get? b = some o := fun b o e => (I.bs b o e).1
theorem Inv.mod (I : Inv X pins σ H s) : Mod X.K X.mg X.base := I.ok.mod
theorem Inv.kIn (I : Inv X pins σ H s) : X.K.In s.heap := I.ok.mod.kin.keeps I.bk
theorem Inv.lt (I : Inv X pins σ H s) : X.env.locals < s.heap.objs.size := let ⟨_, hn, _⟩ := I.loc; hn.lt
theorem Inv.sz (I : Inv X pins σ H s) : X.s₀.heap.objs.size ≤ s.heap.objs.size := Nat.le_trans I.ok.above (Nat.le_of_lt I.lt)
theorem Inv.nofs (I : Inv X pins σ H s) {a : Addr} (h : s.heap.objs.size ≤ a) : a ∉ X.fs := fun hb => by
  obtain ⟨_, o, ho, _⟩ := I.ok.funs.mem hb
  exact absurd (Nat.lt_of_lt_of_le (Heap.lt_size ho) (Nat.le_trans I.sz h)) (Nat.lt_irrefl _)
theorem Inv.cne (I : Inv X pins σ H s) : ∀ x c, X.env.cells.lookup x = some c → c ≠ X.env.locals := fun x c e z => by
  obtain ⟨v, o, ho, hd⟩ := I.cell x c e
  obtain ⟨m, ⟨o', es, ep, ho', hd', _⟩, _⟩ := I.loc
  rw [z, ho'] at ho; cases ho; rw [hd'] at hd; cases hd
theorem Inv.funs (I : Inv X pins σ H s) : s.heap.FunFrames X.base X.outer := by
  have all : ∀ (l : List Env), (∀ b ∈ frs l, b ∈ X.fs) → X.s₀.heap.FunFrames X.base l → s.heap.FunFrames X.base l := by
    intro l
    induction l with
    | nil => intro _ _; trivial
    | cons env r ih =>
      intro hs hl
      obtain ⟨hk, ⟨L, o, hf, hn, ho, hd⟩, hr⟩ := hl
      have hL : L ∈ X.fs := hs L (by unfold frs; rw [List.filterMap_cons, hf]; exact List.mem_cons_self)
      obtain ⟨sl, e⟩ := I.base.slot L o ho (I.ok.frf L hL) hL fun z => I.ok.exfs L z hL
      exact ⟨hk, ⟨L, _, hf, hn, e, hd⟩, ih (fun b hb => hs b (by unfold frs; rw [List.filterMap_cons, hf]; exact List.mem_cons_of_mem _ hb)) hr⟩
  exact all X.outer (fun _ hb => hb) I.ok.funs

theorem Inv.stack (I : Inv X pins σ H s) : s.heap.FunFrames X.base X.stack := by
  rcases I.ok.stk with e | ⟨e, hf⟩
  · rw [e]; exact I.funs
  · rw [e]
    obtain ⟨m, hn, _⟩ := I.loc
    refine .cons (by rw [I.ok.kind]; decide) hf hn ?_ I.funs
    exact Heap.get?_none_of_le (Nat.le_trans I.ok.bsz I.ok.above)
theorem Inv.stkSub (I : Inv X pins σ H s) : ∀ b ∈ frs X.stack, b ∈ X.env.locals :: X.fs := fun b hb => by
  rcases I.ok.stk with e | ⟨e, hf⟩
  · rw [e] at hb; exact List.mem_cons_of_mem _ hb
  · rw [e] at hb
    unfold frs at hb
    rw [List.filterMap_cons, hf] at hb
    exact hb
theorem Inv.stkFree (I : Inv X pins σ H s) : ∀ b ∈ frs X.stack, H b = none := fun b hb => by
  rcases List.mem_cons.mp (I.stkSub b hb) with e | hb
  · rw [e]; exact I.free
  · obtain ⟨_, o, ho, _⟩ := I.ok.funs.mem hb
    exact I.base.free b o ho (I.ok.frf b hb) fun z => I.ok.exfs b z hb

theorem Inv.step {g' : Array GenState} {t' : Nat} {d' : Drawn} {ch : List Addr} (I : Inv X pins σ H s)
    (hch : ∀ b ∈ ch, (b ∈ X.ex ∨ X.s₀.heap.objs.size ≤ b) ∧ b ≠ X.env.locals ∧ (∀ x c, X.env.cells.lookup x = some c → c ≠ b) ∧ ∀ p ∈ X.pn ++ pins, p.1 ≠ b)
    (keep : ∀ b o, b ≠ X.env.locals → b ∉ X.fs → b ∉ ch → s.heap.get? b = some o → H b = none → h'.get? b = some o)
    (slot : ∀ b o, b ≠ X.env.locals → b ∈ X.fs → b ∉ ch → s.heap.get? b = some o → H b = none → ∃ sl, h'.get? b = some { o with slots := sl }) (free : ∀ b o, b ∉ ch → s.heap.get? b = some o → H b = none → H' b = none)
    (there : ∀ b o, b ∉ ch → s.heap.get? b = some o → ∃ o', h'.get? b = some o')
    (tups : ∀ b xs, H b = some (.tup xs) → H' b = some (.tup xs)) (frzs : ∀ b o u, H b = some (.frz o u) → H' b = some (.frz o u)) (tbls : ∀ b ps, H b = some (.tbl ps) → ∃ more, H' b = some (.tbl (ps ++ more)))
    (ns : ∀ m, s.heap.Ns X.env.locals m → h'.Ns X.env.locals m) (hok : HOk X.prog X.w H' h') (hg : AllBare g') :
    Inv X pins σ H' { s with heap := h', gens := g', drawn := d', toks := t' } := by
  have neL : ∀ b o, X.s₀.heap.get? b = some o → b ≠ X.env.locals := fun b o e => Nat.ne_of_lt (Nat.lt_of_lt_of_le (Heap.lt_size e) I.ok.above)
  have neC : ∀ b o, X.s₀.heap.get? b = some o → b ∉ X.ex → b ∉ ch := fun b o e hx hb => by
    rcases (hch b hb).1 with z | z
    · exact hx z
    · exact absurd (Nat.lt_of_lt_of_le (Heap.lt_size e) z) (Nat.lt_irrefl _)
  have cellK : ∀ x c, X.env.cells.lookup x = some c → ∀ v, s.heap.IsCell c v → h'.IsCell c v := fun x c e v ⟨o, ho, hd⟩ => by
    have nch : c ∉ ch := fun z => (hch c z).2.2.1 x c e rfl
    by_cases hc : c ∈ X.fs
    · obtain ⟨sl, q⟩ := slot c o (I.cne x c e) hc nch ho (I.freeC x c e)
      exact ⟨_, q, hd⟩
    · exact ⟨o, keep c o (I.cne x c e) hc nch ho (I.freeC x c e), hd⟩
  refine ⟨I.ok, I.os, hg, ⟨fun b o e n hb hx => ?_, fun b o e n hb hx => ?_, fun b o e n hx => ?_, fun b o e hx => ?_, fun b xs e => tups b xs (I.base.tups b xs e), fun b o xs e => frzs b o xs (I.base.frzs b o xs e), fun b ps e => ?_⟩, ?_, fun x c e => ?_, ?_, fun x c e => ?_, fun p hp => ?_, hok, I.len⟩
  · exact keep b o (neL b o e) hb (neC b o e hx) (I.base.keep b o e n hb hx) (I.base.free b o e n hx)
  · obtain ⟨sl, e1⟩ := I.base.slot b o e n hb hx
    obtain ⟨sl', e2⟩ := slot b _ (neL b o e) hb (neC b o e hx) e1 (I.base.free b o e n hx)
    exact ⟨sl', e2⟩
  · obtain ⟨o', e1⟩ := I.base.there b o e hx
    exact free b o' (neC b o e hx) e1 (I.base.free b o e n hx)
  · obtain ⟨o', e1⟩ := I.base.there b o e hx
    exact there b o' (neC b o e hx) e1
  · obtain ⟨m1, e1⟩ := I.base.tbls b ps e
    obtain ⟨m2, e2⟩ := tbls b _ e1
    exact ⟨m1 ++ m2, by rw [e2, Array.append_assoc]⟩
  · obtain ⟨m, hn, hl⟩ := I.loc
    refine ⟨m, ns m hn, fun i x v e1 e2 e3 => ?_⟩
    obtain ⟨u, r, l⟩ := hl i x v e1 e2 e3
    refine ⟨u, r, ?_⟩
    rcases l with l | ⟨k, c, e, z⟩
    · exact .inl l
    · exact .inr ⟨k, c, e, cellK x c e _ z⟩
  · obtain ⟨v, z⟩ := I.cell x c e
    exact ⟨v, cellK x c e v z⟩
  · obtain ⟨m, ⟨o, _, _, ho, _⟩, _⟩ := I.loc
    exact free _ o (fun z => (hch _ z).2.1 rfl) ho I.free
  · obtain ⟨v, o, ho, hd⟩ := I.cell x c e
    exact free c o (fun z => (hch c z).2.2.1 x c e rfl) ho (I.freeC x c e)
  · obtain ⟨e, n, ne, nf, d⟩ := I.pin p hp
    have nch : p.1 ∉ ch := fun z => (hch p.1 z).2.2.2 p hp rfl
    exact ⟨keep p.1 p.2 ne nf nch e n, free p.1 p.2 nch e n, ne, nf, d⟩
theorem Inv.un {t' : Nat} (I : Inv X pins σ H s) (u : Un X.fs [] H H' s.heap h') (hok : HOk X.prog X.w H' h') : Inv X pins σ H' { s with heap := h', toks := t' } := by
  obtain ⟨m, ⟨o, es, ep, ho, r⟩, _⟩ := id I.loc
  obtain ⟨sl, hL⟩ := u.any ho I.free (by simp)
  exact I.step (g' := s.gens) (d' := s.drawn) (ch := []) (fun _ z => nomatch z) (fun b o _ hb _ e n => u.keep b o e n hb (by simp)) (fun b o _ hb _ e n => u.slot b o e n hb (by simp)) (fun b o _ e n => u.free b o e n (by simp)) (fun b o _ e => u.there b o e (by simp)) u.tups u.frzs u.tbls (fun m' hm => by
    obtain ⟨o', es', ep', ho', r'⟩ := hm
    rw [ho] at ho'; cases ho'
    exact ⟨_, es', ep', hL, r'⟩) hok I.bare
theorem Inv.call {g' : Array GenState} {t' : Nat} {d' : Drawn} {ch : List Addr} (I : Inv X pins σ H s) (u : Un (frs X.stack) ch H H' s.heap h') (hok : HOk X.prog X.w H' h') (hg : AllBare g')
    (hch : ∀ b ∈ ch, (b ∈ X.ex ∨ X.s₀.heap.objs.size ≤ b) ∧ b ≠ X.env.locals ∧ (∀ x c, X.env.cells.lookup x = some c → c ≠ b) ∧ ∀ p ∈ X.pn ++ pins, p.1 ≠ b) :
    Inv X pins σ H' { s with heap := h', gens := g', drawn := d', toks := t' } := by
  obtain ⟨m, ⟨o, es, ep, ho, r⟩, _⟩ := id I.loc
  obtain ⟨sl, hL⟩ := u.any ho I.free fun z => (hch _ z).2.1 rfl
  exact I.step (ch := ch) hch (fun b o hL hb hc e n => u.keep b o e n (fun z => (List.mem_cons.mp (I.stkSub b z)).elim hL hb) hc) (fun b o _ _ hc e n => u.any e n hc) (fun b o hc e n => u.free b o e n hc) (fun b o hc e => u.there b o e hc) u.tups u.frzs u.tbls (fun m' hm => by
    obtain ⟨o', es', ep', ho', r'⟩ := hm
    rw [ho] at ho'; cases ho'
    exact ⟨_, es', ep', hL, r'⟩) hok hg
theorem Inv.turned {t' : Nat} {it : Addr} (I : Inv X pins σ H s) (k : ∀ b o, b ≠ it → s.heap.get? b = some o → h'.get? b = some o) (hn : H it = none) (hL : it ≠ X.env.locals)
    (h1 : it ∈ X.ex ∨ X.s₀.heap.objs.size ≤ it) (h2 : ∀ x c, X.env.cells.lookup x = some c → c ≠ it) (h3 : ∀ p ∈ X.pn ++ pins, p.1 ≠ it) : Inv X pins σ H { s with heap := h', toks := t' } := by
  have nit : ∀ b u, H b = some u → b ≠ it := fun b u e z => by rw [z, hn] at e; cases e
  refine I.step (g' := s.gens) (d' := s.drawn) (ch := [it]) (fun b hb => ?_) (fun b o _ _ hc e _ => k b o (fun z => hc (by simp [z])) e) (fun b o _ _ hc e _ => ⟨o.slots, k b o (fun z => hc (by simp [z])) e⟩) (fun _ _ _ _ n => n)
    (fun b o hc e => ⟨o, k b o (fun z => hc (by simp [z])) e⟩) (fun _ _ e => e) (fun _ _ _ e => e) (fun b ps e => ⟨#[], by rw [e]; simp⟩) (fun m hm => ?_) (fun b u e => ?_) I.bare
  · have e : b = it := by simpa using hb
    subst e
    exact ⟨h1, hL, h2, h3⟩
  · obtain ⟨o, es, ep, ho, r⟩ := hm
    exact ⟨o, es, ep, k _ o (Ne.symm hL) ho, r⟩
  · refine (I.hok b u e).stay (fun c v hc q => k c v ?_ q) (fun _ q => q) fun _ _ q => q
    rcases hc with z | z
    · rw [z]; exact nit b u e
    · exact nit c _ z
theorem Inv.tok (I : Inv X pins σ H s) (t : Nat) : Inv X pins σ H { s with toks := t } := I.un (h' := s.heap) (t' := t) Un.refl I.hok
theorem Inv.kept {t' : Nat} (I : Inv X pins σ H s) (k : ∀ b u, s.heap.get? b = some u → h'.get? b = some u) : Inv X pins σ H { s with heap := h', toks := t' } := I.un (Un.kept k) (I.hok.kept k)
theorem Inv.laid {a : Addr} {o : HO} {t' : Nat} (I : Inv X pins σ H s) (k : ∀ b u, s.heap.get? b = some u → h'.get? b = some u) (hp : s.heap.objs.size ≤ a) (new : ObjOk X.prog X.w (upd H a o) h' a o) :
    Inv X pins σ (upd H a o) { s with heap := h', toks := t' } := I.un (Un.laid k hp (I.hok.fresh hp)) (I.hok.laid k hp new)
theorem Inv.write {x e : Addr} {o : HO} {t' : Nat} (I : Inv X pins σ H s) (mu : Mut (H x)) (he : e = x ∨ H e = some (.own x)) (k : ∀ b u, b ≠ e → s.heap.get? b = some u → h'.get? b = some u) (heo : ∃ u, h'.get? e = some u)
    (new : ObjOk X.prog X.w (upd H x o) h' x o) : Inv X pins σ (upd H x o) { s with heap := h', toks := t' } := I.un (Un.write mu he k heo) (I.hok.write mu he k heo new)
theorem Inv.weak {σ' : List (Option V)} (I : Inv X pins σ H s) (hl : σ'.length = σ.length) (w : ∀ (i : Nat) v, σ'[i]? = some (some v) → σ[i]? = some (some v)) : Inv X pins σ' H s :=
  ⟨I.ok, I.os, I.bare, I.base, let ⟨m, hn, hl'⟩ := I.loc; ⟨m, hn, fun i x v e1 e2 e3 => hl' i x v e1 (w i v e2) e3⟩, I.cell, I.free, I.freeC, I.pin, I.hok, hl.trans I.len⟩
theorem Inv.pins_of {pins' : List (Addr × Obj)} (I : Inv X pins σ H s) (h : ∀ p ∈ pins', s.heap.get? p.1 = some p.2 ∧ H p.1 = none ∧ p.1 ≠ X.env.locals ∧ p.1 ∉ X.fs ∧ ∀ v, p.2.data ≠ .cell v) : Inv X pins' σ H s :=
  ⟨I.ok, I.os, I.bare, I.base, I.loc, I.cell, I.free, I.freeC, fun p hp => (List.mem_append.mp hp).elim (fun z => I.pin p (List.mem_append_left _ z)) (h p), I.hok, I.len⟩

theorem nodup_ix {N : List Str} (hN : N.Nodup) {i j : Nat} {x : Str} (a : N[i]? = some x) (b : N[j]? = some x) : i = j := by
  obtain ⟨h1, e1⟩ := List.getElem?_eq_some_iff.mp a
  obtain ⟨h2, e2⟩ := List.getElem?_eq_some_iff.mp b
  exact (List.getElem_inj hN).mp (e1.trans e2.symm)

theorem store_ok2 {M : Model} {A : Around} {E : Value → Shared → Prop} {i : Nat} {x : Str} {v : V} {u : Value} {Q : Unit → Shared → Prop} (I : Inv X pins σ H s) (hN : X.N.Nodup) (hi : X.N[i]? = some x) (hx : Loc X.env.scope x) (r : RelV v u)
    (h : ∀ s', Inv X pins (σ.set i (some v)) H s' → (∃ a, Heap.SameBut a s.heap s'.heap ∧ (a = X.env.locals ∨ X.env.cells.lookup x = some a)) → Q () s') (hf : X.fn x = true ∨ X.env.scope.names.lookup x = some .local := by first | exact .inl rfl | exact .inr rfl | assumption) : wpAny M A (storeName X.env x u) Q E s := by
  obtain ⟨m, hn, hl⟩ := id I.loc
  have hcls : (X.env.scope.kind == .class || (X.env.scope.kind == .module && X.env.locals != X.env.globals)) = false := by rw [I.ok.kind]; rfl
  have hiσ : i < σ.length := by rw [I.len]; exact (List.getElem?_eq_some_iff.mp hi).1
  have cne := I.cne
  have tracked : ∀ {a : Addr} {h' : Heap}, (∃ o, s.heap.get? a = some o ∧ H a = none) → Heap.SameBut a s.heap h' → HOk X.prog X.w H h' := fun {a h'} ha hs b ob e => by
    obtain ⟨_, _, hfree⟩ := ha
    refine (I.hok b ob e).stay (fun c w' hc q => (hs.2 c ?_).trans q) (fun _ q => q) fun _ _ q => q
    rintro rfl
    rcases hc with rfl | hc
    · rw [hfree] at e; cases e
    · rw [hfree] at hc; cases hc
  rcases hx with hk | hk
  · refine wpAny_storeName_local hk hn (fun h' hn' hs => ?_) hcls
    obtain ⟨oL, _, _, hoL, _⟩ := id hn
    refine h _ ⟨I.ok, I.os, I.bare, ⟨fun b o e n hb hx => ?_, fun b o e n hb hx => ?_, I.base.free, fun b o e hx => ?_, I.base.tups, I.base.frzs, I.base.tbls⟩, ⟨_, hn', fun j y v' e1 e2 e3 => ?_⟩, fun y c e => ?_, I.free, I.freeC, fun p hp => ?_, tracked ⟨oL, hoL, I.free⟩ hs, by simpa using I.len⟩ ⟨_, hs, .inl rfl⟩
    · exact (hs.2 b (Nat.ne_of_lt (Nat.lt_of_lt_of_le (Heap.lt_size e) I.ok.above))).trans (I.base.keep b o e n hb hx)
    · obtain ⟨sl, e1⟩ := I.base.slot b o e n hb hx
      exact ⟨sl, (hs.2 b (Nat.ne_of_lt (Nat.lt_of_lt_of_le (Heap.lt_size e) I.ok.above))).trans e1⟩
    · obtain ⟨o', e1⟩ := I.base.there b o e hx
      exact ⟨o', (hs.2 b (Nat.ne_of_lt (Nat.lt_of_lt_of_le (Heap.lt_size e) I.ok.above))).trans e1⟩
    · by_cases hj : j = i
      · subst hj
        rw [hi] at e1; cases e1
        rw [List.getElem?_set_self hiσ] at e2
        cases e2
        exact ⟨u, r, .inl ⟨hk, by simp⟩⟩
      · rw [List.getElem?_set_ne (Ne.symm hj)] at e2
        obtain ⟨u', r', q⟩ := hl j y v' e1 e2 e3
        refine ⟨u', r', ?_⟩
        rcases q with ⟨k, e⟩ | ⟨k, c, e, z⟩
        · refine .inl ⟨k, ?_⟩
          have : y ≠ x := fun e => hj (nodup_ix hN e1 (e ▸ hi))
          simp [this, e]
        · exact .inr ⟨k, c, e, z.sameBut hs (cne y c e)⟩
    · obtain ⟨w', z⟩ := I.cell y c e
      exact ⟨w', z.sameBut hs (cne y c e)⟩
    · obtain ⟨e, n, ne, nf, d⟩ := I.pin p hp
      exact ⟨(hs.2 p.1 ne).trans e, n, ne, nf, d⟩
  · have hfn : X.fn x = true := by
      rcases hf with z | z
      · exact z
      · rw [z] at hk; cases hk
    obtain ⟨c, hc⟩ := I.ok.has x (.inl hk)
    obtain ⟨w', z⟩ := I.cell x c hc
    refine wpAny_storeName_cell I.ok.kind hk hc z (fun h' hc' hs => ?_)
    obtain ⟨oc, hoc, hocd⟩ := id z
    refine h { s with heap := h' } ⟨I.ok, I.os, I.bare, ⟨fun b o e n hb hx => ?_, fun b o e n hb hx => ?_, I.base.free, fun b o e hx => ?_, I.base.tups, I.base.frzs, I.base.tbls⟩, ⟨m, hn.sameBut hs (Ne.symm (cne x c hc)), fun j y v' e1 e2 e3 => ?_⟩, fun y c' e => ?_, I.free, I.freeC, fun p hp => ?_, tracked ⟨oc, hoc, I.freeC x c hc⟩ hs, by simpa using I.len⟩ ⟨c, hs, .inr hc⟩
    · exact (hs.2 b (Nat.ne_of_lt (Nat.lt_of_lt_of_le (Heap.lt_size e) (I.ok.cab x c hfn hc)))).trans (I.base.keep b o e n hb hx)
    · obtain ⟨sl, e1⟩ := I.base.slot b o e n hb hx
      exact ⟨sl, (hs.2 b (Nat.ne_of_lt (Nat.lt_of_lt_of_le (Heap.lt_size e) (I.ok.cab x c hfn hc)))).trans e1⟩
    · obtain ⟨o', e1⟩ := I.base.there b o e hx
      exact ⟨o', (hs.2 b (Nat.ne_of_lt (Nat.lt_of_lt_of_le (Heap.lt_size e) (I.ok.cab x c hfn hc)))).trans e1⟩
    · by_cases hj : j = i
      · subst hj
        rw [hi] at e1; cases e1
        rw [List.getElem?_set_self hiσ] at e2
        cases e2
        exact ⟨u, r, .inr ⟨.inl hk, c, hc, hc'⟩⟩
      · rw [List.getElem?_set_ne (Ne.symm hj)] at e2
        obtain ⟨u', r', q⟩ := hl j y v' e1 e2 e3
        refine ⟨u', r', ?_⟩
        rcases q with q | ⟨k, c', e, z'⟩
        · exact .inl q
        · refine .inr ⟨k, c', e, z'.sameBut hs ?_⟩
          rintro rfl
          exact hj (nodup_ix hN e1 (I.ok.inj _ _ _ e hc ▸ hi))
    · by_cases hcc : c' = c
      · subst hcc; exact ⟨_, hc'⟩
      · obtain ⟨w2, z2⟩ := I.cell y c' e
        exact ⟨w2, z2.sameBut hs hcc⟩
    · obtain ⟨e, n, ne, nf, d⟩ := I.pin p hp
      refine ⟨(hs.2 p.1 ?_).trans e, n, ne, nf, d⟩
      intro q
      rw [q, hoc] at e
      have q' : oc = p.2 := Option.some.inj e
      exact d w' (by rw [← q']; exact hocd)
theorem store_ok {M : Model} {A : Around} {E : Value → Shared → Prop} {i : Nat} {x : Str} {v : V} {u : Value} {Q : Unit → Shared → Prop} (I : Inv X pins σ H s) (hN : X.N.Nodup) (hi : X.N[i]? = some x) (hx : Loc X.env.scope x) (r : RelV v u)
    (h : ∀ s', Inv X pins (σ.set i (some v)) H s' → Q () s') (hf : X.fn x = true ∨ X.env.scope.names.lookup x = some .local := by first | exact .inl rfl | exact .inr rfl | assumption) : wpAny M A (storeName X.env x u) Q E s :=
  store_ok2 I hN hi hx r (fun s' I' _ => h s' I') hf
theorem Inv.call' {s' : Shared} {ch : List Addr} (I : Inv X pins σ H s) (ho : s'.os = s.os) (u : Un (frs X.stack) ch H H' s.heap s'.heap) (hok : HOk X.prog X.w H' s'.heap) (hg : AllBare s'.gens)
    (hch : ∀ b ∈ ch, (b ∈ X.ex ∨ X.s₀.heap.objs.size ≤ b) ∧ b ≠ X.env.locals ∧ (∀ x c, X.env.cells.lookup x = some c → c ≠ b) ∧ ∀ p ∈ X.pn ++ pins, p.1 ≠ b) : Inv X pins σ H' s' := by
  obtain ⟨h', g', d', t', o'⟩ := s'
  have e : o' = s.os := ho
  subst e
  exact I.call (g' := g') (t' := t') (d' := d') u hok hg hch
end

abbrev XK := Value → Option Addr → Hp → Prop
abbrev St := List (Option V)
abbrev VK := V → Hp → Prop
abbrev TE := St → Hp → VK → Prop
abbrev TT := St → Hp → (Bool → Hp → Prop) → Prop
abbrev TA := St → Hp → (List V → Hp → Prop) → Prop
set_option genInjectivity false in
structure Ends where
  nx : St → Hp → Prop
  rt : VK
  bk : St → Hp → Prop := fun _ _ => False
  ct : St → Hp → Prop := fun _ _ => False
abbrev TS := Ends → St → Hp → Prop

def EP (X : Cx) (pins : List (Addr × Obj)) (σ : St) (Q : VK) (u : Value) (s' : Shared) : Prop := ∃ v H', Inv X pins σ H' s' ∧ RelV v u ∧ Q v H'
def TP (X : Cx) (pins : List (Addr × Obj)) (σ : St) (Q : Bool → Hp → Prop) (b : Bool) (s' : Shared) : Prop := ∃ H', Inv X pins σ H' s' ∧ Q b H'
def AP (X : Cx) (pins : List (Addr × Obj)) (σ : St) (Q : List V → Hp → Prop) (us : List Value) (s' : Shared) : Prop := ∃ vs H', Inv X pins σ H' s' ∧ Vals vs us ∧ Q vs H'
def SP (X : Cx) (pins : List (Addr × Obj)) (D : Ends) (f : Flow) (s' : Shared) : Prop :=
  match f with
  | .next => ∃ σ' H', Inv X pins σ' H' s' ∧ D.nx σ' H'
  | .brk => ∃ σ' H', Inv X pins σ' H' s' ∧ D.bk σ' H'
  | .cont => ∃ σ' H', Inv X pins σ' H' s' ∧ D.ct σ' H'
  | .ret u => ∃ v σ' H', Inv X pins σ' H' s' ∧ RelV v u ∧ D.rt v H'

def PE (X : Cx) (e : Expr) (t : TE) : Prop :=
  ∀ (pins : List (Addr × Obj)) (s : Shared) (σ : St) (H : Hp) (Q : VK), Inv X pins σ H s → t σ H Q → wpAny (model X.prog X.w) X.A (eval e X.env) (EP X pins σ Q) X.xe s
def PT (X : Cx) (e : Expr) (t : TT) : Prop :=
  ∀ (pins : List (Addr × Obj)) (s : Shared) (σ : St) (H : Hp) (Q : Bool → Hp → Prop), Inv X pins σ H s → t σ H Q → wpAny (model X.prog X.w) X.A (isTrue e X.env (eval e X.env)) (TP X pins σ Q) X.xe s
def PW (X : Cx) (e : Expr) (t : TT) : Prop :=
  ∀ (whole : Sem Value) (pins : List (Addr × Obj)) (s : Shared) (σ : St) (H : Hp) (Q : Bool → Hp → Prop), Inv X pins σ H s → t σ H Q → wpAny (model X.prog X.w) X.A (isTrue e X.env whole) (TP X pins σ Q) X.xe s
theorem PW.pt {X : Cx} {e : Expr} {t : TT} (h : PW X e t) : PT X e t := h _
def PA (X : Cx) (es : List Expr) (t : TA) : Prop :=
  ∀ (pos : Pos) (pins : List (Addr × Obj)) (s : Shared) (σ : St) (H : Hp) (Q : List V → Hp → Prop), Inv X pins σ H s → t σ H Q → wpAny (model X.prog X.w) X.A (spliced (backTo pos (starEach es X.env))) (AP X pins σ Q) X.xe s
def PS (X : Cx) (st : Stmt) (t : TS) : Prop :=
  ∀ (pins : List (Addr × Obj)) (s : Shared) (σ : St) (H : Hp) (D : Ends), Inv X pins σ H s → t D σ H → wpAny (model X.prog X.w) X.A (exec st X.env) (SP X pins D) X.xe s
def PSs (X : Cx) (st : List Stmt) (t : TS) : Prop :=
  ∀ (pins : List (Addr × Obj)) (s : Shared) (σ : St) (H : Hp) (D : Ends), Inv X pins σ H s → t D σ H → wpAny (model X.prog X.w) X.A (execs st X.env) (SP X pins D) X.xe s
theorem thn {α : Type} {t : Sem α} {Q Q' : α → Shared → Prop} {M : Model} {A : Around} {E : Value → Shared → Prop} {s : Shared} (h : wpAny M A t Q E s) (hQ : ∀ a s, Q a s → Q' a s) : wpAny M A t Q' E s := wpAny_mono h hQ fun _ _ x => x
end L2

namespace L2
open PySem PySem.Spec PyProof.Rows
section
variable {X : Cx}

def tVar (i : Nat) : TE := fun σ H Q => ∃ v, σ[i]? = some (some v) ∧ Q v H
def tC (v : V) : TE := fun _ H Q => Q v H
theorem pe_var {i : Nat} {x : Str} {pos : Pos} (hN : X.N[i]? = some x) (hv : Vis X.env.scope x) (hd : (x == ("__debug__" : Str)) = false := by decide) (hcd : (x == ("__classdict__" : Str)) = false := by decide) : PE X (.Name x pos) (tVar i) := by
  intro pins s σ H Q I h
  obtain ⟨v, e, h⟩ := h
  obtain ⟨m, hn, hl⟩ := I.loc
  obtain ⟨u, r, l⟩ := hl i x v hN e hv
  have fin : EP X pins σ Q u s := ⟨v, H, I, r, h⟩
  rcases l with ⟨hk, hm⟩ | ⟨hk, c, hc, hcell⟩
  · exact wpAny_Name (wpAny_loadName_local I.ok.kind hk hn hm fin) hd
  · rcases hk with hk | hk
    · exact wpAny_Name (wpAny_loadName_cell I.ok.kind hk hc hcell fin) hd
    · exact wpAny_Name (wpAny_loadName_free I.ok.kind hk hc hcell fin hcd) hd
theorem pe_int {i j pos} : PE X (.Constant (.int i) j pos) (tC (.int i)) := fun _ _ _ H _ I h => wpAny_Constant_int ⟨.int i, H, I.tok _, ⟨_, rfl⟩, h⟩
theorem pe_bl {b j pos} : PE X (.Constant (.bool b) j pos) (tC (.bl b)) := fun _ _ _ H _ I h => Constant_bool ⟨.bl b, H, I, rfl, h⟩
theorem pe_non {j pos} : PE X (.Constant .none j pos) (tC .non) := fun _ _ _ H _ I h => Constant_none ⟨.non, H, I, rfl, h⟩
theorem pe_str {x j pos} : PE X (.Constant (.str x) j pos) (tC (.str x)) := fun _ _ _ H _ I h => Calls.Constant_str ⟨.str x, H, I.tok _, ⟨_, rfl⟩, h⟩

def Gl (X : Cx) (x : Str) : Prop := X.env.kindOf x = some .globalImplicit
theorem ld_glob {E : Value → Shared → Prop} {pins : List (Addr × Obj)} {s : Shared} {σ : St} {H : Hp} {x : Str} {u : Value} {pos : Pos} {Q : Value → Shared → Prop} (I : Inv X pins σ H s) (hg : Gl X x) (hm : X.mg x = some u) (h : Q u s)
    (hd : (x == ("__debug__" : Str)) = false := by decide) : wpAny (model X.prog X.w) X.A (eval (.Name x pos) X.env) Q E s :=
  Calls.Name_function_global I.ok.kind hg (Calls.loadGlobal_global (by rw [I.ok.glob]; exact I.mod.glob.keeps I.bk) hm h) hd
theorem ld_blt {E : Value → Shared → Prop} {pins : List (Addr × Obj)} {s : Shared} {σ : St} {H : Hp} {x : Str} {u : Value} {pos : Pos} {Q : Value → Shared → Prop} (I : Inv X pins σ H s) (hg : Gl X x) (hm : X.mg x = none) (hv : bootBuiltins x = some u) (h : Q u s)
    (hn : x ≠ "__name__" := by decide) (hd : (x == ("__debug__" : Str)) = false := by decide) : wpAny (model X.prog X.w) X.A (eval (.Name x pos) X.env) Q E s := by
  obtain ⟨mb, h1, h2⟩ := I.mod.blt
  exact Calls.Name_function_global I.ok.kind hg (Calls.loadGlobal_builtin (by rw [I.ok.glob]; exact I.mod.glob.keeps I.bk) hm (by rw [I.ok.blt]; exact h1.keeps I.bk) ((h2 x hn).trans hv) h) hd
theorem pe_glob {x : Str} {v : V} {u : Value} {pos : Pos} (hg : Gl X x) (hm : X.mg x = some u) (r : RelV v u) (hd : (x == ("__debug__" : Str)) = false := by decide) : PE X (.Name x pos) (tC v) :=
  fun _ _ _ H _ I h => ld_glob I hg hm ⟨v, H, I, r, h⟩ hd
theorem pe_bltn {x : Str} {v : V} {u : Value} {pos : Pos} (hg : Gl X x) (hm : X.mg x = none) (hv : bootBuiltins x = some u) (r : RelV v u) (hn : x ≠ "__name__" := by decide) (hd : (x == ("__debug__" : Str)) = false := by decide) : PE X (.Name x pos) (tC v) :=
  fun _ _ _ H _ I h => ld_blt I hg hm hv ⟨v, H, I, r, h⟩ hn hd

variable {a b : Expr} {ta tb : TE} {pos : Pos}
def PC (X : Cx) (op : CmpOp) (a b : Expr) (t : TE) : Prop :=
  ∀ (pins : List (Addr × Obj)) (s : Shared) (σ : St) (H : Hp) (Q : VK), Inv X pins σ H s → t σ H Q →
    wpAny (model X.prog X.w) X.A (eval a X.env) (fun v s₁ => wpAny (model X.prog X.w) X.A (eval b X.env) (fun u s₂ => wpAny (model X.prog X.w) X.A (compareOp op v u) (EP X pins σ Q) X.xe s₂) X.xe s₁) X.xe s
theorem nobehind (b : Expr) {op : CmpOp} (h : op ≠ .In) (h2 : op ≠ .NotIn) : behindInMarks op b = false := by
  have e1 : (op == CmpOp.In) = false := by cases op <;> first | rfl | exact absurd rfl h
  have e2 : (op == CmpOp.NotIn) = false := by cases op <;> first | rfl | exact absurd rfl h2
  cases b <;> simp [behindInMarks, e1, e2]
def tB (t : TE) : TT := fun σ H Q => t σ H fun x H1 => ∃ c, x = .bl c ∧ Q c H1
theorem pt_cmp {op : CmpOp} {t : TE} (h : PC X op a b t) (h1 : behindInMarks op b = false := by first | exact nobehind _ (by decide) (by decide) | rfl) : PT X (.Compare a [op] [b] pos) (tB t) := by
  intro pins s σ H Q I hw
  refine wpAny_isTrue_Compare1 (thn (h pins s σ H _ I hw) fun v s1 h1 => thn h1 fun u s2 h2 => thn h2 fun c s3 ⟨x, H1, I1, r1, q1⟩ => ?_) h1
  obtain ⟨d, rfl, q⟩ := q1
  cases r1
  exact wpAny_truthy_bool ⟨H1, I1, q⟩
theorem pt_val {e : Expr} {t : TE} (h : PE X e t) (he : ∀ whole, isTrue e X.env whole = (do let v ← whole; standAt e.pos; holding [v] (truthy v)) := by intro _; rfl) : PT X e (tB t) := by
  intro pins s σ H Q I hw
  refine isTrue_plain (thn (h pins s σ H _ I hw) fun v s1 ⟨x, H1, I1, r1, q1⟩ => ?_) (he _)
  obtain ⟨d, rfl, q⟩ := q1
  cases r1
  exact wpAny_truthy_bool ⟨H1, I1, q⟩

variable {tA tB' : TT} {rest : List Expr}
def tAnd (t u : TT) : TT := fun σ H Q => t σ H fun c H1 => if c = true then u σ H1 Q else Q false H1
def tOr (t u : TT) : TT := fun σ H Q => t σ H fun c H1 => if c = true then Q true H1 else u σ H1 Q
def tNot (t : TT) : TT := fun σ H Q => t σ H fun c H1 => Q (!c) H1
theorem pw_and1 (ha : PT X a tA) : PW X (.BoolOp .And [a] pos) tA := by
  intro wh pins s σ H Q I h
  refine isTrue_and (thn (ha pins s σ H Q I h) fun c s1 e => ?_)
  cases c with
  | true => exact isTrue_and_nil e
  | false => exact e
theorem pw_or1 (ha : PT X a tA) : PW X (.BoolOp .Or [a] pos) tA := by
  intro wh pins s σ H Q I h
  refine isTrue_or (thn (ha pins s σ H Q I h) fun c s1 e => ?_)
  cases c with
  | false => exact isTrue_or_nil e
  | true => exact e
theorem pw_and (ha : PT X a tA) (hb : PW X (.BoolOp .And (b :: rest) pos) tB') : PW X (.BoolOp .And (a :: b :: rest) pos) (tAnd tA tB') := by
  intro wh pins s σ H Q I h
  refine isTrue_and (thn (ha pins s σ H _ I h) fun c s1 ⟨H1, I1, q1⟩ => ?_)
  cases c with
  | true => exact hb wh pins s1 σ H1 Q I1 q1
  | false => exact ⟨H1, I1, q1⟩
theorem pw_or (ha : PT X a tA) (hb : PW X (.BoolOp .Or (b :: rest) pos) tB') : PW X (.BoolOp .Or (a :: b :: rest) pos) (tOr tA tB') := by
  intro wh pins s σ H Q I h
  refine isTrue_or (thn (ha pins s σ H _ I h) fun c s1 ⟨H1, I1, q1⟩ => ?_)
  cases c with
  | true => exact ⟨H1, I1, q1⟩
  | false => exact hb wh pins s1 σ H1 Q I1 q1
theorem pt_not (ha : PT X a tA) : PT X (.UnaryOp .Not a pos) (tNot tA) := by
  intro pins s σ H Q I h
  exact isTrue_not (ha pins s σ H (fun c H1 => Q (!c) H1) I h)
def tAndV (ta tb : TE) : TE := fun σ H Q => ta σ H fun x H1 => ∃ c, x = .bl c ∧ if c = true then tb σ H1 Q else Q (.bl false) H1
def tOrV (ta tb : TE) : TE := fun σ H Q => ta σ H fun x H1 => ∃ c, x = .bl c ∧ if c = true then Q (.bl true) H1 else tb σ H1 Q
def tNotV (ta : TE) : TE := fun σ H Q => ta σ H fun x H1 => ∃ c, x = .bl c ∧ Q (.bl (!c)) H1
theorem pe_one {op} {t : TE} (h : PE X a t) : PE X (.BoolOp op [a] pos) t := fun pins s σ H Q I hw => BoolOp_one (h pins s σ H Q I hw)
theorem pe_and (ha : PE X a ta) (hb : PE X (.BoolOp .And (b :: rest) pos) tb) : PE X (.BoolOp .And (a :: b :: rest) pos) (tAndV ta tb) := by
  intro pins s σ H Q I h
  refine BoolOp_and (thn (ha pins s σ H _ I h) fun v s1 ⟨x, H1, I1, r1, q1⟩ => ?_)
  obtain ⟨c, rfl, q1⟩ := q1
  cases r1
  refine wpAny_truthy_bool ?_
  cases c with
  | true => exact hb pins s1 σ H1 Q I1 q1
  | false => exact ⟨.bl false, H1, I1, rfl, q1⟩
theorem pe_or (ha : PE X a ta) (hb : PE X (.BoolOp .Or (b :: rest) pos) tb) : PE X (.BoolOp .Or (a :: b :: rest) pos) (tOrV ta tb) := by
  intro pins s σ H Q I h
  refine BoolOp_or (thn (ha pins s σ H _ I h) fun v s1 ⟨x, H1, I1, r1, q1⟩ => ?_)
  obtain ⟨c, rfl, q1⟩ := q1
  cases r1
  refine wpAny_truthy_bool ?_
  cases c with
  | false => exact hb pins s1 σ H1 Q I1 q1
  | true => exact ⟨.bl true, H1, I1, rfl, q1⟩
theorem pe_not (ha : PE X a ta) : PE X (.UnaryOp .Not a pos) (tNotV ta) := by
  intro pins s σ H Q I h
  refine UnaryOp_ (thn (ha pins s σ H _ I h) fun v s1 ⟨x, H1, I1, r1, q1⟩ => ?_)
  obtain ⟨c, rfl, q1⟩ := q1
  cases r1
  exact not_of (wpAny_truthy_bool ⟨.bl (!c), H1, I1, rfl, q1⟩)
def tIf (t : TT) (ta tb : TE) : TE := fun σ H Q => t σ H fun c H1 => if c = true then ta σ H1 Q else tb σ H1 Q
theorem pe_ifExp {c : Expr} (hc : PT X c tA) (ha : PE X a ta) (hb : PE X b tb) : PE X (.IfExp c a b pos) (tIf tA ta tb) := by
  intro pins s σ H Q I h
  refine wpAny_IfExp (thn (hc pins s σ H _ I h) fun d s1 ⟨H1, I1, q1⟩ => ?_)
  cases d with
  | true => exact ha pins s1 σ H1 Q I1 q1
  | false => exact hb pins s1 σ H1 Q I1 q1
end
end L2

namespace L2
open PySem PySem.Spec PyProof.Rows

def SqL (K : PySem.W.Frag) (H : Hp) (a : Addr) (xs : List V) : Prop :=
  Rd H a (.lst xs) ∨
    ∃ (o : Obj) (its : Array Value) (n : Nat), K.lookup a = some o ∧ o.cls = .type "list" ∧ o.dict = none ∧ o.data = .seq its n ∧ its.size ≤ sizeLine ∧ Vals xs its.toList
def SqT (K : PySem.W.Frag) (H : Hp) (a : Addr) (xs : List V) : Prop :=
  Rd H a (.tup xs) ∨
    ∃ (o : Obj) (its : Array Value) (n : Nat), K.lookup a = some o ∧ o.cls = .type "tuple" ∧ o.data = .seq its n ∧ its.size ≤ sizeLine ∧ Vals xs its.toList
def absV : Value → Option V
  | .none => some .non
  | .bool b => some (.bl b)
  | .int i _ => some (.int i)
  | .str x _ => some (.str x)
  | .bytes b _ => some (.byt b)
  | .float b _ => some (.flt b)
  | .ref a => some (.ref a)
  | .type n => some (.ty n)
  | _ => none
theorem RelV.abs {x : V} {u : Value} (r : RelV x u) : absV u = some x := by
  cases x with
  | non => cases r; rfl
  | bl _ => cases r; rfl
  | int _ => obtain ⟨t, rfl⟩ := r; rfl
  | str _ => obtain ⟨t, rfl⟩ := r; rfl
  | byt _ => obtain ⟨t, rfl⟩ := r; rfl
  | flt _ => obtain ⟨t, rfl⟩ := r; rfl
  | ref _ => cases r; rfl
  | ty _ => cases r; rfl
theorem RelV.inj {x y : V} {u : Value} (r : RelV x u) (q : RelV y u) : x = y := Option.some.inj (r.abs.symm.trans q.abs)
theorem Vals.inj : ∀ {xs ys : List V} {us : List Value}, Vals xs us → Vals ys us → xs = ys
  | _, _, _, .nil, .nil => rfl
  | _, _, _, .cons r t, .cons r' t' => by rw [r.inj r', Vals.inj t t']
section
variable {X : Cx} {pins : List (Addr × Obj)} {σ : St} {H : Hp} {s : Shared} {a : Addr} {xs ys : List V}
theorem SqL.of {K : PySem.W.Frag} (h : H a = some (.lst xs)) : SqL K H a xs := .inl (.inl h)
theorem SqT.of {K : PySem.W.Frag} (h : H a = some (.tup xs)) : SqT K H a xs := .inl (.inl h)
theorem Inv.list (I : Inv X pins σ H s) (h : SqL X.K H a xs) : ∃ its : List Value, Vals xs its ∧ PlainL s.heap a its.toArray ∧ xs.length ≤ sizeLine := by
  rcases h with h | ⟨o, its, n, hk, hc, hd, hs, hz, r⟩
  · obtain ⟨z, its, n, r, e⟩ := h.ok I.hok
    exact ⟨its, r, ⟨_, n, e, rfl, rfl, rfl⟩, z⟩
  · refine ⟨its.toList, r, ⟨o, n, I.kIn a o hk, hc, hd, by simpa using hs⟩, ?_⟩
    have e := r.length
    simp only [Array.length_toList] at e
    omega
theorem Inv.tuple (I : Inv X pins σ H s) (h : SqT X.K H a xs) : ∃ its : List Value, Vals xs its ∧ IsTup s.heap a its.toArray ∧ xs.length ≤ sizeLine := by
  rcases h with h | ⟨o, its, n, hk, hc, hs, hz, r⟩
  · obtain ⟨z, its, r, p⟩ := h.ok I.hok
    exact ⟨its, r, p, z⟩
  · refine ⟨its.toList, r, ⟨o, I.kIn a o hk, hc, n, by simpa using hs⟩, ?_⟩
    have e := r.length
    simp only [Array.length_toList] at e
    omega
theorem Inv.list_inj (I : Inv X pins σ H s) (h : SqL X.K H a xs) (h' : SqL X.K H a ys) : xs = ys := by
  obtain ⟨its, r, ⟨o, n, e, _, _, d⟩, _⟩ := I.list h
  obtain ⟨its', r', ⟨o', n', e', _, _, d'⟩, _⟩ := I.list h'
  rw [e] at e'; cases e'
  rw [d] at d'
  injection d' with d1 _
  have : its = its' := by simpa using congrArg Array.toList d1
  subst this
  exact r.inj r'
theorem Inv.tuple_inj (I : Inv X pins σ H s) (h : SqT X.K H a xs) (h' : SqT X.K H a ys) : xs = ys := by
  obtain ⟨its, r, ⟨o, e, _, n, d⟩, _⟩ := I.tuple h
  obtain ⟨its', r', ⟨o', e', _, n', d'⟩, _⟩ := I.tuple h'
  rw [e] at e'; cases e'
  rw [d] at d'
  injection d' with d1 _
  have : its = its' := by simpa using congrArg Array.toList d1
  subst this
  exact r.inj r'
end

abbrev Cx.wish (X : Cx) (E : Value → Shared → Prop) : Cx := { X with xe := E }
abbrev Cx.nox (X : Cx) : Cx := X.wish fun _ _ => False
theorem Cx.Ok.wish {X : Cx} (ok : X.Ok) (E : Value → Shared → Prop) : (X.wish E).Ok :=
  ⟨ok.mod, ok.kind, ok.glob, ok.blt, ok.above, ok.inj, ok.has, ok.cab, ok.hd, ok.frames, ok.stk, ok.exf, ok.bs, ok.bsz, ok.noex, ok.exfs, ok.funs, ok.frf⟩
theorem Cx.Ok.unwish {X : Cx} {E : Value → Shared → Prop} (ok : (X.wish E).Ok) : X.Ok :=
  ⟨ok.mod, ok.kind, ok.glob, ok.blt, ok.above, ok.inj, ok.has, ok.cab, ok.hd, ok.frames, ok.stk, ok.exf, ok.bs, ok.bsz, ok.noex, ok.exfs, ok.funs, ok.frf⟩
section
variable {X : Cx} {pins : List (Addr × Obj)} {σ : St} {H : Hp} {s : Shared} {E : Value → Shared → Prop}
theorem Inv.wish (I : Inv X pins σ H s) (E : Value → Shared → Prop) : Inv (X.wish E) pins σ H s := ⟨I.ok.wish E, I.os, I.bare, I.base, I.loc, I.cell, I.free, I.freeC, I.pin, I.hok, I.len⟩
theorem Inv.unwish (I : Inv (X.wish E) pins σ H s) : Inv X pins σ H s := ⟨I.ok.unwish, I.os, I.bare, I.base, I.loc, I.cell, I.free, I.freeC, I.pin, I.hok, I.len⟩
theorem SP.unwish {D : Ends} {f : Flow} {s' : Shared} (h : SP (X.wish E) pins D f s') : SP X pins D f s' := by
  cases f with
  | next => obtain ⟨σ', H', I, q⟩ := h; exact ⟨σ', H', I.unwish, q⟩
  | brk => obtain ⟨σ', H', I, q⟩ := h; exact ⟨σ', H', I.unwish, q⟩
  | cont => obtain ⟨σ', H', I, q⟩ := h; exact ⟨σ', H', I.unwish, q⟩
  | ret u => obtain ⟨v, σ', H', I, r, q⟩ := h; exact ⟨v, σ', H', I.unwish, r, q⟩
theorem PSs.nox {st : List Stmt} {t : TS} (h : PSs X.nox st t) : PSs X st t := fun pins s σ H D I hw =>
  wpAny_mono (h pins s σ H D (I.wish _) hw) (fun _ _ q => q.unwish) fun _ _ z => False.elim z
end

section
variable {X : Cx} {st : Stmt} {rest : List Stmt} {t u : TS} {e : Expr} {te : TE} {pos : Pos}
def tNext : TS := fun D σ H => D.nx σ H
def tSeq (t u : TS) : TS := fun D σ H => t { D with nx := u D } σ H
theorem pss_nil : PSs X [] tNext := fun _ _ σ H _ I h => wpAny_execs_nil ⟨σ, H, I, h⟩
theorem pss_cons (h1 : PS X st t) (h2 : PSs X rest u) : PSs X (st :: rest) (tSeq t u) := by
  intro pins s σ H D I h
  refine wpAny_execs_cons (thn (h1 pins s σ H { D with nx := u D } I h) fun f s1 q => ?_)
  cases f with
  | next =>
    obtain ⟨σ', H', I', q⟩ := q
    exact h2 pins s1 σ' H' D I' q
  | ret v => exact q
  | brk => exact q
  | cont => exact q
theorem pss_one (h1 : PS X st t) : PSs X [st] t := by
  intro pins s σ H D I h
  refine wpAny_execs_cons (thn (h1 pins s σ H D I h) fun f s1 q => ?_)
  cases f with
  | next => exact wpAny_execs_nil q
  | ret v => exact q
  | brk => exact q
  | cont => exact q
theorem Inv.quiet {pins : List (Addr × Obj)} {σ : St} {H : Hp} {s : Shared} (I : Inv X pins σ H s) : interactive X.env = false := by simp [interactive, I.ok.kind]
def tDrop (te : TE) : TS := fun D σ H => te σ H fun _ H1 => D.nx σ H1
theorem ps_expr (he : PE X e te) (hs : swapsWith e none pos.line X.env = pure false := by rfl) : PS X (.Expr e pos) (tDrop te) := by
  intro pins s σ H D I h
  exact wpAny_Expr_any (thn (he pins s σ H _ I h) fun v s1 ⟨x, H1, I1, r1, q1⟩ => ⟨σ, H1, I1, q1⟩) I.quiet hs
def tRet (te : TE) : TS := fun D σ H => te σ H D.rt
theorem ps_ret (he : PE X e te) : PS X (.Return (some e) pos) (tRet te) := by
  intro pins s σ H D I h
  exact wpAny_Return_some (thn (he pins s σ H _ I h) fun v s1 ⟨x, H1, I1, r1, q1⟩ => ⟨x, σ, H1, I1, r1, q1⟩)
def tRetN : TS := fun D _ H => D.rt .non H
def tIfS (c : TT) (t u : TS) : TS := fun D σ H => c σ H fun b H1 => if b = true then t D σ H1 else u D σ H1
theorem ps_if {c : Expr} {a b : List Stmt} {tc : TT} (hc : PT X c tc) (ha : PSs X a t) (hb : PSs X b u) : PS X (.If c a b pos) (tIfS tc t u) := by
  intro pins s σ H D I h
  refine wpAny_If (thn (hc pins s σ H _ I h) fun d s1 ⟨H1, I1, q1⟩ => ?_)
  cases d with
  | true => exact ha pins s1 σ H1 D I1 q1
  | false => exact hb pins s1 σ H1 D I1 q1
end

abbrev TG := V → St → Hp → (St → Hp → Prop) → Prop
abbrev TGs := List V → St → Hp → (St → Hp → Prop) → Prop
def PG (X : Cx) (target : Expr) (t : TG) : Prop :=
  ∀ (pins : List (Addr × Obj)) (s : Shared) (σ : St) (H : Hp) (v : V) (u : Value) (Q : St → Hp → Prop), Inv X pins σ H s → RelV v u → t v σ H Q →
    wpAny (model X.prog X.w) X.A (assign target X.env u) (fun _ s' => ∃ σ' H', Inv X pins σ' H' s' ∧ Q σ' H') X.xe s
def PGs (X : Cx) (ts : List Expr) (t : TGs) : Prop :=
  ∀ (pins : List (Addr × Obj)) (s : Shared) (σ : St) (H : Hp) (vs : List V) (us : List Value) (Q : St → Hp → Prop), Inv X pins σ H s → Vals vs us → t vs σ H Q →
    wpAny (model X.prog X.w) X.A (assignInOrder ((assignEach ts X.env).map (·.2)) us) (fun _ s' => ∃ σ' H', Inv X pins σ' H' s' ∧ Q σ' H') X.xe s
abbrev TSet := V → V → V → Hp → (Hp → Prop) → Prop
def PSet (X : Cx) (t : TSet) : Prop :=
  ∀ (pins : List (Addr × Obj)) (s : Shared) (σ : St) (H : Hp) (o i v : V) (ov iv u : Value) (Q : Hp → Prop), Inv X pins σ H s → RelV o ov → RelV i iv → RelV v u → t o i v H Q →
    wpAny (model X.prog X.w) X.A (setItem ov iv u) (fun _ s' => ∃ H', Inv X pins σ H' s' ∧ Q H') X.xe s
section
variable {X : Cx} {pos : Pos}
def gName (i : Nat) : TG := fun v σ H Q => Q (σ.set i (some v)) H
theorem pg_name {i : Nat} {x : Str} (hN : X.N.Nodup) (hi : X.N[i]? = some x) (hx : Loc X.env.scope x) (hf : X.fn x = true ∨ X.env.scope.names.lookup x = some .local := by first | exact .inl rfl | exact .inr rfl | assumption) : PG X (.Name x pos) (gName i) := by
  intro pins s σ H v u Q I r h
  exact wpAny_assign_Name (store_ok I hN hi hx r (fun s' I' => ⟨_, H, I', h⟩) hf)
def gNil : TGs := fun vs σ H Q => vs = [] ∧ Q σ H
def gCons (t : TG) (u : TGs) : TGs := fun vs σ H Q => ∃ v r, vs = v :: r ∧ t v σ H fun σ' H' => u r σ' H' Q
theorem pgs_nil : PGs X [] gNil := by
  intro pins s σ H vs us Q I r h
  obtain ⟨e, h⟩ := h
  subst e
  cases r
  exact assignInOrder_nil ⟨σ, H, I, h⟩
theorem pgs_cons {e : Expr} {es : List Expr} {t : TG} {u : TGs} (h1 : PG X e t) (h2 : PGs X es u)
    (hs : (assignEach (e :: es) X.env).map (·.2) = assign e X.env :: (assignEach es X.env).map (·.2) := by rfl) : PGs X (e :: es) (gCons t u) := by
  intro pins s σ H vs us Q I r h
  obtain ⟨v, vr, e1, h⟩ := h
  subst e1
  cases r with
  | cons r rr =>
    rw [hs]
    refine assignInOrder_cons (thn (h1 pins s σ H _ _ _ I r h) fun _ s1 ⟨σ1, H1, I1, q1⟩ => ?_)
    exact h2 pins s1 σ1 H1 _ _ Q I1 rr q1
def gTup (K : PySem.W.Frag) (n : Nat) (t : TGs) : TG := fun v σ H Q => ∃ a xs, v = .ref a ∧ SqT K H a xs ∧ xs.length = n ∧ t xs σ H Q
theorem pg_tup {es : List Expr} {k : Nat} {t : TGs} {n : Nat} (hc : X.calm = true) (h : PGs X es t)
    (hn : (assignEach es X.env).length = n := by rfl) (hst : (assignEach es X.env).findIdx? (·.1) = none := by rfl) : PG X (.Tuple es k pos) (gTup X.K n t) := by
  intro pins s σ H v u Q I r hw
  obtain ⟨a, xs, e1, hq, hl, hw⟩ := hw
  subst e1
  cases r
  obtain ⟨its, rv, ht, hz⟩ := I.tuple hq
  refine assign_Tuple_tuple (I.ok.hd hc) ht (by simp [hn, ← hl, rv.length]) hst fun h' hx => ?_
  have I1 : Inv X pins σ H { s with heap := h' } := I.kept (t' := s.toks) fun b o e => hx b o (Nat.ne_of_lt (Heap.lt_size e)) e
  exact h pins _ σ H xs _ Q I1 (by simpa using rv) hw
def gSub (to ti : TE) (t : TSet) : TG := fun v σ H Q => to σ H fun o H1 => ti σ H1 fun i H2 => t o i v H2 fun H3 => Q σ H3
theorem pg_sub {o i : Expr} {to ti : TE} {t : TSet} (ho : PE X o to) (hi : PE X i ti) (hs : PSet X t)
    (ha : ∀ v, assign (.Subscript o i pos) X.env v = (do
      let ov ← holding [v] (eval o X.env)
      let iv ← holding [v, ov] (eval i X.env)
      standAt pos
      holding [v, ov, iv] (setItem ov iv v)
      release [v, ov, iv] []) := by intro _; rfl) : PG X (.Subscript o i pos) (gSub to ti t) := by
  intro pins s σ H v u Q I r h
  rw [ha]
  refine wpAny_bind (wpAny_holding (thn (ho pins s σ H _ I h) fun ov s1 ⟨x, H1, I1, r1, q1⟩ => ?_))
  refine wpAny_bind (wpAny_holding (thn (hi pins s1 σ H1 _ I1 q1) fun iv s2 ⟨y, H2, I2, r2, q2⟩ => ?_))
  refine wpAny_bind (wpAny_standAt (wpAny_bind (wpAny_holding (thn (hs pins s2 σ H2 x y v ov iv u _ I2 r1 r2 r q2) fun _ s3 ⟨H3, I3, q3⟩ => ?_))))
  exact wpAny_release ⟨σ, H3, I3, q3⟩
def tAsg (te : TE) (g : TG) : TS := fun D σ H => te σ H fun x H1 => g x σ H1 D.nx
theorem ps_asg {tg e : Expr} {te : TE} {g : TG} (he : PE X e te) (hg : PG X tg g) (hs : swapsWithSole [tg] e pos.line X.env = pure false := by rfl) (hw : swappedStores [tg] e X.env = pure none := by rfl)
    (h1 : (assignEach [tg] X.env).map (·.2) = [assign tg X.env] := by rfl) : PS X (.Assign [tg] e pos) (tAsg te g) := by
  intro pins s σ H D I h
  refine wpAny_Assign_stores (thn (he pins s σ H _ I h) fun v s1 ⟨x, H1, I1, r1, q1⟩ => ?_) hs hw
  rw [h1]
  exact thn (hg pins s1 σ H1 x v _ I1 r1 q1) fun _ s2 q => q
theorem ps_set {i : Nat} {x : Str} {e : Expr} {te : TE} {pos' : Pos} (hN : X.N.Nodup) (hi : X.N[i]? = some x) (hx : Loc X.env.scope x) (he : PE X e te) (hs : swapsWith e (some (.Name x pos')) pos.line X.env = pure false := by rfl) (hf : X.fn x = true ∨ X.env.scope.names.lookup x = some .local := by first | exact .inl rfl | exact .inr rfl | assumption) :
    PS X (.Assign [.Name x pos'] e pos) (tAsg te (gName i)) := by
  intro pins s σ H D I h
  refine wpAny_Assign_Name (thn (he pins s σ H _ I h) fun v s1 ⟨y, H1, I1, r1, q1⟩ => ?_) hs
  exact store_ok I1 hN hi hx r1 (fun s2 I2 => ⟨_, H1, I2, q1⟩) hf
end

section
variable {X : Cx} {pos : Pos}
end

set_option genInjectivity false in
structure It where
  go : Nat → Hp → Prop
  yld : Nat → Hp → V → Hp → Prop
  stop : Nat → Hp → Prop
def FpOk (X : Cx) (pins : List (Addr × Obj)) (H : Hp) (b : Addr) : Prop :=
  H b = none ∧ b ≠ X.env.locals ∧ b ∉ X.fs ∧ (b ∈ X.ex ∨ X.s₀.heap.objs.size ≤ b) ∧ (∀ x c, X.env.cells.lookup x = some c → c ≠ b) ∧ ∀ p ∈ X.pn ++ pins, p.1 ≠ b
theorem Inv.fpOk {X : Cx} {pins : List (Addr × Obj)} {σ : St} {H H' : Hp} {s : Shared} {b : Addr} (I : Inv X pins σ H s) (hb : s.heap.objs.size ≤ b) (hn : H' b = none) : FpOk X pins H' b := by
  refine ⟨hn, Nat.ne_of_gt (Nat.lt_of_lt_of_le I.lt hb), I.nofs hb, .inr (Nat.le_trans I.sz hb), fun x c e z => ?_, fun p hp z => ?_⟩
  · obtain ⟨v, q⟩ := I.cell x c e
    exact absurd (Nat.lt_of_lt_of_le q.lt (by rw [z]; exact hb)) (Nat.lt_irrefl _)
  · exact absurd (Nat.lt_of_lt_of_le (Heap.lt_size (I.pin p hp).1) (by rw [z]; exact hb)) (Nat.lt_irrefl _)
structure Turn (P : Program) (w : World) (K : PySem.W.Frag) (tg : Expr) (J : It) (fp : List Addr) (it : Addr) (tn : Nat → Heap → Prop) : Prop where
  mem : it ∈ fp
  obj : ∀ i h, tn i h → ∀ b ∈ fp, ∃ o, h.get? b = some o ∧ ∀ v, o.data ≠ .cell v
  keep : ∀ i h h', tn i h → (∀ b ∈ fp, ∀ o, h.get? b = some o → h'.get? b = some o) → tn i h'
  item : ∀ (X : Cx), X.prog = P → X.w = w → X.K = K → X.calm = true → ∀ (i : Nat) (pins : List (Addr × Obj)) (s : Shared) (σ : St) (H : Hp) (E : Value → Shared → Prop), Inv X pins σ H s → (∀ b ∈ fp, FpOk X pins H b) → tn i s.heap → J.go i H →
    wpAny (model P w) X.A (pyNext (.ref it)) (fun r s1 => ∃ u, r = some u ∧
      wpAny (model P w) X.A (letOwnedTupleGo tg (.ref it) u) (fun _ s2 => ∃ x H', Inv X pins σ H' s2 ∧ RelV x u ∧ J.yld i H x H' ∧ tn (i + 1) s2.heap ∧ ∀ b ∈ fp, H' b = none) E s1) E s
  done : ∀ (X : Cx), X.prog = P → X.w = w → X.K = K → X.calm = true → ∀ (i : Nat) (pins : List (Addr × Obj)) (s : Shared) (σ : St) (H : Hp) (E : Value → Shared → Prop), Inv X pins σ H s → (∀ b ∈ fp, FpOk X pins H b) → tn i s.heap → J.stop i H →
    wpAny (model P w) X.A (pyNext (.ref it)) (fun r s1 => r = none ∧ Inv X pins σ H s1) E s
  self : ∀ (A : Around) (i : Nat) (s : Shared) (Q : Value → Shared → Prop) (E : Value → Shared → Prop), tn i s.heap → Q (.ref it) s → wpAny (model P w) A (pyIter (.ref it)) Q E s
abbrev TI := St → Hp → (It → Hp → Prop) → Prop
def PIE (X : Cx) (pins : List (Addr × Obj)) (σ : St) (tg : Expr) (R : It → Hp → Prop) (itv : Value) (s2 : Shared) : Prop :=
  ∃ (it : Addr) (fp : List Addr) (tn : Nat → Heap → Prop) (J : It) (H' : Hp), itv = .ref it ∧ Inv X pins σ H' s2 ∧ Turn X.prog X.w X.K tg J fp it tn ∧ tn 0 s2.heap ∧ (∀ b ∈ fp, FpOk X pins H' b) ∧ R J H'
def PI (X : Cx) (tg iter : Expr) (wi : TI) : Prop :=
  ∀ (pins : List (Addr × Obj)) (s : Shared) (σ : St) (H : Hp) (R : It → Hp → Prop), Inv X pins σ H s → wi σ H R →
    wpAny (model X.prog X.w) X.A (eval iter X.env) (fun v s1 => wpAny (model X.prog X.w) X.A (pyIter v) (PIE X pins σ tg R) X.xe s1) X.xe s

theorem go_of {M : Model} {A : Around} {E : Value → Shared → Prop} {s : Shared} {tg : Expr} {it : Addr} {u : Value} {o : Obj} {n : String} {vs : Array Value} {Q : Unit → Shared → Prop} (ho : s.heap.get? it = some o) (hc : o.cls = .type n) (hd : o.data = .fields vs)
    (hn : ["enumerate", "zip", "dict_itemiterator", "dict_reverseitemiterator", "odict_iterator", "itertools.zip_longest", "itertools.pairwise"].contains n = false) (hQ : Q () s) : wpAny M A (letOwnedTupleGo tg (.ref it) u) Q E s := by
  unfold letOwnedTupleGo
  cases tg <;> first
    | exact wpAny_pure hQ
    | (cases u <;> first
        | exact wpAny_pure hQ
        | (refine wpAny_bind (wpAny_load ho ?_)
           rw [hc, hd]
           show wpAny M A (if (["enumerate", "zip", "dict_itemiterator", "dict_reverseitemiterator", "odict_iterator", "itertools.zip_longest", "itertools.pairwise"].contains n && vs[0]? == some (rawInt _)) = true then _ else _) Q E s
           rw [if_neg (by intro h; rw [hn, Bool.false_and] at h; cases h)]
           exact wpAny_pure hQ))

def Itl (K : PySem.W.Frag) (a : Addr) : It :=
  ⟨fun i H => ∃ xs x, SqL K H a xs ∧ xs[i]? = some x, fun i H x H' => H' = H ∧ ∀ xs, SqL K H a xs → xs[i]? = some x, fun i H => ∃ xs, SqL K H a xs ∧ xs.length ≤ i⟩
def Itt (K : PySem.W.Frag) (a : Addr) : It :=
  ⟨fun i H => ∃ xs x, SqT K H a xs ∧ xs[i]? = some x, fun i H x H' => H' = H ∧ ∀ xs, SqT K H a xs → xs[i]? = some x, fun i H => ∃ xs, SqT K H a xs ∧ xs.length ≤ i⟩
def Itr (lo : Int) (n : Nat) : It := ⟨fun i _ => i < n, fun i H x H' => H' = H ∧ x = .int (lo + i), fun i _ => n ≤ i⟩
theorem turn_list {P : Program} {w : World} {K : PySem.W.Frag} {tg : Expr} (a it : Addr) : Turn P w K tg (Itl K a) [it] it (fun i h => h.IsListIter it a i) where
  mem := by simp
  obj := fun i h st b hb => by
    have e : b = it := by simpa using hb
    subst e
    obtain ⟨o, e, c, d⟩ := st
    exact ⟨o, e, fun v z => by rw [d] at z; cases z⟩
  keep := fun i h h' st k => st.at fun o e => k it (by simp) o e
  item := by
    intro X hP hw hK hc i pins s σ H E I hf st hg
    subst hP hw hK
    obtain ⟨xs, x, hq, hx⟩ := hg
    obtain ⟨its, rv, p, hz⟩ := I.list hq
    obtain ⟨u, hu, ru⟩ := rv.get hx
    obtain ⟨f0, f1, f2, f3, f4, f5⟩ := hf it (by simp)
    refine wpAny_pyNext_list_item st p.isList (x := u) (by simpa using hu) fun h' st' sb => ?_
    have I1 : Inv X pins σ H { s with heap := h' } := I.turned (t' := s.toks) (fun b o hb e => (sb.2 b hb).trans e) f0 f1 f3 f4 f5
    obtain ⟨o, e, c, d⟩ := id st'
    exact ⟨u, rfl, go_of (s := { s with heap := h' }) e c d (by decide) ⟨x, H, I1, ru, ⟨rfl, fun ys hy => by rw [I.list_inj hy hq]; exact hx⟩, st', fun b hb => (hf b hb).1⟩⟩
  done := by
    intro X hP hw hK hc i pins s σ H E I hf st hg
    subst hP hw hK
    obtain ⟨xs, hq, hx⟩ := hg
    obtain ⟨its, rv, p, hz⟩ := I.list hq
    obtain ⟨f0, f1, f2, f3, f4, f5⟩ := hf it (by simp)
    have hl := rv.length
    exact wpAny_pyNext_list_end (I.ok.hd hc) st p.isList (by simp; omega) fun h' eb => ⟨rfl, I.turned (t' := s.toks) (fun b o hb e => eb b o hb e) f0 f1 f3 f4 f5⟩
  self := fun _ _ _ _ _ st h => wpAny_pyIter_listiter st h
theorem turn_tuple {P : Program} {w : World} {K : PySem.W.Frag} {tg : Expr} (a it : Addr) : Turn P w K tg (Itt K a) [it] it (fun i h => h.IsTupleIter it a i) where
  mem := by simp
  obj := fun i h st b hb => by
    have e : b = it := by simpa using hb
    subst e
    obtain ⟨o, e, c, d⟩ := st
    exact ⟨o, e, fun v z => by rw [d] at z; cases z⟩
  keep := fun i h h' st k => st.at fun o e => k it (by simp) o e
  item := by
    intro X hP hw hK hc i pins s σ H E I hf st hg
    subst hP hw hK
    obtain ⟨xs, x, hq, hx⟩ := hg
    obtain ⟨its, rv, p, hz⟩ := I.tuple hq
    obtain ⟨u, hu, ru⟩ := rv.get hx
    obtain ⟨f0, f1, f2, f3, f4, f5⟩ := hf it (by simp)
    refine wpAny_pyNext_tuple_item st (show s.heap.IsTuple a its.toArray from p) (x := u) (by simpa using hu) fun h' st' sb => ?_
    have I1 : Inv X pins σ H { s with heap := h' } := I.turned (t' := s.toks) (fun b o hb e => (sb.2 b hb).trans e) f0 f1 f3 f4 f5
    obtain ⟨o, e, c, d⟩ := id st'
    exact ⟨u, rfl, go_of (s := { s with heap := h' }) e c d (by decide) ⟨x, H, I1, ru, ⟨rfl, fun ys hy => by rw [I.tuple_inj hy hq]; exact hx⟩, st', fun b hb => (hf b hb).1⟩⟩
  done := by
    intro X hP hw hK hc i pins s σ H E I hf st hg
    subst hP hw hK
    obtain ⟨xs, hq, hx⟩ := hg
    obtain ⟨its, rv, p, hz⟩ := I.tuple hq
    obtain ⟨f0, f1, f2, f3, f4, f5⟩ := hf it (by simp)
    have hl := rv.length
    exact wpAny_pyNext_tuple_end (I.ok.hd hc) st (show s.heap.IsTuple a its.toArray from p) (by simp; omega) fun h' eb => ⟨rfl, I.turned (t' := s.toks) (fun b o hb e => eb b o hb e) f0 f1 f3 f4 f5⟩
  self := fun _ _ _ _ _ st h => wpAny_pyIter_tupleiter st h
theorem turn_range {P : Program} {w : World} {K : PySem.W.Frag} {tg : Expr} (it : Addr) (lo : Int) (n : Nat) : Turn P w K tg (Itr lo n) [it] it (fun i h => IsRangeIter h it (lo + (i : Nat) * 1) ((n : Int) - (i : Nat)) 1) where
  mem := by simp
  obj := fun i h st b hb => by
    have e : b = it := by simpa using hb
    subst e
    exact ⟨_, st, fun v z => by
      have z' : Data.fields _ = Data.cell v := z
      cases z'⟩
  keep := fun i h h' st k => k it (by simp) _ st
  item := by
    intro X hP hw hK hc i pins s σ H E I hf st hg
    subst hP hw hK
    obtain ⟨f0, f1, f2, f3, f4, f5⟩ := hf it (by simp)
    have W := Walks.range (prog := X.prog) (w := X.w) (I.ok.hd hc) it lo 1 n
    refine W.item i s _ _ hg st fun v h' tk hv st' kk => ?_
    obtain ⟨t, rfl⟩ := hv
    have I1 : Inv X pins σ H { s with heap := h', toks := tk } := I.turned (fun b o hb e => kk b o (by simpa using hb) e) f0 f1 f3 f4 f5
    refine ⟨_, rfl, go_of (s := { s with heap := h', toks := tk }) (n := "range_iterator") st' rfl rfl (by decide) ⟨.int (lo + i), H, I1, ⟨t, ?_⟩, ⟨rfl, rfl⟩, st', fun b hb => (hf b hb).1⟩⟩
    rw [Int.mul_one]
  done := by
    intro X hP hw hK hc i pins s σ H E I hf st hg
    subst hP hw hK
    obtain ⟨f0, f1, f2, f3, f4, f5⟩ := hf it (by simp)
    exact wpAny_pyNext_range_end (I.ok.hd hc) st (by have : n ≤ i := hg; omega) fun h' eb => ⟨rfl, I.turned (t' := s.toks) (fun b o hb e => eb b o hb e) f0 f1 f3 f4 f5⟩
  self := fun _ _ _ _ _ st h => wpAny_pyIter_rangeiter st h
end L2

namespace L2
open PySem PySem.Spec PyProof.Rows
section
variable {X : Cx} {tg : Expr}
def iList (K : PySem.W.Frag) (tl : TE) : TI := fun σ H R => tl σ H fun x H1 => ∃ a, x = .ref a ∧ (∃ xs, SqL K H1 a xs) ∧ R (Itl K a) H1
def iTup (K : PySem.W.Frag) (tl : TE) : TI := fun σ H R => tl σ H fun x H1 => ∃ a, x = .ref a ∧ (∃ xs, SqT K H1 a xs) ∧ R (Itt K a) H1
theorem pi_list {l : Expr} {tl : TE} (hl : PE X l tl) : PI X tg l (iList X.K tl) := by
  intro pins s σ H R I h
  refine thn (hl pins s σ H _ I h) fun v s1 ⟨x, H1, I1, r1, q1⟩ => ?_
  obtain ⟨a, e, ⟨xs, hq⟩, q⟩ := q1
  subst e
  cases r1
  obtain ⟨its, rv, p, hz⟩ := I1.list hq
  refine wpAny_pyIter_list p.isList ?_
  refine ⟨s1.heap.objs.size, [s1.heap.objs.size], _, _, H1, rfl, I1.kept (t' := s1.toks) fun b o e => Heap.get?_push_of_some _ e, turn_list a _, ⟨_, Heap.get?_push_size _ rfl, rfl, rfl⟩, fun b hb => ?_, q⟩
  have e : b = s1.heap.objs.size := by simpa using hb
  subst e
  exact I1.fpOk (Nat.le_refl _) (I1.hok.fresh (Nat.le_refl _))
theorem pi_tup {l : Expr} {tl : TE} (hl : PE X l tl) : PI X tg l (iTup X.K tl) := by
  intro pins s σ H R I h
  refine thn (hl pins s σ H _ I h) fun v s1 ⟨x, H1, I1, r1, q1⟩ => ?_
  obtain ⟨a, e, ⟨xs, hq⟩, q⟩ := q1
  subst e
  cases r1
  obtain ⟨its, rv, p, hz⟩ := I1.tuple hq
  refine wpAny_pyIter_tuple (show s1.heap.IsTuple a its.toArray from p) ?_
  refine ⟨s1.heap.objs.size, [s1.heap.objs.size], _, _, H1, rfl, I1.kept (t' := s1.toks) fun b o e => Heap.get?_push_of_some _ e, turn_tuple a _, ⟨_, Heap.get?_push_size _ rfl, rfl, rfl⟩, fun b hb => ?_, q⟩
  have e : b = s1.heap.objs.size := by simpa using hb
  subst e
  exact I1.fpOk (Nat.le_refl _) (I1.hok.fresh (Nat.le_refl _))
theorem range_it {pins : List (Addr × Obj)} {σ : St} {H : Hp} {s : Shared} {R : It → Hp → Prop} {E : Value → Shared → Prop} {lo hi : Int} {t u v : Tok} {tk : Nat} (I : Inv X pins σ H s) (h1 : -(2 ^ 62) ≤ lo) (h2 : lo < 2 ^ 62) (h3 : -(2 ^ 62) ≤ hi) (h4 : hi < 2 ^ 62)
    (q : R (Itr lo (hi - lo).toNat) H) : wpAny (model X.prog X.w) X.A (pyIter (.ref s.heap.objs.size)) (PIE X pins σ tg R) E { s with heap := s.heap.push { cls := .type "range", data := .fields #[.int lo t, .int hi u, .int 1 v] }, toks := tk } := by
  refine wpAny_pyIter_range (IsRange.new ..) (small_one h1 h2 h3 h4) ?_
  have I1 : Inv X pins σ H { s with heap := s.heap.push { cls := .type "range", data := .fields #[.int lo t, .int hi u, .int 1 v] }, toks := tk } := I.kept fun b o e => Heap.get?_push_of_some _ e
  refine ⟨(s.heap.push { cls := .type "range", data := .fields #[.int lo t, .int hi u, .int 1 v] }).objs.size, [(s.heap.push { cls := .type "range", data := .fields #[.int lo t, .int hi u, .int 1 v] }).objs.size], _, _, H, rfl,
    I1.kept (t' := tk) fun b o e => Heap.get?_push_of_some _ e, turn_range _ lo (hi - lo).toNat, ?_, fun b hb => ?_, q⟩
  · have e1 : lo + ((0 : Nat) : Int) * 1 = lo := by simp
    have e2 : (((hi - lo).toNat : Nat) : Int) - ((0 : Nat) : Int) = Builtin.Range.rangeSize lo hi 1 := by rw [rangeSize_one]; split <;> omega
    show IsRangeIter _ _ (lo + ((0 : Nat) : Int) * 1) ((((hi - lo).toNat : Nat) : Int) - ((0 : Nat) : Int)) 1
    rw [e1, e2]
    exact Heap.get?_push_size _ rfl
  · have e : b = (s.heap.push { cls := .type "range", data := .fields #[.int lo t, .int hi u, .int 1 v] }).objs.size := by simpa using hb
    subst e
    exact I1.fpOk (Nat.le_refl _) (I1.hok.fresh (Nat.le_refl _))
def iRng1 (ta : TA) : TI := fun σ H R => ta σ H fun vs H1 => ∃ j : Int, vs = [.int j] ∧ -(2 ^ 62) ≤ j ∧ j < 2 ^ 62 ∧ R (Itr 0 j.toNat) H1
theorem pi_range1 {a : Expr} {ta : TA} {p pos : Pos} (hg : Gl X "range") (hm : X.mg "range" = none) (ha : PA X [a] ta) (hs : starEach [a] X.env = [(false, eval a X.env)] := by rfl) : PI X tg (.Call (.Name "range" p) [a] [] pos) (iRng1 ta) := by
  intro pins s σ H R I h
  refine Call_ (ld_blt I hg hm boot_range (PyProof.Rows.callWith_type1 (thn (ha pos pins s σ H _ I h) fun us s1 ⟨vs, H1, I1, r1, q1⟩ => ?_) hs rfl))
  obtain ⟨j, e, q1, q2, q⟩ := q1
  subst e
  cases r1 with
  | cons r rr =>
    cases rr
    obtain ⟨t, rfl⟩ := r
    exact call_range_1 (range_it I1 (by omega) (by omega) q1 q2 (by simpa using q))
def tFor (wi : TI) (g : TG) (tb : TS) : TS := fun D σ H => wi σ H fun J H1 => ∃ W : Nat → Nat → St → Hp → Prop, (∃ m, W 0 m σ H1) ∧ ∀ i m σ H, W i m σ H →
  (J.stop i H ∧ D.nx σ H) ∨ (J.go i H ∧ ∃ N : St → Hp → Prop, (∀ σ' H', N σ' H' → ∃ m', m' < m ∧ W (i + 1) m' σ' H') ∧ ∀ x H', J.yld i H x H' → g x σ H' fun σ2 H2 => tb { D with nx := N, ct := N, bk := D.nx } σ2 H2)
def pinsAt (fp : List Addr) (h : Heap) : List (Addr × Obj) := fp.filterMap fun b => (h.get? b).map fun o => (b, o)
theorem mem_pinsAt {fp : List Addr} {h : Heap} {b : Addr} {o : Obj} (hb : b ∈ fp) (e : h.get? b = some o) : (b, o) ∈ pinsAt fp h := List.mem_filterMap.mpr ⟨b, hb, by rw [e]; rfl⟩
theorem of_pinsAt {fp : List Addr} {h : Heap} {p : Addr × Obj} (hp : p ∈ pinsAt fp h) : p.1 ∈ fp ∧ h.get? p.1 = some p.2 := by
  obtain ⟨b, hb, e⟩ := List.mem_filterMap.mp hp
  cases q : h.get? b with
  | none => rw [q] at e; cases e
  | some o =>
    rw [q] at e
    have e' : (b, o) = p := Option.some.inj e
    subst e'
    exact ⟨hb, q⟩
theorem Inv.pinned {pins : List (Addr × Obj)} {σ : St} {H : Hp} {s : Shared} {fp : List Addr} (I : Inv X pins σ H s) (hf : ∀ b ∈ fp, FpOk X pins H b) (ho : ∀ b ∈ fp, ∃ o, s.heap.get? b = some o ∧ ∀ v, o.data ≠ .cell v) : Inv X (pins ++ pinsAt fp s.heap) σ H s :=
  I.pins_of fun p hp => (List.mem_append.mp hp).elim (fun z => I.pin p (List.mem_append_right _ z)) fun z => by
    obtain ⟨hb, e⟩ := of_pinsAt z
    obtain ⟨f0, f1, f2, _⟩ := hf p.1 hb
    obtain ⟨o, e', d⟩ := ho p.1 hb
    rw [e] at e'; cases e'
    exact ⟨e, f0, f1, f2, d⟩
theorem Inv.unpinned {pins pl : List (Addr × Obj)} {σ : St} {H : Hp} {s : Shared} (I : Inv X (pins ++ pl) σ H s) : Inv X pins σ H s := I.pins_of fun p hp => I.pin p (List.mem_append_right _ (List.mem_append_left _ hp))
theorem ps_for {iter : Expr} {body : List Stmt} {wi : TI} {g : TG} {tb : TS} {pos : Pos} (hp : PassesOwn (model X.prog X.w) X.A X.env X.xe) (hc : X.calm = true) (hi : PI X tg iter wi) (hg : PG X tg g) (hb : PSs X body tb)
    (hs : ∀ x, foldedSetIterable iter X.env x = pure x := by intro _; rfl) : PS X (.For tg iter body [] pos) (tFor wi g tb) := by
  intro pins s σ H D I h
  refine wpAny_For (thn (hi pins s σ H _ I h) fun v s1 h1 => thn h1 fun itv s2 h2 => ?_) hs
  obtain ⟨it, fp, tn, J, H2, e, I2, T, st2, f2, W, ⟨m0, w0⟩, turn⟩ := h2
  subst e
  -- what stays true of the iterator's objects through the loop
  have stat : ∀ {H' : Hp}, (∀ b ∈ fp, H' b = none) → ∀ b ∈ fp, FpOk X pins H' b := fun hn b hb => ⟨hn b hb, (f2 b hb).2⟩
  refine codeAny_forLoop_any (fun n s' => ∃ i σ' H', Inv X pins σ' H' s' ∧ tn i s'.heap ∧ (∀ b ∈ fp, H' b = none) ∧ W i n σ' H') ?_ m0 ⟨0, σ, H2, I2, st2, fun b hb => (f2 b hb).1, w0⟩
  rintro n s3 ⟨i, σ3, H3, I3, st3, fr3, w3⟩
  rcases turn i n σ3 H3 w3 with ⟨stop, qn⟩ | ⟨go, N, hN, step⟩
  · refine wpAny_passesOwn hp (thn (T.done X rfl rfl rfl hc i pins s3 σ3 H3 X.xe I3 (stat fr3) st3 stop) fun r s4 ⟨hr, I4⟩ => ?_)
    subst hr
    exact wpAny_execs_nil ⟨σ3, H3, I4, qn⟩
  · refine wpAny_passesOwn hp (thn (T.item X rfl rfl rfl hc i pins s3 σ3 H3 X.xe I3 (stat fr3) st3 go) fun r s4 ⟨u, hr, h4⟩ => ?_)
    subst hr
    refine wpAny_passesOwn hp (thn h4 fun _ s5 ⟨x, H5, I5, r5, y5, st5, fr5⟩ => ?_)
    have I5' := I5.pinned (stat fr5) (T.obj _ _ st5)
    refine wpAny_passesOwn hp (thn (hg _ s5 σ3 H5 x u _ I5' r5 (step x H5 y5)) fun _ s6 ⟨σ6, H6, I6, q6⟩ => ?_)
    refine wpAny_passesOwn hp (thn (hb _ s6 σ6 H6 _ I6 q6) fun f s7 q7 => ?_)
    have again : ∀ {σ7 : St} {H7 : Hp}, Inv X (pins ++ pinsAt fp s5.heap) σ7 H7 s7 → N σ7 H7 → ∃ m, m < n ∧ ∃ i σ' H', Inv X pins σ' H' s7 ∧ tn i s7.heap ∧ (∀ b ∈ fp, H' b = none) ∧ W i m σ' H' := fun {σ7 H7} I7 n7 => by
      obtain ⟨m', hm, w7⟩ := hN σ7 H7 n7
      refine ⟨m', hm, i + 1, σ7, H7, I7.unpinned, T.keep _ _ _ st5 fun b hb o e => (I7.pin (b, o) (List.mem_append_right _ (List.mem_append_right _ (mem_pinsAt hb e)))).1, fun b hb => ?_, w7⟩
      obtain ⟨o, e, d⟩ := T.obj _ _ st5 b hb
      exact (I7.pin (b, o) (List.mem_append_right _ (List.mem_append_right _ (mem_pinsAt hb e)))).2.1
    cases f with
    | next => obtain ⟨σ7, H7, I7, n7⟩ := q7; exact again I7 n7
    | cont => obtain ⟨σ7, H7, I7, n7⟩ := q7; exact again I7 n7
    | brk => obtain ⟨σ7, H7, I7, q7⟩ := q7; exact ⟨σ7, H7, I7.unpinned, q7⟩
    | ret v => obtain ⟨x7, σ7, H7, I7, r7, q7⟩ := q7; exact ⟨x7, σ7, H7, I7.unpinned, r7, q7⟩
end

theorem for_tup {K : PySem.W.Frag} {a : Addr} {xs : List V} {g : TG} {tb : TS} {D : Ends} {σ : St} {H : Hp} (Pv : Nat → St → Hp → Prop) (h0 : Pv 0 σ H) (hl : ∀ i σ H, i ≤ xs.length → Pv i σ H → SqT K H a xs)
    (hs : ∀ i x σ H, xs[i]? = some x → Pv i σ H → g x σ H fun σ2 H2 => tb { D with nx := Pv (i + 1), ct := Pv (i + 1), bk := D.nx } σ2 H2) (hd : ∀ σ H, Pv xs.length σ H → D.nx σ H) :
    ∃ W : Nat → Nat → St → Hp → Prop, (∃ m, W 0 m σ H) ∧ ∀ i m σ H, W i m σ H →
      ((Itt K a).stop i H ∧ D.nx σ H) ∨ ((Itt K a).go i H ∧ ∃ N : St → Hp → Prop, (∀ σ' H', N σ' H' → ∃ m', m' < m ∧ W (i + 1) m' σ' H') ∧ ∀ x H', (Itt K a).yld i H x H' → g x σ H' fun σ2 H2 => tb { D with nx := N, ct := N, bk := D.nx } σ2 H2) := by
  refine ⟨fun i m σ H => m = xs.length - i ∧ i ≤ xs.length ∧ Pv i σ H, ⟨xs.length, by simp, Nat.zero_le _, h0⟩, ?_⟩
  rintro i m σ H ⟨rfl, hi, p⟩
  have q := hl i σ H hi p
  by_cases hlt : i < xs.length
  · refine .inr ⟨⟨xs, xs[i], q, by simp [hlt]⟩, Pv (i + 1), fun σ' H' p' => ⟨xs.length - (i + 1), by omega, rfl, hlt, p'⟩, fun x H' y => ?_⟩
    obtain ⟨e, y⟩ := y
    subst e
    exact hs i x σ _ (y xs q) p
  · have e : i = xs.length := by omega
    subst e
    exact .inl ⟨⟨xs, q, Nat.le_refl _⟩, hd σ H p⟩
theorem for_range {lo : Int} {n : Nat} {g : TG} {tb : TS} {D : Ends} {σ : St} {H : Hp} (Pv : Nat → St → Hp → Prop) (h0 : Pv 0 σ H)
    (hs : ∀ i σ H, i < n → Pv i σ H → g (.int (lo + i)) σ H fun σ2 H2 => tb { D with nx := Pv (i + 1), ct := Pv (i + 1), bk := D.nx } σ2 H2) (hd : ∀ σ H, Pv n σ H → D.nx σ H) :
    ∃ W : Nat → Nat → St → Hp → Prop, (∃ m, W 0 m σ H) ∧ ∀ i m σ H, W i m σ H →
      ((Itr lo n).stop i H ∧ D.nx σ H) ∨ ((Itr lo n).go i H ∧ ∃ N : St → Hp → Prop, (∀ σ' H', N σ' H' → ∃ m', m' < m ∧ W (i + 1) m' σ' H') ∧ ∀ x H', (Itr lo n).yld i H x H' → g x σ H' fun σ2 H2 => tb { D with nx := N, ct := N, bk := D.nx } σ2 H2) := by
  refine ⟨fun i m σ H => m = n - i ∧ i ≤ n ∧ Pv i σ H, ⟨n, by simp, Nat.zero_le _, h0⟩, ?_⟩
  rintro i m σ H ⟨rfl, hi, p⟩
  by_cases hlt : i < n
  · refine .inr ⟨hlt, Pv (i + 1), fun σ' H' p' => ⟨n - (i + 1), by omega, rfl, hlt, p'⟩, fun x H' y => ?_⟩
    obtain ⟨e, y⟩ := y
    subst e y
    exact hs i σ _ hlt p
  · have e : i = n := by omega
    subst e
    exact .inl ⟨Nat.le_refl _, hd σ H p⟩
end L2

namespace L2
open PySem PySem.Spec PyProof.Rows

abbrev R2 := V → V → Hp → VK → Prop
def OpR (X : Cx) (f : Value → Value → Sem Value) (r : R2) : Prop :=
  ∀ (pins : List (Addr × Obj)) (s : Shared) (σ : St) (H : Hp) (x y : V) (v u : Value) (Q : VK), Inv X pins σ H s → RelV x v → RelV y u → r x y H Q →
    wpAny (model X.prog X.w) X.A (f v u) (EP X pins σ Q) X.xe s
def UnR (X : Cx) (f : Value → Sem Value) (r : V → Hp → VK → Prop) : Prop :=
  ∀ (pins : List (Addr × Obj)) (s : Shared) (σ : St) (H : Hp) (x : V) (v : Value) (Q : VK), Inv X pins σ H s → RelV x v → r x H Q →
    wpAny (model X.prog X.w) X.A (f v) (EP X pins σ Q) X.xe s
def CallR (X : Cx) (f : Value) (r : List V → Hp → VK → Prop) : Prop :=
  ∀ (pins : List (Addr × Obj)) (s : Shared) (σ : St) (H : Hp) (xs : List V) (us : List Value) (Q : VK), Inv X pins σ H s → Vals xs us → r xs H Q →
    wpAny (model X.prog X.w) X.A (call f us) (EP X pins σ Q) X.xe s
def tOp (r : R2) (ta tb : TE) : TE := fun σ H Q => ta σ H fun x H1 => tb σ H1 fun y H2 => r x y H2 Q
def tUn (r : V → Hp → VK → Prop) (ta : TE) : TE := fun σ H Q => ta σ H fun x H1 => r x H1 Q
def rI (C : Int → Int → Prop) (g : Int → Int → V) : R2 := fun x y H Q => ∃ i j, x = .int i ∧ y = .int j ∧ C i j ∧ Q (g i j) H
def rI0 (g : Int → Int → V) : R2 := fun x y H Q => ∃ i j, x = .int i ∧ y = .int j ∧ Q (g i j) H
def rU (g : Int → V) : V → Hp → VK → Prop := fun x H Q => ∃ i, x = .int i ∧ Q (g i) H

section
variable {X : Cx} {a b c : Expr} {ta tb tc : TE} {pos : Pos}

theorem binT (ha : PE X a ta) (hb : PE X b tb) {pins : List (Addr × Obj)} {s : Shared} {σ : St} {H : Hp} {R : V → V → Hp → Prop} (I : Inv X pins σ H s)
    (h : ta σ H fun x H1 => tb σ H1 fun y H2 => R x y H2) {Q : Value → Shared → Prop} {f : Value → Value → Sem Value}
    (hf : ∀ v u s2 x y H2, Inv X pins σ H2 s2 → RelV x v → RelV y u → R x y H2 → wpAny (model X.prog X.w) X.A (f v u) Q X.xe s2) :
    wpAny (model X.prog X.w) X.A (eval a X.env) (fun v s₁ => wpAny (model X.prog X.w) X.A (eval b X.env) (fun u s₂ => wpAny (model X.prog X.w) X.A (f v u) Q X.xe s₂) X.xe s₁) X.xe s := by
  refine thn (ha pins s σ H _ I h) fun v s1 ⟨x, H1, I1, r1, q1⟩ => ?_
  refine thn (hb pins s1 σ H1 _ I1 q1) fun u s2 ⟨y, H2, I2, r2, q2⟩ => ?_
  exact hf v u s2 x y H2 I2 r1 r2 q2

theorem pe_op {op : Operator} {r : R2} (ho : OpR X (binaryOp op) r) (ha : PE X a ta) (hb : PE X b tb) : PE X (.BinOp a op b pos) (tOp r ta tb) := by
  intro pins s σ H Q I h
  exact wpAny_BinOp (binT ha hb I h fun v u s2 x y H2 I2 rx ry q => ho pins s2 σ H2 x y v u Q I2 rx ry q)
theorem pe_un {op : UnaryOp} {r : V → Hp → VK → Prop} (ho : UnR X (unaryOp op) r) (ha : PE X a ta) : PE X (.UnaryOp op a pos) (tUn r ta) := by
  intro pins s σ H Q I h
  exact UnaryOp_ (thn (ha pins s σ H _ I h) fun v s1 ⟨x, H1, I1, r1, q1⟩ => ho pins s1 σ H1 x v Q I1 r1 q1)
theorem opI {f : Value → Value → Sem Value} {C : Int → Int → Prop} {g : Int → Int → Int}
    (rule : ∀ (i j : Int) (t u : Tok) (s : Shared) (Q : Value → Shared → Prop) (E : Value → Shared → Prop), C i j → Q (.int (g i j) s.toks) { s with toks := s.toks + 1 } → wpAny (model X.prog X.w) X.A (f (.int i t) (.int j u)) Q E s) :
    OpR X f (rI C fun i j => .int (g i j)) := by
  intro pins s σ H x y v u Q I rx ry h
  obtain ⟨i, j, rfl, rfl, hc, q⟩ := h
  obtain ⟨t, rfl⟩ := rx
  obtain ⟨t', rfl⟩ := ry
  exact rule i j t t' s _ _ hc ⟨.int (g i j), H, I.tok _, ⟨_, rfl⟩, q⟩
theorem opI0 {f : Value → Value → Sem Value} {g : Int → Int → Int}
    (rule : ∀ (i j : Int) (t u : Tok) (s : Shared) (Q : Value → Shared → Prop) (E : Value → Shared → Prop), Q (.int (g i j) s.toks) { s with toks := s.toks + 1 } → wpAny (model X.prog X.w) X.A (f (.int i t) (.int j u)) Q E s) :
    OpR X f (rI0 fun i j => .int (g i j)) := by
  intro pins s σ H x y v u Q I rx ry h
  obtain ⟨i, j, rfl, rfl, q⟩ := h
  obtain ⟨t, rfl⟩ := rx
  obtain ⟨t', rfl⟩ := ry
  exact rule i j t t' s _ _ ⟨.int (g i j), H, I.tok _, ⟨_, rfl⟩, q⟩
theorem opB0 {f : Value → Value → Sem Value} {g : Int → Int → Bool}
    (rule : ∀ (i j : Int) (t u : Tok) (s : Shared) (Q : Value → Shared → Prop) (E : Value → Shared → Prop), Q (.bool (g i j)) s → wpAny (model X.prog X.w) X.A (f (.int i t) (.int j u)) Q E s) :
    OpR X f (rI0 fun i j => .bl (g i j)) := by
  intro pins s σ H x y v u Q I rx ry h
  obtain ⟨i, j, rfl, rfl, q⟩ := h
  obtain ⟨t, rfl⟩ := rx
  obtain ⟨t', rfl⟩ := ry
  exact rule i j t t' s _ _ ⟨.bl (g i j), H, I, rfl, q⟩

def CDiv (i j : Int) : Prop := 0 < j ∧ j < 1073741824
def CPow (i j : Int) : Prop := 0 ≤ j ∧ j ≤ 1000000 ∧ i.natAbs < 2 ^ 64
def CMul (i j : Int) : Prop := (-(2 ^ 64) < i ∧ i < 2 ^ 64) ∨ (-(2 ^ 64) < j ∧ j < 2 ^ 64)
theorem CMul.ok {i j : Int} (h : CMul i j) : IntMulOk i j := by
  rcases h with ⟨h1, h2⟩ | ⟨h1, h2⟩
  · exact .of_left (intBits_le_64 h1 h2)
  · exact .of_right (intBits_le_64 h1 h2)
theorem op_add : OpR X (binaryOp .Add) (rI0 fun i j => .int (i + j)) := opI0 fun _ _ _ _ _ _ _ q => add_int q
theorem op_sub : OpR X (binaryOp .Sub) (rI0 fun i j => .int (i - j)) := opI0 fun _ _ _ _ _ _ _ q => sub_int q
theorem op_mul : OpR X (binaryOp .Mult) (rI CMul fun i j => .int (i * j)) := opI fun _ _ _ _ _ _ _ hc q => mul_int q hc.ok
theorem op_fdiv : OpR X (binaryOp .FloorDiv) (rI CDiv fun i j => .int (i / j)) := opI fun i j _ _ _ _ _ hc q => by
  have h1 : (0 : Int) < j := hc.1
  have h2 : j < 1073741824 := hc.2
  exact floordiv_int (by omega) (by rw [Int.fdiv_eq_ediv_of_nonneg i (by omega)]; exact q) (.inl (PyProof.noPylong_small (by omega)))
theorem op_mod : OpR X (binaryOp .Mod) (rI (fun _ j => 0 < j) fun i j => .int (i % j)) := opI fun i j _ _ _ _ _ hc q => by
  have h1 : (0 : Int) < j := hc
  exact mod_int' (by omega) (by rw [Int.fmod_eq_emod_of_nonneg i (by omega)]; exact q)
theorem op_pow : OpR X (binaryOp .Pow) (rI CPow fun i j => .int (i ^ j.toNat)) := opI fun _ _ _ _ _ _ _ hc q => pow_int_small hc.1 hc.2.1 hc.2.2 q
theorem unI {f : Value → Sem Value} {g : Int → Int}
    (rule : ∀ (i : Int) (t : Tok) (s : Shared) (Q : Value → Shared → Prop) (E : Value → Shared → Prop), Q (.int (g i) s.toks) { s with toks := s.toks + 1 } → wpAny (model X.prog X.w) X.A (f (.int i t)) Q E s) :
    UnR X f (rU fun i => .int (g i)) := by
  intro pins s σ H x v Q I rx h
  obtain ⟨i, rfl, q⟩ := h
  obtain ⟨t, rfl⟩ := rx
  exact rule i t s _ _ ⟨.int (g i), H, I.tok _, ⟨_, rfl⟩, q⟩
theorem un_neg : UnR X (unaryOp .USub) (rU fun i => .int (-i)) := unI fun _ _ _ _ _ q => neg_int q
end

def scal : V → V → Bool
  | .non, .non => true | .non, .int _ => true | .int _, .non => true | .non, .bl _ => true | .bl _, .non => true | .non, .str _ => true | .str _, .non => true
  | .int _, .int _ => true | .bl _, .bl _ => true | .str _, .str _ => true | .byt _, .byt _ => true
  | .int _, .str _ => true | .str _, .int _ => true | .bl _, .str _ => true | .str _, .bl _ => true
  | _, _ => false
def rEq : R2 := fun x y H Q => scal x y = true ∧ Q (.bl (decide (x = y))) H
def rNe : R2 := fun x y H Q => scal x y = true ∧ Q (.bl (!decide (x = y))) H

theorem dec_int {i j : Int} : decide (V.int i = V.int j) = (i == j) := by
  rw [Bool.eq_iff_iff]
  simp
theorem dec_bl {i j : Bool} : decide (V.bl i = V.bl j) = (i == j) := by
  rw [Bool.eq_iff_iff]
  simp
theorem dec_str {i j : Str} : decide (V.str i = V.str j) = (i == j) := by
  rw [Bool.eq_iff_iff]
  simp
theorem dec_byt {i j : Array UInt8} : decide (V.byt i = V.byt j) = (i.toList == j.toList) := by
  rw [Bool.eq_iff_iff]
  cases i
  cases j
  simp

section
variable {X : Cx} {a b c : Expr} {ta tb tc : TE} {pos : Pos}
theorem fin_bl {pins : List (Addr × Obj)} {σ : St} {H : Hp} {s : Shared} {Q : VK} {k k' : Bool} (I : Inv X pins σ H s) (q : Q (.bl k) H) (e : k = k') : EP X pins σ Q (.bool k') s := by
  subst e
  exact ⟨.bl k, H, I, rfl, q⟩
theorem op_eq : OpR X (compareOp .Eq) rEq := by
  intro pins s σ H x y v u Q I rx ry h
  obtain ⟨hs, q⟩ := h
  cases x with
  | non =>
    cases rx
    cases y with
    | non => cases ry; exact PySem.EqNone.eq_none_none (fin_bl I q (by simp))
    | bl j => cases ry; exact PySem.EqNone.eq_none_bool (fin_bl I q (by simp))
    | int j => obtain ⟨t', rfl⟩ := ry; exact PySem.EqNone.eq_none_int (fin_bl I q (by simp))
    | str j => obtain ⟨t', rfl⟩ := ry; exact PySem.EqNone.eq_none_str (fin_bl I q (by simp))
    | _ => exact absurd (show false = true from hs) Bool.false_ne_true
  | bl i =>
    cases rx
    cases y with
    | non => cases ry; exact PySem.EqNone.eq_bool_none (fin_bl I q (by simp))
    | bl j => cases ry; exact eq_bool (fin_bl I q dec_bl)
    | str j => obtain ⟨t', rfl⟩ := ry; exact PySem.EqMixed.eq_bool_str (fin_bl I q (by simp))
    | _ => exact absurd (show false = true from hs) Bool.false_ne_true
  | int i =>
    obtain ⟨t, rfl⟩ := rx
    cases y with
    | non => cases ry; exact PySem.EqNone.eq_int_none (fin_bl I q (by simp))
    | int j => obtain ⟨t', rfl⟩ := ry; exact eq_int (fin_bl I q dec_int)
    | str j => obtain ⟨t', rfl⟩ := ry; exact PySem.EqMixed.eq_int_str (fin_bl I q (by simp))
    | _ => exact absurd (show false = true from hs) Bool.false_ne_true
  | str i =>
    obtain ⟨t, rfl⟩ := rx
    cases y with
    | non => cases ry; exact PySem.EqNone.eq_str_none (fin_bl I q (by simp))
    | bl j => cases ry; exact PySem.EqMixed.eq_str_bool (fin_bl I q (by simp))
    | int j => obtain ⟨t', rfl⟩ := ry; exact PySem.EqMixed.eq_str_int (fin_bl I q (by simp))
    | str j => obtain ⟨t', rfl⟩ := ry; exact eq_str (fin_bl I q dec_str)
    | _ => exact absurd (show false = true from hs) Bool.false_ne_true
  | byt i =>
    obtain ⟨t, rfl⟩ := rx
    cases y with
    | byt j => obtain ⟨t', rfl⟩ := ry; exact PySem.W.eq_bytes (fin_bl I q dec_byt)
    | _ => exact absurd (show false = true from hs) Bool.false_ne_true
  | _ => cases y <;> exact absurd (show false = true from hs) Bool.false_ne_true
theorem op_ne : OpR X (compareOp .NotEq) rNe := by
  intro pins s σ H x y v u Q I rx ry h
  obtain ⟨hs, q⟩ := h
  cases x with
  | non =>
    cases rx
    cases y with
    | non => cases ry; exact PySem.EqNone.ne_none_none (fin_bl I q (by simp))
    | bl j => cases ry; exact PySem.EqNone.ne_none_bool (fin_bl I q (by simp))
    | int j => obtain ⟨t', rfl⟩ := ry; exact PySem.EqNone.ne_none_int (fin_bl I q (by simp))
    | str j => obtain ⟨t', rfl⟩ := ry; exact PySem.EqNone.ne_none_str (fin_bl I q (by simp))
    | _ => exact absurd (show false = true from hs) Bool.false_ne_true
  | bl i =>
    cases rx
    cases y with
    | non => cases ry; exact PySem.EqNone.ne_bool_none (fin_bl I q (by simp))
    | bl j => cases ry; exact ne_bool (fin_bl I q (congrArg not dec_bl))
    | str j => obtain ⟨t', rfl⟩ := ry; exact PySem.EqMixed.ne_bool_str (fin_bl I q (by simp))
    | _ => exact absurd (show false = true from hs) Bool.false_ne_true
  | int i =>
    obtain ⟨t, rfl⟩ := rx
    cases y with
    | non => cases ry; exact PySem.EqNone.ne_int_none (fin_bl I q (by simp))
    | int j => obtain ⟨t', rfl⟩ := ry; exact ne_int (fin_bl I q (congrArg not dec_int))
    | str j => obtain ⟨t', rfl⟩ := ry; exact PySem.EqMixed.ne_int_str (fin_bl I q (by simp))
    | _ => exact absurd (show false = true from hs) Bool.false_ne_true
  | str i =>
    obtain ⟨t, rfl⟩ := rx
    cases y with
    | non => cases ry; exact PySem.EqNone.ne_str_none (fin_bl I q (by simp))
    | bl j => cases ry; exact PySem.EqMixed.ne_str_bool (fin_bl I q (by simp))
    | int j => obtain ⟨t', rfl⟩ := ry; exact PySem.EqMixed.ne_str_int (fin_bl I q (by simp))
    | str j => obtain ⟨t', rfl⟩ := ry; exact ne_str (fin_bl I q (congrArg not dec_str))
    | _ => exact absurd (show false = true from hs) Bool.false_ne_true
  | byt i =>
    obtain ⟨t, rfl⟩ := rx
    cases y with
    | byt j => obtain ⟨t', rfl⟩ := ry; exact PySem.W.ne_bytes (fin_bl I q (congrArg not dec_byt))
    | _ => exact absurd (show false = true from hs) Bool.false_ne_true
  | _ => cases y <;> exact absurd (show false = true from hs) Bool.false_ne_true

theorem op_lt : OpR X (compareOp .Lt) (rI0 fun i j => .bl (decide (i < j))) := opB0 fun _ _ _ _ _ _ _ q => lt_int q
theorem op_le : OpR X (compareOp .LtE) (rI0 fun i j => .bl (decide (i ≤ j))) := opB0 fun _ _ _ _ _ _ _ q => le_int q
theorem op_isN : OpR X (compareOp .Is) (fun x y H Q => y = .non ∧ Q (.bl (decide (x = .non))) H) := by
  intro pins s σ H x y v u Q I rx ry h
  obtain ⟨rfl, q⟩ := h
  cases ry
  refine is_none_gen (fin_bl I q ?_)
  cases x <;> first
    | (cases rx; rfl)
    | (obtain ⟨t, rfl⟩ := rx; rfl)
theorem op_notN : OpR X (compareOp .IsNot) (fun x y H Q => y = .non ∧ Q (.bl (!decide (x = .non))) H) := by
  intro pins s σ H x y v u Q I rx ry h
  obtain ⟨rfl, q⟩ := h
  cases ry
  refine isnot_none_gen (fin_bl I q ?_)
  cases x <;> first
    | (cases rx; rfl)
    | (obtain ⟨t, rfl⟩ := rx; rfl)

theorem nomark (b : Expr) {op : CmpOp} (h : op ≠ .In := by decide) (h2 : op ≠ .NotIn := by decide) : behindInMarks op b = false := by
  have e1 : (op == CmpOp.In) = false := by cases op <;> first | rfl | exact absurd rfl h
  have e2 : (op == CmpOp.NotIn) = false := by cases op <;> first | rfl | exact absurd rfl h2
  cases b <;> simp [behindInMarks, e1, e2]
theorem pe_cmpR {op : CmpOp} {r : R2} (ho : OpR X (compareOp op) r) (ha : PE X a ta) (hb : PE X b tb) (hm : behindInMarks op b = false) : PE X (.Compare a [op] [b] pos) (tOp r ta tb) := by
  intro pins s σ H Q I h
  exact wpAny_Compare1 (binT ha hb I h fun v u s2 x y H2 I2 rx ry q => ho pins s2 σ H2 x y v u Q I2 rx ry q) hm
def tTest (t : TE) : TT := fun σ H Q => t σ H fun x H' => ∃ k, x = .bl k ∧ Q k H'
theorem pt_cmpR {op : CmpOp} {r : R2} (ho : OpR X (compareOp op) r) (ha : PE X a ta) (hb : PE X b tb) (hm : behindInMarks op b = false) : PT X (.Compare a [op] [b] pos) (tTest (tOp r ta tb)) := by
  intro pins s σ H Q I h
  refine wpAny_isTrue_Compare1 (thn (ha pins s σ H _ I h) fun v s1 ⟨x, H1, I1, r1, q1⟩ => thn (hb pins s1 σ H1 _ I1 q1) fun u s2 ⟨y, H2, I2, r2, q2⟩ =>
    thn (ho pins s2 σ H2 x y v u _ I2 r1 r2 q2) fun c s3 ⟨z, H3, I3, r3, k, e, q3⟩ => ?_) hm
  subst e
  cases r3
  exact wpAny_truthy_bool ⟨H3, I3, q3⟩
def tChain (r r' : R2) (ta tb tc : TE) : TE := fun σ H Q => ta σ H fun x H1 => tb σ H1 fun y H2 => r x y H2 fun z H3 => ∃ k, z = .bl k ∧
  (if k = true then tc σ H3 fun w' H4 => r' y w' H4 Q else Q (.bl false) H3)
theorem pe_chain {op op' : CmpOp} {r r' : R2} (ho : OpR X (compareOp op) r) (ho' : OpR X (compareOp op') r') (ha : PE X a ta) (hb : PE X b tb) (hc : PE X c tc)
    (hm : lastMarks [op, op'] [b, c] = false := by with_unfolding_all rfl) : PE X (.Compare a [op, op'] [b, c] pos) (tChain r r' ta tb tc) := by
  intro pins s σ H Q I h
  refine Compare_chain (thn (ha pins s σ H _ I h) fun v s1 ⟨x, H1, I1, r1, q1⟩ => chain_link (thn (hb pins s1 σ H1 _ I1 q1) fun u s2 ⟨y, H2, I2, r2, q2⟩ =>
    thn (ho pins s2 σ H2 x y v u _ I2 r1 r2 q2) fun d s3 ⟨z, H3, I3, r3, k, e, q3⟩ => ?_)) hm
  subst e
  cases r3
  refine wpAny_truthy_bool ?_
  cases k with
  | false => exact ite_ff ⟨.bl false, H3, I3, rfl, q3⟩
  | true => exact ite_tt (chain_last (thn (hc pins s3 σ H3 _ I3 q3) fun w' s4 ⟨z', H4, I4, r4, q4⟩ => ho' pins s4 σ H4 y z' u w' Q I4 r2 r4 q4))
theorem pt_chain {op op' : CmpOp} {r r' : R2} (ho : OpR X (compareOp op) r) (ho' : OpR X (compareOp op') r') (ha : PE X a ta) (hb : PE X b tb) (hc : PE X c tc)
    (hm : lastMarks [op, op'] [b, c] = false := by with_unfolding_all rfl) : PT X (.Compare a [op, op'] [b, c] pos) (tTest (tChain r r' ta tb tc)) := by
  intro pins s σ H Q I h
  refine isTrue_chain (thn (ha pins s σ H _ I h) fun v s1 ⟨x, H1, I1, r1, q1⟩ => test_link (thn (hb pins s1 σ H1 _ I1 q1) fun u s2 ⟨y, H2, I2, r2, q2⟩ =>
    thn (ho pins s2 σ H2 x y v u _ I2 r1 r2 q2) fun d s3 ⟨z, H3, I3, r3, k, e, q3⟩ => ?_)) hm
  subst e
  cases r3
  refine wpAny_truthy_bool ?_
  cases k with
  | false =>
    obtain ⟨k', e', q'⟩ := q3
    cases e'
    exact ite_ff ⟨H3, I3, q'⟩
  | true =>
    refine ite_tt (test_last (thn (hc pins s3 σ H3 _ I3 q3) fun w' s4 ⟨z', H4, I4, r4, q4⟩ => thn (ho' pins s4 σ H4 y z' u w' _ I4 r2 r4 q4) fun d' s5 ⟨z2, H5, I5, r5, k2, e2, q5⟩ => ?_))
    subst e2
    cases r5
    exact wpAny_truthy_bool ⟨H5, I5, q5⟩

theorem line63 : (sizeLine : Nat) < 2 ^ 63 := by rw [sizeLine_eq]; decide
theorem op_add_str : OpR X (binaryOp .Add) (fun x y H Q => ∃ i j, x = .str i ∧ y = .str j ∧ i.length + j.length ≤ sizeLine ∧ Q (.str (i ++ j)) H) := by
  intro pins s σ H x y v u Q I rx ry h
  obtain ⟨i, j, rfl, rfl, hz, q⟩ := h
  obtain ⟨t, rfl⟩ := rx
  obtain ⟨t', rfl⟩ := ry
  exact add_str (fun t' tk => ⟨.str (i ++ j), H, I.tok _, ⟨_, rfl⟩, q⟩) hz
theorem vals1 {x : V} {us : List Value} (r : Vals [x] us) : ∃ u, us = [u] ∧ RelV x u := by
  cases r with
  | cons r1 r2 => cases r2; exact ⟨_, rfl, r1⟩
theorem vals2 {x y : V} {us : List Value} (r : Vals [x, y] us) : ∃ u w', us = [u, w'] ∧ RelV x u ∧ RelV y w' := by
  cases r with
  | cons r1 r2 =>
    cases r2 with
    | cons r3 r4 => cases r4; exact ⟨_, _, rfl, r1, r3⟩
theorem call_min2 (hc : X.calm = true) : CallR X (.builtin "min") (fun xs H Q => ∃ i j, xs = [.int i, .int j] ∧ Q (.int (if j < i then j else i)) H) := by
  intro pins s σ H xs us Q I r h
  obtain ⟨i, j, rfl, q⟩ := h
  obtain ⟨u, w', rfl, ⟨t, rfl⟩, ⟨t', rfl⟩⟩ := vals2 r
  refine min_two_ints (I.ok.hd hc) fun h' tk k => ⟨_, H, I.kept k, ?_, q⟩
  by_cases hj : j < i
  · rw [if_pos hj, if_pos hj]; exact ⟨_, rfl⟩
  · rw [if_neg hj, if_neg hj]; exact ⟨_, rfl⟩
def LenV (K : PySem.W.Frag) (x : V) (H : Hp) (n : Nat) : Prop :=
  match x with
  | .str y => y.length ≤ sizeLine ∧ n = y.length
  | .byt y => y.size ≤ sizeLine ∧ n = y.size
  | .ref p => (∃ xs, SqL K H p xs ∧ n = xs.length) ∨ ∃ xs, SqT K H p xs ∧ n = xs.length
  | _ => False
theorem call_len : CallR X (.builtin "len") (fun xs H Q => ∃ x n, xs = [x] ∧ LenV X.K x H n ∧ Q (.int n) H) := by
  intro pins s σ H xs us Q I r h
  obtain ⟨x, n, rfl, e, q⟩ := h
  obtain ⟨u, rfl, rx⟩ := vals1 r
  have hl := line63
  have hs : sizeLine = 16777216 := sizeLine_eq
  cases x with
  | str y =>
    obtain ⟨t, rfl⟩ := rx
    obtain ⟨hy, e'⟩ : y.length ≤ sizeLine ∧ n = y.length := e
    subst e'
    exact len_str (by omega) ⟨.int _, H, I.tok _, ⟨_, rfl⟩, q⟩
  | byt y =>
    obtain ⟨t, rfl⟩ := rx
    obtain ⟨hy, e'⟩ : y.size ≤ sizeLine ∧ n = y.size := e
    subst e'
    exact PySem.W.len_bytes (by omega) ⟨.int _, H, I.tok _, ⟨_, rfl⟩, q⟩
  | ref p =>
    cases rx
    have e' : (∃ xs, SqL X.K H p xs ∧ n = xs.length) ∨ ∃ xs, SqT X.K H p xs ∧ n = xs.length := e
    rcases e' with ⟨xs, hx, e'⟩ | ⟨xs, hx, e'⟩
    · subst e'
      obtain ⟨its, r', pl, hz⟩ := I.list hx
      have hlen := r'.length
      exact Calls.call_len_list pl.isList (by simp only [List.size_toArray]; omega) ⟨.int xs.length, H, I.tok _, ⟨_, by simp only [List.size_toArray]; rw [hlen]⟩, q⟩
    · subst e'
      obtain ⟨its, r', pl, hz⟩ := I.tuple hx
      have hlen := r'.length
      exact len_tuple pl (by simp only [List.size_toArray]; omega) ⟨.int xs.length, H, I.tok _, ⟨_, by simp only [List.size_toArray]; rw [hlen]⟩, q⟩
  | _ => exact (show False from e).elim
end
end L2

namespace L2
open PySem PySem.Spec PyProof.Rows

structure ObjM (h : Heap) (x dx C : Addr) (mA : Str → Option Value) : Prop where
  obj : h.get? x = some (PySem.W.instObj C dx)
  ns : h.Ns1 dx mA
  ne : dx ≠ x

theorem lookIn_ns {h : Heap} {dx : Addr} {mA : Str → Option Value} (n : h.Ns1 dx mA) : ∃ od, h.get? dx = some od ∧ ∀ name, PySem.W.lookIn name od = some (mA name) := by
  obtain ⟨o, es, ep, ho, hd, hk, _, hm⟩ := n
  refine ⟨o, ho, fun name => ?_⟩
  have e := hm name
  unfold nsFind findBy at e
  rw [← Array.find?_toList] at e
  unfold PySem.W.lookIn
  rw [hd]
  dsimp only
  split
  · rename_i y q
    rw [q] at e
    exact congrArg some e
  · rename_i q
    rw [q] at e
    have a : es.toList.any (·.refKey) = false := by
      rw [List.any_eq_false]
      intro y hy
      obtain ⟨z, t, hkey⟩ := hk y (Array.mem_toList_iff.mp hy)
      simp [DictEntry.refKey, hkey]
    have a' : ¬ es.toList.any (·.refKey) = true := by rw [a]; exact Bool.false_ne_true
    rw [if_neg a']
    exact congrArg some e

theorem ObjM.look {h : Heap} {x dx C : Addr} {mA : Str → Option Value} (I : ObjM h x dx C mA) : ∃ od, PySem.W.InstAt h x (PySem.W.instObj C dx) C (some od) ∧ ∀ name, PySem.W.lookIn name od = some (mA name) :=
  let ⟨od, ho, hl⟩ := lookIn_ns I.ns
  ⟨od, ⟨I.obj, rfl, rfl, ho⟩, hl⟩

section
variable {prog : Program} {w : World} {A : Around} {E : Value → Shared → Prop} {s : Shared} {K : PySem.W.Frag} {x dx C f : Addr} {mA : Str → Option Value} {name : Str} {v : Value}

end

def putF (f : Str) (v : V) : List (Str × V) → List (Str × V)
  | [] => [(f, v)]
  | (g, x) :: r => if g = f then (g, v) :: r else (g, x) :: putF f v r
theorem lookup_putF (f g : Str) (v : V) : ∀ fs : List (Str × V), (putF f v fs).lookup g = if g = f then some v else fs.lookup g
  | [] => by
    show List.lookup g [(f, v)] = _
    by_cases h : g = f
    · have hb : (g == f) = true := beq_iff_eq.mpr h
      simp only [List.lookup, hb, if_pos h]
    · have hb : (g == f) = false := beq_eq_false_iff_ne.mpr h
      simp only [List.lookup, hb, if_neg h]
  | (k, x) :: r => by
    have ih := lookup_putF f g v r
    rw [show putF f v ((k, x) :: r) = (if k = f then (k, v) :: r else (k, x) :: putF f v r) from rfl]
    by_cases hk : k = f
    · rw [if_pos hk]
      by_cases h : g = k
      · have hb : (g == k) = true := beq_iff_eq.mpr h
        simp only [List.lookup, hb, if_pos (h.trans hk)]
      · have hb : (g == k) = false := beq_eq_false_iff_ne.mpr h
        simp only [List.lookup, hb, if_neg (fun e : g = f => h (e.trans hk.symm))]
    · rw [if_neg hk]
      by_cases h : g = k
      · have hb : (g == k) = true := beq_iff_eq.mpr h
        simp only [List.lookup, hb, if_neg (fun e : g = f => hk (h.symm.trans e))]
      · have hb : (g == k) = false := beq_eq_false_iff_ne.mpr h
        simp only [List.lookup, hb]
        exact ih
theorem keys_putF (f : Str) (v : V) : ∀ fs : List (Str × V), f ∈ (putF f v fs).map (·.1) ∧ ∀ g, g ∈ fs.map (·.1) → g ∈ (putF f v fs).map (·.1)
  | [] => ⟨by simp [putF], fun g h => by simp at h⟩
  | (k, x) :: r => by
    obtain ⟨i1, i2⟩ := keys_putF f v r
    rw [show putF f v ((k, x) :: r) = (if k = f then (k, v) :: r else (k, x) :: putF f v r) from rfl]
    by_cases hk : k = f
    · rw [if_pos hk]
      subst hk
      exact ⟨by simp, fun g h => by simpa using h⟩
    · rw [if_neg hk]
      refine ⟨?_, fun g h => ?_⟩
      · rw [List.map_cons]
        exact List.mem_cons_of_mem _ i1
      · rw [List.map_cons] at h ⊢
        rcases List.mem_cons.mp h with e | e
        · exact List.mem_cons.mpr (.inl e)
        · exact List.mem_cons_of_mem _ (i2 g e)
theorem RelO.some_of {v : V} {o : Option Value} (r : RelO (some v) o) : ∃ u, o = some u ∧ RelV v u := by
  cases o with
  | none => exact (show False from r).elim
  | some u => exact ⟨u, rfl, r⟩
theorem handed_of {v : V} {u : Value} (r : RelV v u) : PySem.W.handedIn u = true := by
  cases v with
  | non => cases (show u = Value.none from r); rfl
  | bl b => cases (show u = Value.bool b from r); rfl
  | int i => obtain ⟨t, e⟩ := (show ∃ t, u = Value.int i t from r); cases e; rfl
  | str x => obtain ⟨t, e⟩ := (show ∃ t, u = Value.str x t from r); cases e; rfl
  | byt b => obtain ⟨t, e⟩ := (show ∃ t, u = Value.bytes b t from r); cases e; rfl
  | flt b => obtain ⟨t, e⟩ := (show ∃ t, u = Value.float b t from r); cases e; rfl
  | ref a => cases (show u = Value.ref a from r); rfl
  | ty n => cases (show u = Value.type n from r); rfl

section
variable {P : Program} {w : World} {H H' : Hp} {h h' : Heap} {a C dx : Addr} {fs fs' : List (Str × V)}
theorem ins_get (hok : HOk P w H h) (e : H a = some (.ins C dx fs)) : ∃ mA, ObjM h a dx C mA ∧ (∀ f, RelO (fs.lookup f) (mA f)) ∧ PySem.Within mA (fs.map (·.1)) ∧ fs.length ≤ 1000 ∧ H dx = some (.own a) := by
  obtain ⟨d, z, ne, ob, mA, n, r, q⟩ := (show ObjOk P w H h a (.ins C dx fs) from hok a _ e)
  exact ⟨mA, ⟨ob, n, ne⟩, r, q, z, d⟩
end

structure Cls (K : PySem.W.Frag) (C : Addr) : Prop where
  pg : PySem.W.plainGet K C Str.empty = true
  hd : PySem.W.hasDictIn K C = true
  po : PySem.W.plainOver K C = true
  sa : PySem.W.findIn K (.ref C) "__setattr__" = some (some (.builtin "object.__setattr__"))
theorem Cls.get {K : PySem.W.Frag} {C : Addr} (c : Cls K C) (f : Str) : PySem.W.plainGet K C f = true := c.pg
structure Meth (K : PySem.W.Frag) (C : Addr) (m : Str) (f : Addr) : Prop where
  at_ : PySem.W.findIn K (.ref C) m = some (some (.ref f))
  fn : PySem.W.isFn K (.ref f) = true
  kp : PySem.W.keepIn K (.ref f) = true

section
variable {X : Cx} {pins : List (Addr × Obj)} {σ : St} {H : Hp} {s : Shared} {a C dx : Addr} {fs : List (Str × V)} {f : Str} {v : V} {A : Around} {E : Value → Shared → Prop}

theorem attr_of {prog : Program} {w : World} {env : Env} {e : Expr} {f : Str} {pos : Pos} {s : Shared} {Q : Value → Shared → Prop} (hb : attributeBase e f env (eval e env) = eval e env)
    (h : wpAny (model prog w) A (eval e env) (fun o s₁ => wpAny (model prog w) A (getAttr o f true) Q E s₁) E s) : wpAny (model prog w) A (eval (.Attribute e f pos) env) Q E s :=
  Attribute_any_ h (by rw [arm_eval_Attribute, hb])
end

section
variable {X : Cx} {o e value : Expr} {f : Str} {pos pos' tpos : Pos} {ta tv : TE}
end

section
variable {X : Cx} {pins : List (Addr × Obj)} {σ : St} {H : Hp} {s : Shared} {A : Around} {E : Value → Shared → Prop} {Q : Value → Shared → Prop} {c : Value} {b : Bool}
inductive TyOf (K : PySem.W.Frag) (H : Hp) : V → Value → Prop where
  | non : TyOf K H .non (.type "NoneType")
  | bl (x : Bool) : TyOf K H (.bl x) (.type "bool")
  | int (i : Int) : TyOf K H (.int i) (.type "int")
  | str (x : Str) : TyOf K H (.str x) (.type "str")
  | flt (x : UInt64) : TyOf K H (.flt x) (.type "float")
  | lst {a : Addr} {xs : List V} (e : H a = some (.lst xs)) : TyOf K H (.ref a) (.type "list")
  | frz {a : Addr} {o : Obj} {xs : List V} (e : H a = some (.frz o (.lst xs))) : TyOf K H (.ref a) (.type "list")
  | tup {a : Addr} {xs : List V} (e : H a = some (.tup xs)) : TyOf K H (.ref a) (.type "tuple")
  | dK {a : Addr} {kvs : List (Key × V)} (e : H a = some (.dK kvs)) : TyOf K H (.ref a) (.type "dict")
  | dT {a : Addr} {kvs : List (List Key × V)} (e : H a = some (.dT kvs)) : TyOf K H (.ref a) (.type "dict")
  | ins {a C dx : Addr} {fs : List (Str × V)} (e : H a = some (.ins C dx fs)) (cl : Cls K C) (ha : PySem.W.findIn K (.ref C) "__class__" = some (some (.builtin "object.__class__")))
      (hn : PySem.W.specialIn K (.builtin "object.__class__") "__get__" = some (some (.builtin "getset_descriptor.__get__"))) (htk : PySem.W.takesIn K (.builtin "object.__class__") = some true)
      (hm : PySem.W.mroIn K C (.type "object") = some true) : TyOf K H (.ref a) (.ref C)
theorem isinst_ok {x : V} {u t : Value} (I : Inv X pins σ H s) (rx : RelV x u) (ty : TyOf X.K H x t) (e : PySem.W.kitOne X.K t c = some b) (h : ∀ tk, Q (.bool b) { s with toks := tk }) :
    wpAny (model X.prog X.w) A (call (.builtin "isinstance") [u, c]) Q E s := by
  cases ty with
  | non => cases (show u = Value.none from rx); exact PySem.W.kia_one PySem.W.kitx_none I.kIn True.intro e (fun z => nomatch z) h
  | bl y => cases (show u = Value.bool y from rx); exact PySem.W.kia_one PySem.W.kitx_bool I.kIn True.intro e (fun z => nomatch z) h
  | int i => obtain ⟨t, q⟩ := (show ∃ t, u = Value.int i t from rx); cases q; exact PySem.W.kia_one PySem.W.kitx_int I.kIn True.intro e (fun z => nomatch z) h
  | str y => obtain ⟨t, q⟩ := (show ∃ t, u = Value.str y t from rx); cases q; exact PySem.W.kia_one PySem.W.kitx_str I.kIn True.intro e (fun z => nomatch z) h
  | flt y => obtain ⟨t, q⟩ := (show ∃ t, u = Value.float y t from rx); cases q; exact PySem.W.kia_one PySem.W.kitx_float I.kIn True.intro e (fun z => nomatch z) h
  | @lst a xs ea =>
    cases (show u = Value.ref a from rx)
    obtain ⟨_, _, n, _, h1⟩ := (show ObjOk X.prog X.w H s.heap a (.lst xs) from I.hok a _ ea)
    exact PySem.W.kia_one PySem.W.kitx_list I.kIn ⟨_, h1, rfl⟩ e (fun z => nomatch z) h
  | @frz a ob xs ea =>
    cases (show u = Value.ref a from rx)
    obtain ⟨_, _, _, n, _, h1⟩ := (show ObjOk X.prog X.w H s.heap a (.frz ob (.lst xs)) from I.hok a _ ea)
    exact PySem.W.kia_one PySem.W.kitx_list I.kIn ⟨_, h1, rfl⟩ e (fun z => nomatch z) h
  | @tup a xs ea =>
    cases (show u = Value.ref a from rx)
    obtain ⟨_, _, _, p⟩ := (show ObjOk X.prog X.w H s.heap a (.tup xs) from I.hok a _ ea)
    obtain ⟨o, h1, h2, _⟩ := p
    exact PySem.W.kia_one PySem.W.kitx_tuple I.kIn ⟨o, h1, h2⟩ e (fun z => nomatch z) h
  | @dK a kvs ea =>
    cases (show u = Value.ref a from rx)
    obtain ⟨_, _, vs, _, p⟩ := (show ObjOk X.prog X.w H s.heap a (.dK kvs) from I.hok a _ ea)
    obtain ⟨o, es, ep, h1, h2, _⟩ := p
    exact PySem.W.kia_one PySem.W.kitx_dict I.kIn ⟨o, h1, h2.1⟩ e (fun z => nomatch z) h
  | @dT a kvs ea =>
    cases (show u = Value.ref a from rx)
    obtain ⟨_, _, xs, _, o, es, ep, h1, h2, _⟩ := (show ObjOk X.prog X.w H s.heap a (.dT kvs) from I.hok a _ ea)
    exact PySem.W.kia_one PySem.W.kitx_dict I.kIn ⟨o, h1, h2.1⟩ e (fun z => nomatch z) h
  | @ins a C dx fs ea cl ha hn htk hm =>
    cases (show u = Value.ref a from rx)
    obtain ⟨mA, O, _⟩ := ins_get I.hok ea
    obtain ⟨od, J, _⟩ := O.look
    exact PySem.W.kia_one (PySem.W.kitx_own (cl.get _) cl.hd ha hn htk hm) I.kIn J e (fun z => nomatch z) h
end
end L2

namespace L2
open PySem PySem.Spec PyProof.Rows

structure Room (k : Nat) (A : Around) : Prop where
  hd : A.handled = none
  dp : A.depth + 3 * k + 5 < recursionLimit
  un : A.units + 16 * k + 200 < cLine
theorem Room.mono {j k : Nat} {A : Around} (r : Room k A) (h : j ≤ k) : Room j A := ⟨r.hd, by have := r.dp; omega, by have := r.un; omega⟩
theorem Room.deeper {k : Nat} {A : Around} (r : Room (k + 1) A) (env : Env) : Room k (A.deeper env) :=
  ⟨r.hd, by have := r.dp; show A.depth + 1 + 3 * k + 5 < _; omega, by have := r.un; show A.units + 3 + 16 * k + 200 < _; omega⟩
theorem make_depth {A : Around} {C : Addr} {us : List Value} {kw : List (Str × Value)} : (A.under (.builtin "type.__call__" ⟨.ref C :: us, kw⟩)).depth = A.depth + 1 := by
  first | rfl | simp [Around.under, Code.weight, Code.isCreation, Code.isGuard, Code.isCaller, Code.frames, Code.isFrame, guardIds]
theorem make_units {A : Around} {C : Addr} {us : List Value} {kw : List (Str × Value)} : (A.under (.builtin "type.__call__" ⟨.ref C :: us, kw⟩)).units = A.units + 1 := by
  first | rfl | simp [Around.under, Code.cUnits, Code.frames, Code.isFrame]
theorem Room.make {k : Nat} {A : Around} (r : Room (k + 1) A) (C : Addr) (us : List Value) (kw : List (Str × Value)) : Room k (A.under (.builtin "type.__call__" ⟨.ref C :: us, kw⟩)) :=
  ⟨r.hd, by have := r.dp; rw [make_depth]; omega, by have := r.un; rw [make_units]; omega⟩
theorem Room.depth {k : Nat} {A : Around} (r : Room k A) : A.depth < recursionLimit := by have := r.dp; omega
def tNil : TA := fun _ H Q => Q [] H
def tCons (ta : TE) (tr : TA) : TA := fun σ H Q => ta σ H fun x H1 => tr σ H1 fun xs H2 => Q (x :: xs) H2
section
variable {X : Cx} {e : Expr} {es : List Expr} {te : TE} {t : TA} {pos : Pos}
theorem pa_nil : PA X [] tNil := fun _ _ _ _ H Q I h => Calls.spliced_nil ⟨[], H, I, .nil, h⟩
theorem pa_cons (ha : PE X e te) (hr : PA X es t) (hs : starEach (e :: es) X.env = (false, eval e X.env) :: starEach es X.env := by rfl) : PA X (e :: es) (tCons te t) := by
  intro pos pins s σ H Q I h
  rw [hs]
  show wpAny _ _ (spliced ((false, eval e X.env) :: backTo pos (starEach es X.env))) _ _ s
  refine Calls.spliced_cons (thn (ha pins s σ H _ I h) fun u s1 ⟨x, H1, I1, r1, q1⟩ => ?_)
  exact thn (hr pos pins s1 σ H1 _ I1 q1) fun us s2 ⟨xs, H2, I2, r2, q2⟩ => ⟨x :: xs, H2, I2, .cons r1 r2, q2⟩

def tTup (t : TA) : TE := fun σ H Q => t σ H fun xs H1 => xs.length ≤ sizeLine ∧ ∀ p, H1 p = none → Q (.ref p) (upd H1 p (.tup xs))
def tLst (t : TA) : TE := fun σ H Q => t σ H fun xs H1 => xs.length ≤ sizeLine ∧ ∀ p, H1 p = none → Q (.ref p) (upd H1 p (.lst xs))
theorem pe_tup {x1} (h : PA X es t) : PE X (.Tuple es x1 pos) (tTup t) := by
  intro pins s σ H Q I hq
  refine wpAny_Tuple_spliced (thn (h pos pins s σ H _ I hq) fun us s1 ⟨xs, H1, I1, r, z, q⟩ => ⟨by rw [← r.length]; exact z, ?_⟩)
  have hf : H1 s1.heap.objs.size = none := I1.hok.fresh (Nat.le_refl _)
  refine ⟨.ref s1.heap.objs.size, upd H1 s1.heap.objs.size (.tup xs), I1.laid (t' := s1.toks) (fun b u e => Heap.get?_push_of_some _ e) (Nat.le_refl _) ?_, rfl, q _ hf⟩
  exact ⟨z, us, r, ⟨_, Heap.get?_push_size _ rfl, rfl, _, rfl⟩⟩
theorem pe_lst (h : PA X es t) : PE X (.List es pos) (tLst t) := by
  intro pins s σ H Q I hq
  refine wpAny_List_spliced (thn (h pos pins s σ H _ I hq) fun us s1 ⟨xs, H1, I1, r, z, q⟩ => ⟨by rw [← r.length]; exact z, ?_⟩)
  have hf : H1 s1.heap.objs.size = none := I1.hok.fresh (Nat.le_refl _)
  refine ⟨.ref s1.heap.objs.size, upd H1 s1.heap.objs.size (.lst xs), I1.laid (t' := s1.toks) (fun b u e => Heap.get?_push_of_some _ e) (Nat.le_refl _) ?_, rfl, q _ hf⟩
  exact ⟨z, us, 0, r, Heap.get?_push_size _ rfl⟩
end

abbrev Sp := List V → Hp → VK → XK → Prop
abbrev CXT := List Env → Hp → Shared → XK → Value → Shared → Prop

structure Env0 (P : Program) (w : World) (K : PySem.W.Frag) (mg : Str → Option Value) (base : Heap) (A : Around) (outer : List Env) (s : Shared) (H : Hp) : Prop where
  frames : A.frames = some outer
  mod : Mod K mg base
  bs : ∀ b o, base.get? b = some o → s.heap.get? b = some o ∧ H b = none
  bsz : base.objs.size ≤ s.heap.objs.size
  funs : s.heap.FunFrames base outer
  frf : ∀ b ∈ frs outer, H b = none
  hok : HOk P w H s.heap
  bare : AllBare s.gens
def CE (outer : List Env) (P : Program) (w : World) (H : Hp) (s : Shared) (Q : VK) (u : Value) (s' : Shared) : Prop :=
  ∃ v H', s'.os = s.os ∧ AllBare s'.gens ∧ Un (frs outer) [] H H' s.heap s'.heap ∧ HOk P w H' s'.heap ∧ RelV v u ∧ Q v H'
def CR (CX : CXT) (outer : List Env) (P : Program) (w : World) (H : Hp) (s : Shared) (Q : VK) (E : XK) (r : Result) (s' : Shared) : Prop :=
  match r with
  | .ok (.ret u) => CE outer P w H s Q u s'
  | .ok _ => False
  | .error e => CX outer H s E e s'
structure FnOk (P : Program) (w : World) (K : PySem.W.Frag) (mg : Str → Option Value) (base : Heap) (CX : CXT) (k : Nat) (f : Addr) (fd : FuncData) (ps : List Str) (sp : Sp) : Prop where
  len : ∀ vs H Q E, sp vs H Q E → vs.length = ps.length
  run : ∀ (A : Around) (outer : List Env) (s : Shared) (H : Hp) (args : Args) (us : List Value) (vs : List V) (Q : VK) (E : XK), Room k A → Env0 P w K mg base A outer s H → BindsTo s fd args (ps.zip us) → Vals vs us → sp vs H Q E →
    codeAny (model P w) A (.call (.ref f) args) (CR CX outer P w H s Q E) s
theorem Env0.make {P : Program} {w : World} {K : PySem.W.Frag} {mg : Str → Option Value} {base : Heap} {A : Around} {outer : List Env} {s : Shared} {H : Hp} (e : Env0 P w K mg base A outer s H) (C : Addr) (us : List Value) (kw : List (Str × Value)) :
    Env0 P w K mg base (A.under (.builtin "type.__call__" ⟨.ref C :: us, kw⟩)) outer s H := ⟨by first | exact e.frames | (simpa [Around.under, Code.envs, Code.isFrame, pushEnvs] using e.frames), e.mod, e.bs, e.bsz, e.funs, e.frf, e.hok, e.bare⟩
section
variable {X : Cx} {pins : List (Addr × Obj)} {σ : St} {H : Hp} {s s' : Shared}
theorem Inv.env0 (I : Inv X pins σ H s) : Env0 X.prog X.w X.K X.mg X.base X.A X.stack s H :=
  ⟨I.ok.frames, I.ok.mod, I.bs, Nat.le_trans I.ok.bsz I.sz, I.stack, I.stkFree, I.hok, I.bare⟩
theorem Inv.after {Q : VK} {u : Value} (I : Inv X pins σ H s) (h : CE X.stack X.prog X.w H s Q u s') : EP X pins σ Q u s' := by
  obtain ⟨v, H', os, bare, un, hok, r, q⟩ := h
  obtain ⟨hh, g, d, t, os'⟩ := s'
  obtain rfl : os' = s.os := os
  exact ⟨v, H', I.call (h' := hh) (g' := g) (d' := d) (t' := t) (ch := []) un hok bare (fun b z => absurd z (by simp)), r, q⟩
end

def tCall (sp : Sp) (dvs : List V) (E : XK) (t : TA) : TE := fun σ H Q => t σ H fun vs H1 => sp (vs ++ dvs) H1 Q E
def Binds (K : PySem.W.Frag) (fd : FuncData) (ps : List Str) (ds : List Value) : Prop :=
  ∀ (s : Shared) (us : List Value), K.In s.heap → (us ++ ds).length = ps.length → BindsTo s fd ⟨us, []⟩ (ps.zip (us ++ ds))
theorem Binds.all {K : PySem.W.Frag} {fd : FuncData} {ps : List Str} (h : ∀ us : List Value, us.length = ps.length → bindArgs fd ⟨us, []⟩ = pure (ps.zip us)) : Binds K fd ps [] := fun s us _ hl => by
  rw [List.append_nil] at hl ⊢
  exact .of_eq (h us hl)

def Passes (CX : CXT) (X : Cx) (E : XK) : Prop := ∀ (pins : List (Addr × Obj)) (σ : St) (H : Hp) (s : Shared) (e : Value) (s' : Shared), Inv X pins σ H s → CX X.stack H s E e s' → X.xe e s'

section
variable {X : Cx} {CX : CXT} {k : Nat} {f C : Addr} {fd : FuncData} {ps : List Str} {sp : Sp} {dvs : List V} {ds : List Value} {E : XK} {x m : Str} {p pos apos : Pos} {e o : Expr} {es : List Expr} {ta : TE} {t : TA}

theorem run_fn {pins : List (Addr × Obj)} {σ : St} {H : Hp} {s : Shared} {Q : VK} {us : List Value} {vs : List V} (F : FnOk X.prog X.w X.K X.mg X.base CX k f fd ps sp) (hr : Room k X.A) (hb : Binds X.K fd ps ds) (hd : Vals dvs ds) (hx : Passes CX X E)
    (I : Inv X pins σ H s) (r : Vals vs us) (h : sp (vs ++ dvs) H Q E) : wpAny (model X.prog X.w) X.A (call (.ref f) us) (EP X pins σ Q) X.xe s := by
  have r2 : Vals (vs ++ dvs) (us ++ ds) := r.append hd
  have hl : (us ++ ds).length = ps.length := by rw [← r2.length]; exact F.len _ _ _ _ h
  refine wpAny_call (codeAny_mono (F.run X.A X.stack s H ⟨us, []⟩ (us ++ ds) (vs ++ dvs) Q E hr I.env0 (hb s us I.kIn hl) r2 h) fun r s' hq => ?_)
  cases r with
  | error e => exact hx pins σ H s e s' I hq
  | ok fl =>
    cases fl with
    | ret u => exact I.after hq
    | next => exact False.elim hq
    | brk => exact False.elim hq
    | cont => exact False.elim hq

theorem pe_call (F : FnOk X.prog X.w X.K X.mg X.base CX k f fd ps sp) (hr : Room k X.A) (hg : Gl X x) (hm : X.mg x = some (.ref f)) (hk : PySem.W.keepIn X.K (.ref f) = true) (hb : Binds X.K fd ps ds) (hd : Vals dvs ds) (hx : Passes CX X E)
    (ha : PA X (e :: es) t) (hdb : (x == ("__debug__" : Str)) = false := by decide) (he : starEach (e :: es) X.env = (false, eval e X.env) :: starEach es X.env := by rfl) (hpl : (backTo pos (starEach es X.env)).any (·.1) = false := by rfl) :
    PE X (.Call (.Name x p) (e :: es) [] pos) (tCall sp dvs E t) := by
  intro pins s σ H Q I h
  refine wpAny_Call_Name_kw (ld_glob I hg hm ?_ hdb)
  refine PySem.W.callWith_K (h₀ := X.base) I.ok.mod.kin hk (thn (ha pos pins s σ H _ I h) fun us s1 ⟨vs, H1, I1, r, q⟩ => ⟨I1.kIn, ?_⟩) he hpl
  exact run_fn F hr hb hd hx I1 r q
end

section
variable {X : Cx} {CX : CXT} {k : Nat} {f C : Addr} {fd : FuncData} {ps ks : List Str} {sp : Sp} {E : XK} {x m : Str} {p pos apos kpos : Pos} {e o : Expr} {es : List Expr} {kws : List Keyword} {te ta : TE} {t tk : TA} {nm : Option Str}
variable {g : List Value → List Value → List Value} {gV : List V → List V → List V}
end

structure FnScope (N P : List Str) (sc : Scope) : Prop where
  kind : sc.kind = .function
  co : sc.isCoroutine = false
  gen : sc.isGenerator = false
  nd : N.Nodup
  pre : N.take P.length = P
  par : ∀ x ∈ P, sc.names.lookup x = some .local ∨ sc.names.lookup x = some .cell
  nofree : ∀ y ∈ sc.names, y.2 ≠ .free

theorem bindL_out {kindOf : Str → Option NameKind} {x : Str} : ∀ {binds : List (Str × Value)} {m : Str → Option Value}, (∀ v, (x, v) ∉ binds) → bindL kindOf binds m x = m x
  | [], _, _ => rfl
  | (n, v) :: r, m, h => by
    unfold bindL
    rw [bindL_out fun w hw => h w (List.mem_cons_of_mem _ hw)]
    split
    · have : x ≠ n := by rintro rfl; exact h v List.mem_cons_self
      simp [this]
    · rfl
theorem bindC_out {kindOf : Str → Option NameKind} {x : Str} : ∀ {binds : List (Str × Value)} {m : Str → Option Value}, (∀ v, (x, v) ∉ binds) → bindC kindOf binds m x = m x
  | [], _, _ => rfl
  | (n, v) :: r, m, h => by
    unfold bindC
    rw [bindC_out fun w hw => h w (List.mem_cons_of_mem _ hw)]
    split
    · rfl
    · have : x ≠ n := by rintro rfl; exact h v List.mem_cons_self
      simp [this]
theorem bindL_get {kindOf : Str → Option NameKind} {x : Str} {v : Value} : ∀ {P : List Str} {vs : List Value} {i : Nat} {m : Str → Option Value}, P.Nodup → P[i]? = some x → vs[i]? = some v → kindOf x = some .local →
    bindL kindOf (P.zip vs) m x = some v
  | [], _, _, _, _, h, _, _ => by simp at h
  | _ :: _, [], _, _, _, _, h, _ => by simp at h
  | p :: P, w :: vs, 0, m, nd, h1, h2, hk => by
    simp at h1 h2; subst h1; subst h2
    show bindL kindOf ((p, w) :: P.zip vs) m p = _
    unfold bindL
    rw [bindL_out fun v hv => (List.nodup_cons.mp nd).1 (List.of_mem_zip hv).1, if_pos hk]
    simp
  | p :: P, w :: vs, i + 1, m, nd, h1, h2, hk => by
    show bindL kindOf ((p, w) :: P.zip vs) m x = _
    unfold bindL
    exact bindL_get (i := i) (List.nodup_cons.mp nd).2 (by simpa using h1) (by simpa using h2) hk
theorem bindC_get {kindOf : Str → Option NameKind} {x : Str} {v : Value} : ∀ {P : List Str} {vs : List Value} {i : Nat} {m : Str → Option Value}, P.Nodup → P[i]? = some x → vs[i]? = some v → kindOf x ≠ some .local →
    bindC kindOf (P.zip vs) m x = some v
  | [], _, _, _, _, h, _, _ => by simp at h
  | _ :: _, [], _, _, _, _, h, _ => by simp at h
  | p :: P, w :: vs, 0, m, nd, h1, h2, hk => by
    simp at h1 h2; subst h1; subst h2
    show bindC kindOf ((p, w) :: P.zip vs) m p = _
    unfold bindC
    rw [bindC_out fun v hv => (List.nodup_cons.mp nd).1 (List.of_mem_zip hv).1, if_neg hk]
    simp
  | p :: P, w :: vs, i + 1, m, nd, h1, h2, hk => by
    show bindC kindOf ((p, w) :: P.zip vs) m x = _
    unfold bindC
    exact bindC_get (i := i) (List.nodup_cons.mp nd).2 (by simpa using h1) (by simpa using h2) hk

def start (N : List Str) (vs : List V) : St := vs.map some ++ List.replicate (N.length - vs.length) none

def cxOf (CX : CXT) (P : Program) (w : World) (K : PySem.W.Frag) (mg : Str → Option Value) (base : Heap) (N : List Str) (qual : Str) (scope : Scope) (f : Addr) (cd : Value) (A : Around) (outer : List Env) (s : Shared) (H : Hp) (E : XK) : Cx where
  prog := P
  w := w
  K := K
  mg := mg
  base := base
  A := A.deeper (envOfC qual scope s.heap.objs.size f cd)
  N := N
  s₀ := s
  H₀ := H
  env := envOfC qual scope s.heap.objs.size f cd
  outer := outer
  stack := envOfC qual scope s.heap.objs.size f cd :: outer
  ex := []
  calm := true
  fn := fun _ => true
  pn := []
  xe := fun e s' => wpAny (model P w) (A.deeper (envOfC qual scope s.heap.objs.size f cd)) (leaving (envOfC qual scope s.heap.objs.size f cd) e) (fun _ s'' => CX outer H s E e s'') (fun e' s'' => CX outer H s E e' s'') s'

theorem cell_has {sc : Scope} {n : Nat} {x : Str} (h : sc.names.lookup x = some .cell) : ∃ c, (cellsFrom n sc.names []).lookup x = some c := by
  have q := PySem.W.cellsFrom_some sc.names n [] (.inl h)
  exact Option.isSome_iff_exists.mp q

theorem inv_start {CX : CXT} {P : Program} {w : World} {K : PySem.W.Frag} {mg : Str → Option Value} {base : Heap} {N ps : List Str} {qual : Str} {scope : Scope} {f : Addr} {cd : Value} {A : Around} {outer : List Env} {s s1 : Shared} {H : Hp} {E : XK} {us : List Value} {vs : List V}
    (S : FnScope N ps scope) (hd : A.handled = none) (e0 : Env0 P w K mg base A outer s H) (hl : vs.length = ps.length) (r : Vals vs us)
    (x : InCallC s s.heap.objs.size (bindL (envOfC qual scope s.heap.objs.size f cd).kindOf (ps.zip us) fun _ => none) (cellsFrom (s.heap.objs.size + 1) scope.names []) (bindC (envOfC qual scope s.heap.objs.size f cd).kindOf (ps.zip us) fun _ => none) s1) :
    Inv (cxOf CX P w K mg base N qual scope f cd A outer s H E) [] (start N vs) H s1 := by
  have hpl : ps.length ≤ N.length := by have := congrArg List.length S.pre; rw [List.length_take] at this; omega
  obtain ⟨h1, tk, rfl, hk⟩ := x.done
  have noA : ∀ b : Addr, b ∉ (cxOf CX P w K mg base N qual scope f cd A outer s H E).ex := fun b z => absurd (show b ∈ ([] : List Addr) from z) (by simp)
  refine ⟨⟨e0.mod, S.kind, rfl, rfl, Nat.le_refl _, fun y z c h1 h2 => ?_, fun y hy => ?_, fun y c _ h => ?_, fun _ => hd, Around.frames_deeper e0.frames, .inr ⟨rfl, rfl⟩, fun b z => absurd z (noA b), e0.bs, e0.bsz, fun b _ _ => noA b, fun b z => absurd z (noA b), e0.funs, e0.frf⟩,
    rfl, e0.bare, Un.kept hk, ⟨_, x.toInCall.ns, fun i y v h1 h2 h3 => ?_⟩, fun y c h => ⟨_, x.cell y c h⟩, e0.hok.fresh (Nat.le_refl _), fun y c h => ?_, fun p hp => absurd (show p ∈ ([] : List (Addr × Obj)) from hp) (by simp), e0.hok.kept hk, ?_⟩
  · exact name_of_addr x.apart (PySem.mem_of_lookup h1) (PySem.mem_of_lookup h2)
  · have hy : scope.names.lookup y = some .cell ∨ scope.names.lookup y = some .free := hy
    rcases hy with hy | hy
    · exact cell_has hy
    · exact absurd rfl (S.nofree _ (PySem.mem_of_lookup hy))
  · exact Nat.le_of_lt (x.above y c (PySem.mem_of_lookup h))
  · have hi : i < vs.length := by
      unfold start at h2
      by_cases hi : i < vs.length
      · exact hi
      · rw [List.getElem?_append_right (by simpa using hi)] at h2
        rw [List.getElem?_replicate] at h2
        split at h2 <;> cases h2
    have ha : vs[i]? = some v := by
      unfold start at h2
      rw [List.getElem?_append_left (by simpa using hi), List.getElem?_map] at h2
      cases e : vs[i]? with
      | none => rw [e] at h2; cases h2
      | some a => rw [e] at h2; cases h2; rfl
    obtain ⟨u, hu, rv⟩ := r.get ha
    have hp : ps[i]? = some y := by
      rw [← S.pre, List.getElem?_take_of_lt (by omega)]; exact h1
    have ndP : ps.Nodup := by rw [← S.pre]; exact S.nd.sublist (List.take_sublist _ _)
    refine ⟨u, rv, ?_⟩
    rcases S.par y (List.mem_of_getElem? hp) with k | k
    · exact .inl ⟨k, bindL_get ndP hp hu k⟩
    · obtain ⟨c, e⟩ := cell_has (n := s.heap.objs.size + 1) k
      refine .inr ⟨.inl k, c, e, ?_⟩
      have q := x.cell y c e
      rw [bindC_get ndP hp hu (by show scope.names.lookup y ≠ _; rw [k]; decide)] at q
      exact q
  · exact e0.hok.fresh (Nat.le_of_lt (x.above y c (PySem.mem_of_lookup h)))
  · unfold start
    show _ = N.length
    rw [List.length_append, List.length_map, List.length_replicate]
    omega

theorem fn_of {CX : CXT} {P : Program} {w : World} {K : PySem.W.Frag} {mg : Str → Option Value} {base : Heap} {k : Nat} {f : Addr} {name qual : Str} {params : Arguments} {body : List Stmt} {scope : Scope} {dV kV doc pm cdv ct oc : Value} {an od : Option Addr}
    {osl : Array (Option Value)} {N ps : List Str} {sp : Sp} (lk : K.lookup f = some ⟨oc, od, .func (PySem.W.fnOf name qual params body scope dV kV doc pm an cdv ct), osl⟩) (hcd : PySem.W.codeIn K cdv qual = true) (S : FnScope N ps scope)
    (len : ∀ vs H Q E, sp vs H Q E → vs.length = ps.length)
    (hbody : ∀ (A : Around) (outer : List Env) (s : Shared) (H : Hp) (vs : List V) (Q : VK) (E : XK), Room k (A.deeper (envOfC qual scope s.heap.objs.size f cdv)) → sp vs H Q E →
      ∃ t, PSs (cxOf CX P w K mg base N qual scope f cdv A outer s H E) body t ∧ t { nx := fun _ H' => Q .non H', rt := Q } (start N vs) H) :
    FnOk P w K mg base CX (k + 1) f (PySem.W.fnOf name qual params body scope dV kV doc pm an cdv ct) ps sp := by
  refine ⟨len, fun A outer s H args us vs Q E hr e0 hb r hsp => ?_⟩
  have hl := len _ _ _ _ hsp
  have KX : K.In s.heap := e0.mod.kin.keeps fun b o e => (e0.bs b o e).1
  have lim : s.heap.NoLimit := e0.mod.nolimit.keeps fun b o e => (e0.bs b o e).1
  have hkind : ∀ y ∈ ps.zip us, scope.names.lookup y.1 = some .local ∨ (scope.names.lookup y.1 = some .cell ∧ ((cellsFrom (s.heap.objs.size + 1) scope.names []).lookup y.1).isSome = true) := fun ⟨n, v⟩ hy => by
    rcases S.par n (List.of_mem_zip hy).1 with q | q
    · exact .inl q
    · exact .inr ⟨q, PySem.W.cellsFrom_some _ _ _ (.inl q)⟩
  refine codeAny_call_function hr.depth (KX _ _ lk) rfl S.co S.gen rfl (PySem.W.codeRec_of KX hcd) (hb _ _ _ _ ?_)
  refine wpAny_newFunctionEnv_cells S.kind hkind fun env he s1 x => ?_
  subst he
  refine ⟨lim.keeps x.toInCall.keep, codeAny_func ?_⟩
  obtain ⟨t, ht, hq⟩ := hbody A outer s H vs Q E (hr.deeper _) hsp
  have I : Inv (cxOf CX P w K mg base N qual scope f cdv A outer s H E) [] (start N vs) H s1 := inv_start S hr.hd e0 hl r x
  refine wpAny_mono (ht [] s1 (start N vs) H _ I hq) (fun fl s' hs => ?_) fun e s' hs => hs
  have fin : ∀ {σ' : St} {H' : Hp} {v : V} {u : Value}, Inv (cxOf CX P w K mg base N qual scope f cdv A outer s H E) [] σ' H' s' → RelV v u → Q v H' → CE outer P w H s Q u s' :=
    fun {σ' H' v u} J rv q => ⟨v, H', J.os, J.bare, J.base, J.hok, rv, q⟩
  cases fl with
  | ret u =>
    obtain ⟨v, σ', H', J, rv, q⟩ := hs
    exact fin J rv q
  | next =>
    obtain ⟨σ', H', J, q⟩ := hs
    exact fin (v := V.non) (u := Value.none) J rfl q
  | brk =>
    obtain ⟨_, _, _, q⟩ := hs
    exact False.elim q
  | cont =>
    obtain ⟨_, _, _, q⟩ := hs
    exact False.elim q
end L2

namespace L2
open PySem PySem.Spec PyProof.Rows
section
variable {X : Cx} {x : Str} {p pos : Pos} {e : Expr} {es : List Expr} {t : TA} {id T : String} {r : List V → Hp → VK → Prop}

def tCB (r : List V → Hp → VK → Prop) (t : TA) : TE := fun σ H Q => t σ H fun vs H1 => r vs H1 Q
theorem pe_callB (hc : CallR X (.builtin id) r) (hg : Gl X x) (hm : X.mg x = none) (hv : bootBuiltins x = some (.builtin id)) (ha : PA X (e :: es) t) (hn : x ≠ "__name__" := by decide) (hdb : (x == ("__debug__" : Str)) = false := by decide)
    (he : starEach (e :: es) X.env = (false, eval e X.env) :: starEach es X.env := by rfl) (hpl : (backTo pos (starEach es X.env)).any (·.1) = false := by rfl) : PE X (.Call (.Name x p) (e :: es) [] pos) (tCB r t) := by
  intro pins s σ H Q I h
  refine wpAny_Call_Name_kw (ld_blt I hg hm hv ?_ hn hdb)
  exact PyProof.Rows.callWith_builtin1 (thn (ha pos pins s σ H _ I h) fun us s1 ⟨vs, H1, I1, r1, q1⟩ => hc pins s1 σ H1 vs us Q I1 r1 q1) he hpl
theorem pe_callTy (hc : CallR X (.type T) r) (hg : Gl X x) (hm : X.mg x = none) (hv : bootBuiltins x = some (.type T)) (ha : PA X (e :: es) t) (hn : x ≠ "__name__" := by decide) (hdb : (x == ("__debug__" : Str)) = false := by decide)
    (he : starEach (e :: es) X.env = (false, eval e X.env) :: starEach es X.env := by rfl) (hpl : (backTo pos (starEach es X.env)).any (·.1) = false := by rfl) : PE X (.Call (.Name x p) (e :: es) [] pos) (tCB r t) := by
  intro pins s σ H Q I h
  refine wpAny_Call_Name_kw (ld_blt I hg hm hv ?_ hn hdb)
  exact PyProof.Rows.callWith_type1 (thn (ha pos pins s σ H _ I h) fun us s1 ⟨vs, H1, I1, r1, q1⟩ => hc pins s1 σ H1 vs us Q I1 r1 q1) he hpl
end
end L2

namespace HT
open PySem PyProof.Rows

section
open PySem.SeqAt
open PySem.AutoSeq1 (wpAny_loadPart')
open PySem.MeetsSeq PySem.MeetsSeq2 PySem.MeetsSeq3

end

section
variable {prog : Program} {w : World} {A : Around} {E : Value → Shared → Prop} {s : Shared}

theorem cat_tup {t b : Addr} {vs ws : List Value} {Q : Value → Shared → Prop} (ht : IsTup s.heap t vs.toArray) (hb : IsTup s.heap b ws.toArray) (hv : vs ≠ [])
    (h1 : ws = [] → Q (.ref t) s) (h2 : ws ≠ [] → Q (.ref s.heap.objs.size) { s with heap := s.heap.push { cls := .type "tuple", data := .seq (vs ++ ws).toArray } })
    (hsz : vs.length + ws.length ≤ sizeLine) : wpAny (model prog w) A (binaryOp .Add (.ref t) (.ref b)) Q E s := by
  obtain ⟨⟨cls, dd, data, sl⟩, ho, hc, n, hd⟩ := id ht
  obtain ⟨⟨cls2, dd2, data2, sl2⟩, ho2, hc2, n2, hd2⟩ := id hb
  simp only at hc hd hc2 hd2
  subst hc hd hc2 hd2
  have e : vs.toArray ++ ws.toArray = (vs ++ ws).toArray := by simp
  by_cases hw : ws = []
  · exact concat_meets ⟨_, ho, rfl⟩ ⟨_, ho2, rfl⟩ noFill_tuple_add seq_tuple_add PySem.F.slot_tuple_add PySem.F.entry_tuple_add (PySem.F.args_tuple_add_2 _ _)
      (tuple_addW1 t b vs.toArray ws.toArray n n2 dd dd2 sl sl2 (by simpa using hv) (by simp [hw])) ⟨ho, ho2, h1 hw⟩
  · refine concat_meets ⟨_, ho, rfl⟩ ⟨_, ho2, rfl⟩ noFill_tuple_add seq_tuple_add PySem.F.slot_tuple_add PySem.F.entry_tuple_add (PySem.F.args_tuple_add_2 _ _)
      (tuple_addW2 t b vs.toArray ws.toArray n n2 dd dd2 sl sl2 (by simpa using hv) (by simpa using hw) (by rw [List.size_toArray, List.size_toArray]; exact hsz)) ⟨ho, ho2, ?_⟩
    rw [e]
    exact h2 hw

def sIx (n d : Nat) : Option Int → Nat
  | none => d
  | some v => if v < 0 then (v + (n : Int)).toNat else min v.toNat n
theorem sIx_none (n d : Nat) : sIx n d none = d := rfl
theorem sIx_nat (n d k : Nat) : sIx n d (some (k : Int)) = min k n := by
  show (if (k : Int) < 0 then ((k : Int) + (n : Int)).toNat else min (k : Int).toNat n) = min k n
  rw [if_neg (by omega), Int.toNat_natCast]
end
end HT

namespace L2
open PySem PySem.Spec PyProof.Rows

abbrev TO := St → Hp → (Option Int → Hp → Prop) → Prop
def PO (X : Cx) (e : Option Expr) (t : TO) : Prop :=
  ∀ (pins : List (Addr × Obj)) (s : Shared) (σ : St) (H : Hp) (Q : Option Int → Hp → Prop), Inv X pins σ H s → t σ H Q →
    wpAny (model X.prog X.w) X.A (evalPart e X.env) (fun u s' => ∃ o H', Inv X pins σ H' s' ∧ IsPart u o ∧ Q o H') X.xe s
def tNoPart : TO := fun _ H Q => Q none H
def tPart (t : TE) : TO := fun σ H Q => t σ H fun x H1 => ∃ i, x = .int i ∧ Q (some i) H1

section
variable {X : Cx} {e : Expr} {te : TE} {lo hi : Option Expr} {tl th : TO} {pos p2 : Pos}

theorem po_none : PO X none tNoPart := by
  intro pins s σ H Q I h
  rw [evalPart_none]
  exact wpAny_pure ⟨none, H, I, .none, h⟩
theorem po_some (h : PE X e te) : PO X (some e) (tPart te) := by
  intro pins s σ H Q I hw
  rw [evalPart_some]
  refine thn (h pins s σ H _ I hw) fun u s1 ⟨x, H1, I1, r1, q1⟩ => ?_
  obtain ⟨i, rfl, q⟩ := q1
  obtain ⟨t, rfl⟩ := r1
  exact ⟨some i, H1, I1, .int i t, q⟩

def SlR (X : Cx) (r : V → Option Int → Option Int → Hp → VK → Prop) : Prop :=
  ∀ (pins : List (Addr × Obj)) (s : Shared) (σ : St) (H : Hp) (x : V) (v vl vu : Value) (lo hi : Option Int) (sl : Addr) (Q : VK), Inv X pins σ H s → RelV x v → s.heap.IsSliceOf sl vl vu .none → IsPart vl lo → IsPart vu hi → r x lo hi H Q →
    ∃ T id, typeLookup (.type T) "__getitem__" = pure (some (.builtin id)) ∧ s.TypeIs v T ∧ wpAny (model X.prog X.w) X.A (getItem v (.ref sl)) (EP X pins σ Q) X.xe s
def tSl (r : V → Option Int → Option Int → Hp → VK → Prop) (te : TE) (tl th : TO) : TE := fun σ H Q => te σ H fun x H1 => tl σ H1 fun l H2 => th σ H2 fun u H3 => r x l u H3 Q
theorem pe_slice {r : V → Option Int → Option Int → Hp → VK → Prop} (hr : SlR X r) (he : PE X e te) (hl : PO X lo tl) (hu : PO X hi th) : PE X (.Subscript e (.Slice lo hi none p2) pos) (tSl r te tl th) := by
  intro pins s σ H Q I h
  refine Subscript_ (thn (he pins s σ H _ I h) fun v s1 ⟨x, H1, I1, r1, q1⟩ => ?_)
  refine wpAny_Slice (thn (hl pins s1 σ H1 _ I1 q1) fun vl s2 ⟨l, H2, I2, pl, q2⟩ => thn (hu pins s2 σ H2 _ I2 q2) fun vu s3 ⟨u, H3, I3, pu, q3⟩ => ?_)
  rw [evalPart_none]
  refine wpAny_pure ?_
  have I4 : Inv X pins σ H3 { s3 with heap := s3.heap.push { cls := .type "slice", data := .fields #[vl, vu, .none] } } := I3.kept (t' := s3.toks) fun b ob q => Heap.get?_push_of_some _ q
  obtain ⟨T, id, hT, ht, hg⟩ := hr pins { s3 with heap := s3.heap.push { cls := .type "slice", data := .fields #[vl, vu, .none] } } σ H3 x v vl vu l u s3.heap.objs.size Q I4 r1 (Heap.IsSliceOf.new ..) pl pu q3
  show wpAny (model X.prog X.w) X.A (subscriptTail e (.Slice lo hi none p2) v (.ref s3.heap.objs.size)) (EP X pins σ Q) X.xe { s3 with heap := s3.heap.push { cls := .type "slice", data := .fields #[vl, vu, .none] } }
  exact tail_any (ops := [.ref s3.heap.objs.size, v]) ht hT hg (by with_unfolding_all rfl)

def cutV (xs : List V) (lo hi : Option Int) : List V := (xs.drop (HT.sIx xs.length 0 lo)).take (HT.sIx xs.length xs.length hi - HT.sIx xs.length 0 lo)
theorem cutV_length (xs : List V) (lo hi : Option Int) : (cutV xs lo hi).length ≤ xs.length := by
  unfold cutV
  rw [List.length_take, List.length_drop]
  omega
def rCatT (K : PySem.W.Frag) : R2 := fun x y H Q => ∃ a b xs ys, x = .ref a ∧ y = .ref b ∧ SqT K H a xs ∧ SqT K H b ys ∧ xs ≠ [] ∧ xs.length + ys.length ≤ sizeLine ∧
  (ys = [] → Q (.ref a) H) ∧ (ys ≠ [] → ∀ p, H p = none → Q (.ref p) (upd H p (.tup (xs ++ ys))))
theorem Vals.nil_iff {xs : List V} {us : List Value} (r : Vals xs us) : us = [] ↔ xs = [] := by
  cases r with
  | nil => simp
  | cons _ _ => simp
theorem op_catT : OpR X (binaryOp .Add) (rCatT X.K) := by
  intro pins s σ H x y v u Q I rx ry h
  obtain ⟨a, b, xs, ys, rfl, rfl, ha, hb, hx, hz, q1, q2⟩ := h
  cases rx
  cases ry
  obtain ⟨its, r1, p1, _⟩ := I.tuple ha
  obtain ⟨its2, r2, p2, _⟩ := I.tuple hb
  refine HT.cat_tup p1 p2 (fun z => hx (r1.nil_iff.mp z)) (fun z => ⟨.ref a, H, I, rfl, q1 (r2.nil_iff.mp z)⟩) (fun z => ?_) (by rw [← r1.length, ← r2.length]; exact hz)
  refine ⟨.ref s.heap.objs.size, _, I.laid (t' := s.toks) (o := .tup (xs ++ ys)) (fun b ob q => Heap.get?_push_of_some _ q) (Nat.le_refl _) ?_, rfl, q2 (fun w => z (r2.nil_iff.mpr w)) _ (I.hok.fresh (Nat.le_refl _))⟩
  exact ⟨by rw [List.length_append]; exact hz, _, r1.append r2, IsTup.new _ _⟩
end
end L2

namespace L2
open PySem PySem.Spec PyProof.Rows

def ixN (n : Nat) (i : Int) : Option Nat := if 0 ≤ i then (if i < n then some i.toNat else none) else if -(n : Int) ≤ i then some (i + n).toNat else none
def atI {α : Type} (xs : List α) (i : Int) : Option α := (ixN xs.length i).bind fun j => xs[j]?
theorem ixN_seq {n : Nat} {i : Int} {j : Nat} (h : ixN n i = some j) : seqIndex? i n = some j ∧ j < n ∧ -(n : Int) ≤ i ∧ i < n := by
  unfold ixN at h
  by_cases h0 : 0 ≤ i
  · rw [if_pos h0] at h
    by_cases h1 : i < n
    · rw [if_pos h1] at h
      have e : i.toNat = j := Option.some.inj h
      exact ⟨by rw [seqIndex_of h0 h1, e], by omega, by omega, h1⟩
    · rw [if_neg h1] at h; cases h
  · rw [if_neg h0] at h
    by_cases h1 : -(n : Int) ≤ i
    · rw [if_pos h1] at h
      have e : (i + n).toNat = j := Option.some.inj h
      exact ⟨by rw [seqIndex_neg (by omega) h1, e], by omega, h1, by omega⟩
    · rw [if_neg h1] at h; cases h
theorem atI_get {α : Type} {xs : List α} {i : Int} {v : α} (h : atI xs i = some v) : ∃ j, seqIndex? i xs.length = some j ∧ xs[j]? = some v ∧ j < xs.length ∧ -(xs.length : Int) ≤ i ∧ i < xs.length := by
  unfold atI at h
  cases e : ixN xs.length i with
  | none => rw [e] at h; cases h
  | some j =>
    rw [e] at h
    obtain ⟨h1, h2, h3, h4⟩ := ixN_seq e
    exact ⟨j, h1, h, h2, h3, h4⟩
theorem atI_nat {α : Type} {xs : List α} {j : Nat} {v : α} (h : xs[j]? = some v) : atI xs (j : Int) = some v := by
  have hj : j < xs.length := (List.getElem?_eq_some_iff.mp h).1
  have e : ixN xs.length (j : Int) = some j := by
    unfold ixN
    rw [if_pos (by omega), if_pos (by omega)]; simp
  unfold atI; rw [e]; exact h
def PlainIx (b : Expr) : Prop := ∀ o i, subscripted b false o i = operate [o, i] (getItem o i)
def IxR (X : Cx) (r : R2) : Prop :=
  ∀ (value slice : Expr) (pins : List (Addr × Obj)) (s : Shared) (σ : St) (H : Hp) (x y : V) (v u : Value) (Q : VK), Inv X pins σ H s → RelV x v → RelV y u → r x y H Q →
    subscripted slice false v u = operate [v, u] (getItem v u) → wpAny (model X.prog X.w) X.A (subscriptTail value slice v u) (EP X pins σ Q) X.xe s
def MtR (X : Cx) (id : String) (r : V → List V → Hp → VK → Prop) : Prop :=
  ∀ (pins : List (Addr × Obj)) (s : Shared) (σ : St) (H : Hp) (x : V) (xs : List V) (v : Value) (us : List Value) (Q : VK), Inv X pins σ H s → RelV x v → Vals xs us → r x xs H Q →
    wpAny (model X.prog X.w) X.A (call (.builtin id) (v :: us)) (EP X pins σ Q) X.xe s
section
variable {X : Cx} {a b : Expr} {ta tb : TE} {pos : Pos}
theorem pe_ix {r : R2} (hr : IxR X r) (ha : PE X a ta) (hb : PE X b tb) (hs : PlainIx b) : PE X (.Subscript a b pos) (tOp r ta tb) := by
  intro pins s σ H Q I h
  exact Subscript_ (binT ha hb I h fun v u s2 x y H2 I2 rx ry q => hr a b pins s2 σ H2 x y v u Q I2 rx ry q (hs _ _))

def rIxL (K : PySem.W.Frag) : R2 := fun x y H Q => ∃ p xs i v, x = .ref p ∧ y = .int i ∧ SqL K H p xs ∧ atI xs i = some v ∧ Q v H
def rIxT (K : PySem.W.Frag) : R2 := fun x y H Q => ∃ p xs i v, x = .ref p ∧ y = .int i ∧ SqT K H p xs ∧ atI xs i = some v ∧ Q v H
theorem ix_list : IxR X (rIxL X.K) := by
  intro value slice pins s σ H x y v u Q I rx ry h hs
  obtain ⟨p, xs, i, z, rfl, rfl, hq, he, q⟩ := h
  cases rx
  obtain ⟨t, rfl⟩ := ry
  obtain ⟨its, r, pl, hz⟩ := I.list hq
  obtain ⟨j, h1, h2, h3, h4, h5⟩ := atI_get he
  obtain ⟨w, ew, rw'⟩ := r.get h2
  have hl := r.length
  have hn := line63
  have fin : EP X pins σ Q w s := ⟨z, H, I, rw', q⟩
  by_cases h0 : 0 ≤ i
  · have hj : i.toNat = j := by
      rw [seqIndex_of h0 h5] at h1
      exact Option.some.inj h1
    exact item_listR pl.isList h0 (by omega) (by rw [hj]; simpa using ew) fin hs
  · have hj : (i + (its.toArray.size : Int)).toNat = j := by
      rw [seqIndex_neg (by omega) h4] at h1
      rw [List.size_toArray, ← hl]
      exact Option.some.inj h1
    exact subscriptTail_builtinR (x := w) pl.isList.typeIs slot_list_getitem.lookup
      (wpAny_getItem_list_neg (Q := fun r s' => r = w ∧ EP X pins σ Q r s') pl.isList (by omega) (by rw [List.size_toArray] <;> omega) (by omega) (by rw [hj]; simpa using ew) ⟨rfl, fin⟩) hs
theorem ix_tup : IxR X (rIxT X.K) := by
  intro value slice pins s σ H x y v u Q I rx ry h hs
  obtain ⟨p, xs, i, z, rfl, rfl, hq, he, q⟩ := h
  cases rx
  obtain ⟨t, rfl⟩ := ry
  obtain ⟨its, r, pl, hz⟩ := I.tuple hq
  obtain ⟨j, h1, h2, h3, h4, h5⟩ := atI_get he
  obtain ⟨w, ew, rw'⟩ := r.get h2
  have hl := r.length
  have hn := line63
  have fin : EP X pins σ Q w s := ⟨z, H, I, rw', q⟩
  exact subscriptTail_builtinR (x := w) pl.typeIs slot_tuple_getitem.lookup
    (getItem_tuple (j := j) (Q := fun r s' => r = w ∧ EP X pins σ Q r s') pl (by omega) (by omega) (by rw [List.size_toArray, ← hl]; exact h1) (by simpa using ew) ⟨rfl, fin⟩) hs
theorem mapSeq_set (its : List Value) (n j : Nat) (u : Value) : Obj.mapSeq (·.setIfInBounds j u) { cls := .type "list", data := .seq its.toArray n } = { cls := .type "list", data := .seq (its.set j u).toArray n } := by
  simp [Obj.mapSeq]
theorem Inv.lst {pins : List (Addr × Obj)} {σ : St} {H : Hp} {s : Shared} {p : Addr} {xs : List V} (I : Inv X pins σ H s) (h : H p = some (.lst xs)) :
    ∃ (its : List Value) (n : Nat), Vals xs its ∧ s.heap.get? p = some { cls := .type "list", data := .seq its.toArray n } ∧ xs.length ≤ sizeLine := by
  obtain ⟨z, its, n, r, e⟩ := I.hok p _ h
  exact ⟨its, n, r, e, z⟩
theorem Inv.lstUpd {pins : List (Addr × Obj)} {σ : St} {H : Hp} {s : Shared} {p : Addr} {xs ys : List V} {its its' : List Value} {n n' : Nat} {f : Obj → Obj} (I : Inv X pins σ H s) (h : H p = some (.lst xs))
    (ho : s.heap.get? p = some { cls := .type "list", data := .seq its.toArray n }) (hf : f { cls := .type "list", data := .seq its.toArray n } = { cls := .type "list", data := .seq its'.toArray n' }) (r : Vals ys its') (hz : ys.length ≤ sizeLine) (t : Nat) :
    Inv X pins σ (upd H p (.lst ys)) { s with heap := s.heap.update p f, toks := t } := by
  have e : (s.heap.update p f).get? p = some { cls := .type "list", data := .seq its'.toArray n' } := by
    rw [Heap.get?_update_self f ho (by rw [hf] <;> rfl), hf]
  refine I.write (x := p) (e := p) (by rw [h]; trivial) (.inl rfl) (fun b u hb q => (Heap.get?_update_other _ _ (Ne.symm hb)).trans q) ⟨_, e⟩ ?_
  exact ⟨hz, its', n', r, e⟩
def rSetL : V → V → V → Hp → (Hp → Prop) → Prop := fun o i v H Q => ∃ p xs k j, o = .ref p ∧ i = .int k ∧ H p = some (.lst xs) ∧ ixN xs.length k = some j ∧ Q (upd H p (.lst (xs.set j v)))
theorem set_list : PSet X rSetL := by
  intro pins s σ H o i v ov iv u Q I ro ri rv h
  obtain ⟨p, xs, k, j, rfl, rfl, hp, hj, q⟩ := h
  cases ro
  obtain ⟨t, rfl⟩ := ri
  obtain ⟨its, n, r, ho, hz⟩ := I.lst hp
  obtain ⟨h1, h2, h3, h4⟩ := ixN_seq hj
  have hl := r.length
  have hn := line63
  have I' : Inv X pins σ (upd H p (.lst (xs.set j v))) { s with heap := s.heap.update p (Obj.mapSeq (·.setIfInBounds j u)) } :=
    I.lstUpd hp ho (mapSeq_set its n j u) (r.set rv j) (by rw [List.length_set]; exact hz) s.toks
  by_cases h0 : 0 ≤ k
  · have hk : k.toNat = j := by
      rw [seqIndex_of h0 h4] at h1
      exact Option.some.inj h1
    exact PySem.W.ki_setAt ho h0 (by omega) (by rw [List.size_toArray, ← hl]; exact h4) (by rw [hk]; exact ⟨_, I', q⟩)
  · have hk : (k + (its.toArray.size : Int)).toNat = j := by
      rw [seqIndex_neg (by omega) h3] at h1
      rw [List.size_toArray, ← hl]
      exact Option.some.inj h1
    exact PySem.W.ki_setBack ho (by omega) (by rw [List.size_toArray, ← hl]; exact h3) (by omega) (by rw [hk]; exact ⟨_, I', q⟩)

theorem slice_bounds (lo hi : Option Int) (n : Nat) : (sliceBounds lo hi none n).1 = ((HT.sIx n 0 lo : Nat) : Int) ∧ (sliceBounds lo hi none n).2.1 = ((HT.sIx n n hi : Nat) : Int) ∧ (sliceBounds lo hi none n).2.2 = 1 := by
  refine ⟨?_, ?_, rfl⟩
  · cases lo with
    | none => simp [sliceBounds, HT.sIx]
    | some i =>
      simp only [sliceBounds, HT.sIx, Option.getD_none, show (1 : Int) > 0 by decide, if_true]
      by_cases h : i < 0
      · simp only [h, if_true] <;> omega
      · simp only [h, if_false] <;> omega
  · cases hi with
    | none => simp [sliceBounds, HT.sIx]
    | some i =>
      simp only [sliceBounds, HT.sIx, Option.getD_none, show (1 : Int) > 0 by decide, if_true]
      by_cases h : i < 0
      · simp only [h, if_true] <;> omega
      · simp only [h, if_false] <;> omega
theorem slicePick_cut (its : List Value) (lo hi : Option Int) : slicePick its.toArray lo hi none = ((its.drop (HT.sIx its.length 0 lo)).take (HT.sIx its.length its.length hi - HT.sIx its.length 0 lo)).toArray := by
  obtain ⟨h1, h2, h3⟩ := slice_bounds lo hi its.toArray.size
  unfold slicePick
  rw [h1, h2, h3]
  simp only [sliceRange_one, pick_run, List.size_toArray] <;> rfl
def rSlL (K : PySem.W.Frag) : V → Option Int → Option Int → Hp → VK → Prop := fun x lo hi H Q => ∃ a xs, x = .ref a ∧ SqL K H a xs ∧ ∀ p, H p = none → Q (.ref p) (upd H p (.lst (cutV xs lo hi)))
theorem sl_list : SlR X (rSlL X.K) := by
  intro pins s σ H x v vl vu lo hi sl Q I rx hs pl pu h
  obtain ⟨a, xs, rfl, hx, q⟩ := h
  cases rx
  obtain ⟨its, r, ht, hz⟩ := I.list hx
  have hlen := r.length
  refine ⟨"list", _, slot_list_getitem.lookup, ht.isList.typeIs, ?_⟩
  refine wpAny_getItem_list_slice ht.isList hs pl pu .none (by simp) ?_ (by rw [List.size_toArray] <;> omega)
  rw [slicePick_cut, ← hlen]
  refine ⟨.ref s.heap.objs.size, _, I.laid (t' := s.toks) (o := .lst (cutV xs lo hi)) (fun b ob q => Heap.get?_push_of_some _ q) (Nat.le_refl _) ?_, rfl, q _ (I.hok.fresh (Nat.le_refl _))⟩
  exact ⟨Nat.le_trans (cutV_length xs lo hi) hz, _, 0, (r.drop (HT.sIx xs.length 0 lo)).take (HT.sIx xs.length xs.length hi - HT.sIx xs.length 0 lo), Heap.get?_push_size _ rfl⟩

def flatV : V → Bool
  | .non => true
  | .bl _ => true
  | .int _ => true
  | .str _ => true
  | _ => false
def eqV : V → V → Bool
  | .non, .non => true
  | .bl a, .bl b => a == b
  | .bl a, .int b => (if a then 1 else 0) == b
  | .int a, .bl b => a == (if b then 1 else 0)
  | .int a, .int b => a == b
  | .str a, .str b => a == b
  | _, _ => false
theorem eqAt_V {A : Around} {s : Shared} {y x : V} {u v : Value} (ry : RelV y u) (rx : RelV x v) (fy : flatV y = true) (fx : flatV x = true) : SeqAt.EqAt A s u v (eqV y x) := by
  cases y with
  | non =>
    cases ry
    cases x with
    | non => cases rx; exact SeqAt.EqAt.same _
    | bl b => cases rx; exact SeqAt.EqAt.none_bool b
    | int b => obtain ⟨t, rfl⟩ := rx; exact SeqAt.EqAt.none_int b t
    | str b => obtain ⟨t, rfl⟩ := rx; exact SeqAt.EqAt.none_str b t
    | _ => exact absurd (show false = true from fx) Bool.false_ne_true
  | bl a =>
    cases ry
    cases x with
    | non => cases rx; exact SeqAt.EqAt.bool_none a
    | bl b => cases rx; exact SeqAt.EqAt.bool_bool a b
    | int b => obtain ⟨t, rfl⟩ := rx; exact SeqAt.EqAt.bool_int a b t
    | str b => obtain ⟨t, rfl⟩ := rx; exact SeqAt.EqAt.bool_str a b t
    | _ => exact absurd (show false = true from fx) Bool.false_ne_true
  | int a =>
    obtain ⟨t', rfl⟩ := ry
    cases x with
    | non => cases rx; exact SeqAt.EqAt.int_none a t'
    | bl b => cases rx; exact SeqAt.EqAt.int_bool a t' b
    | int b => obtain ⟨t, rfl⟩ := rx; exact SeqAt.EqAt.int_int a t' b t
    | str b => obtain ⟨t, rfl⟩ := rx; exact SeqAt.EqAt.int_str a t' b t
    | _ => exact absurd (show false = true from fx) Bool.false_ne_true
  | str a =>
    obtain ⟨t', rfl⟩ := ry
    cases x with
    | non => cases rx; exact SeqAt.EqAt.str_none a t'
    | bl b => cases rx; exact SeqAt.EqAt.str_bool a t' b
    | int b => obtain ⟨t, rfl⟩ := rx; exact SeqAt.EqAt.str_int a t' b t
    | str b => obtain ⟨t, rfl⟩ := rx; exact SeqAt.EqAt.str_str a t' b t
    | _ => exact absurd (show false = true from fx) Bool.false_ne_true
  | _ => exact absurd (show false = true from fy) Bool.false_ne_true
def eqU (x : V) (u : Value) : Bool := match u with
  | .none => eqV .non x
  | .bool b => eqV (.bl b) x
  | .int i _ => eqV (.int i) x
  | .str z _ => eqV (.str z) x
  | _ => false
theorem eqU_of {x y : V} {u : Value} (r : RelV y u) (f : flatV y = true) : eqU x u = eqV y x := by
  cases y with
  | non => cases r; rfl
  | bl b => cases r; rfl
  | int i => obtain ⟨t, rfl⟩ := r; rfl
  | str z => obtain ⟨t, rfl⟩ := r; rfl
  | _ => exact absurd (show false = true from f) Bool.false_ne_true
theorem any_eqU {x : V} : ∀ {xs : List V} {us : List Value}, Vals xs us → xs.all flatV = true → us.any (eqU x) = xs.any fun y => eqV y x
  | _, _, .nil, _ => rfl
  | y :: xs, u :: us, .cons r t, f => by
    rw [List.all_cons, Bool.and_eq_true] at f
    rw [List.any_cons, List.any_cons, eqU_of r f.1, any_eqU t f.2]
theorem mem_eqAt {A : Around} {s : Shared} {x : V} {v : Value} (rx : RelV x v) (fx : flatV x = true) : ∀ {xs : List V} {us : List Value}, Vals xs us → xs.all flatV = true → ∀ u ∈ us, SeqAt.EqAt A s u v (eqU x u)
  | _, _, .nil, _ => fun u hu => by cases hu
  | y :: xs, u :: us, .cons r t, f => fun u' hu => by
    rw [List.all_cons, Bool.and_eq_true] at f
    rcases List.mem_cons.mp hu with rfl | hu
    · rw [eqU_of r f.1]; exact eqAt_V r rx f.1 fx
    · exact mem_eqAt rx fx t f.2 u' hu
def inV (x : V) (xs : List V) : Bool := xs.any fun y => eqV y x
def rIn (K : PySem.W.Frag) (neg : Bool) : R2 := fun x y H Q => ∃ p xs, y = .ref p ∧ (SqL K H p xs ∨ SqT K H p xs) ∧ flatV x = true ∧ xs.all flatV = true ∧ Q (.bl (if neg then !inV x xs else inV x xs)) H
theorem op_in_seq : OpR X (compareOp .In) (rIn X.K false) := by
  intro pins s σ H x y v u Q I rx ry h
  obtain ⟨p, xs, rfl, hq, fx, fs, q⟩ := h
  cases ry
  rcases hq with hq | hq
  · obtain ⟨its, r, pl, hz⟩ := I.list hq
    refine SeqAt.in_listAt (eqU x) pl.isList (fun w hw => mem_eqAt rx fx r fs w (by simpa using hw)) ⟨.bl _, H, I, rfl, ?_⟩
    rw [show its.toArray.any (eqU x) = its.any (eqU x) by simp, any_eqU r fs]
    exact q
  · obtain ⟨its, r, pl, hz⟩ := I.tuple hq
    refine SeqAt.in_tupleAt (eqU x) pl (fun w hw => mem_eqAt rx fx r fs w (by simpa using hw)) ⟨.bl _, H, I, rfl, ?_⟩
    rw [show its.toArray.any (eqU x) = its.any (eqU x) by simp, any_eqU r fs]
    exact q
theorem op_notIn_seq : OpR X (compareOp .NotIn) (rIn X.K true) := by
  intro pins s σ H x y v u Q I rx ry h
  obtain ⟨p, xs, rfl, hq, fx, fs, q⟩ := h
  cases ry
  rcases hq with hq | hq
  · obtain ⟨its, r, pl, hz⟩ := I.list hq
    refine SeqAt.notIn_listAt (eqU x) pl.isList (fun w hw => mem_eqAt rx fx r fs w (by simpa using hw)) ⟨.bl _, H, I, rfl, ?_⟩
    rw [show its.toArray.any (eqU x) = its.any (eqU x) by simp, any_eqU r fs]
    exact q
  · obtain ⟨its, r, pl, hz⟩ := I.tuple hq
    refine SeqAt.notIn_tupleAt (eqU x) pl (fun w hw => mem_eqAt rx fx r fs w (by simpa using hw)) ⟨.bl _, H, I, rfl, ?_⟩
    rw [show its.toArray.any (eqU x) = its.any (eqU x) by simp, any_eqU r fs]
    exact q
theorem call_list_of : CallR X (.type "list") (fun xs H Q => ∃ p ys, xs = [.ref p] ∧ (SqL X.K H p ys ∨ SqT X.K H p ys) ∧ ∀ l, H l = none → Q (.ref l) (upd H l (.lst ys))) := by
  intro pins s σ H xs us Q I r h
  obtain ⟨p, ys, rfl, hq, q⟩ := h
  obtain ⟨u, rfl, rx⟩ := vals1 r
  cases rx
  have fin : ∀ (its : List Value), Vals ys its → ys.length ≤ sizeLine → ∀ (h' : Heap) (c' : Nat), (∀ b o', s.heap.get? b = some o' → h'.get? b = some o') →
      h'.get? s.heap.objs.size = some { cls := .type "list", dict := none, data := .seq its.toArray c', slots := #[] } → EP X pins σ Q (.ref s.heap.objs.size) { s with heap := h' } := fun its r' hz h' c' kp e =>
    ⟨.ref s.heap.objs.size, _, I.laid (t' := s.toks) kp (Nat.le_refl _) (show ObjOk X.prog X.w _ h' _ (.lst ys) from ⟨hz, its, c', r', e⟩), rfl, q _ (I.hok.fresh (Nat.le_refl _))⟩
  rcases hq with hq | hq
  · obtain ⟨its, r', pl, hz⟩ := I.list hq
    have hlen := r'.length
    obtain ⟨o, ho, hc, n, hd⟩ := pl.isList
    exact call_list_seq p (.inl rfl) ho hc hd (fun h' c' kp e => fin its r' hz h' c' kp e) (by simp only [List.size_toArray] <;> omega)
  · obtain ⟨its, r', pl, hz⟩ := I.tuple hq
    have hlen := r'.length
    obtain ⟨o, ho, hc, n, hd⟩ := pl
    exact call_list_seq p (.inr rfl) ho hc hd (fun h' c' kp e => fin its r' hz h' c' kp e) (by simp only [List.size_toArray] <;> omega)
theorem call_tuple_of : CallR X (.type "tuple") (fun xs H Q => ∃ p ys, xs = [.ref p] ∧ ((SqL X.K H p ys ∧ ∀ l, H l = none → Q (.ref l) (upd H l (.tup ys))) ∨ (SqT X.K H p ys ∧ Q (.ref p) H))) := by
  intro pins s σ H xs us Q I r h
  obtain ⟨p, ys, rfl, h⟩ := h
  obtain ⟨u, rfl, rx⟩ := vals1 r
  cases rx
  rcases h with ⟨hq, q⟩ | ⟨hq, q⟩
  · obtain ⟨its, r', pl, hz⟩ := I.list hq
    have hlen := r'.length
    refine call_tuple_list pl.isList (fun h' kp => ?_) (by simp only [List.size_toArray] <;> omega)
    have I1 : Inv X pins σ H { s with heap := h' } := I.kept (t' := s.toks) kp
    have I2 : Inv X pins σ (upd H h'.objs.size (.tup ys)) { s with heap := h'.push { cls := .type "tuple", data := .seq its.toArray } } :=
      I1.laid (t' := s.toks) (fun b o e => Heap.get?_push_of_some _ e) (Nat.le_refl _) (show ObjOk X.prog X.w _ _ _ (.tup ys) from ⟨hz, its, r', IsTup.new _ _⟩)
    exact ⟨.ref h'.objs.size, _, I2, rfl, q _ (I1.hok.fresh (Nat.le_refl _))⟩
  · obtain ⟨its, r', pl, hz⟩ := I.tuple hq
    exact call_tuple_same pl ⟨.ref p, H, I, rfl, q⟩

def tyV (K : PySem.W.Frag) (T : String) (x : V) (H : Hp) : Prop := match x with
  | .str _ => T = "str"
  | .int _ => T = "int"
  | .ref p => (T = "list" ∧ ∃ xs, SqL K H p xs) ∨ (T = "tuple" ∧ ∃ o, K.lookup p = some o ∧ o.cls = .type "tuple" ∧ o.dict = none) ∨
      (T = "dict" ∧ ((∃ kvs, H p = some (.dK kvs)) ∨ ∃ kvs, H p = some (.dT kvs))) ∨ (T = "set" ∧ ∃ S n, H p = some (.set S n))
  | _ => False
theorem tyV_is {pins : List (Addr × Obj)} {σ : St} {H : Hp} {s : Shared} {T : String} {x : V} {v : Value} (I : Inv X pins σ H s) (r : RelV x v) (ty : tyV X.K T x H) :
    s.TypeIs v T ∧ ∀ a, v = .ref a → ∃ ob, s.heap.get? a = some ob ∧ ob.dict = none := by
  cases x with
  | str z =>
    obtain ⟨t, rfl⟩ := r
    cases (show T = "str" from ty)
    exact ⟨typeIs_str s z t, fun _ e => nomatch e⟩
  | int i =>
    obtain ⟨t, rfl⟩ := r
    cases (show T = "int" from ty)
    exact ⟨typeIs_int s i t, fun _ e => nomatch e⟩
  | ref p =>
    cases r
    rcases ty with ⟨rfl, xs, hq⟩ | ⟨rfl, o, hk, hc, hd⟩ | ⟨rfl, hk⟩ | ⟨rfl, S, n, hk⟩
    · obtain ⟨its, _, pl, _⟩ := I.list hq
      refine ⟨pl.isList.typeIs, fun a e => ?_⟩
      cases e
      obtain ⟨o, n, e, c, hd, _⟩ := pl
      exact ⟨o, e, hd⟩
    · refine ⟨⟨o, I.kIn p o hk, hc⟩, fun a e => ?_⟩
      cases e
      exact ⟨o, I.kIn _ o hk, hd⟩
    · have z : ∃ o, s.heap.get? p = some o ∧ o.ExactDict := by
        rcases hk with ⟨kvs, hk⟩ | ⟨kvs, hk⟩
        · obtain ⟨_, _, _, _, o, _, _, e, ex, _⟩ := I.hok p _ hk
          exact ⟨o, e, ex⟩
        · obtain ⟨_, _, _, _, o, _, _, e, ex, _⟩ := I.hok p _ hk
          exact ⟨o, e, ex⟩
      obtain ⟨o, e, ex⟩ := z
      refine ⟨⟨o, e, ex.1⟩, fun a e2 => ?_⟩
      cases e2
      exact ⟨o, e, ex.2.1⟩
    · obtain ⟨o, _, _, _, e, ex, _⟩ := I.hok p _ hk
      refine ⟨⟨o, e, ex.1⟩, fun a e2 => ?_⟩
      cases e2
      exact ⟨o, e, ex.2.1⟩
  | _ => exact False.elim ty
def tBM0 (K : PySem.W.Frag) (T : String) (r : V → List V → Hp → VK → Prop) (to : TE) : TE := fun σ H Q => to σ H fun x H1 => tyV K T x H1 ∧ r x [] H1 Q
def tBM (K : PySem.W.Frag) (T : String) (r : V → List V → Hp → VK → Prop) (to : TE) (t : TA) : TE := fun σ H Q => to σ H fun x H1 => tyV K T x H1 ∧ t σ H1 fun xs H2 => r x xs H2 Q
variable {o e : Expr} {es : List Expr} {to : TE} {t : TA} {name : Str} {apos cpos : Pos} {T id : String} {r : V → List V → Hp → VK → Prop}
theorem pe_bm0 (pa : PlainAttrs T) (slot : Slot T name id) (hty : typeOf (.builtin id) = pure (.type "method_descriptor")) (hm : MtR X id r) (ho : PE X o to)
    (hbase : attributeBase o name X.env (eval o X.env) = eval o X.env := by rfl) (hline : (apos.endLine == cpos.line) = true := by rfl) : PE X (.Call (.Attribute o name apos) [] [] cpos) (tBM0 X.K T r to) := by
  intro pins s σ H Q I h
  refine wpAny_Call_method0_late hbase hline (thn (ho pins s σ H _ I h) fun v s1 ⟨x, H1, I1, r1, ty, q1⟩ => ?_)
  obtain ⟨h1, h2⟩ := tyV_is I1 r1 ty
  exact ⟨T, id, pa, slot, hty, h1, h2, Calls.callWith_builtin rfl (PySem.evalArgs_none (hm pins s1 σ H1 x [] v [] Q I1 r1 .nil q1))⟩
theorem pe_bm (pa : PlainAttrs T) (slot : Slot T name id) (hty : typeOf (.builtin id) = pure (.type "method_descriptor")) (hm : MtR X id r) (ho : PE X o to) (ha : PA X (e :: es) t)
    (hbase : attributeBase o name X.env (eval o X.env) = eval o X.env := by rfl)
    (hfew : ((backTo cpos (starEach (e :: es) X.env)).all (fun x => !x.1) && (backToKw cpos (keywordEach [] X.env)).all (fun x => x.1.isSome)
      && decide ((e :: es).length + ([] : List Keyword).length + (if ([] : List Keyword).isEmpty then 0 else 1) < 30)) = true := by rfl)
    (hline : (apos.endLine == cpos.line) = true := by rfl) (hs : starEach (e :: es) X.env = (false, eval e X.env) :: starEach es X.env := by rfl) (hplain : (backTo cpos (starEach es X.env)).any (·.1) = false := by rfl) :
    PE X (.Call (.Attribute o name apos) (e :: es) [] cpos) (tBM X.K T r to t) := by
  intro pins s σ H Q I h
  refine wpAny_Call_method_late hbase hfew hline rfl (thn (ho pins s σ H _ I h) fun v s1 ⟨x, H1, I1, r1, ty, q1⟩ => ?_)
  obtain ⟨h1, h2⟩ := tyV_is I1 r1 ty
  refine ⟨T, id, pa, slot, hty, h1, h2, ?_⟩
  have hA := ha cpos pins s1 σ H1 _ I1 q1
  rw [hs] at hA ⊢
  refine Calls.callWith_builtin (by show (false || (backTo cpos (starEach es X.env)).any (·.1)) = false; rw [hplain] <;> rfl) (Calls.evalArgs_plain ?_)
  exact thn hA fun us s2 ⟨vs, H2, I2, r2, q2⟩ => hm pins s2 σ H2 x vs v us Q I2 r1 r2 q2
/- xs.append(e), list.index on a module's tuple .. are MtR facts of 06m -/
end
end L2

namespace L2
open PySem PySem.Spec PyProof.Rows

def MtM (X : Cx) (id : String) (r : V → List V → Hp → VK → Prop) : Prop :=
  ∀ (pins : List (Addr × Obj)) (s : Shared) (σ : St) (H : Hp) (x : V) (xs : List V) (v : Value) (us : List Value) (Q : VK), Inv X pins σ H s → RelV x v → Vals xs us → r x xs H Q →
    wpAny (model X.prog X.w) X.A (call (.builtin id) (v :: us)) (EP X pins σ Q) X.xe s

theorem Vals.one : ∀ {x : V} {us : List Value}, Vals [x] us → ∃ u, us = [u] ∧ RelV x u
  | _, _, .cons r .nil => ⟨_, rfl, r⟩
theorem Vals.zero : ∀ {us : List Value}, Vals [] us → us = []
  | _, .nil => rfl
theorem Vals.dropLast {xs : List V} {us : List Value} (h : Vals xs us) : Vals xs.dropLast us.dropLast := by
  induction h with
  | nil => exact .nil
  | cons r t ih =>
    cases t with
    | nil => exact .nil
    | cons q t' => exact .cons r ih
theorem erase_last {α : Type} (l : List α) : l.eraseIdx (l.length - 1) = l.dropLast := by
  induction l with
  | nil => rfl
  | cons a r ih =>
    cases r with
    | nil => rfl
    | cons b r =>
      have e : (a :: b :: r).length - 1 = ((b :: r).length - 1) + 1 := by
        have h1 : (a :: b :: r).length = r.length + 2 := rfl
        have h2 : (b :: r).length = r.length + 1 := rfl
        omega
      rw [e, List.eraseIdx_cons_succ, ih]
      all_goals rfl
section
variable {X : Cx} {pins : List (Addr × Obj)} {σ : St} {H : Hp} {s : Shared} {l b : Addr} {xs ys zs : List V}

theorem Inv.lset {its its' : List Value} {n : Nat} {f : Array Value → Array Value} {t' : Nat} (I : Inv X pins σ H s) (hH : H l = some (.lst xs))
    (e : s.heap.get? l = some { cls := .type "list", data := .seq its.toArray n }) (hf : f its.toArray = its'.toArray) (hv : Vals ys its') (hz : ys.length ≤ sizeLine) :
    Inv X pins σ (upd H l (.lst ys)) { s with heap := s.heap.update l (Obj.mapSeq f), toks := t' } := by
  have q := PySem.IsL.update e f
  rw [hf] at q
  refine I.write (x := l) (e := l) (by rw [hH]; exact trivial) (.inl rfl) (fun b' u hb hu => (Heap.get?_update_other s.heap (Obj.mapSeq f) (Ne.symm hb)).trans hu) ⟨_, q⟩ ?_
  exact ⟨hz, its', _, hv, q⟩
theorem Inv.lnew {its : List Value} {t' : Nat} (I : Inv X pins σ H s) (hv : Vals ys its) (hz : ys.length ≤ sizeLine) :
    Inv X pins σ (upd H s.heap.objs.size (.lst ys)) { s with heap := s.heap.push { cls := .type "list", data := .seq its.toArray }, toks := t' } :=
  I.laid (fun _ _ q => Heap.get?_push_of_some _ q) (Nat.le_refl _) ⟨hz, its, 0, hv, Heap.get?_push_size _ rfl⟩
theorem Inv.fresh (I : Inv X pins σ H s) : H s.heap.objs.size = none := I.hok.fresh (Nat.le_refl _)
theorem Inv.lstM (I : Inv X pins σ H s) (hH : H l = some (.lst xs)) : xs.length ≤ sizeLine ∧ ∃ (its : List Value) (n : Nat), Vals xs its ∧ xs.length = its.length ∧ s.heap.get? l = some { cls := .type "list", data := .seq its.toArray n } := by
  obtain ⟨z, its, n, r, e⟩ := I.hok l _ hH
  exact ⟨z, its, n, r, r.length, e⟩

theorem notLongL {n : Nat} (h : n ≤ sizeLine) : Builtin.List.listTooLong n = false := by
  unfold Builtin.List.listTooLong
  exact decide_eq_false (by omega)
end

section
variable {X : Cx}

def rAppend : V → List V → Hp → VK → Prop := fun x vs H Q => ∃ l xs y, x = .ref l ∧ vs = [y] ∧ H l = some (.lst xs) ∧ xs.length < sizeLine ∧ Q .non (upd H l (.lst (xs ++ [y])))
theorem mt_append : MtM X "list.append" rAppend := by
  intro pins s σ H x vs v us Q I rx rv h
  obtain ⟨l, xs, y, rfl, rfl, hH, hz, q⟩ := h
  cases rx
  obtain ⟨u, rfl, ru⟩ := rv.one
  obtain ⟨z, its, n, r, hl, e⟩ := I.lstM hH
  refine call_meets F.slot_list_append ⟨_, e, rfl⟩ F.entry_list_append (F.args_list_append_2 _ _) (PySem.list_append l its.toArray n u (by rw [List.size_toArray]; omega)) ⟨e, ?_⟩
  refine ⟨.non, _, I.lset (its' := its ++ [u]) hH e (by simp) (r.append (.cons ru .nil)) ?_, rfl, q⟩
  rw [List.length_append, List.length_singleton]
  omega

def rPop : V → List V → Hp → VK → Prop := fun x vs H Q => ∃ l xs y, x = .ref l ∧ vs = [] ∧ H l = some (.lst xs) ∧ xs[xs.length - 1]? = some y ∧ Q y (upd H l (.lst xs.dropLast))
theorem mt_pop : MtM X "list.pop" rPop := by
  intro pins s σ H x vs v us Q I rx rv h
  obtain ⟨l, xs, y, rfl, rfl, hH, hy, q⟩ := h
  cases rx
  have hus := rv.zero
  subst hus
  obtain ⟨z, its, n, r, hl, e⟩ := I.lstM hH
  obtain ⟨u, hu, ru⟩ := r.get hy
  have hy' : its.toArray[its.toArray.size - 1]? = some u := by
    show its.toArray[its.length - 1]? = some u
    rw [← Array.getElem?_toList, ← hl]
    exact hu
  refine call_meets F.slot_list_pop ⟨_, e, rfl⟩ F.entry_list_pop (F.args_list_pop_1 _) (MeetsSeq.list_pop_last l its.toArray n u hy' (by rw [List.size_toArray]; omega)) ⟨e, ?_⟩
  refine ⟨y, _, I.lset (its' := its.dropLast) hH e ?_ r.dropLast ?_, ru, q⟩
  · show its.toArray.eraseIdxIfInBounds (its.toArray.size - 1) = its.dropLast.toArray
    rw [List.size_toArray, List.eraseIdxIfInBounds_toArray, erase_last]
  · rw [List.length_dropLast]
    omega

def rCat : R2 := fun x y H Q => ∃ l b xs zs, x = .ref l ∧ y = .ref b ∧ H l = some (.lst xs) ∧ H b = some (.lst zs) ∧ xs.length + zs.length ≤ sizeLine ∧ ∀ p, H p = none → Q (.ref p) (upd H p (.lst (xs ++ zs)))
theorem op_cat : OpR X (binaryOp .Add) rCat := by
  intro pins s σ H x y v u Q I rx ry h
  obtain ⟨l, b, xs, zs, rfl, rfl, hH, hB, hz, q⟩ := h
  cases rx
  cases ry
  obtain ⟨z, its, n, r, hl, e⟩ := I.lstM hH
  obtain ⟨z2, its2, n2, r2, hl2, e2⟩ := I.lstM hB
  refine PySem.P.add_list e e2 ?_ (by rw [List.size_toArray, List.size_toArray]; omega)
  have ea : its.toArray ++ its2.toArray = (its ++ its2).toArray := by simp
  rw [ea]
  exact ⟨.ref _, _, I.lnew (t' := s.toks) (r.append r2) (by rw [List.length_append]; omega), rfl, q _ I.fresh⟩
end

section
variable {prog : Program} {w : World} {A : Around} {E : Value → Shared → Prop} {s : Shared}
end

section
variable {X : Cx}
end
end L2

namespace Att
open PySem PySem.W PySem.Calls PyProof.Rows

theorem ints_of_wellAll {P : Params} {h : Heap} : ∀ (ns : List Int) (vs : List Value), WellAll P h vs (ns.map WData.int) → IntsAre vs ns := by
  intro ns
  induction ns with
  | nil =>
    intro vs w
    rw [List.map_nil] at w
    cases w
    exact .nil
  | cons n ns ih =>
    intro vs w
    rw [List.map_cons] at w
    cases w with
    | cons a b =>
      cases a
      exact .cons _ _ (ih _ b)

theorem script_of {l : OpenLaw} {n : Nat} (hn : l.most = some n) {P : Params} {h : Heap} {args : List WData} {vals : List Value}
    (hpre : l.row.toRowW.claim.pre args = true) (hwl : WellAll P h vals args) :
    ∃ a vs ns, vals = [Value.ref a] ∧ args = [WData.list (ns.map WData.int)] ∧ h.get? a = some { cls := .type "list", data := .seq vs.toArray } ∧ IntsAre vs ns ∧ ns.length ≤ n := by
  have hsh : WShape.hasAll [] args [.list .int] = true := (pre_splitW hpre).1
  have hc : l.pre.holds [] { args := args } = true := (pre_splitW hpre).2
  obtain ⟨d, r, rfl, h1, h2⟩ := hasAllW_cons hsh
  obtain rfl := hasAllW_nil h2
  obtain ⟨xs, rfl, h3⟩ := hasW_list h1
  obtain ⟨ns, rfl⟩ := items_int h3
  have hlen : ns.length ≤ n := by
    unfold OpenLaw.pre at hc
    have h4 : (WTm.not (.lt (.lit (.int (n : Int))) (.len (.arg 0)))).holds [] { args := [.list (ns.map .int)] } = true := by
      have h4 := (holds_andW hc).1
      rw [hn] at h4
      exact h4
    have h5 := condW_of h4 (w_not (w_lt w_lit (w_len_list (w_arg rfl))))
    rw [List.length_map] at h5
    refine Nat.le_of_not_lt fun q => ?_
    have q' : (n : Int) < ((ns.length : Nat) : Int) := by omega
    first
      | (rw [decide_eq_true q'] at h5; exact absurd h5 (by decide))
      | (simp at h5; omega)
  cases hwl with
  | cons w1 w2 =>
    cases w2
    cases w1 with
    | list ho hall => exact ⟨_, _, ns, rfl, rfl, ho, ints_of_wellAll ns _ hall, hlen⟩

theorem post_true (l : OpenLaw) (args : List WData) : l.row.toRowW.claim.post args (.bool true) args = true :=
  postW_of (r := l.row.toRowW) (X := (true == true))
    (show WShape.has [] (.bool true) .bool = true by first | rfl | decide | simp [WShape.has, WShape.arms, WShape.armsAll])
    (show (WTm.eq .res (.lit (.bool true))).value [] { args := args, res := some (.bool true), after := args } = some (.bool (true == true)) from w_eq_bool (w_res rfl) w_lit) rfl

theorem attach_call {l : OpenLaw} {n : Nat} {q : Program} {loose : List Str} {XP : (Str → Option Value) → Heap → Prop} {YP : World → Heap → Prop} {d : DefRec}
    (hn : l.most = some n) (hdf : d.params.defaults = [])
    (call : ∀ (w : World) (s₀ s₁ : Shared) (mg mb : Str → Option Value) (fa : Addr) (o : Obj) (pm cd doc : Value) (a : Addr) (vs : List Value) (ns : List Int),
      Ground q loose [] XP w s₀ mg mb s₁.heap → YP w s₁.heap →
      s₁.heap.get? fa = some o → o.data = .func (docDef d.name d.params d.body d.scope pm cd doc) → s₁.heap.CodeRec cd d.name → mg d.name = some (.ref fa) →
      s₁.heap.get? a = some { cls := .type "list", data := .seq vs.toArray } → IntsAre vs ns → ns.length ≤ n → s₁.gens = #[] →
      codeAny (model l.prog w) callerA (.call (.ref fa) ⟨[.ref a], []⟩) (fun r s' => r = .ok (.ret (.bool true)) ∧ OldK s₁.heap s'.heap ∧ s'.os = s₁.os ∧ AllBare s'.gens) s₁) :
    WalkO q loose XP YP l.row.toRowW d [] (fun f vs => PySem.call f vs) := by
  intro w s₀ s₁ mg mb G Y fa o pm cd doc dV kV ho hd hcd hD hmg hg args vals as hpre hlay hrd hwl hlo
  obtain rfl : dV = .none := Dflts.none hD hdf
  obtain rfl : kV = .none := Dflts.noKw hD
  obtain ⟨a, vs, ns, rfl, rfl, hobj, hints, hlen⟩ := script_of hn hpre hwl
  refine enter_call (codeAny_mono (call w s₀ s₁ mg mb fa o pm cd doc a vs ns G Y ho (fd_plain hd) hcd hmg hobj hints hlen hg) fun r s' hq => ?_)
  obtain ⟨rfl, h2, h3, h4⟩ := hq
  exact ⟨.inl ⟨.bool true, .bool true, [], rfl, fun _ => rfl, .bool true, post_true l _, fun _ => ⟨List.Pairwise.nil, fun _ hm => (nomatch hm)⟩⟩, h2, h3, h4⟩

section
variable {prog : Program} {w : World} {A : Around} {E : Value → Shared → Prop} {s : Shared} {K : Frag}

end
end Att

namespace L2
open PySem PySem.Spec PyProof.Rows

theorem vals_ints : ∀ {vs : List Value} {ns : List Int}, IntsAre vs ns → Vals (ns.map V.int) vs
  | _, _, .nil => .nil
  | _, _, .cons n t h => .cons ⟨t, rfl⟩ (vals_ints h)

def Only (H : Hp) : Prop := ∀ b, H b = none ∨ ∃ o xs, H b = some (.frz o (.lst xs))

theorem law_call {P : Program} {w : World} {K : PySem.W.Frag} {mg mb : Str → Option Value} {CX : CXT} {k : Nat} {fa a : Addr} {fd : FuncData} {x : Str} {sp : Sp} {s₁ : Shared} {vs : List Value} {ns : List Int}
    (KX : K.In s₁.heap) (hns : s₁.heap.Ns mainGlobals mg) (hb : s₁.heap.Ns builtinsNs mb) (hbb : ∀ x : Str, x ≠ "__name__" → mb x = bootBuiltins x) (hlim : s₁.heap.NoLimit) (hg : s₁.gens = #[])
    (ha : s₁.heap.get? a = some { cls := .type "list", data := .seq vs.toArray }) (hi : IntsAre vs ns) (hl : ns.length ≤ sizeLine) (hr : Room k callerA)
    (F : ∀ base : Heap, K.In base → base.Ns mainGlobals mg → FnOk P w K mg base CX k fa fd [x] sp) (hbind : ∀ (s : Shared) (u : Value), BindsTo s fd ⟨[u], []⟩ [(x, u)])
    (hsp : ∀ H : Hp, Only H → SqL K H a (ns.map V.int) → sp [.ref a] H (fun v _ => v = .bl true) fun _ _ _ => False)
    (hCX : ∀ H e s', CX [] H s₁ (fun _ _ _ => False) e s' → False) :
    codeAny (model P w) callerA (.call (.ref fa) ⟨[.ref a], []⟩) (fun r s' => r = .ok (.ret (.bool true)) ∧ OldK s₁.heap s'.heap ∧ s'.os = s₁.os ∧ AllBare s'.gens) s₁ := by
  have rv := vals_ints hi
  have lenV := hi.length
  -- from an abstract heap in which nothing but the script may be tracked
  have core : ∀ H : Hp, Only H → SqL K H a (ns.map V.int) → HOk P w H s₁.heap → (∀ b, H b ≠ none → b = a) → (H a ≠ none → K.lookup a = none) →
      codeAny (model P w) callerA (.call (.ref fa) ⟨[.ref a], []⟩) (fun r s' => r = .ok (.ret (.bool true)) ∧ OldK s₁.heap s'.heap ∧ s'.os = s₁.os ∧ AllBare s'.gens) s₁ := by
    intro H hO hS hok hA hK
    have base_of : ∀ {b : Addr} {o : Obj}, s₁.heap.get? b = some o → H b = none → (hidT s₁.heap H).get? b = some o := fun e n => hidT_get e n
    have noA : ∀ {b : Addr} {o : Obj} {es : Array DictEntry} {ep : Nat}, s₁.heap.get? b = some o → o.data = .dict es ep → H b = none := fun {b o es ep} e d => by
      cases q : H b with
      | none => rfl
      | some u =>
        have e' : b = a := hA b (by rw [q]; simp)
        subst e'
        rw [ha] at e; cases e
        have d' : Data.seq vs.toArray _ = Data.dict es ep := d
        cases d'
    have nsK : ∀ {b : Addr} {m : Str → Option Value}, s₁.heap.Ns b m → (hidT s₁.heap H).Ns b m := fun {b m} ⟨o, es, ep, e, d, r⟩ => ⟨o, es, ep, base_of e (noA e d), d, r⟩
    have hKb : K.In (hidT s₁.heap H) := fun b o e => base_of (KX b o e) (by
      cases q : H b with
      | none => rfl
      | some u =>
        have e' : b = a := hA b (by rw [q]; simp)
        subst e'
        rw [hK (by rw [q]; simp)] at e; cases e)
    have hM : Mod K mg (hidT s₁.heap H) := ⟨hKb, nsK hns, ⟨mb, nsK hb, hbb⟩, let ⟨mc, h1, h2⟩ := hlim; ⟨mc, nsK h1, h2⟩⟩
    have e0 : Env0 P w K mg (hidT s₁.heap H) callerA [] s₁ H := ⟨rfl, hM, fun b o e => of_hidT e, Nat.le_of_eq (hidT_size _ _), trivial, fun b hb => absurd (show b ∈ ([] : List Addr) from hb) (by simp), hok, .of_eq hg⟩
    refine codeAny_mono ((F _ hKb (nsK hns)).run callerA [] s₁ H ⟨[.ref a], []⟩ [.ref a] [.ref a] _ _ hr e0 (hbind s₁ (.ref a)) (.cons rfl .nil) (hsp H hO hS)) fun r s' h => ?_
    cases r with
    | error e => exact (hCX H e s' h).elim
    | ok fl =>
      cases fl with
      | next => exact False.elim h
      | brk => exact False.elim h
      | cont => exact False.elim h
      | ret u =>
        obtain ⟨v, H', os, bare, un, hok', r', q⟩ := h
        have q' : v = .bl true := q
        subst q'
        obtain rfl : u = Value.bool true := r'
        refine ⟨rfl, OldK.of_keep fun b o e => ?_, os, bare⟩
        cases q : H b with
        | none => exact un.keep b o e q (by intro z; exact absurd (show b ∈ ([] : List Addr) from z) (by simp)) (by simp)
        | some u =>
          rcases hO b with z | ⟨ob, xs, z⟩
          · rw [q] at z; cases z
          · have z2 := un.frzs b ob _ z
            obtain ⟨e1, _⟩ := hok b _ z
            obtain ⟨e2, _⟩ := hok' b _ z2
            rw [e] at e1; cases e1
            exact e2
  cases hk : K.lookup a with
  | some o =>
    -- the script is one of the module's own objects
    have e := KX a o hk
    rw [ha] at e
    cases e
    refine core (fun _ => none) (fun _ => .inl rfl) (.inr ⟨_, vs.toArray, _, hk, rfl, rfl, rfl, by rw [List.size_toArray, lenV]; exact hl, by simpa using rv⟩) (fun b u z => by have z' : (none : Option HO) = some u := z; cases z') (fun b z => absurd rfl z) fun z => absurd rfl z
  | none =>
    refine core (fun b => if b = a then some (.frz { cls := .type "list", data := .seq vs.toArray } (.lst (ns.map V.int))) else none) (fun b => ?_) (.inl (.inr ⟨{ cls := .type "list", data := .seq vs.toArray }, if_pos rfl⟩)) (fun b u z => ?_) (fun b z => ?_) fun _ => hk
    · by_cases hb : b = a
      · exact .inr ⟨_, _, if_pos hb⟩
      · exact .inl (if_neg hb)
    · by_cases hb : b = a
      · have z' := (if_pos hb).symm.trans z
        cases z'
        subst hb
        exact ⟨ha, by rw [List.length_map]; exact hl, vs, _, rv, ha⟩
      · have z' := (if_neg hb).symm.trans z
        cases z'
    · by_cases hb : b = a
      · exact hb
      · exact absurd (if_neg hb) z
end L2

namespace L2
open PySem PySem.Spec PyProof.Rows

theorem walk_of {l : PySem.W.OpenLaw} {n k : Nat} {q : Program} {loose : List Str} {XP : (Str → Option Value) → Heap → Prop} {YP : World → Heap → Prop} {d : DefRec} {K : Params → PySem.W.Frag} {CX : World → CXT} {sp : World → Sp} {x : Str}
    (hn : l.most = some n) (hn2 : n ≤ sizeLine) (hdf : d.params.defaults = []) (hr : Room k callerA)
    (hY : ∀ (w : World) (h : Heap), YP w h → (K w.params).In h)
    (F : ∀ (w : World) (mg : Str → Option Value) (fa : Addr) (h : Heap), (K w.params).In h → h.Ns mainGlobals mg → mg d.name = some (.ref fa) →
      ∃ fd : FuncData, (∀ (s : Shared) (u : Value), BindsTo s fd ⟨[u], []⟩ [(x, u)]) ∧
        ∀ base : Heap, (K w.params).In base → base.Ns mainGlobals mg → FnOk l.prog w (K w.params) mg base (CX w) k fa fd [x] (sp w))
    (hsp : ∀ (w : World) (H : Hp) (a : Addr) (ns : List Int), ns.length ≤ n → Only H → SqL (K w.params) H a (ns.map V.int) → sp w [.ref a] H (fun v _ => v = .bl true) fun _ _ _ => False)
    (hCX : ∀ (w : World) (H : Hp) (s : Shared) (e : Value) (s' : Shared), CX w [] H s (fun _ _ _ => False) e s' → False) :
    PySem.W.WalkO q loose XP YP l.row.toRowW d [] (fun f vs => PySem.call f vs) := by
  refine Att.attach_call hn hdf fun w s₀ s₁ mg mb fa o pm cd doc a vs ns G Y ho hd hcd hmg hobj hints hlen hg => ?_
  have KX := hY w _ Y
  obtain ⟨fd, hb, hF⟩ := F w mg fa _ KX G.T.g hmg
  exact law_call KX G.T.g G.T.b G.T.builtins G.T.nolimit hg hobj hints (Nat.le_trans hlen hn2) hr hF hb (fun H hO hS => hsp w H a ns hlen hO hS) fun H e s' => hCX w H s₁ e s'
theorem walk_ofK {l : PySem.W.OpenLaw} {n k : Nat} {q : Program} {loose : List Str} {XP : (Str → Option Value) → Heap → Prop} {YP : World → Heap → Prop} {d : DefRec} {K : Params → PySem.W.Frag} {CX : CXT} {sp : PySem.W.Frag → Sp} {x : Str}
    (hn : l.most = some n) (hn2 : n ≤ sizeLine) (hdf : d.params.defaults = []) (hr : Room k callerA)
    (hY : ∀ (w : World) (h : Heap), YP w h → (K w.params).In h)
    (F : ∀ (w : World) (mg : Str → Option Value) (fa : Addr) (h : Heap), (K w.params).In h → h.Ns mainGlobals mg → mg d.name = some (.ref fa) →
      ∃ fd : FuncData, (∀ (s : Shared) (u : Value), BindsTo s fd ⟨[u], []⟩ [(x, u)]) ∧
        ∀ base : Heap, (K w.params).In base → base.Ns mainGlobals mg → FnOk l.prog w (K w.params) mg base CX k fa fd [x] (sp (K w.params)))
    (hsp : ∀ (K : PySem.W.Frag) (H : Hp) (a : Addr) (ns : List Int), ns.length ≤ n → Only H → SqL K H a (ns.map V.int) → sp K [.ref a] H (fun v _ => v = .bl true) fun _ _ _ => False)
    (hCX : ∀ (H : Hp) (s : Shared) (e : Value) (s' : Shared), CX [] H s (fun _ _ _ => False) e s' → False) :
    PySem.W.WalkO q loose XP YP l.row.toRowW d [] (fun f vs => PySem.call f vs) :=
  walk_of (K := K) (CX := fun _ => CX) (sp := fun w => sp (K w.params)) hn hn2 hdf hr hY F (fun w H a ns h1 h2 h3 => hsp (K w.params) H a ns h1 h2 h3) fun _ H s e s' => hCX H s e s'
end L2


namespace L2
open PySem PySem.Spec PyProof.Rows

def inClass (s : Stmt) (j : Nat) : Stmt := match s with
  | .ClassDef _ _ _ body _ _ _ _ _ _ _ => body.getD j (.Pass ⟨0, 0, 0, 0⟩)
  | _ => .Pass ⟨0, 0, 0, 0⟩
def defArgs (s : Stmt) : Arguments := match s with
  | .FunctionDef _ a _ _ _ _ _ _ _ _ => a
  | _ => { posonlyargs := [], args := [], vararg := none, kwonlyargs := [], kw_defaults := [], kwarg := none, defaults := [] }
def defBody (s : Stmt) : List Stmt := match s with
  | .FunctionDef _ _ b _ _ _ _ _ _ _ => b
  | _ => []
def defScope (s : Stmt) : Scope := match s with
  | .FunctionDef _ _ _ _ _ _ sc _ _ _ => sc
  | _ => { kind := .function, names := [], isGenerator := false, isCoroutine := false }

abbrev CX0 : CXT := fun _ _ _ _ _ _ => False
abbrev E0 : XK := fun _ _ _ => False
theorem pass0 {X : Cx} : Passes CX0 X E0 := fun _ _ _ _ _ _ _ h => h.elim

structure Fun (K : PySem.W.Frag) (x qual : Str) (st : Stmt) (f : Addr) (fd : FuncData) : Prop where
  ex : ∃ (oc : Value) (od : Option Addr) (kV doc pm : Value) (an : Option Addr) (cdv ct : Value) (osl : Array (Option Value)),
    fd = PySem.W.fnOf x qual (defArgs st) (defBody st) (defScope st) .none kV doc pm an cdv ct ∧ K.lookup f = some ⟨oc, od, .func fd, osl⟩ ∧ PySem.W.codeIn K cdv qual = true
  kp : PySem.W.keepIn K (.ref f) = true
section
variable {P : Program} {w : World} {K : PySem.W.Frag} {mg : Str → Option Value} {base : Heap}
theorem Fun.ok {x qual : Str} {st : Stmt} {f : Addr} {fd : FuncData} {N ps : List Str} {k : Nat} {sp : Sp} (F : Fun K x qual st f fd) (S : FnScope N ps (defScope st)) (len : ∀ vs H Q E, sp vs H Q E → vs.length = ps.length)
    (hbody : ∀ (cdv : Value) (A : Around) (outer : List Env) (s : Shared) (H : Hp) (vs : List V) (Q : VK) (E : XK), Room k (A.deeper (envOfC qual (defScope st) s.heap.objs.size f cdv)) → sp vs H Q E →
      ∃ t, PSs (cxOf CX0 P w K mg base N qual (defScope st) f cdv A outer s H E).nox (defBody st) t ∧ t { nx := fun _ H' => Q .non H', rt := Q } (start N vs) H) : FnOk P w K mg base CX0 (k + 1) f fd ps sp := by
  obtain ⟨oc, od, kV, doc, pm, an, cdv, ct, osl, rfl, lk, hcd⟩ := F.ex
  refine fn_of lk hcd S len fun A outer s H vs Q E hr hsp => ?_
  obtain ⟨t, h, q⟩ := hbody cdv A outer s H vs Q E hr hsp
  exact ⟨t, h.nox, q⟩
theorem Fun.binds {x qual : Str} {st : Stmt} {f : Addr} {fd : FuncData} {ps : List Str} (F : Fun K x qual st f fd)
    (h : ∀ (kV doc pm : Value) (an : Option Addr) (cdv ct : Value) (us : List Value), us.length = ps.length → bindArgs (PySem.W.fnOf x qual (defArgs st) (defBody st) (defScope st) .none kV doc pm an cdv ct) ⟨us, []⟩ = pure (ps.zip us)) : Binds K fd ps [] := by
  obtain ⟨oc, od, kV, doc, pm, an, cdv, ct, osl, rfl, lk, hcd⟩ := F.ex
  exact .all (h kV doc pm an cdv ct)
theorem fun_mk {x qual : Str} {st : Stmt} {f : Addr} {oc : Value} {od an : Option Addr} {osl : Array (Option Value)} {kV doc pm cdv ct : Value} (l : K.lookup f = some ⟨oc, od, .func (PySem.W.fnOf x qual (defArgs st) (defBody st) (defScope st) .none kV doc pm an cdv ct), osl⟩)
    (c : PySem.W.codeIn K cdv qual = true) (k : PySem.W.keepIn K (.ref f) = true) : Fun K x qual st f (PySem.W.fnOf x qual (defArgs st) (defBody st) (defScope st) .none kV doc pm an cdv ct) := ⟨⟨oc, od, kV, doc, pm, an, cdv, ct, osl, rfl, l, c⟩, k⟩
end
section
variable {X : Cx}
theorem pv (i : Nat) {x : Str} {pos : Pos} (hN : X.N[i]? = some x := by rfl) (hv : Vis X.env.scope x := by first | exact Or.inl rfl | exact Or.inr (Or.inl rfl) | exact Or.inr (Or.inr rfl)) (hd : (x == ("__debug__" : Str)) = false := by decide)
    (hcd : (x == ("__classdict__" : Str)) = false := by decide) : PE X (.Name x pos) (tVar i) := pe_var hN hv hd hcd
end

theorem iteF {A B : Prop} (h : B) : if false = true then A else B := by
  rw [if_neg Bool.false_ne_true]
  exact h
theorem iteT {A B : Prop} (h : A) : if true = true then A else B := by
  rw [if_pos rfl]
  exact h
def Same (H H' : Hp) : Prop := ∀ b o, H b = some o → H' b = some o
theorem Same.refl (H : Hp) : Same H H := fun _ _ h => h
theorem Same.trans {H H1 H2 : Hp} (a : Same H H1) (b : Same H1 H2) : Same H H2 := fun c o h => b c o (a c o h)
theorem Same.free {H H' : Hp} (e : Same H H') {l : Addr} (h : H' l = Option.none) : H l = Option.none := by
  cases q : H l with
  | none => rfl
  | some o =>
    rw [e l o q] at h
    cases h
theorem Same.seq {K : PySem.W.Frag} {H H' : Hp} {a : Addr} {xs : List V} (e : Same H H') (h : SqL K H a xs) : SqL K H' a xs := by
  rcases h with (h | ⟨o, h⟩) | h
  · exact .inl (.inl (e _ _ h))
  · exact .inl (.inr ⟨o, e _ _ h⟩)
  · exact .inr h

end L2


namespace L2
open PySem PySem.Spec PyProof.Rows

section
variable {κ : Type} [DecidableEq κ]
def valV (kvs : List (κ × V)) (k : κ) : Option V := (kvs.find? fun kv => decide (kv.1 = k)).map (·.2)
theorem valV_pos {p : κ × V} {r : List (κ × V)} {k : κ} (e : p.1 = k) : valV (p :: r) k = some p.2 := by simp [valV, List.find?_cons, e]
theorem valV_neg {p : κ × V} {r : List (κ × V)} {k : κ} (e : ¬ p.1 = k) : valV (p :: r) k = valV r k := by simp [valV, List.find?_cons, e]
theorem RelO.isSome_eq {o : Option V} {u : Option Value} (r : RelO o u) : o.isSome = u.isSome := by
  cases o with
  | none => cases u with
    | none => rfl
    | some _ => exact (show False from r).elim
  | some _ => cases u with
    | none => exact (show False from r).elim
    | some _ => rfl
theorem KV.val {kvs : List (κ × V)} {vs : List (κ × Value)} (r : KV kvs vs) (k : κ) : RelO (valV kvs k) (valueAt vs k) := by
  unfold KV at r
  induction r with
  | nil => exact True.intro
  | @cons p q ps qs h t ih =>
    obtain ⟨h1, h2⟩ := h
    by_cases e : p.1 = k
    · have e' : q.1 = k := h1.symm.trans e
      have b : valueAt (q :: qs) k = some q.2 := by simp [valueAt, List.find?_cons, e']
      rw [valV_pos e, b]; exact h2
    · have e' : ¬ q.1 = k := fun z => e (h1.trans z)
      have b : valueAt (q :: qs) k = valueAt qs k := by simp [valueAt, List.find?_cons, e']
      rw [valV_neg e, b]; exact ih
end


theorem kV_is {P : Program} {w : World} {k : Key} {u : Value} (r : RelV (kV k) u) : (mixKind P w).is k u = true := by
  cases k with
  | inl i => obtain ⟨t, e⟩ := (show ∃ t, u = Value.int i t from r); subst e; exact mixKind_int P w i t
  | inr x => obtain ⟨t, e⟩ := (show ∃ t, u = Value.str x t from r); subst e; exact mixKind_str P w x t
section
variable {P : Program} {w : World} {H : Hp} {h : Heap} {a : Addr}
end

section
variable {X : Cx} {pins : List (Addr × Obj)} {σ : St} {H : Hp} {s : Shared} {a : Addr} {y v : V} {u r : Value} {o : Option V} {A : Around} {E : Value → Shared → Prop}

end

section
variable {X : Cx} {pins : List (Addr × Obj)} {σ : St} {H : Hp} {s : Shared} {a : Addr} {kvs : List (Key × V)} {k : Key} {u : Value} {A : Around} {E : Value → Shared → Prop}
end


def NoSl (i : Expr) : Prop := ∀ ov iv, subscripted i false ov iv = operate [ov, iv] (getItem ov iv)
theorem subD_of {prog : Program} {w : World} {A : Around} {E : Value → Shared → Prop} {s : Shared} {env : Env} {value slice : Expr} {pos : Pos} {T id : String} {Q : Value → Shared → Prop}
    (hl : typeLookup (.type T) "__getitem__" = pure (some (.builtin id))) (hs : NoSl slice)
    (h : wpAny (model prog w) A (eval value env) (fun o s₁ => wpAny (model prog w) A (eval slice env) (fun i s₂ => s₂.TypeIs o T ∧ wpAny (model prog w) A (getItem o i) Q E s₂) E s₁) E s) :
    wpAny (model prog w) A (eval (.Subscript value slice pos) env) Q E s := by
  refine Subscript_ (wpAny_mono h (fun o s₁ h₁ => wpAny_mono h₁ (fun i s₂ h₂ => ?_) fun _ _ x => x) fun _ _ x => x)
  obtain ⟨hT, h₂⟩ := h₂
  unfold subscriptTail
  refine wpAny_bind ?_
  rw [getitemInPython_of_ne hT.not_modules]
  refine wpAny_bind (wpAny_specialOf hT hl ?_)
  have fin : wpAny (model prog w) A (subscripted slice false o i) (fun r s₃ => wpAny (model prog w) A (letTemporaryGo value o r >>= fun _ => pure r) Q E s₃) E s₂ := by
    rw [hs o i]
    exact wpAny_operating (wpAny_mono h₂ (fun r s₃ h₃ => wpAny_bind (wpAny_letTemporaryGo (wpAny_pure h₃))) fun _ _ x => x)
  first
    | exact wpAny_pure (wpAny_bind fin)
    | exact wpAny_bind (wpAny_pure (wpAny_bind fin))
    | exact wpAny_bind fin

section
variable {X : Cx} {o i e value : Expr} {pos pos' tpos : Pos} {td ty tv : TE}
end


def tDNewK : TE := fun _ H Q => ∀ p, H p = none → Q (.ref p) (upd H p (.dK []))
section
variable {X : Cx} {pos : Pos}
end

section
variable {X : Cx} {pins : List (Addr × Obj)} {σ : St} {H : Hp} {s : Shared} {a : Addr} {y d : V} {u r : Value} {o : Option V} {A : Around} {E : Value → Shared → Prop}
end

section
variable {X : Cx} {o e f : Expr} {apos cpos : Pos} {td ty tx : TE}
end

section
variable {X : Cx} {pins : List (Addr × Obj)} {σ : St} {H : Hp} {s : Shared} {a : Addr} {kvs : List (Key × V)} {A : Around} {E : Value → Shared → Prop}
end


section
variable {X : Cx} {pins : List (Addr × Obj)} {σ : St} {H : Hp} {s : Shared} {a : Addr} {y : V} {u : Value} {A : Around} {E : Value → Shared → Prop}
end
end L2
namespace L2
open PySem PySem.Spec PyProof.Rows
section
variable {X : Cx}
end
section
variable {κ : Type} [DecidableEq κ]
end
end L2

set_option maxHeartbeats 4000000
namespace L2
open PySem PySem.Spec PyProof.Rows

theorem noE {α : Type} {M : Model} {A : Around} {t : Sem α} {Q : α → Shared → Prop} {E : Value → Shared → Prop} {s : Shared} (h : wpAny M A t Q (fun _ _ => False) s) : wpAny M A t Q E s :=
  wpAny_mono h (fun _ _ q => q) fun _ _ f => f.elim

def closL (cells : List (Str × Addr)) : List (Str × NameKind) → List (Str × Addr) → List (Str × Addr)
  | [], acc => acc
  | (n, k) :: r, acc => closL cells r (if (k == NameKind.free) = true then (n, (cells.lookup n).getD 0) :: acc else acc)
theorem closL_sub {cells : List (Str × Addr)} {y : Str} {c : Addr} : ∀ (names : List (Str × NameKind)) (acc : List (Str × Addr)),
    (closL cells names acc).lookup y = some c → acc.lookup y = some c ∨ ((y, NameKind.free) ∈ names ∧ c = (cells.lookup y).getD 0)
  | [], acc, h => .inl h
  | (n, k) :: r, acc, h => by
    rcases closL_sub r _ h with h1 | ⟨h1, h2⟩
    · by_cases hk : (k == NameKind.free) = true
      · rw [if_pos hk, List.lookup_cons] at h1
        by_cases e : (y == n) = true
        · rw [e] at h1
          have e1 : y = n := by simpa using e
          have e2 : k = NameKind.free := by simpa using hk
          subst e1 e2
          exact .inr ⟨List.mem_cons_self, (Option.some.inj h1).symm⟩
        · have e1 : (y == n) = false := by simpa using e
          rw [e1] at h1
          exact .inl h1
      · rw [if_neg hk] at h1
        exact .inl h1
    · exact .inr ⟨List.mem_cons_of_mem _ h1, h2⟩
theorem closL_keeps {cells : List (Str × Addr)} {y : Str} : ∀ (names : List (Str × NameKind)) (acc : List (Str × Addr)), (∃ c, acc.lookup y = some c) → ∃ c, (closL cells names acc).lookup y = some c
  | [], _, h => h
  | (n, k) :: r, acc, h => by
    refine closL_keeps r _ ?_
    by_cases hk : (k == NameKind.free) = true
    · rw [if_pos hk, List.lookup_cons]
      by_cases e : (y == n) = true
      · rw [e]; exact ⟨_, rfl⟩
      · have e1 : (y == n) = false := by simpa using e
        rw [e1]; exact h
    · rw [if_neg hk]; exact h
theorem closL_has {cells : List (Str × Addr)} {y : Str} : ∀ (names : List (Str × NameKind)) (acc : List (Str × Addr)), (y, NameKind.free) ∈ names → ∃ c, (closL cells names acc).lookup y = some c
  | [], _, h => by simp at h
  | (n, k) :: r, acc, h => by
    rcases List.mem_cons.mp h with h | h
    · cases h
      refine closL_keeps r _ ?_
      rw [if_pos (by rfl), List.lookup_cons, beq_self_eq_true]
      exact ⟨_, rfl⟩
    · exact closL_has r _ h
theorem closureFor_free {scope : Scope} {env : Env} (h : ∀ x, (x, NameKind.free) ∈ scope.names → ∃ c, env.cells.lookup x = some c) : closureFor scope env = pure (closL env.cells scope.names []) := by
  have go : ∀ (names : List (Str × NameKind)) (acc : List (Str × Addr)), (∀ x, (x, NameKind.free) ∈ names → ∃ c, env.cells.lookup x = some c) →
      (forIn names acc fun (x : Str × NameKind) (cs : List (Str × Addr)) => match x with
        | (name, kind) => if (kind == NameKind.free) = true then do let a ← cellOf env name; pure (ForInStep.yield ((name, a) :: cs)) else pure (ForInStep.yield cs) : Sem (List (Str × Addr)))
      = pure (closL env.cells names acc) := by
    intro names
    induction names with
    | nil => intro acc _; rfl
    | cons x r ih =>
      intro acc hx
      obtain ⟨n, k⟩ := x
      rw [List.forIn_cons]
      by_cases hk : (k == NameKind.free) = true
      · have e2 : k = NameKind.free := by simpa using hk
        obtain ⟨c, hc⟩ := hx n (by rw [e2]; exact List.mem_cons_self)
        have hcell : cellOf env n = pure c := by unfold cellOf; rw [hc]
        simp only [hk, if_true, hcell]
        show (forIn r ((n, c) :: acc) _ : Sem (List (Str × Addr))) = _
        rw [ih _ fun y hy => hx y (List.mem_cons_of_mem _ hy)]
        simp only [closL, hk, if_true, hc, Option.getD_some]
      · simp only [hk, if_false]
        show (forIn r acc _ : Sem (List (Str × Addr))) = _
        rw [ih _ fun y hy => hx y (List.mem_cons_of_mem _ hy)]
        simp only [closL, hk, if_false]
        rfl
  have := go scope.names [] h
  unfold closureFor
  exact (congrArg (fun (t : Sem (List (Str × Addr))) => t >>= fun cs => (pure cs : Sem (List (Str × Addr)))) this).trans rfl

theorem lookup_relabel_free {env : Env} : ∀ {names : List (Str × NameKind)} {x : Str}, names.lookup x = some .free →
    (names.map fun (n, k) => if (k == NameKind.free && env.scope.kind == .function && env.kindOf n == some .cell) then (n, NameKind.cell) else (n, k)).lookup x = some .cell ∨
    (names.map fun (n, k) => if (k == NameKind.free && env.scope.kind == .function && env.kindOf n == some .cell) then (n, NameKind.cell) else (n, k)).lookup x = some .free
  | [], _, h => by simp at h
  | (n, k) :: r, x, h => by
    have ih := @lookup_relabel_free env r x
    show List.lookup x ((if (k == NameKind.free && env.scope.kind == .function && env.kindOf n == some .cell) = true then (n, NameKind.cell) else (n, k)) :: _) = _ ∨ List.lookup x ((if (k == NameKind.free && env.scope.kind == .function && env.kindOf n == some .cell) = true then (n, NameKind.cell) else (n, k)) :: _) = _
    cases hx : x == n with
    | true =>
      simp only [List.lookup_cons, hx] at h
      cases h
      by_cases hc : (NameKind.free == NameKind.free && env.scope.kind == .function && env.kindOf n == some .cell) = true
      · rw [if_pos hc]; left; simp [List.lookup_cons, hx]
      · rw [if_neg hc]; right; simp [List.lookup_cons, hx]
    | false =>
      simp only [List.lookup_cons, hx] at h
      by_cases hc : (k == NameKind.free && env.scope.kind == .function && env.kindOf n == some .cell) = true
      · rw [if_pos hc]; simp only [List.lookup_cons, hx]; exact ih h
      · rw [if_neg hc]; simp only [List.lookup_cons, hx]; exact ih h
theorem lookup_relabel_back {env : Env} {k : NameKind} : ∀ {names : List (Str × NameKind)} {x : Str},
    (names.map fun (n, k) => if (k == NameKind.free && env.scope.kind == .function && env.kindOf n == some .cell) then (n, NameKind.cell) else (n, k)).lookup x = some k →
    names.lookup x = some k ∨ (k = .cell ∧ names.lookup x = some .free)
  | [], _, h => by simp at h
  | (n, j) :: r, x, h => by
    have ih := @lookup_relabel_back env k r x
    have h' : List.lookup x ((if (j == NameKind.free && env.scope.kind == .function && env.kindOf n == some .cell) = true then (n, NameKind.cell) else (n, j)) :: r.map fun (n, k) => if (k == NameKind.free && env.scope.kind == .function && env.kindOf n == some .cell) then (n, NameKind.cell) else (n, k)) = some k := h
    cases hx : x == n with
    | true =>
      by_cases hc : (j == NameKind.free && env.scope.kind == .function && env.kindOf n == some .cell) = true
      · rw [if_pos hc] at h'
        simp only [List.lookup_cons, hx] at h' ⊢
        cases h'
        have e : j = NameKind.free := by
          have := hc
          simp only [Bool.and_eq_true] at this
          simpa using this.1.1
        rw [e]
        exact .inr ⟨rfl, rfl⟩
      · rw [if_neg hc] at h'
        simp only [List.lookup_cons, hx] at h' ⊢
        exact .inl h'
    | false =>
      by_cases hc : (j == NameKind.free && env.scope.kind == .function && env.kindOf n == some .cell) = true
      · rw [if_pos hc] at h'; simp only [List.lookup_cons, hx] at h' ⊢; exact ih h'
      · rw [if_neg hc] at h'; simp only [List.lookup_cons, hx] at h' ⊢; exact ih h'

def compChk (sc osc : Scope) (N N' : List Str) (sel : List (Option Nat)) : Bool :=
  (sc.names.all fun p => match p.2 with
    | .free => (osc.names.lookup p.1 == some .cell || osc.names.lookup p.1 == some .free) && sc.names.lookup p.1 == some .free
    | .cell => false
    | .local => sc.names.lookup p.1 == some .local
    | _ => true) && N'.length == sel.length && ((N'.zip sel).all fun p => match p.2 with
      | none => true
      | some j => N[j]? == some p.1 && sc.names.lookup p.1 == some .free)
def selS (sel : List (Option Nat)) (σ : St) : St := sel.map fun o => o.bind fun j => (σ[j]?).join

def cxComp (X : Cx) (N' : List Str) (scope : Scope) (C : Addr) (s : Shared) (H : Hp) (fp : List Addr) (pn : List (Addr × Obj)) : Cx where
  prog := X.prog
  w := X.w
  K := X.K
  mg := X.mg
  base := X.base
  A := X.A
  N := N'
  s₀ := s
  H₀ := H
  env := compEnvC scope (closL X.env.cells scope.names []) C X.env
  outer := X.stack
  stack := X.stack
  ex := fp
  fn := fun x => decide (scope.names.lookup x = some NameKind.local)
  calm := X.calm
  pn := pn
  xe := fun _ _ => False

section
variable {X : Cx} {pins : List (Addr × Obj)} {σ : St} {H : Hp} {s : Shared}

structure ChkOk (X : Cx) (sc : Scope) (N' : List Str) (sel : List (Option Nat)) : Prop where
  fr : ∀ x, (x, NameKind.free) ∈ sc.names → (X.env.kindOf x = some .cell ∨ X.env.kindOf x = some .free) ∧ sc.names.lookup x = some .free
  nc : ∀ y ∈ sc.names, y.2 ≠ NameKind.cell
  lo : ∀ y ∈ sc.names, y.2 = NameKind.local → sc.names.lookup y.1 = some .local
  ln : N'.length = sel.length
  sl : ∀ (i : Nat) (x : Str) (j : Nat), N'[i]? = some x → sel[i]? = some (some j) → X.N[j]? = some x ∧ sc.names.lookup x = some .free
theorem chk_ok {sc : Scope} {N' : List Str} {sel : List (Option Nat)} (h : compChk sc X.env.scope X.N N' sel = true) : ChkOk X sc N' sel := by
  unfold compChk at h
  simp only [Bool.and_eq_true] at h
  obtain ⟨⟨h1, h2⟩, h3⟩ := h
  rw [List.all_eq_true] at h1 h3
  refine ⟨fun x hx => ?_, fun y hy e => ?_, fun y hy e => ?_, by simpa using h2, fun i x j e1 e2 => ?_⟩
  · have := h1 _ hx
    simp only [Bool.and_eq_true, Bool.or_eq_true, beq_iff_eq] at this
    exact this
  · have := h1 _ hy
    rw [e] at this
    simp at this
  · have := h1 _ hy
    rw [e] at this
    simpa using this
  · have hm : (x, some j) ∈ N'.zip sel := by
      refine List.mem_of_getElem? (i := i) ?_
      rw [List.getElem?_zip_eq_some]
      exact ⟨e1, e2⟩
    have := h3 _ hm
    simp only [Bool.and_eq_true, beq_iff_eq] at this
    exact this

theorem clos_cells (I : Inv X pins σ H s) {sc : Scope} {N' : List Str} {sel : List (Option Nat)} (k : ChkOk X sc N' sel) :
    (∀ x, (x, NameKind.free) ∈ sc.names → ∃ c, X.env.cells.lookup x = some c) ∧ (∀ x c, (closL X.env.cells sc.names []).lookup x = some c → X.env.cells.lookup x = some c ∧ (x, NameKind.free) ∈ sc.names) := by
  have a : ∀ x, (x, NameKind.free) ∈ sc.names → ∃ c, X.env.cells.lookup x = some c := fun x hx => I.ok.has x (k.fr x hx).1
  refine ⟨a, fun x c h => ?_⟩
  rcases closL_sub _ _ h with h | ⟨h, e⟩
  · simp at h
  · obtain ⟨c', hc⟩ := a x h
    rw [hc] at e
    exact ⟨by rw [hc, e]; rfl, h⟩

theorem inv_block (I : Inv X pins σ H s) {scope : Scope} {N' : List Str} {sel : List (Option Nat)} {C : Addr} {fp : List Addr} {h₁ : Heap} {t' : Nat} {m : Str → Option Value} (hk : scope.kind = .function)
    (k : ChkOk X scope N' sel) (hC : s.heap.objs.size ≤ C) (hf : ∀ b ∈ fp, FpOk X pins H b) (hfl : ∀ b ∈ fp, b < s.heap.objs.size) (hns : h₁.Ns C m) (hkeep : ∀ b o, s.heap.get? b = some o → h₁.get? b = some o) :
    Inv (cxComp X N' scope C s H fp (X.pn ++ pins)) [] (selS sel σ) H { s with heap := h₁, toks := t' } := by
  obtain ⟨cl1, cl2⟩ := clos_cells I k
  have lkf : ∀ x, scope.names.lookup x = some .free → (relabel scope X.env).names.lookup x = some .cell ∨ (relabel scope X.env).names.lookup x = some .free := fun x hx => lookup_relabel_free hx
  have hfr : ∀ x, (relabel scope X.env).names.lookup x = some .cell ∨ (relabel scope X.env).names.lookup x = some .free → (x, NameKind.free) ∈ scope.names := fun x hx => by
    rcases hx with hx | hx
    · rcases lookup_relabel_back hx with h | ⟨_, h⟩
      · exact absurd rfl (k.nc _ (PySem.mem_of_lookup h))
      · exact PySem.mem_of_lookup h
    · rcases lookup_relabel_back hx with h | ⟨e, h⟩
      · exact PySem.mem_of_lookup h
      · exact PySem.mem_of_lookup h
  refine ⟨⟨I.ok.mod, hk, I.ok.glob, I.ok.blt, hC, fun x y c h1 h2 => ?_, fun x hx => ?_, fun x c h1 h2 => ?_, I.ok.hd, I.ok.frames, .inl rfl, fun b hb => ?_, I.bs, Nat.le_trans I.ok.bsz I.sz, fun b o e hb => ?_, fun b hb hb2 => ?_, I.stack, I.stkFree⟩,
    rfl, I.bare, Un.kept hkeep, ⟨m, hns, fun i x v e1 e2 e3 => ?_⟩, fun x c h => ?_, I.hok.fresh hC, fun x c h => ?_, fun p hp => ?_, I.hok.kept hkeep, ?_⟩
  · exact I.ok.inj x y c (cl2 x c h1).1 (cl2 y c h2).1
  · exact closL_has _ _ (hfr x hx)
  · have h1' : scope.names.lookup x = some NameKind.local := of_decide_eq_true h1
    have := (k.fr x (cl2 x c h2).2).2
    rw [h1'] at this
    cases this
  · refine ⟨Nat.ne_of_lt (Nat.lt_of_lt_of_le (hfl b hb) hC), fun x c h => ?_⟩
    exact (hf b hb).2.2.2.2.1 x c (cl2 x c h).1
  · rcases (hf b hb).2.2.2.1 with z | z
    · exact I.ok.noex b o e z
    · exact absurd (Nat.lt_of_lt_of_le (Heap.lt_size e) (Nat.le_trans I.ok.bsz z)) (Nat.lt_irrefl _)
  · rcases List.mem_cons.mp (I.stkSub b hb2) with z | z
    · exact (hf b hb).2.1 z
    · exact (hf b hb).2.2.1 z
  · -- a free name
    have e2' : sel[i]?.map (fun o => o.bind fun j => (σ[j]?).join) = some (some v) := by
      have := e2
      unfold selS at this
      rwa [List.getElem?_map] at this
    cases hs : sel[i]? with
    | none => rw [hs] at e2'; cases e2'
    | some o =>
      rw [hs] at e2'
      cases o with
      | none => cases e2'
      | some j =>
        have e4 : (σ[j]?).join = some v := Option.some.inj e2'
        have e5 : σ[j]? = some (some v) := by
          cases q : σ[j]? with
          | none => rw [q] at e4; cases e4
          | some r => rw [q] at e4; rw [show r = some v from e4]
        obtain ⟨hX, hl⟩ := k.sl i x j e1 hs
        obtain ⟨kk, _⟩ := k.fr x (PySem.mem_of_lookup hl)
        obtain ⟨m0, _, hloc⟩ := I.loc
        obtain ⟨u, ru, lu⟩ := hloc j x v hX e5 (kk.elim (fun z => .inr (.inl z)) fun z => .inr (.inr z))
        refine ⟨u, ru, ?_⟩
        rcases lu with ⟨z, _⟩ | ⟨_, c, hc, hcell⟩
        · rcases kk with y | y <;> (rw [z] at y; cases y)
        · refine .inr ⟨lkf x hl, c, ?_, hcell.keeps hkeep⟩
          obtain ⟨c', hc'⟩ := closL_has (cells := X.env.cells) scope.names [] (PySem.mem_of_lookup hl)
          have := (cl2 x c' hc').1
          rw [hc] at this
          cases this
          exact hc'
  · obtain ⟨v, z⟩ := I.cell x c (cl2 x c h).1
    exact ⟨v, z.keeps hkeep⟩
  · exact I.freeC x c (cl2 x c h).1
  · have hp' : p ∈ X.pn ++ pins := by
      have : p ∈ (X.pn ++ pins) ++ [] := hp
      rwa [List.append_nil] at this
    obtain ⟨e, n, ne, nf, d⟩ := I.pin p hp'
    refine ⟨hkeep _ _ e, n, Nat.ne_of_lt (Nat.lt_of_lt_of_le (Heap.lt_size e) hC), fun z => ?_, d⟩
    rcases List.mem_cons.mp (I.stkSub _ z) with z | z
    · exact ne z
    · exact nf z
  · show (sel.map _).length = N'.length
    rw [List.length_map]
    exact k.ln.symm

def PTs (X : Cx) (ifs : List Expr) (t : TT) : Prop :=
  ∀ (pins : List (Addr × Obj)) (s : Shared) (σ : St) (H : Hp) (Q : Bool → Hp → Prop), Inv X pins σ H s → t σ H Q →
    wpAny (model X.prog X.w) X.A (forIn ifs true fun c r => if r = true then do let ok ← isTrue c X.env (eval c X.env); pure (ForInStep.yield ok) else pure (ForInStep.yield r)) (TP X pins σ Q) X.xe s
def tTrue : TT := fun _ H Q => Q true H
theorem pts_nil : PTs X [] tTrue := fun _ _ _ H _ I h => wpAny_tests_nil ⟨H, I, h⟩
theorem compLoop_any {prog : Program} {w : World} {A : Around} {R : Result → Shared → Prop} {s : Shared} {elt target iter : Expr} {ifs : List Expr} {scope : Scope} {pos : Pos} {it acc : Value} {env : Env} (I : Nat → Shared → Prop)
    (turn : ∀ n s, I n s → wpAny (model prog w) A (pyNext it) (fun r s₁ => match r with
      | none => R (.ok .next) s₁
      | some v => wpAny (model prog w) A (letOwnedTupleGo target it v) (fun _ s₁' => wpAny (model prog w) A (assign target env v) (fun _ s₂ =>
          wpAny (model prog w) A (forIn ifs true fun c r => if r = true then do let ok ← isTrue c env (eval c env); pure (ForInStep.yield ok) else pure (ForInStep.yield r)) (fun ok s₃ =>
            if ok = true then wpAny (model prog w) A (eval elt env) (fun x s₄ =>
              wpAny (model prog w) A (call (.builtin "list.append") [acc, x]) (fun _ s₅ => ∃ m, m < n ∧ I m s₅) (notedBy (model prog w) A env fun e s' => R (.error e) s') s₄) (notedBy (model prog w) A env fun e s' => R (.error e) s') s₃
            else ∃ m, m < n ∧ I m s₃) (notedBy (model prog w) A env fun e s' => R (.error e) s') s₂) (notedBy (model prog w) A env fun e s' => R (.error e) s') s₁') (notedBy (model prog w) A env fun e s' => R (.error e) s') s₁) (notedBy (model prog w) A env fun e s' => R (.error e) s') s)
    (n : Nat) (h : I n s) :
    codeAny (model prog w) A (.compLoop (.ListComp elt [⟨target, iter, ifs, 0⟩] scope pos) 0 it acc env) R s := by
  refine codeAny_loop rfl I (fun n s hI => ?_) n h
  show wpAny _ A ((compTurn (.ListComp elt [⟨target, iter, ifs, 0⟩] scope pos) 0 it acc env).onRaise (fun x => do noteFrame x env; theTreesLotGoes x)) _ _ s
  refine wpAny_noted ?_
  rw [compTurn_list]
  refine wpAny_bind (wpAny_standAt (wpAny_bind (wpAny_mono (turn n s hI) (fun r s₁ h₁ => ?_) fun _ _ h' => h')))
  cases r with
  | none => exact wpAny_pure h₁
  | some v =>
    refine wpAny_bind (wpAny_mono h₁ (fun _ s₁' h₁' => ?_) fun _ _ h' => h')
    refine wpAny_bind (wpAny_mono h₁' (fun _ s₂ h₂ => wpAny_bind (wpAny_mono h₂ (fun ok s₃ h₃ => ?_) fun _ _ h' => h')) fun _ _ h' => h')
    cases ok with
    | false => exact wpAny_pure ⟨rfl, h₃⟩
    | true =>
      exact wpAny_bind (wpAny_bind (wpAny_mono h₃ (fun x s₄ h₄ => wpAny_bind (wpAny_mono h₄ (fun _ s₅ h₅ => wpAny_pure (wpAny_pure ⟨rfl, h₅⟩)) fun _ _ h' => h')) fun _ _ h' => h'))

def lcTurn (sel : List (Option Nat)) (g : TG) (tt : TT) (te : TE) (σ : St) (J : It) (W : Nat → Nat → List V → Hp → Prop) (Q : List V → Hp → Prop) : Prop :=
  ∀ i m ys H, W i m ys H → (J.stop i H ∧ Q ys H) ∨
    (J.go i H ∧ ys.length < sizeLine ∧ ∃ N : List V → Hp → Prop, (∀ ys' H', N ys' H' → ∃ m', m' < m ∧ W (i + 1) m' ys' H') ∧
      ∀ x H', J.yld i H x H' → g x (selS sel σ) H' fun σ2 H2 => tt σ2 H2 fun b H3 => if b = true then te σ2 H3 fun y H4 => N (ys ++ [y]) H4 else N ys H3)

def GKeeps (sel : List (Option Nat)) (g : TG) : Prop := ∀ (σ : St) (x : V) (H : Hp) (Q : St → Hp → Prop), g x (selS sel σ) H Q → g x (selS sel σ) H fun σ2 H2 => (∀ (i : Nat) v, (selS sel σ)[i]? = some (some v) → σ2[i]? = some (some v)) ∧ Q σ2 H2
theorem sel_none {sel : List (Option Nat)} {i : Nat} {σ : St} {v : V} (h : sel[i]? = some none) : ¬ (selS sel σ)[i]? = some (some v) := fun e => by
  unfold selS at e
  rw [List.getElem?_map, h] at e
  cases e
theorem set_keeps {sel : List (Option Nat)} {i : Nat} {σ σ2 : St} {x : V} (h : sel[i]? = some none) (k : ∀ (j : Nat) v, (selS sel σ)[j]? = some (some v) → σ2[j]? = some (some v)) :
    ∀ (j : Nat) v, (selS sel σ)[j]? = some (some v) → (σ2.set i (some x))[j]? = some (some v) := fun j v e => by
  by_cases hj : i = j
  · subst hj; exact absurd e (sel_none h)
  · rw [List.getElem?_set_ne hj]; exact k j v e
theorem gk_name {sel : List (Option Nat)} {i : Nat} (h : sel[i]? = some none) : GKeeps sel (gName i) := fun _ _ _ _ q => ⟨set_keeps h fun _ _ e => e, q⟩
theorem gk_two {K : PySem.W.Frag} {sel : List (Option Nat)} {i j : Nat} (h : sel[i]? = some none) (h' : sel[j]? = some none) : GKeeps sel (gTup K 2 (gCons (gName i) (gCons (gName j) gNil))) := fun σ x H Q q => by
  obtain ⟨a, xs, e1, e2, e3, v, r, e4, v2, r2, e5, e6, q⟩ := q
  exact ⟨a, xs, e1, e2, e3, v, r, e4, v2, r2, e5, e6, set_keeps h' (set_keeps h fun _ _ e => e), q⟩

theorem lc_block {elt tg iter : Expr} {ifs : List Expr} {scope : Scope} {pos : Pos} {N' : List Str} {sel : List (Option Nat)} {g : TG} {tt : TT} {te : TE} {it : Addr} {fp : List Addr} {tn : Nat → Heap → Prop} {J : It}
    {W : Nat → Nat → List V → Hp → Prop} {Qe : List V → Hp → Prop} {RR : Value → Addr → Result → Shared → Prop} {E : Value → Shared → Prop} {m0 : Nat}
    (hc : X.calm = true) (hk : scope.kind = .function) (k : ChkOk X scope N' sel) (I : Inv X pins σ H s) (T : Turn X.prog X.w X.K tg J fp it tn) (st : tn 0 s.heap) (f2 : ∀ b ∈ fp, FpOk X pins H b)
    (hb : ∀ (C : Addr) (s : Shared) (H : Hp) (fp : List Addr) (pn : List (Addr × Obj)), PG (cxComp X N' scope C s H fp pn) tg g ∧ PTs (cxComp X N' scope C s H fp pn) ifs tt ∧ PE (cxComp X N' scope C s H fp pn) elt te)
    (hgk : GKeeps sel g) (w0 : W 0 m0 [] H) (turn : lcTurn sel g tt te σ J W Qe)
    (hRR : ∀ (D C : Addr) (s' : Shared) (H' : Hp) (ys : List V) (m : Str → Option Value), H' D = none → Inv X pins σ (upd H' D (.lst ys)) s' → s'.heap.Ns C m → FpOk X pins (upd H' D (.lst ys)) C → Qe ys H' → RR (.ref D) C (.ok .next) s') :
    wpAny (model X.prog X.w) X.A (newList []) (fun acc s₃ => wpAny (model X.prog X.w) X.A (newFunctionEnv scope X.env.globals (closL X.env.cells scope.names []) [] X.env.qual none .none (some X.env)) (fun cenv s₄ =>
      codeAny (model X.prog X.w) X.A (.compStart (.ListComp elt [⟨tg, iter, ifs, 0⟩] scope pos) 0 (.ref it) acc { cenv with scope := relabel scope X.env }) (RR acc cenv.locals) s₄) E s₃) E s := by
  refine wpAny_newObj_type (wpAny_newFunctionEnv k.nc (by intro y hy; simp at hy) (fun h₁ hns₁ hsb₁ => ?_) hk)
  dsimp only at hns₁ hsb₁ ⊢
  generalize hH2 : s.heap.push { cls := .type "list", dict := none, data := .seq ([] : List Value).toArray } = H2 at hns₁ hsb₁ ⊢
  have hC : H2.objs.size = s.heap.objs.size + 1 := by rw [← hH2, Heap.size_push]
  have hDC : s.heap.objs.size ≠ H2.objs.size := by rw [hC]; exact Nat.ne_of_lt (Nat.lt_succ_self _)
  have hCle : s.heap.objs.size ≤ H2.objs.size := by rw [hC]; exact Nat.le_succ _
  have below : ∀ b, b < s.heap.objs.size → b ≠ H2.objs.size ∧ b ≠ s.heap.objs.size := fun b hb => ⟨by rw [hC]; exact Nat.ne_of_lt (Nat.lt_succ_of_lt hb), Nat.ne_of_lt hb⟩
  have old : ∀ b o, s.heap.get? b = some o → h₁.get? b = some o := fun b o e => hsb₁.extBut b o (below b (Heap.lt_size e)).1 (Heap.get?_push_of_some _ (hH2 ▸ Heap.get?_push_of_some _ e))
  have hacc : h₁.get? s.heap.objs.size = some { cls := .type "list", data := .seq ([] : List Value).toArray } := hsb₁.extBut _ _ hDC (Heap.get?_push_of_some _ (hH2 ▸ Heap.get?_push_size _ rfl))
  have hfl : ∀ b ∈ fp, b < s.heap.objs.size := fun b hb => let ⟨_, e, _⟩ := T.obj 0 _ st b hb; Heap.lt_size e
  have hst₁ : tn 0 h₁ := T.keep _ _ _ st fun b _ o e => old b o e
  generalize hDe : s.heap.objs.size = D at hDC hCle below hacc hfl ⊢
  generalize hCe : H2.objs.size = C at hns₁ hsb₁ hC hDC hCle below ⊢
  have fD : ∀ {H' : Hp}, H' D = none → FpOk X pins H' D := fun hn => I.fpOk (by rw [hDe]; exact Nat.le_refl _) hn
  have fC : ∀ {H' : Hp}, H' C = none → FpOk X pins H' C := fun hn => I.fpOk (by rw [hDe]; exact hCle) hn
  have HD : H D = none := I.hok.fresh (by rw [hDe]; exact Nat.le_refl _)
  -- the pin of the new list, in the block
  have pinD : ∀ {o : Obj} {σ' : St} {H' : Hp} {s' : Shared} {ps : List (Addr × Obj)}, Inv (cxComp X N' scope C s H fp (X.pn ++ pins)) ps σ' H' s' → s'.heap.get? D = some o → H' D = none → (∀ v, o.data ≠ .cell v) →
      Inv (cxComp X N' scope C s H fp (X.pn ++ pins)) (ps ++ [(D, o)]) σ' H' s' := fun {o σ' H' s' ps} J1 e n d => by
    refine J1.pins_of fun p hp => ?_
    rcases List.mem_append.mp hp with hp | hp
    · exact J1.pin p (List.mem_append_right _ hp)
    · rw [List.mem_singleton.mp hp]
      refine ⟨e, n, hDC, fun z => ?_, d⟩
      rcases List.mem_cons.mp (I.stkSub D z) with z | z
      · exact (fD HD).2.1 z
      · exact (fD HD).2.2.1 z
  have loop : ∀ s₃ : Shared, s₃ = { s with heap := h₁, toks := s.toks + ([] : List (Str × Value)).length } →
      codeAny (model X.prog X.w) X.A (.compLoop (.ListComp elt [⟨tg, iter, ifs, 0⟩] scope pos) 0 (.ref it) (.ref D) (compEnvC scope (closL X.env.cells scope.names []) C X.env)) (RR (.ref D) C) s₃ := by
    rintro s₃ rfl
    have I4 : Inv (cxComp X N' scope C s H fp (X.pn ++ pins)) [] (selS sel σ) H { s with heap := h₁, toks := s.toks + ([] : List (Str × Value)).length } :=
      inv_block I hk k (by rw [hDe]; exact hCle) f2 (fun b hb => by rw [hDe]; exact hfl b hb) hns₁ old
    refine compLoop_any (fun n s' => ∃ i H' ys its nn, Inv (cxComp X N' scope C s H fp (X.pn ++ pins)) [] (selS sel σ) H' s' ∧ tn i s'.heap ∧ (∀ b ∈ fp, H' b = none) ∧ H' D = none ∧
      s'.heap.get? D = some { cls := .type "list", data := .seq (List.toArray its) nn } ∧ Vals ys its ∧ ys.length ≤ sizeLine ∧ W i n ys H') ?_ m0 ⟨0, H, [], [], 0, I4, hst₁, fun b hb => (f2 b hb).1, HD, hacc, .nil, Nat.zero_le _, w0⟩
    rintro n s3 ⟨i, H3, ys, its, nn, I3, st3, fr3, hD3, o3, v3, z3, w3⟩
    have I3' := pinD I3 o3 hD3 (fun v z => by cases z)
    have stat : ∀ {ps : List (Addr × Obj)} {H' : Hp}, (∀ p ∈ ps, p.1 = D) → (∀ b ∈ fp, H' b = none) → ∀ b ∈ fp, FpOk (cxComp X N' scope C s H fp (X.pn ++ pins)) ps H' b := fun {ps H'} hps hn b hb => by
      obtain ⟨a0, a1, a2, a3, a4, a5⟩ := f2 b hb
      refine ⟨hn b hb, Nat.ne_of_lt (Nat.lt_of_lt_of_le (hfl b hb) hCle), fun z => ?_, .inl hb, fun x c h => a4 x c ((clos_cells I k).2 x c h).1, fun p hp => ?_⟩
      · rcases List.mem_cons.mp (I.stkSub b z) with z | z
        · exact a1 z
        · exact a2 z
      · rcases List.mem_append.mp hp with hp | hp
        · exact a5 p hp
        · rw [hps p hp]
          exact (Nat.ne_of_lt (hfl b hb)).symm
    rcases turn i n ys H3 w3 with ⟨stop, qe⟩ | ⟨go, hz, Nn, hNn, step⟩
    · refine noE (thn (T.done (cxComp X N' scope C s H fp (X.pn ++ pins)) rfl rfl rfl hc i _ s3 _ H3 _ I3' (stat (fun p hp => by have : p ∈ [] ++ [(D, _)] := hp; rw [List.nil_append] at this; rw [List.mem_singleton.mp this]) fr3) st3 stop) fun r s4 ⟨hr, J4⟩ => ?_)
      subst hr
      obtain ⟨m4, n4, _⟩ := id J4.loc
      have o4 := (J4.pin (D, _) (List.mem_append_right _ (List.mem_append_right _ (List.mem_singleton.mpr rfl)))).1
      have hC4 : H3 C = none := J4.free
      have hDC' : C ≠ D := Ne.symm hDC
      refine hRR D C s4 H3 ys m4 hD3 (I.call' (ch := fp) J4.os ?_ ?_ J4.bare (fun b hb => ?_)) n4 (fC (by rw [upd_ne hDC']; exact hC4)) qe
      · have u := J4.base
        have nD : ∀ b o, s.heap.get? b = some o → b ≠ D := fun b o e => by rw [← hDe]; exact Nat.ne_of_lt (Heap.lt_size e)
        have nD2 : ∀ b o, H b = some o → b ≠ D := fun b o e => ne_of_none e HD
        exact ⟨u.keep, u.slot, fun b o e n hx => by rw [upd_ne (nD b o e)]; exact u.free b o e n hx, u.there, fun b xs e => by rw [upd_ne (nD2 b _ e)]; exact u.tups b xs e,
          fun b o w e => by rw [upd_ne (nD2 b _ e)]; exact u.frzs b o w e, fun b ps e => by rw [upd_ne (nD2 b _ e)]; exact u.tbls b ps e⟩
      · intro b o e
        by_cases hbD : b = D
        · subst hbD
          rw [upd_same] at e
          cases e
          exact ⟨z3, its, nn, v3, o4⟩
        · rw [upd_ne hbD] at e
          exact (J4.hok b o e).stay (fun c u _ q => q) (fun c q => by rw [upd_ne (ne_of_none q hD3)]; exact q) fun c xs q => by rw [upd_ne (ne_of_none q hD3)]; exact q
      · obtain ⟨a0, a1, a2, a3, a4, a5⟩ := f2 b hb
        exact ⟨a3, a1, a4, a5⟩
    · refine noE (thn (T.item (cxComp X N' scope C s H fp (X.pn ++ pins)) rfl rfl rfl hc i _ s3 _ H3 _ I3' (stat (fun p hp => by have : p ∈ [] ++ [(D, _)] := hp; rw [List.nil_append] at this; rw [List.mem_singleton.mp this]) fr3) st3 go) fun r s4 ⟨u, hr, h4⟩ => ?_)
      subst hr
      refine noE (thn h4 fun _ s5 ⟨x, H5, I5, r5, y5, st5, fr5⟩ => ?_)
      obtain ⟨hb1, hb2, hb3⟩ := hb C s H fp (X.pn ++ pins)
      have I5' := I5.pinned (stat (fun p hp => by have : p ∈ [] ++ [(D, _)] := hp; rw [List.nil_append] at this; rw [List.mem_singleton.mp this]) fr5) (T.obj _ _ st5)
      refine noE (thn (hb1 _ s5 _ H5 x u _ I5' r5 (hgk _ _ _ _ (step x H5 y5))) fun _ s6 ⟨σ6, H6, I6, hw6, q6⟩ => ?_)
      refine noE (thn (hb2 _ s6 σ6 H6 _ I6 q6) fun ok s7 ⟨H7, I7, q7⟩ => ?_)
      -- what stands behind the turn
      have back : ∀ {σ8 : St} {H8 : Hp} {s8 : Shared}, Inv (cxComp X N' scope C s H fp (X.pn ++ pins)) (([] ++ [(D, { cls := .type "list", data := .seq (List.toArray its) nn })]) ++ pinsAt fp s5.heap) σ8 H8 s8 →
          tn (i + 1) s8.heap ∧ (∀ b ∈ fp, H8 b = none) ∧ H8 D = none ∧ s8.heap.get? D = some { cls := .type "list", data := .seq (List.toArray its) nn } := fun {σ8 H8 s8} J8 => by
        refine ⟨T.keep _ _ _ st5 fun b hb o e => (J8.pin (b, o) (List.mem_append_right _ (List.mem_append_right _ (mem_pinsAt hb e)))).1, fun b hb => ?_, ?_, ?_⟩
        · obtain ⟨o, e, d⟩ := T.obj _ _ st5 b hb
          exact (J8.pin (b, o) (List.mem_append_right _ (List.mem_append_right _ (mem_pinsAt hb e)))).2.1
        · exact (J8.pin (D, _) (List.mem_append_right _ (List.mem_append_left _ (List.mem_append_right _ (List.mem_singleton.mpr rfl))))).2.1
        · exact (J8.pin (D, _) (List.mem_append_right _ (List.mem_append_left _ (List.mem_append_right _ (List.mem_singleton.mpr rfl))))).1
      have weak : ∀ {H8 : Hp} {s8 : Shared} {ps : List (Addr × Obj)}, Inv (cxComp X N' scope C s H fp (X.pn ++ pins)) ps σ6 H8 s8 → Inv (cxComp X N' scope C s H fp (X.pn ++ pins)) [] (selS sel σ) H8 s8 := fun {H8 s8 ps} J8 =>
        (J8.pins_of (pins' := []) fun p hp => by simp at hp).weak (by rw [J8.len]; exact I4.len) hw6
      cases ok with
      | false =>
        obtain ⟨st8, fr8, hD8, o8⟩ := back I7
        obtain ⟨m', hm, w8⟩ := hNn ys H7 q7
        exact ⟨m', hm, i + 1, H7, ys, its, nn, weak I7, st8, fr8, hD8, o8, v3, z3, w8⟩
      | true =>
        refine noE (thn (hb3 _ s7 σ6 H7 _ I7 q7) fun y s8 ⟨yv, H8, I8, ry, q8⟩ => ?_)
        obtain ⟨st8, fr8, hD8, o8⟩ := back I8
        obtain ⟨m', hm, w8⟩ := hNn _ _ q8
        have hl := v3.length
        refine call_meets F.slot_list_append ⟨_, o8, rfl⟩ F.entry_list_append (F.args_list_append_2 _ _) (PySem.list_append D (List.toArray its) nn y (by rw [List.size_toArray]; omega)) ⟨o8, ?_⟩
        have q := PySem.IsL.update o8 (fun z => z.push y)
        rw [show (List.toArray its).push y = (its ++ [y]).toArray by simp] at q
        have kp : ∀ b o, b ≠ D → s8.heap.get? b = some o → (s8.heap.update D (Obj.mapSeq fun z => z.push y)).get? b = some o := fun b o hb e => (Heap.get?_update_other s8.heap (Obj.mapSeq fun z => z.push y) (Ne.symm hb)).trans e
        refine ⟨m', hm, i + 1, H8, ys ++ [yv], its ++ [y], _, (weak I8).turned (t' := s8.toks) kp hD8 hDC (.inr (by show s.heap.objs.size ≤ D; rw [hDe]; exact Nat.le_refl _)) (fun x c h => (fD HD).2.2.2.2.1 x c ((clos_cells I k).2 x c h).1) (fun p hp => (fD HD).2.2.2.2.2 p (by have : p ∈ (X.pn ++ pins) ++ [] := hp; rwa [List.append_nil] at this)),
          T.keep _ _ _ st8 (fun b hb o e => kp b o (Nat.ne_of_lt (hfl b hb)) e), fr8, hD8, q, v3.append (.cons ry .nil), ?_, w8⟩
        rw [List.length_append, List.length_singleton]
        omega
  exact codeAny_compStart_list (loop _ rfl) (T.self _ 0 _ _ _ hst₁ (loop _ rfl))

def tLc (sel : List (Option Nat)) (wi : TI) (g : TG) (tt : TT) (te : TE) : TE := fun σ H Q => wi σ H fun J H1 => ∃ W : Nat → Nat → List V → Hp → Prop, (∃ m, W 0 m [] H1) ∧
  lcTurn sel g tt te σ J W fun ys H => ∀ D, H D = none → Q (.ref D) (upd H D (.lst ys))
theorem pe_lc {elt tg iter : Expr} {ifs : List Expr} {scope : Scope} {pos : Pos} {wi : TI} {N' : List Str} {sel : List (Option Nat)} {g : TG} {tt : TT} {te : TE}
    (hc : X.calm = true) (hk : scope.kind = .function) (chk : compChk scope X.env.scope X.N N' sel = true) (hi : PI X tg iter wi) (hgk : GKeeps sel g)
    (hb : ∀ (C : Addr) (s : Shared) (H : Hp) (fp : List Addr) (pn : List (Addr × Obj)), PG (cxComp X N' scope C s H fp pn) tg g ∧ PTs (cxComp X N' scope C s H fp pn) ifs tt ∧ PE (cxComp X N' scope C s H fp pn) elt te)
    (hs : ∀ x, foldedSetIterable iter X.env x = pure x := by intro _; rfl) : PE X (.ListComp elt [⟨tg, iter, ifs, 0⟩] scope pos) (tLc sel wi g tt te) := by
  intro pins s σ H Q I h
  have k := chk_ok chk
  rw [eval_ListComp]
  refine wpAny_comprehension_free (use := none) rfl hs (closureFor_free (clos_cells I k).1) hk k.lo (thn (hi pins s σ H _ I h) fun v s1 h1 => thn h1 fun itv s2 h2 => ?_)
  obtain ⟨it, fp, tn, J, H2, e, I2, T, st2, f2, W, ⟨m0, w0⟩, turn⟩ := h2
  subst e
  refine lc_block (RR := fun acc C => compPost (model X.prog X.w) X.A X.xe none (EP X pins σ Q) acc C) hc hk k I2 T st2 f2 hb hgk w0 turn ?_
  intro D C s' H' ys m hD I' hns fC q
  refine ⟨m, hns, fun h' hs' => ⟨.ref D, _, I'.turned (t' := s'.toks) (fun b o hb e => (hs'.2 b hb).trans e) fC.1 fC.2.1 fC.2.2.2.1 fC.2.2.2.2.1 fC.2.2.2.2.2, rfl, q D hD⟩⟩

theorem lc_list {K : PySem.W.Frag} {a : Addr} {xs : List V} {sel : List (Option Nat)} {g : TG} {tt : TT} {te : TE} {σ : St} {H : Hp} {Qe : List V → Hp → Prop} (Pv : Nat → List V → Hp → Prop) (h0 : Pv 0 [] H)
    (hl : ∀ i ys H, i ≤ xs.length → Pv i ys H → SqL K H a xs ∧ ys.length ≤ i) (hz : xs.length ≤ sizeLine)
    (hs : ∀ i x ys H, xs[i]? = some x → Pv i ys H → g x (selS sel σ) H fun σ2 H2 => tt σ2 H2 fun b H3 => if b = true then te σ2 H3 fun y H4 => Pv (i + 1) (ys ++ [y]) H4 else Pv (i + 1) ys H3)
    (hd : ∀ ys H, Pv xs.length ys H → Qe ys H) : ∃ W : Nat → Nat → List V → Hp → Prop, (∃ m, W 0 m [] H) ∧ lcTurn sel g tt te σ (Itl K a) W Qe := by
  refine ⟨fun i m ys H => m = xs.length - i ∧ i ≤ xs.length ∧ Pv i ys H, ⟨_, rfl, Nat.zero_le _, h0⟩, ?_⟩
  rintro i m ys H ⟨rfl, hi, p⟩
  obtain ⟨hS, hy⟩ := hl i ys H hi p
  by_cases e : i = xs.length
  · subst e
    exact .inl ⟨⟨xs, hS, Nat.le_refl _⟩, hd _ _ p⟩
  · have hlt : i < xs.length := Nat.lt_of_le_of_ne hi e
    refine .inr ⟨⟨xs, xs[i], hS, by simp [hlt]⟩, by omega, Pv (i + 1), fun ys' H' p' => ⟨xs.length - (i + 1), by omega, rfl, hlt, p'⟩, ?_⟩
    rintro x H' ⟨rfl, hx⟩
    exact hs i x ys H' (hx xs hS) p
theorem lc_tup {K : PySem.W.Frag} {a : Addr} {xs : List V} {sel : List (Option Nat)} {g : TG} {tt : TT} {te : TE} {σ : St} {H : Hp} {Qe : List V → Hp → Prop} (Pv : Nat → List V → Hp → Prop) (h0 : Pv 0 [] H)
    (hl : ∀ i ys H, i ≤ xs.length → Pv i ys H → SqT K H a xs ∧ ys.length ≤ i) (hz : xs.length ≤ sizeLine)
    (hs : ∀ i x ys H, xs[i]? = some x → Pv i ys H → g x (selS sel σ) H fun σ2 H2 => tt σ2 H2 fun b H3 => if b = true then te σ2 H3 fun y H4 => Pv (i + 1) (ys ++ [y]) H4 else Pv (i + 1) ys H3)
    (hd : ∀ ys H, Pv xs.length ys H → Qe ys H) : ∃ W : Nat → Nat → List V → Hp → Prop, (∃ m, W 0 m [] H) ∧ lcTurn sel g tt te σ (Itt K a) W Qe := by
  refine ⟨fun i m ys H => m = xs.length - i ∧ i ≤ xs.length ∧ Pv i ys H, ⟨_, rfl, Nat.zero_le _, h0⟩, ?_⟩
  rintro i m ys H ⟨rfl, hi, p⟩
  obtain ⟨hS, hy⟩ := hl i ys H hi p
  by_cases e : i = xs.length
  · subst e
    exact .inl ⟨⟨xs, hS, Nat.le_refl _⟩, hd _ _ p⟩
  · have hlt : i < xs.length := Nat.lt_of_le_of_ne hi e
    refine .inr ⟨⟨xs, xs[i], hS, by simp [hlt]⟩, by omega, Pv (i + 1), fun ys' H' p' => ⟨xs.length - (i + 1), by omega, rfl, hlt, p'⟩, ?_⟩
    rintro x H' ⟨rfl, hx⟩
    exact hs i x ys H' (hx xs hS) p
theorem lc_range {lo : Int} {n : Nat} {sel : List (Option Nat)} {g : TG} {tt : TT} {te : TE} {σ : St} {H : Hp} {Qe : List V → Hp → Prop} (Pv : Nat → List V → Hp → Prop) (h0 : Pv 0 [] H)
    (hl : ∀ i ys H, i ≤ n → Pv i ys H → ys.length ≤ i) (hz : n ≤ sizeLine)
    (hs : ∀ i ys H, i < n → Pv i ys H → g (.int (lo + i)) (selS sel σ) H fun σ2 H2 => tt σ2 H2 fun b H3 => if b = true then te σ2 H3 fun y H4 => Pv (i + 1) (ys ++ [y]) H4 else Pv (i + 1) ys H3)
    (hd : ∀ ys H, Pv n ys H → Qe ys H) : ∃ W : Nat → Nat → List V → Hp → Prop, (∃ m, W 0 m [] H) ∧ lcTurn sel g tt te σ (Itr lo n) W Qe := by
  refine ⟨fun i m ys H => m = n - i ∧ i ≤ n ∧ Pv i ys H, ⟨_, rfl, Nat.zero_le _, h0⟩, ?_⟩
  rintro i m ys H ⟨rfl, hi, p⟩
  have hy := hl i ys H hi p
  by_cases e : i = n
  · subst e
    exact .inl ⟨Nat.le_refl _, hd _ _ p⟩
  · have hlt : i < n := Nat.lt_of_le_of_ne hi e
    refine .inr ⟨hlt, by omega, Pv (i + 1), fun ys' H' p' => ⟨n - (i + 1), by omega, rfl, hlt, p'⟩, ?_⟩
    rintro x H' ⟨rfl, rfl⟩
    exact hs i ys H' hlt p

def tSetLc (i : Nat) (sel : List (Option Nat)) (wi : TI) (g : TG) (tt : TT) (te : TE) : TS := fun D σ H => wi σ H fun J H1 => ∃ W : Nat → Nat → List V → Hp → Prop, (∃ m, W 0 m [] H1) ∧
  lcTurn sel g tt te σ J W fun ys H => ∀ l, H l = none → D.nx (σ.set i (some (.ref l))) (upd H l (.lst ys))
theorem ps_setLc {i : Nat} {x : Str} {elt tg iter : Expr} {ifs : List Expr} {scope : Scope} {pos pos' spos : Pos} {wi : TI} {N' : List Str} {sel : List (Option Nat)} {g : TG} {tt : TT} {te : TE}
    (hN : X.N.Nodup) (hi' : X.N[i]? = some x) (hx : Loc X.env.scope x)
    (hc : X.calm = true) (hk : scope.kind = .function) (chk : compChk scope X.env.scope X.N N' sel = true) (hi : PI X tg iter wi) (hgk : GKeeps sel g)
    (hb : ∀ (C : Addr) (s : Shared) (H : Hp) (fp : List Addr) (pn : List (Addr × Obj)), PG (cxComp X N' scope C s H fp pn) tg g ∧ PTs (cxComp X N' scope C s H fp pn) ifs tt ∧ PE (cxComp X N' scope C s H fp pn) elt te)
    (hsw : swapsWith (.ListComp elt [⟨tg, iter, ifs, 0⟩] scope pos) (some (.Name x pos')) spos.line X.env = pure true)
    (hs : ∀ x, foldedSetIterable iter X.env x = pure x := by intro _; rfl) (hf : X.fn x = true ∨ X.env.scope.names.lookup x = some .local := by first | exact .inl rfl | exact .inr rfl | assumption) :
    PS X (.Assign [.Name x pos'] (.ListComp elt [⟨tg, iter, ifs, 0⟩] scope pos) spos) (tSetLc i sel wi g tt te) := by
  intro pins s σ H Dn I h
  have k := chk_ok chk
  rw [exec_Assign_Name_used _ _ _ _ hsw]
  refine wpAny_bind (wpAny_standAt (wpAny_bind ?_))
  show wpAny _ X.A (do let _ ← comprehension (.ListComp elt [⟨tg, iter, ifs, 0⟩] scope pos) scope X.env _ (newList []) false (eval iter X.env) (some (assign (.Name x pos') X.env))) _ _ s
  refine wpAny_bind (wpAny_mono (wpAny_comprehension_free (use := some (assign (.Name x pos') X.env)) (Q := fun _ s' => SP X pins Dn .next s') rfl hs (closureFor_free (clos_cells I k).1) hk k.lo
    (thn (hi pins s σ H _ I h) fun v s1 h1 => thn h1 fun itv s2 h2 => ?_)) (fun _ s' hq => wpAny_pure (wpAny_pure hq)) fun _ _ e => e)
  obtain ⟨it, fp, tn, J, H2, e, I2, T, st2, f2, W, ⟨m0, w0⟩, turn⟩ := h2
  subst e
  refine lc_block (RR := fun acc C => compPost (model X.prog X.w) X.A X.xe (some (assign (.Name x pos') X.env)) (fun _ s' => SP X pins Dn .next s') acc C) hc hk k I2 T st2 f2 hb hgk w0 turn ?_
  intro D C s' H' ys m hD I' hns fC q
  obtain ⟨oC, es, ep, eC, dC, rC⟩ := id hns
  have I'' : Inv X (pins ++ [(C, oC)]) σ (upd H' D (.lst ys)) s' := I'.pins_of fun p hp => by
    rcases List.mem_append.mp hp with hp | hp
    · exact I'.pin p (List.mem_append_right _ hp)
    · rw [List.mem_singleton.mp hp]
      exact ⟨eC, fC.1, fC.2.1, fC.2.2.1, fun v z => by rw [dC] at z; cases z⟩
  refine thn (pg_name (pos := pos') hN hi' hx hf (pins ++ [(C, oC)]) s' σ _ (.ref D) (.ref D) (fun σ2 H2 => σ2 = σ.set i (some (.ref D)) ∧ H2 = upd H' D (.lst ys)) I'' rfl ⟨rfl, rfl⟩) fun _ s9 h9 => ?_
  obtain ⟨σ9, H9, I9, rfl, rfl⟩ := h9
  have eC9 := (I9.pin (C, oC) (List.mem_append_right _ (List.mem_append_right _ (List.mem_singleton.mpr rfl)))).1
  refine ⟨m, ⟨oC, es, ep, eC9, dC, rC⟩, fun h' hs' => ?_⟩
  exact ⟨_, _, (I9.unpinned).turned (t' := s9.toks) (fun b o hb e => (hs'.2 b hb).trans e) fC.1 fC.2.1 fC.2.2.2.1 fC.2.2.2.2.1 fC.2.2.2.2.2, q D hD⟩
end
end L2
namespace L2
open PySem PySem.Spec PyProof.Rows
section
variable {X : Cx} {tg : Expr} {a b : Expr} {ta tb : TE} {pos : Pos}

def Its (x : Str) : It := ⟨fun i _ => i < x.length, fun i H v H' => H' = H ∧ ∃ c, x.cps.toList[i]? = some c ∧ v = .str ⟨#[c]⟩, fun i _ => x.length ≤ i⟩
theorem turn_strA {P : Program} {w : World} {K : PySem.W.Frag} {tg : Expr} (x : Str) (t : Tok) (it : Addr) : Turn P w K tg (Its x) [it] it (fun i h => h.IsStrIter it "str_ascii_iterator" x t i) where
  mem := by simp
  obj := fun i h st b hb => by
    have e : b = it := by simpa using hb
    subst e
    obtain ⟨o, e, c, d⟩ := st
    exact ⟨o, e, fun v z => by rw [d] at z; cases z⟩
  keep := fun i h h' st k => let ⟨o, ho, r⟩ := st; ⟨o, k it (by simp) o ho, r⟩
  item := by
    intro X hP hw hK hc i pins s σ H E I hf st hg
    subst hP hw hK
    have hlt : i < x.cps.size := hg
    obtain ⟨f0, f1, f2, f3, f4, f5⟩ := hf it (by simp)
    refine wpAny_pyNext_ascii_item st (c := x.cps[i]) (by simp [hlt]) fun h' st' sb => ?_
    have I1 : Inv X pins σ H { s with heap := h', toks := s.toks + 1 } := I.turned (t' := s.toks + 1) (fun b o hb e => (sb.2 b hb).trans e) f0 f1 f3 f4 f5
    obtain ⟨o, e, c, d⟩ := id st'
    exact ⟨_, rfl, go_of (s := { s with heap := h', toks := s.toks + 1 }) e c d (by decide) ⟨.str ⟨#[x.cps[i]]⟩, H, I1, ⟨_, rfl⟩, ⟨rfl, x.cps[i], by simp [hlt], rfl⟩, st', fun b hb => (hf b hb).1⟩⟩
  done := by
    intro X hP hw hK hc i pins s σ H E I hf st hg
    subst hP hw hK
    have hle : x.cps.size ≤ i := hg
    obtain ⟨f0, f1, f2, f3, f4, f5⟩ := hf it (by simp)
    exact wpAny_pyNext_ascii_end (I.ok.hd hc) st (by simp; omega) fun h' eb => ⟨rfl, I.turned (t' := s.toks) (fun b o hb e => eb b o hb e) f0 f1 f3 f4 f5⟩
  self := fun _ _ _ _ _ st h => wpAny_pyIter_striter_ascii st h
theorem turn_strW {P : Program} {w : World} {K : PySem.W.Frag} {tg : Expr} (x : Str) (t : Tok) (it : Addr) : Turn P w K tg (Its x) [it] it (fun i h => h.IsStrIter it "str_iterator" x t i) where
  mem := by simp
  obj := fun i h st b hb => by
    have e : b = it := by simpa using hb
    subst e
    obtain ⟨o, e, c, d⟩ := st
    exact ⟨o, e, fun v z => by rw [d] at z; cases z⟩
  keep := fun i h h' st k => let ⟨o, ho, r⟩ := st; ⟨o, k it (by simp) o ho, r⟩
  item := by
    intro X hP hw hK hc i pins s σ H E I hf st hg
    subst hP hw hK
    have hlt : i < x.cps.size := hg
    obtain ⟨f0, f1, f2, f3, f4, f5⟩ := hf it (by simp)
    refine wpAny_pyNext_wide_item st (c := x.cps[i]) (by simp [hlt]) fun h' st' sb => ?_
    have I1 : Inv X pins σ H { s with heap := h', toks := s.toks + 1 } := I.turned (t' := s.toks + 1) (fun b o hb e => (sb.2 b hb).trans e) f0 f1 f3 f4 f5
    obtain ⟨o, e, c, d⟩ := id st'
    exact ⟨_, rfl, go_of (s := { s with heap := h', toks := s.toks + 1 }) e c d (by decide) ⟨.str ⟨#[x.cps[i]]⟩, H, I1, ⟨_, rfl⟩, ⟨rfl, x.cps[i], by simp [hlt], rfl⟩, st', fun b hb => (hf b hb).1⟩⟩
  done := by
    intro X hP hw hK hc i pins s σ H E I hf st hg
    subst hP hw hK
    have hle : x.cps.size ≤ i := hg
    obtain ⟨f0, f1, f2, f3, f4, f5⟩ := hf it (by simp)
    exact wpAny_pyNext_wide_end (I.ok.hd hc) st (by simp; omega) fun h' eb => ⟨rfl, I.turned (t' := s.toks) (fun b o hb e => eb b o hb e) f0 f1 f3 f4 f5⟩
  self := fun _ _ _ _ _ st h => wpAny_pyIter_striter_wide st h
def iStr (tl : TE) : TI := fun σ H R => tl σ H fun x H1 => ∃ z, x = .str z ∧ R (Its z) H1
theorem pi_str {l : Expr} {tl : TE} (hl : PE X l tl) : PI X tg l (iStr tl) := by
  intro pins s σ H R I h
  refine thn (hl pins s σ H _ I h) fun v s1 ⟨x, H1, I1, r1, q1⟩ => ?_
  obtain ⟨z, e, q⟩ := q1
  subst e
  obtain ⟨t, rfl⟩ := r1
  have fp : ∀ b ∈ [s1.heap.objs.size], FpOk X pins H1 b := fun b hb => by
    have e : b = s1.heap.objs.size := by simpa using hb
    subst e
    exact I1.fpOk (Nat.le_refl _) (I1.hok.fresh (Nat.le_refl _))
  cases ha : z.cps.all (· < 128)
  · exact wpAny_pyIter_wide ha ⟨s1.heap.objs.size, [s1.heap.objs.size], _, _, H1, rfl, I1.kept (t' := s1.toks) fun b o e => Heap.get?_push_of_some _ e, turn_strW z t _, ⟨_, Heap.get?_push_size _ rfl, rfl, rfl⟩, fp, q⟩
  · exact wpAny_pyIter_ascii ha ⟨s1.heap.objs.size, [s1.heap.objs.size], _, _, H1, rfl, I1.kept (t' := s1.toks) fun b o e => Heap.get?_push_of_some _ e, turn_strA z t _, ⟨_, Heap.get?_push_size _ rfl, rfl, rfl⟩, fp, q⟩
theorem lc_str {z : Str} {sel : List (Option Nat)} {g : TG} {tt : TT} {te : TE} {σ : St} {H : Hp} {Qe : List V → Hp → Prop} (Pv : Nat → List V → Hp → Prop) (h0 : Pv 0 [] H)
    (hl : ∀ i ys H, i ≤ z.length → Pv i ys H → ys.length ≤ i) (hz : z.length ≤ sizeLine)
    (hs : ∀ i c ys H, z.cps.toList[i]? = some c → Pv i ys H → g (.str ⟨#[c]⟩) (selS sel σ) H fun σ2 H2 => tt σ2 H2 fun b H3 => if b = true then te σ2 H3 fun y H4 => Pv (i + 1) (ys ++ [y]) H4 else Pv (i + 1) ys H3)
    (hd : ∀ ys H, Pv z.length ys H → Qe ys H) : ∃ W : Nat → Nat → List V → Hp → Prop, (∃ m, W 0 m [] H) ∧ lcTurn sel g tt te σ (Its z) W Qe := by
  refine ⟨fun i m ys H => m = z.length - i ∧ i ≤ z.length ∧ Pv i ys H, ⟨_, rfl, Nat.zero_le _, h0⟩, ?_⟩
  rintro i m ys H ⟨rfl, hi, p⟩
  have hy := hl i ys H hi p
  by_cases e : i = z.length
  · subst e
    exact .inl ⟨Nat.le_refl _, hd _ _ p⟩
  · have hlt : i < z.length := Nat.lt_of_le_of_ne hi e
    refine .inr ⟨hlt, by omega, Pv (i + 1), fun ys' H' p' => ⟨z.length - (i + 1), by omega, rfl, hlt, p'⟩, ?_⟩
    rintro x H' ⟨rfl, c, hc, rfl⟩
    exact hs i c ys H' hc p

theorem bools_of {bs : List Bool} : ∀ {us : List Value}, Vals (bs.map V.bl) us → LSm.BoolsAre us bs := by
  induction bs with
  | nil => intro us r; cases r; exact .nil
  | cons b bs ih =>
    intro us r
    cases r with
    | cons h t =>
      cases h
      exact .cons b (ih t)
theorem call_all (hc : X.calm = true) : CallR X (.builtin "all") (fun xs H Q => ∃ (p : Addr) (bs : List Bool), xs = [.ref p] ∧ SqL X.K H p (bs.map V.bl) ∧ Q (.bl (bs.all id)) H) := by
  intro pins s σ H xs us Q I r h
  obtain ⟨p, bs, rfl, hp, q⟩ := h
  obtain ⟨u, rfl, ru⟩ := vals1 r
  cases ru
  obtain ⟨its, rv, pl, hz⟩ := I.list hp
  have hb := bools_of rv
  have hl := pl.isList
  have hlt : p < s.heap.objs.size := by obtain ⟨_, e, _⟩ := hl; exact Heap.lt_size e
  refine call_all_walk (wpAny_pyIter_list hl ?_)
  refine ⟨s.heap.objs.size, [s.heap.objs.size, p], [s.heap.objs.size], its.toArray.size, _, _, fun i => (bs[i]?).getD true, rfl, Walks.list (A := X.A.in1) (I.ok.hd hc) _ p (Nat.ne_of_lt hlt) its.toArray,
    ⟨⟨_, Heap.get?_push_size _ rfl, rfl, rfl⟩, hl.push _⟩, fun i v s' Q' E' hP hQ => ?_, fun h' tk hk => ?_⟩
  · obtain ⟨b, e, rfl⟩ := hb.get i v (by simpa using hP)
    simp only [e, Option.getD_some] at hQ
    exact wpAny_truthy_bool hQ
  · have e : ((List.range its.toArray.size).all fun i => (bs[i]?).getD true) = bs.all id := by
      rw [List.size_toArray, hb.length]; exact LSm.range_all bs
    rw [e]
    exact ⟨.bl _, H, I.kept (LSm.kept_iter hk), rfl, q⟩
theorem call_isinst : CallR X (.builtin "isinstance") (fun xs H Q => ∃ x n t b, xs = [x, .ty n] ∧ TyOf X.K H x t ∧ PySem.W.kitOne X.K t (.type n) = some b ∧ Q (.bl b) H) := by
  intro pins s σ H xs us Q I r h
  obtain ⟨x, n, t, b, rfl, ty, e, q⟩ := h
  obtain ⟨u, w', rfl, ru, rw'⟩ := vals2 r
  cases rw'
  exact isinst_ok I ru ty e fun tk => ⟨.bl b, H, I.tok _, rfl, q⟩
theorem op_le_str : OpR X (compareOp .LtE) (fun x y H Q => ∃ i j, x = .str i ∧ y = .str j ∧ Q (.bl (!decide (j.cps.toList < i.cps.toList))) H) := by
  intro pins s σ H x y v u Q I rx ry h
  obtain ⟨i, j, rfl, rfl, q⟩ := h
  obtain ⟨t, rfl⟩ := rx
  obtain ⟨t', rfl⟩ := ry
  exact PySem.P.le_str (fin_bl I q rfl)

def cutS (z : Str) (lo hi : Option Int) : Str := ⟨((z.cps.toList.drop (HT.sIx z.length 0 lo)).take (HT.sIx z.length z.length hi - HT.sIx z.length 0 lo)).toArray⟩
theorem sIx_leS (n d : Nat) (hd : d ≤ n) (o : Option Int) : HT.sIx n d o ≤ n := by
  cases o with
  | none => exact hd
  | some v => simp only [HT.sIx]; split <;> omega
theorem range_nat (a b : Nat) : sliceRange (a : Int) (b : Int) 1 = (List.range (b - a)).map (fun k => a + k) := by
  unfold sliceRange
  simp only [show (1 : Int) > 0 by decide, if_true]
  have ec : (if (a : Int) < (b : Int) then ((b : Int) - a + 1 - 1) / 1 else 0).toNat = b - a := by split <;> simp <;> omega
  rw [ec]
  refine List.map_congr_left fun k _ => ?_
  omega
theorem idx_eq (lo hi : Option Int) (n : Nat) : Builtin.Str.strSliceIndices lo hi 1 n = (List.range (HT.sIx n n hi - HT.sIx n 0 lo)).map (fun k => HT.sIx n 0 lo + k) := by
  rw [← range_nat]
  unfold Builtin.Str.strSliceIndices
  simp only [show (1 : Int) > 0 by decide, if_true]
  congr 1
  · cases lo with
    | none => rfl
    | some v => simp only [HT.sIx]; split <;> omega
  · cases hi with
    | none => rfl
    | some v => simp only [HT.sIx]; split <;> omega
theorem slice_eq (z : Str) (lo hi : Option Int) : Txt.slice z lo hi = cutS z lo hi := by
  have ha := sIx_leS z.length 0 (Nat.zero_le _) lo
  have hb := sIx_leS z.length z.length (Nat.le_refl _) hi
  unfold Txt.slice cutS
  rw [idx_eq]
  generalize HT.sIx z.length 0 lo = a at *
  generalize HT.sIx z.length z.length hi = b at *
  have hl : z.cps.toList.length = z.length := rfl
  split
  · rename_i h
    have h' : b - a = z.length := by simpa using h
    apply Str.ext'
    show z.cps = ((z.cps.toList.drop a).take (b - a)).toArray
    have h0 : a = 0 ∨ z.length = 0 := by omega
    rcases h0 with h0 | h0
    · subst h0
      rw [List.drop_zero, h', ← hl, List.take_length]
    · have : z.cps.toList = [] := List.eq_nil_of_length_eq_zero (hl.trans h0)
      have hz : z.cps = #[] := by rw [← Array.toArray_toList (xs := z.cps), this]
      rw [this, hz]; simp
  · by_cases hab : a ≤ b
    · have h := StrLaws.picks z.cps.toList (b - a) a (by omega)
      have h2 : List.filterMap (fun x => z.cps[x]?) (List.map (fun k => a + k) (List.range (b - a))) = List.take (b - a) (List.drop a z.cps.toList) := by simpa using h
      rw [h2]
    · have : b - a = 0 := by omega
      rw [this]; simp
theorem cut_le (z : Str) (lo hi : Option Int) : (cutS z lo hi).length ≤ z.length := by rw [← slice_eq]; exact Txt.slice_le z lo hi
def rSlS : V → Option Int → Option Int → Hp → VK → Prop := fun x lo hi H Q => ∃ z, x = .str z ∧ z.length ≤ sizeLine ∧ Q (.str (cutS z lo hi)) H
theorem sl_str : SlR X rSlS := by
  intro pins s σ H x v vl vu lo hi sl Q I rx hs pl pu h
  obtain ⟨z, rfl, hz, q⟩ := h
  obtain ⟨t, rfl⟩ := rx
  rw [← slice_eq] at q
  refine ⟨"str", _, F.slot_str_getitem.lookup, typeIs_str _ _ _, ?_⟩
  have fin : ∀ (l u : Option (Int × Tok)), vl = partValue l → vu = partValue u → lo = l.map (·.1) → hi = u.map (·.1) → wpAny (model X.prog X.w) X.A (getItem (.str z t) (.ref sl)) (EP X pins σ Q) X.xe s := by
    rintro l u rfl rfl rfl rfl
    exact wpAny_getItem_str_slice (l := l) (u := u) (st := none) hs rfl (post_val_or_str ⟨Nat.le_trans (Txt.slice_le z _ _) hz, fun t' k => ⟨.str _, H, I.tok _, ⟨_, rfl⟩, q⟩⟩)
  cases pl with
  | none =>
    cases pu with
    | none => exact fin none none rfl rfl rfl rfl
    | int j uj => exact fin none (some (j, uj)) rfl rfl rfl rfl
  | int i ui =>
    cases pu with
    | none => exact fin (some (i, ui)) none rfl rfl rfl rfl
    | int j uj => exact fin (some (i, ui)) (some (j, uj)) rfl rfl rfl rfl
def rStarts : V → List V → Hp → VK → Prop := fun x vs H Q => ∃ z y, x = .str z ∧ vs = [.str y] ∧ Q (.bl (Txt.startswith z y)) H
theorem mt_startswith : MtR X "str.startswith" rStarts := by
  intro pins s σ H x vs v us Q I rx rv h
  obtain ⟨z, y, rfl, rfl, q⟩ := h
  obtain ⟨t, rfl⟩ := rx
  obtain ⟨u, rfl, ru⟩ := vals1 rv
  obtain ⟨t', rfl⟩ := ru
  exact SC.startswith ⟨.bl _, H, I, rfl, q⟩
theorem strs_of {zs : List Str} : ∀ {us : List Value}, Vals (zs.map V.str) us → StrsAre us zs := by
  induction zs with
  | nil => intro us r; cases r; exact .nil
  | cons b bs ih =>
    intro us r
    cases r with
    | cons h t =>
      obtain ⟨tk, rfl⟩ := h
      exact .cons _ _ (ih t)
def rJoin (K : PySem.W.Frag) : V → List V → Hp → VK → Prop := fun x vs H Q => ∃ (z : Str) (p : Addr) (zs : List Str), x = .str z ∧ vs = [.ref p] ∧ SqL K H p (zs.map V.str) ∧ (zs.map (·.length)).sum + zs.length * z.length ≤ 16777216 ∧ Q (.str (Txt.join z zs)) H
theorem mt_join : MtR X "str.join" (rJoin X.K) := by
  intro pins s σ H x vs v us Q I rx rv h
  obtain ⟨z, p, zs, rfl, rfl, hp, hz, q⟩ := h
  obtain ⟨t, rfl⟩ := rx
  obtain ⟨u, rfl, ru⟩ := vals1 rv
  cases ru
  obtain ⟨its, r', pl, _⟩ := I.list hp
  exact join_list pl.isList (strs_of r') hz fun t' k => ⟨.str _, H, I.tok _, ⟨_, rfl⟩, q⟩

inductive EqD (K : PySem.W.Frag) (H : Hp) : Nat → V → V → Bool → Prop
  | flat {n : Nat} {x y : V} : flatV x = true → flatV y = true → EqD K H n x y (eqV x y)
  | same {n : Nat} {a : Addr} : EqD K H n (.ref a) (.ref a) true
  | lst {n : Nat} {a b : Addr} {xs ys : List V} {e : Nat → Bool} : SqL K H a xs → SqL K H b ys → a ≠ b → xs.length = ys.length → (∀ i x y, xs[i]? = some x → ys[i]? = some y → EqD K H n x y (e i)) → EqD K H (n + 1) (.ref a) (.ref b) ((List.range xs.length).all e)
  | lstN {n : Nat} {a b : Addr} {xs ys : List V} : SqL K H a xs → SqL K H b ys → a ≠ b → xs.length ≠ ys.length → EqD K H (n + 1) (.ref a) (.ref b) false
  | tup {n : Nat} {a b : Addr} {xs ys : List V} {e : Nat → Bool} : SqT K H a xs → SqT K H b ys → a ≠ b → (∀ i x y, xs[i]? = some x → ys[i]? = some y → EqD K H n x y (e i)) → EqD K H (n + 1) (.ref a) (.ref b) ((List.range (min xs.length ys.length)).all e && xs.length == ys.length)
  | tupF {n : Nat} {a : Addr} {xs : List V} {y : V} : SqT K H a xs → flatV y = true → EqD K H n (.ref a) y false
  | fTup {n : Nat} {a : Addr} {xs : List V} {y : V} : SqT K H a xs → flatV y = true → EqD K H n y (.ref a) false
theorem item_of {xs : List V} {its : List Value} {j : Nat} (r : Vals xs its) (h : j < its.toArray.size) : ∃ x, xs[j]? = some x ∧ RelV x its.toArray[j] := by
  have hl := r.length
  have hj : j < xs.length := by rw [List.size_toArray] at h; omega
  obtain ⟨u, hu, ru⟩ := r.get (i := j) (x := xs[j]) (by simp [hj])
  refine ⟨xs[j], by simp [hj], ?_⟩
  have e : its.toArray[j] = u := by
    have h2 : j < its.length := by rw [List.size_toArray] at h; exact h
    have := List.getElem?_eq_getElem h2
    rw [hu] at this
    simpa using (Option.some.inj this).symm
  rw [e]; exact ru
theorem _root_.PyProof.Rows.IsTup.isTuple' {h : Heap} {a : Addr} {its : Array Value} (p : IsTup h a its) : h.IsTuple a its := p
theorem EqD.at {K : PySem.W.Frag} {H : Hp} {n : Nat} {x y : V} {b : Bool} (d : EqD K H n x y b) : ∀ {X : Cx} {pins : List (Addr × Obj)} {σ : St} {s : Shared} {A : Around} {u v : Value}, X.K = K → Inv X pins σ H s → RelV x u → RelV y v → A.units + n < cLine → SeqAt.EqAt A s u v b := by
  induction d with
  | flat fx fy => intro X pins σ s A u v hK I rx ry hu; exact eqAt_V rx ry fx fy
  | same => intro X pins σ s A u v hK I rx ry hu; cases rx; cases ry; exact SeqAt.EqAt.same _
  | @lst n a b xs ys e hx hy hne hl _ ih =>
    intro X pins σ s A u v hK I rx ry hu
    subst hK
    cases rx; cases ry
    obtain ⟨ia, ra, pa, _⟩ := I.list hx
    obtain ⟨ib, rb, pb, _⟩ := I.list hy
    have la := ra.length
    have lb := rb.length
    have hs : ia.toArray.size = ib.toArray.size := by rw [List.size_toArray, List.size_toArray]; omega
    have q := SeqAt.RcAt.lists (A := A) (e := e) pa.isList pb.isList hs (by omega) fun j h1 h2 => by
      obtain ⟨x, ex, rx⟩ := item_of ra h1
      obtain ⟨y, ey, ry⟩ := item_of rb h2
      exact ih j x y ex ey rfl I rx ry (by show A.units + 1 + n < cLine; omega)
    rw [List.size_toArray, ← la] at q
    exact SeqAt.EqAt.of_refs hne q
  | @lstN n a b xs ys hx hy hne hl =>
    intro X pins σ s A u v hK I rx ry hu
    subst hK
    cases rx; cases ry
    obtain ⟨ia, ra, pa, _⟩ := I.list hx
    obtain ⟨ib, rb, pb, _⟩ := I.list hy
    have la := ra.length
    have lb := rb.length
    exact SeqAt.EqAt.of_refs hne (SeqAt.RcAt.lists_lengths pa.isList pb.isList (by rw [List.size_toArray, List.size_toArray]; simp; omega) (by omega))
  | @tup n a b xs ys e hx hy hne _ ih =>
    intro X pins σ s A u v hK I rx ry hu
    subst hK
    cases rx; cases ry
    obtain ⟨ia, ra, pa, _⟩ := I.tuple hx
    obtain ⟨ib, rb, pb, _⟩ := I.tuple hy
    have la := ra.length
    have lb := rb.length
    have q := SeqAt.RcAt.tuples (A := A) (e := e) pa.isTuple' pb.isTuple' (by omega) fun j h1 h2 => by
      obtain ⟨x, ex, rx⟩ := item_of ra h1
      obtain ⟨y, ey, ry⟩ := item_of rb h2
      exact ih j x y ex ey rfl I rx ry (by show A.units + 1 + n < cLine; omega)
    rw [List.size_toArray, List.size_toArray, ← la, ← lb] at q
    exact SeqAt.EqAt.of_refs hne q
  | @tupF n a xs y hx fy =>
    intro X pins σ s A u v hK I rx ry hu
    subst hK
    cases rx
    obtain ⟨ia, ra, pa, _⟩ := I.tuple hx
    have hu' : A.units < cLine := by omega
    cases y with
    | non => cases (show v = Value.none from ry); exact SeqAt.EqAt.tuple_none pa.isTuple' hu'
    | bl b => cases (show v = Value.bool b from ry); exact SeqAt.EqAt.tuple_bool b pa.isTuple' hu'
    | int i => obtain ⟨t, q⟩ := (show ∃ t, v = Value.int i t from ry); cases q; exact SeqAt.EqAt.tuple_int i t pa.isTuple' hu'
    | str z => obtain ⟨t, q⟩ := (show ∃ t, v = Value.str z t from ry); cases q; exact SeqAt.EqAt.tuple_str z t pa.isTuple' hu'
    | byt b => cases fy
    | flt b => cases fy
    | ref a => cases fy
    | ty n => cases fy
  | @fTup n a xs y hx fy =>
    intro X pins σ s A u v hK I rx ry hu
    subst hK
    cases ry
    obtain ⟨ia, ra, pa, _⟩ := I.tuple hx
    have hu' : A.units < cLine := by omega
    cases y with
    | non => cases (show u = Value.none from rx); exact SeqAt.EqAt.none_tuple pa.isTuple' hu'
    | bl b => cases (show u = Value.bool b from rx); exact SeqAt.EqAt.bool_tuple b pa.isTuple' hu'
    | int i => obtain ⟨t, q⟩ := (show ∃ t, u = Value.int i t from rx); cases q; exact SeqAt.EqAt.int_tuple i t pa.isTuple' hu'
    | str z => obtain ⟨t, q⟩ := (show ∃ t, u = Value.str z t from rx); cases q; exact SeqAt.EqAt.str_tuple z t pa.isTuple' hu'
    | byt b => cases fy
    | flt b => cases fy
    | ref a => cases fy
    | ty n => cases fy
def EqIt (K : PySem.W.Frag) (H : Hp) (n : Nat) (xs ys : List V) (e : Nat → Bool) : Prop := ∀ i x y, xs[i]? = some x → ys[i]? = some y → EqD K H n x y (e i)
def rEqL (K : PySem.W.Frag) (neg : Bool) : R2 := fun x y H Q => ∃ a b xs ys n e, x = .ref a ∧ y = .ref b ∧ SqL K H a xs ∧ SqL K H b ys ∧ n ≤ 90 ∧ EqIt K H n xs ys e ∧ Q (.bl (neg ^^ (decide (xs.length = ys.length) && (List.range xs.length).all e))) H
theorem op_eqL (hu : X.A.units + 100 < cLine) : OpR X (compareOp .Eq) (rEqL X.K false) := by
  intro pins s σ H x y v u Q I rx ry h
  obtain ⟨a, b, xs, ys, n, e, rfl, rfl, hx, hy, hn, he, q⟩ := h
  cases rx; cases ry
  obtain ⟨ia, ra, pa, _⟩ := I.list hx
  obtain ⟨ib, rb, pb, _⟩ := I.list hy
  have la := ra.length
  have lb := rb.length
  rw [Bool.false_xor] at q
  by_cases hl : xs.length = ys.length
  · rw [decide_eq_true hl, Bool.true_and] at q
    refine SeqAt.eq_listAt (e := e) pa.isList pb.isList (by rw [List.size_toArray, List.size_toArray]; omega) (by omega) (fun j h1 h2 => ?_) ⟨.bl _, H, I, rfl, ?_⟩
    · obtain ⟨x, ex, rx⟩ := item_of ra h1
      obtain ⟨y, ey, ry⟩ := item_of rb h2
      exact (he j x y ex ey).at rfl I rx ry (by show X.A.units + 1 + n < cLine; omega)
    · rw [List.size_toArray, ← la]; exact q
  · rw [decide_eq_false hl, Bool.false_and] at q
    exact SeqAt.eq_list_lengthsAt pa.isList pb.isList (by rw [List.size_toArray, List.size_toArray]; simp; omega) (by omega) ⟨.bl _, H, I, rfl, q⟩
def rEqT (K : PySem.W.Frag) (neg : Bool) : R2 := fun x y H Q => ∃ a b xs ys n e, x = .ref a ∧ y = .ref b ∧ SqT K H a xs ∧ SqT K H b ys ∧ n ≤ 90 ∧ EqIt K H n xs ys e ∧ Q (.bl (neg ^^ ((List.range (min xs.length ys.length)).all e && xs.length == ys.length))) H
theorem op_eqT (hu : X.A.units + 100 < cLine) : OpR X (compareOp .Eq) (rEqT X.K false) := by
  intro pins s σ H x y v u Q I rx ry h
  obtain ⟨a, b, xs, ys, n, e, rfl, rfl, hx, hy, hn, he, q⟩ := h
  cases rx; cases ry
  obtain ⟨ia, ra, pa, _⟩ := I.tuple hx
  obtain ⟨ib, rb, pb, _⟩ := I.tuple hy
  have la := ra.length
  have lb := rb.length
  rw [Bool.false_xor] at q
  refine SeqAt.eq_tupleAt (e := e) pa.isTuple' pb.isTuple' (by omega) (fun j h1 h2 => ?_) ⟨.bl _, H, I, rfl, ?_⟩
  · obtain ⟨x, ex, rx⟩ := item_of ra h1
    obtain ⟨y, ey, ry⟩ := item_of rb h2
    exact (he j x y ex ey).at rfl I rx ry (by show X.A.units + 1 + n < cLine; omega)
  · rw [List.size_toArray, List.size_toArray, ← la, ← lb]; exact q
theorem hu100 {A : Around} {k : Nat} (hr : Room k A) : A.units + 100 < cLine := Nat.lt_of_le_of_lt (by omega) hr.un

def strsAre : List Expr → List Str → Bool
  | [], [] => true
  | .Constant (.str x) _ _ :: r, z :: zs => x == z && strsAre r zs
  | _, _ => false
def tStrs (zs : List Str) : TA := fun _ H Q => Q (zs.map V.str) H
theorem pa_strs : ∀ {es : List Expr} {zs : List Str}, strsAre es zs = true → PA X es (tStrs zs) := by
  intro es
  induction es with
  | nil =>
    intro zs h
    cases zs with
    | nil => exact pa_nil
    | cons z zs => cases h
  | cons e r ih =>
    intro zs h
    unfold strsAre at h
    split at h
    · exact absurd ‹e :: r = []› (List.cons_ne_nil _ _)
    · rename_i x j p r' z zs' h1
      cases h1
      rw [Bool.and_eq_true] at h
      have hx : x = z := by simpa using h.1
      subst hx
      exact pa_cons (X := X) (e := .Constant (.str x) j p) pe_str (ih h.2)
    · cases h
end
end L2
namespace L2
open PySem PySem.Spec PyProof.Rows
set_option genInjectivity false in
structure Def (K : PySem.W.Frag) (mg : Str → Option Value) (x : Str) (st : Stmt) (ps : List Str) where
  f : Addr
  fd : FuncData
  F : Fun K x x st f fd
  hm : mg x = some (.ref f)
  b : Binds K fd ps []
theorem cxOf_K {CX : CXT} {P : Program} {w : World} {K : PySem.W.Frag} {mg : Str → Option Value} {base : Heap} {N : List Str} {qual : Str} {scope : Scope} {f : Addr} {cd : Value} {A : Around} {outer : List Env} {s : Shared} {H : Hp} {E : XK} :
    (cxOf CX P w K mg base N qual scope f cd A outer s H E).K = K := rfl
theorem cxComp_K {X : Cx} {N : List Str} {scope : Scope} {C : Addr} {s : Shared} {H : Hp} {fp : List Addr} {pn : List (Addr × Obj)} : (cxComp X N scope C s H fp pn).K = X.K := rfl
structure InK (K : PySem.W.Frag) (x : Str) (st : Stmt) : Prop where
  ex : ∃ (f : Addr) (oc : Value) (od : Option Addr) (kV doc pm : Value) (an : Option Addr) (cdv ct : Value) (osl : Array (Option Value)),
    PySem.W.nsIn K mainGlobals x = some (some (.ref f)) ∧ K.lookup f = some ⟨oc, od, .func (PySem.W.fnOf x x (defArgs st) (defBody st) (defScope st) .none kV doc pm an cdv ct), osl⟩ ∧ PySem.W.codeIn K cdv x = true ∧ PySem.W.keepIn K (.ref f) = true
theorem InK.of {K : PySem.W.Frag} {x : Str} {st : Stmt} {f : Addr} {oc : Value} {od : Option Addr} {kV doc pm : Value} {an : Option Addr} {cdv ct : Value} {osl : Array (Option Value)}
    (a : PySem.W.nsIn K mainGlobals x = some (some (.ref f))) (l : K.lookup f = some ⟨oc, od, .func (PySem.W.fnOf x x (defArgs st) (defBody st) (defScope st) .none kV doc pm an cdv ct), osl⟩) (c : PySem.W.codeIn K cdv x = true) (k : PySem.W.keepIn K (.ref f) = true) : InK K x st :=
  ⟨⟨f, oc, od, kV, doc, pm, an, cdv, ct, osl, a, l, c, k⟩⟩
theorem InK.def {K : PySem.W.Frag} {mg : Str → Option Value} {h : Heap} {x : Str} {st : Stmt} {ps : List Str} (i : InK K x st) (X : K.In h) (G : h.Ns mainGlobals mg)
    (hb : ∀ (kV doc pm : Value) (an : Option Addr) (cdv ct : Value) (us : List Value), us.length = ps.length → bindArgs (PySem.W.fnOf x x (defArgs st) (defBody st) (defScope st) .none kV doc pm an cdv ct) ⟨us, []⟩ = pure (ps.zip us)) : Nonempty (Def K mg x st ps) := by
  obtain ⟨f, oc, od, kV, doc, pm, an, cdv, ct, osl, a, l, c, k⟩ := i.ex
  have F := fun_mk (x := x) (qual := x) (st := st) l c k
  exact ⟨⟨f, _, F, PySem.W.mg_of X G a, F.binds hb⟩⟩
def strsOf : List Str → List Value → Bool
  | [], [] => true
  | z :: zs, .str x _ :: r => x == z && strsOf zs r
  | _, _ => false
theorem strsOf_vals : ∀ {zs : List Str} {us : List Value}, strsOf zs us = true → Vals (zs.map V.str) us := by
  intro zs
  induction zs with
  | nil =>
    intro us h
    cases us with
    | nil => exact .nil
    | cons u r => cases h
  | cons z zs ih =>
    intro us h
    cases us with
    | nil => cases h
    | cons u r =>
      cases u with
      | str x t =>
        have h' : (x == z && strsOf zs r) = true := h
        rw [Bool.and_eq_true] at h'
        have e : x = z := by simpa using h'.1
        subst e
        exact .cons ⟨t, rfl⟩ (ih h'.2)
      | _ => cases h
structure InT (K : PySem.W.Frag) (x : Str) (zs : List Str) : Prop where
  ex : ∃ (p : Addr) (dd : Option Addr) (its : Array Value) (n : Nat) (sl : Array (Option Value)), PySem.W.nsIn K mainGlobals x = some (some (.ref p)) ∧ K.lookup p = some ⟨.type "tuple", dd, .seq its n, sl⟩ ∧ its.size ≤ sizeLine ∧ strsOf zs its.toList = true
theorem InT.of {K : PySem.W.Frag} {x : Str} {zs : List Str} {p : Addr} {dd : Option Addr} {its : Array Value} {n : Nat} {sl : Array (Option Value)} (a : PySem.W.nsIn K mainGlobals x = some (some (.ref p))) (l : K.lookup p = some ⟨.type "tuple", dd, .seq its n, sl⟩)
    (s : its.size ≤ sizeLine) (v : strsOf zs its.toList = true) : InT K x zs := ⟨⟨p, dd, its, n, sl, a, l, s, v⟩⟩
theorem bt_len : bootBuiltins "len" = some (.builtin "len") := by decide +kernel
theorem bt_all : bootBuiltins "all" = some (.builtin "all") := by decide +kernel
theorem bt_isinstance : bootBuiltins "isinstance" = some (.builtin "isinstance") := by decide +kernel
theorem bt_str : bootBuiltins "str" = some (.type "str") := by decide +kernel
theorem bt_int : bootBuiltins "int" = some (.type "int") := by decide +kernel
theorem bt_bool : bootBuiltins "bool" = some (.type "bool") := by decide +kernel
theorem bt_list : bootBuiltins "list" = some (.type "list") := by decide +kernel
theorem bt_tuple : bootBuiltins "tuple" = some (.type "tuple") := by decide +kernel
theorem Same.seqT {K : PySem.W.Frag} {H H' : Hp} {a : Addr} {xs : List V} (e : Same H H') (h : SqT K H a xs) : SqT K H' a xs := by
  rcases h with (h | ⟨o, h⟩) | h
  · exact .inl (.inl (e _ _ h))
  · exact .inl (.inr ⟨o, e _ _ h⟩)
  · exact .inr h
theorem Same.upd {H : Hp} {a : Addr} {o : HO} (h : H a = none) : Same H (L2.upd H a o) := fun b u e => by rw [upd_ne (ne_of_none e h)]; exact e
theorem lenV_str {K : PySem.W.Frag} {z : Str} {H : Hp} {n : Nat} : LenV K (.str z) H n ↔ z.length ≤ sizeLine ∧ n = z.length := Iff.rfl
theorem lenV_ref {K : PySem.W.Frag} {p : Addr} {H : Hp} {n : Nat} : LenV K (.ref p) H n ↔ (∃ xs, SqL K H p xs ∧ n = xs.length) ∨ ∃ xs, SqT K H p xs ∧ n = xs.length := Iff.rfl
end L2
namespace L2
open PySem PySem.Spec PyProof.Rows
section
variable {X : Cx} {o e f : Expr} {apos cpos pos : Pos} {td ty tx : TE}

def DKd (P : Program) (w : World) (K : PySem.W.Frag) (a : Addr) (kvs : List (Key × V)) : Prop := (a == sysModules) = false ∧ ∀ h : Heap, K.In h → ∃ vs, KV kvs vs ∧ h.DictOf (mixKind P w) a vs
variable {K : PySem.W.Frag}
theorem ix_listK (h : X.K = K) : IxR X (rIxL K) := by subst h; exact ix_list
theorem ix_tupK (h : X.K = K) : IxR X (rIxT K) := by subst h; exact ix_tup
theorem sl_listK (h : X.K = K) : SlR X (rSlL K) := by subst h; exact sl_list
theorem Inv.turned2 {X : Cx} {pins : List (Addr × Obj)} {σ : List (Option V)} {H : Hp} {s : Shared} {h' : Heap} {t' : Nat} {e it : Addr} (I : Inv X pins σ H s) (k : ∀ b o, b ≠ e → b ≠ it → s.heap.get? b = some o → h'.get? b = some o) (fe : FpOk X pins H e) (fi : FpOk X pins H it) : Inv X pins σ H { s with heap := h', toks := t' } := by
  obtain ⟨e0, e1, _, e3, e4, e5⟩ := fe
  obtain ⟨i0, i1, _, i3, i4, i5⟩ := fi
  have nit : ∀ b u, H b = some u → b ≠ it := fun b u q z => by rw [z, i0] at q; cases q
  have nie : ∀ b u, H b = some u → b ≠ e := fun b u q z => by rw [z, e0] at q; cases q
  have kk : ∀ b o, b ∉ [e, it] → s.heap.get? b = some o → h'.get? b = some o := fun b o hc q => k b o (fun z => hc (by simp [z])) (fun z => hc (by simp [z])) q
  refine I.step (g' := s.gens) (d' := s.drawn) (ch := [e, it]) (fun b hb => ?_) (fun b o _ _ hc q _ => kk b o hc q) (fun b o _ _ hc q _ => ⟨o.slots, kk b o hc q⟩) (fun _ _ _ _ n => n)
    (fun b o hc q => ⟨o, kk b o hc q⟩) (fun _ _ q => q) (fun _ _ _ q => q) (fun b ps q => ⟨#[], by rw [q]; simp⟩) (fun m hm => ?_) (fun b u q => ?_) I.bare
  · rcases List.mem_cons.mp hb with rfl | hb
    · exact ⟨e3, e1, e4, e5⟩
    · have z : b = it := by simpa using hb
      subst z
      exact ⟨i3, i1, i4, i5⟩
  · obtain ⟨o, es, ep, ho, r⟩ := hm
    exact ⟨o, es, ep, k _ o (Ne.symm e1) (Ne.symm i1) ho, r⟩
  · refine (I.hok b u q).stay (fun c v hc q' => k c v ?_ ?_ q') (fun _ q => q) fun _ _ q => q
    · rcases hc with z | z
      · rw [z]; exact nie b u q
      · exact nie c _ z
    · rcases hc with z | z
      · rw [z]; exact nit b u q
      · exact nit c _ z
def Ite (K : PySem.W.Frag) (a : Addr) : It :=
  ⟨fun i H => ∃ xs x, SqL K H a xs ∧ xs[i]? = some x, fun i H v H' => ∃ p x, v = .ref p ∧ H p = none ∧ H' = upd H p (.tup [.int (i : Nat), x]) ∧ ∀ xs, SqL K H a xs → xs[i]? = some x, fun i H => ∃ xs, SqL K H a xs ∧ xs.length ≤ i⟩
theorem turn_enum {P : Program} {w : World} {K : PySem.W.Frag} {es : List Expr} {x1} {pos : Pos} (a e it : Addr) (hne : e ≠ it) : Turn P w K (.Tuple es x1 pos) (Ite K a) [e, it] e (fun i h => (∃ old, IsEnum h e it (i : Nat) old) ∧ h.IsListIter it a i) where
  mem := by simp
  obj := fun i h st b hb => by
    obtain ⟨⟨old, he⟩, hit⟩ := st
    rcases List.mem_cons.mp hb with rfl | hb
    · exact ⟨_, he, fun v z => by
        have z' : Data.fields _ = Data.cell v := z
        cases z'⟩
    · have z : b = it := by simpa using hb
      subst z
      obtain ⟨o, e, c, d⟩ := hit
      exact ⟨o, e, fun v z => by rw [d] at z; cases z⟩
  keep := fun i h h' st k => ⟨let ⟨old, he⟩ := st.1; ⟨old, k e (by simp) _ he⟩, st.2.at fun o q => k it (by simp) o q⟩
  item := by
    intro X hP hw hK hc i pins s σ H E I hf st hg
    subst hP hw hK
    obtain ⟨xs, x, hq, hx⟩ := hg
    obtain ⟨its, rv, p, hz⟩ := I.list hq
    obtain ⟨u, hu, ru⟩ := rv.get hx
    obtain ⟨⟨old, he⟩, hit⟩ := st
    have fe := hf e (by simp)
    have fi := hf it (by simp)
    have helt : e < s.heap.objs.size := Heap.lt_size he
    have hilt : it < s.heap.objs.size := by obtain ⟨_, q, _⟩ := hit; exact Heap.lt_size q
    refine wpAny_pyNext_enum_item he hit p.isList (x := u) (by simpa using hu) hne fun h' ho hit' hT hsz hk => ?_
    refine ⟨_, rfl, wpAny_letOwnedTupleGo_enum ho fun h'' he'' hs'' => ?_⟩
    have hfr : H s.heap.objs.size = none := I.hok.fresh (Nat.le_refl _)
    have I1 : Inv X pins σ (upd H s.heap.objs.size (.tup [.int (i : Nat), x])) { s with heap := s.heap.push { cls := .type "tuple", data := .seq #[.int (i : Nat) s.toks, u] }, toks := s.toks } :=
      I.laid (t' := s.toks) (fun b v q => Heap.get?_push_of_some _ q) (Nat.le_refl _) ⟨show 2 ≤ sizeLine by decide, [.int (i : Nat) s.toks, u], .cons ⟨_, rfl⟩ (.cons ru .nil), ⟨_, Heap.get?_push_size _ rfl, rfl, _, rfl⟩⟩
    have up : ∀ {b : Addr}, FpOk X pins H b → b < s.heap.objs.size → FpOk X pins (upd H s.heap.objs.size (.tup [.int (i : Nat), x])) b := fun f hb => ⟨by rw [upd_ne (Nat.ne_of_lt hb)]; exact f.1, f.2⟩
    have I2 : Inv X pins σ (upd H s.heap.objs.size (.tup [.int (i : Nat), x])) { s with heap := h'', toks := s.toks + 1 } :=
      Inv.turned2 (s := { s with heap := s.heap.push { cls := .type "tuple", data := .seq #[.int (i : Nat) s.toks, u] }, toks := s.toks }) (h' := h'') (t' := s.toks + 1) (e := e) (it := it) I1 (fun b o b1 b2 q => by
        rw [hs''.2 b b1]
        by_cases hb : b = s.heap.objs.size
        · subst hb
          rw [Heap.get?_push_size _ rfl] at q
          cases q
          exact hT
        · refine hk b o b1 b2 ?_
          rw [← q]
          exact (Heap.get?_push_ne _ _ _ hb).symm) (up fe helt) (up fi hilt)
    refine ⟨.ref s.heap.objs.size, _, I2, rfl, ⟨_, x, rfl, hfr, rfl, fun ys hy => by rw [I.list_inj hy hq]; exact hx⟩, ⟨⟨_, by simpa using he''⟩, hit'.at fun o q => (hs''.2 it hne.symm).trans q⟩, fun b hb => ?_⟩
    rcases List.mem_cons.mp hb with rfl | hb
    · exact (up fe helt).1
    · have z : b = it := by simpa using hb
      subst z
      exact (up fi hilt).1
  done := by
    intro X hP hw hK hc i pins s σ H E I hf st hg
    subst hP hw hK
    obtain ⟨xs, hq, hx⟩ := hg
    obtain ⟨its, rv, p, hz⟩ := I.list hq
    obtain ⟨⟨old, he⟩, hit⟩ := st
    have fe := hf e (by simp)
    have fi := hf it (by simp)
    have hl := rv.length
    exact wpAny_pyNext_enum_end (I.ok.hd hc) he hit p.isList (by simp; omega) fun h' eb => ⟨rfl, Inv.turned2 (t' := s.toks) (e := e) (it := it) I (fun b o _ hb q => eb b o hb q) fe fi⟩
  self := fun _ _ _ _ _ st h => let ⟨_, he⟩ := st.1; wpAny_pyIter_enum he h
theorem bt_enumerate : bootBuiltins "enumerate" = some (.type "enumerate") := by decide +kernel
def iEnum (K : PySem.W.Frag) (ta : TA) : TI := fun σ H R => ta σ H fun vs H1 => ∃ a : Addr, vs = [.ref a] ∧ (∃ xs, SqL K H1 a xs) ∧ R (Ite K a) H1
theorem pi_enum {X : Cx} {es : List Expr} {x1} {tpos : Pos} {a : Expr} {ta : TA} {p pos : Pos} (hg : Gl X "enumerate") (hm : X.mg "enumerate" = none) (ha : PA X [a] ta) (hs : starEach [a] X.env = [(false, eval a X.env)] := by rfl) : PI X (.Tuple es x1 tpos) (.Call (.Name "enumerate" p) [a] [] pos) (iEnum X.K ta) := by
  intro pins s σ H R I h
  refine Call_ (ld_blt I hg hm bt_enumerate (PyProof.Rows.callWith_type1 (thn (ha pos pins s σ H _ I h) fun us s1 ⟨vs, H1, I1, r1, q1⟩ => ?_) hs rfl))
  obtain ⟨l, q0, ⟨xs, hq⟩, q⟩ := q1
  subst q0
  cases r1 with
  | cons r rr =>
    cases rr
    cases r
    obtain ⟨its, rv, pl, hz⟩ := I1.list hq
    refine call_enumerate_list pl.isList fun h' he hit hsz hk => wpAny_pyIter_enum he ?_
    refine ⟨s1.heap.objs.size + 1, [s1.heap.objs.size + 1, s1.heap.objs.size], _, _, H1, rfl, I1.kept (t' := s1.toks) hk, turn_enum l _ _ (Nat.succ_ne_self _), ⟨⟨_, he⟩, hit⟩, fun b hb => ?_, q⟩
    rcases List.mem_cons.mp hb with rfl | hb
    · exact I1.fpOk (by omega) (I1.hok.fresh (by omega))
    · have z : b = s1.heap.objs.size := by simpa using hb
      subst z
      exact I1.fpOk (Nat.le_refl _) (I1.hok.fresh (Nat.le_refl _))
theorem for_enum {K : PySem.W.Frag} {a : Addr} {xs : List V} {g : TG} {tb : TS} {D : Ends} {σ : St} {H : Hp} (Pv : Nat → St → Hp → Prop) (h0 : Pv 0 σ H) (hl : ∀ i σ H, i ≤ xs.length → Pv i σ H → SqL K H a xs)
    (hs : ∀ i x p σ H, xs[i]? = some x → Pv i σ H → H p = none → g (.ref p) σ (upd H p (.tup [.int (i : Nat), x])) fun σ2 H2 => tb { D with nx := Pv (i + 1), ct := Pv (i + 1), bk := D.nx } σ2 H2) (hd : ∀ σ H, Pv xs.length σ H → D.nx σ H) :
    ∃ W : Nat → Nat → St → Hp → Prop, (∃ m, W 0 m σ H) ∧ ∀ i m σ H, W i m σ H →
      ((Ite K a).stop i H ∧ D.nx σ H) ∨ ((Ite K a).go i H ∧ ∃ N : St → Hp → Prop, (∀ σ' H', N σ' H' → ∃ m', m' < m ∧ W (i + 1) m' σ' H') ∧ ∀ x H', (Ite K a).yld i H x H' → g x σ H' fun σ2 H2 => tb { D with nx := N, ct := N, bk := D.nx } σ2 H2) := by
  refine ⟨fun i m σ H => m = xs.length - i ∧ i ≤ xs.length ∧ Pv i σ H, ⟨xs.length, by simp, Nat.zero_le _, h0⟩, ?_⟩
  rintro i m σ H ⟨rfl, hi, p⟩
  have q := hl i σ H hi p
  by_cases hlt : i < xs.length
  · refine .inr ⟨⟨xs, xs[i], q, by simp [hlt]⟩, Pv (i + 1), fun σ' H' p' => ⟨xs.length - (i + 1), by omega, rfl, hlt, p'⟩, fun v H' y => ?_⟩
    obtain ⟨b, x, rfl, hb, rfl, hx⟩ := y
    exact hs i x b σ H (hx xs q) p hb
  · have z : i = xs.length := by omega
    subst z
    exact .inl ⟨⟨xs, q, Nat.le_refl _⟩, hd σ H p⟩
end
end L2
namespace L2
open PySem PySem.Spec PyProof.Rows
structure InM (K : PySem.W.Frag) (C : Addr) (m q : Str) (st : Stmt) : Prop where
  ex : ∃ (f : Addr) (oc : Value) (od : Option Addr) (kV doc pm : Value) (an : Option Addr) (cdv ct : Value) (osl : Array (Option Value)),
    PySem.W.findIn K (.ref C) m = some (some (.ref f)) ∧ PySem.W.isFn K (.ref f) = true ∧ K.lookup f = some ⟨oc, od, .func (PySem.W.fnOf m q (defArgs st) (defBody st) (defScope st) .none kV doc pm an cdv ct), osl⟩ ∧ PySem.W.codeIn K cdv q = true ∧ PySem.W.keepIn K (.ref f) = true
theorem InM.of {K : PySem.W.Frag} {C : Addr} {m q : Str} {st : Stmt} {f : Addr} {oc : Value} {od : Option Addr} {kV doc pm : Value} {an : Option Addr} {cdv ct : Value} {osl : Array (Option Value)}
    (a : PySem.W.findIn K (.ref C) m = some (some (.ref f))) (i : PySem.W.isFn K (.ref f) = true) (l : K.lookup f = some ⟨oc, od, .func (PySem.W.fnOf m q (defArgs st) (defBody st) (defScope st) .none kV doc pm an cdv ct), osl⟩) (c : PySem.W.codeIn K cdv q = true) (k : PySem.W.keepIn K (.ref f) = true) : InM K C m q st :=
  ⟨⟨f, oc, od, kV, doc, pm, an, cdv, ct, osl, a, i, l, c, k⟩⟩
set_option genInjectivity false in
structure MDef (K : PySem.W.Frag) (C : Addr) (m q : Str) (st : Stmt) (ps : List Str) where
  f : Addr
  fd : FuncData
  F : Fun K m q st f fd
  me : Meth K C m f
  b : Binds K fd ps []
theorem InM.def {K : PySem.W.Frag} {C : Addr} {m q : Str} {st : Stmt} {ps : List Str} (i : InM K C m q st)
    (hb : ∀ (kV doc pm : Value) (an : Option Addr) (cdv ct : Value) (us : List Value), us.length = ps.length → bindArgs (PySem.W.fnOf m q (defArgs st) (defBody st) (defScope st) .none kV doc pm an cdv ct) ⟨us, []⟩ = pure (ps.zip us)) : Nonempty (MDef K C m q st ps) := by
  obtain ⟨f, oc, od, kV, doc, pm, an, cdv, ct, osl, a, i, l, c, k⟩ := i.ex
  have F := fun_mk (x := m) (qual := q) (st := st) l c k
  exact ⟨⟨f, _, F, ⟨a, i, k⟩, F.binds hb⟩⟩
def unV (u : Value) : V := (absV u).getD .non
theorem unV_of {x : V} {u : Value} (r : RelV x u) : unV u = x := by
  cases x with
  | non => cases (show u = Value.none from r); rfl
  | bl b => cases (show u = Value.bool b from r); rfl
  | int i => obtain ⟨t, q⟩ := (show ∃ t, u = Value.int i t from r); cases q; rfl
  | str z => obtain ⟨t, q⟩ := (show ∃ t, u = Value.str z t from r); cases q; rfl
  | byt b => obtain ⟨t, q⟩ := (show ∃ t, u = Value.bytes b t from r); cases q; rfl
  | flt b => obtain ⟨t, q⟩ := (show ∃ t, u = Value.float b t from r); cases q; rfl
  | ref a => cases (show u = Value.ref a from r); rfl
  | ty n => cases (show u = Value.type n from r); rfl
theorem any_abs {e : V → Bool} : ∀ {xs : List V} {us : List Value}, Vals xs us → us.any (fun u => e (unV u)) = xs.any e
  | _, _, .nil => rfl
  | _, _, .cons r t => by rw [List.any_cons, List.any_cons, unV_of r, any_abs t]
theorem mem_vals : ∀ {xs : List V} {us : List Value} {u : Value}, Vals xs us → u ∈ us → ∃ x ∈ xs, RelV x u
  | _, _, _, .nil, h => by cases h
  | _, _, _, .cons r t, h => by
    rcases List.mem_cons.mp h with rfl | h
    · exact ⟨_, List.mem_cons_self, r⟩
    · obtain ⟨x, hx, rx⟩ := mem_vals t h
      exact ⟨x, List.mem_cons_of_mem _ hx, rx⟩
section
variable {X : Cx}
def rInD (K : PySem.W.Frag) (neg : Bool) : R2 := fun x y H Q => ∃ p xs n, ∃ e : V → Bool, y = .ref p ∧ SqL K H p xs ∧ n ≤ 90 ∧ (∀ z ∈ xs, EqD K H n z x (e z)) ∧ Q (.bl (neg ^^ xs.any e)) H
theorem op_inD (hu : X.A.units + 100 < cLine) : OpR X (compareOp .In) (rInD X.K false) := by
  intro pins s σ H x y v u Q I rx ry h
  obtain ⟨p, xs, n, e, rfl, hq, hn, he, q⟩ := h
  cases ry
  obtain ⟨its, r, pl, hz⟩ := I.list hq
  refine SeqAt.in_listAt (fun u => e (unV u)) pl.isList (fun w hw => ?_) ⟨.bl _, H, I, rfl, ?_⟩
  · obtain ⟨z, hz, rz⟩ := mem_vals r (by simpa using hw)
    rw [unV_of rz]
    exact (he z hz).at rfl I rz rx (by show X.A.units + 1 + n < cLine; omega)
  · rw [show its.toArray.any (fun u => e (unV u)) = its.any (fun u => e (unV u)) by simp, any_abs r]
    rw [Bool.false_xor] at q
    exact q
end
end L2
namespace HT
open PySem PySem.Spec PyProof.Rows
section
variable {prog : Program} {w : World} {A : Around} {E : Value → Shared → Prop} {s : Shared}
end
end HT
namespace L2
open PySem PySem.Spec PyProof.Rows
section
variable {X : Cx}
end
end L2
namespace L2
open PySem PySem.Spec PyProof.Rows
def del (H : Hp) (d : Addr) : Hp := fun b => if b = d then none else H b
theorem del_same {H : Hp} {d : Addr} : del H d d = none := by unfold del; rw [if_pos rfl]
theorem del_ne {H : Hp} {d b : Addr} (h : b ≠ d) : del H d b = H b := by unfold del; rw [if_neg h]
section
variable {X : Cx} {pins : List (Addr × Obj)} {σ : St} {H : Hp} {s : Shared}
end
end L2
namespace L2
open PySem PySem.Spec PyProof.Rows
section
variable {X : Cx} {CX : CXT} {k : Nat} {f C : Addr} {fd : FuncData} {ps : List Str} {sp : Sp} {dvs : List V} {ds : List Value} {E : XK} {x m : Str} {p pos apos : Pos} {e o : Expr} {es : List Expr} {ta : TE} {t : TA}
end
end L2
namespace L2
open PySem PySem.Spec PyProof.Rows
section
variable {X : Cx}
end
section
variable {X : Cx} {pins : List (Addr × Obj)} {σ : St} {H : Hp} {s : Shared} {a : Addr} {kvs : List (Key × V)} {k : Key} {u r : Value} {v : V} {A : Around} {E : Value → Shared → Prop}
end
end L2
namespace L2
open PySem PySem.Spec PyProof.Rows
end L2
namespace L2
open PySem PySem.Spec PyProof.Rows
end L2
namespace L2
open PySem PySem.Spec PyProof.Rows
end L2
namespace L2
open PySem PySem.Spec PyProof.Rows
section
variable {X : Cx} {CX : CXT} {k : Nat} {f : Addr} {fd : FuncData} {ps : List Str} {sp : Sp} {dvs : List V} {ds : List Value} {E : XK} {x : Str} {p pos : Pos} {e : Expr} {es : List Expr} {ta : TE} {t : TA}
def tCallV (f : Addr) (sp : Sp) (dvs : List V) (E : XK) (ta : TE) (t : TA) : TE := fun σ H Q => ta σ H fun y H0 => y = .ref f ∧ t σ H0 fun vs H1 => sp (vs ++ dvs) H1 Q E
theorem pe_callV (hn : PE X (.Name x p) ta) (F : FnOk X.prog X.w X.K X.mg X.base CX k f fd ps sp) (hr : Room k X.A) (hk : PySem.W.keepIn X.K (.ref f) = true) (hb : Binds X.K fd ps ds) (hd : Vals dvs ds) (hx : Passes CX X E)
    (ha : PA X (e :: es) t) (he : starEach (e :: es) X.env = (false, eval e X.env) :: starEach es X.env := by rfl) (hpl : (backTo pos (starEach es X.env)).any (·.1) = false := by rfl) :
    PE X (.Call (.Name x p) (e :: es) [] pos) (tCallV f sp dvs E ta t) := by
  intro pins s σ H Q I h
  refine wpAny_Call_Name_kw (thn (hn pins s σ H _ I h) fun u s0 ⟨y, H0, I0, r0, ey, q0⟩ => ?_)
  subst ey
  obtain rfl : u = Value.ref f := r0
  refine PySem.W.callWith_K (h₀ := X.base) I.ok.mod.kin hk (thn (ha pos pins s0 σ H0 _ I0 q0) fun us s1 ⟨vs, H1, I1, r, q⟩ => ⟨I1.kIn, ?_⟩) he hpl
  exact run_fn F hr hb hd hx I1 r q
end
end L2
namespace L2
open PySem PySem.Spec PyProof.Rows
theorem tuple_addW0 (l b : Addr) (items items2 : Array Value) (n n2 : Nat) (dd dd2 : Option Addr) (sl sl2 : Array (Option Value)) (hc0 : items.isEmpty = true) :
    Meets (Builtin.«tuple.__add__» ⟨[.ref l, .ref b], []⟩) (fun _ R s => s.heap.get? l = some { cls := .type "tuple", dict := dd, data := .seq items n, slots := sl } ∧ s.heap.get? b = some { cls := .type "tuple", dict := dd2, data := .seq items2 n2, slots := sl2 } ∧ R (.ok (.ret (Value.ref b))) { s with heap := s.heap, toks := s.toks }) :=
  .of_wp fun prog w A R s h => by obtain ⟨hp, g, d, tk, os⟩ := s; obtain ⟨hl, hb, h⟩ := h; have f2 := sub_tuple_tuple; wp_walk using wpAny_loadPart' hl, wpAny_loadPart' hb; exact ⟨_, rfl, h⟩
def rCatT0 (K : PySem.W.Frag) : R2 := fun x y H Q => rCatT K x y H Q ∨ ∃ a b, x = .ref a ∧ y = .ref b ∧ SqT K H a [] ∧ (∃ ys, SqT K H b ys) ∧ Q (.ref b) H
theorem op_catT0 {X : Cx} : OpR X (binaryOp .Add) (rCatT0 X.K) := by
  intro pins s σ H x y v u Q I rx ry h
  rcases h with h | ⟨a, b, rfl, rfl, ha, ⟨ys, hb⟩, q⟩
  · exact op_catT pins s σ H x y v u Q I rx ry h
  · cases rx
    cases ry
    obtain ⟨its, r1, p1, _⟩ := I.tuple ha
    obtain ⟨its2, r2, p2, _⟩ := I.tuple hb
    cases r1
    obtain ⟨⟨cls, dd, data, sl⟩, ho, hc, n, hd⟩ := id p1
    obtain ⟨⟨cls2, dd2, data2, sl2⟩, ho2, hc2, n2, hd2⟩ := id p2
    simp only at hc hd hc2 hd2
    subst hc hd hc2 hd2
    exact concat_meets ⟨_, ho, rfl⟩ ⟨_, ho2, rfl⟩ noFill_tuple_add seq_tuple_add PySem.F.slot_tuple_add PySem.F.entry_tuple_add (PySem.F.args_tuple_add_2 _ _)
      (tuple_addW0 a b _ its2.toArray n n2 dd dd2 sl sl2 (by simp)) ⟨ho, ho2, ⟨.ref b, H, I, rfl, q⟩⟩
end L2
namespace L2
open PySem PySem.Spec PyProof.Rows
end L2
namespace L2
open PySem PySem.Spec PyProof.Rows
theorem call_strV {X : Cx} : CallR X (.type "str") (fun xs H Q => (∃ i : Int, xs = [.int i] ∧ i.natAbs.log2 < 1920 ∧ Q (.str (toString i)) H) ∨ ∃ z, xs = [.str z] ∧ Q (.str z) H) := by
  intro pins s σ H xs us Q I r h
  rcases h with ⟨i, rfl, hz, q⟩ | ⟨z, rfl, q⟩
  · obtain ⟨u, rfl, t, rfl⟩ := vals1 r
    exact PySem.P.str_of_int hz ⟨.str _, H, I.tok _, ⟨_, rfl⟩, q⟩
  · obtain ⟨u, rfl, t, rfl⟩ := vals1 r
    exact PySem.P.str_of_str ⟨.str _, H, I, ⟨_, rfl⟩, q⟩
end L2
namespace L2
open PySem PySem.Spec PyProof.Rows
end L2
namespace L2
open PySem PySem.Spec PyProof.Rows PySem.Builtin PySem.Builtin.Str
theorem split_new {prog : Program} {w : World} {A : Around} {E : Value → Shared → Prop} {s : Shared} {x : Str} {t u : Tok} {c : Nat} {Q : Value → Shared → Prop} (hx : x.length ≤ sizeLine) (hn : (Txt.split x ⟨#[c]⟩).length ≤ sizeLine)
    (q : ∀ (l : List (Str × Tok)) (k : Nat), l.map (·.1) = Txt.split x ⟨#[c]⟩ → Q (.ref s.heap.objs.size) { s with heap := s.heap.push { cls := .type "list", data := .seq (strValues l).toArray }, toks := k }) :
    wpAny (model prog w) A (call (.builtin "str.split") [.str x t, .str ⟨#[c]⟩ u]) Q E s := by
  have ne : ((⟨#[c]⟩ : Str).length == 0) = false := rfl
  have def_ : Txt.split x ⟨#[c]⟩ = if (decide (x.length < (⟨#[c]⟩ : Str).length) || decide (strKind x < strKind ⟨#[c]⟩)) = true then [x] else if (occurrences x ⟨#[c]⟩ 0 x.length (x.length + 1)).isEmpty = true then [x] else partsBetween x (occurrences x ⟨#[c]⟩ 0 x.length (x.length + 1)) (⟨#[c]⟩ : Str).length := rfl
  by_cases no : (decide (x.length < (⟨#[c]⟩ : Str).length) || decide (strKind x < strKind ⟨#[c]⟩)) = true
  · rw [if_pos no] at def_
    exact call_meets F.slot_str_split (typeIs_str _ _ _) F.entry_str_split (F.args_str_split_2 _ _) (meets_str_split_cannot_occur x _ t u no) (q [(x, t)] s.toks def_.symm)
  · have no' : (decide (x.length < (⟨#[c]⟩ : Str).length) || decide (strKind x < strKind ⟨#[c]⟩)) = false := by simpa using no
    rw [if_neg no] at def_
    by_cases em : (occurrences x ⟨#[c]⟩ 0 x.length (x.length + 1)).isEmpty = true
    · rw [if_pos em] at def_
      exact call_meets F.slot_str_split (typeIs_str _ _ _) F.entry_str_split (F.args_str_split_2 _ _) (meets_str_split_not_found x _ t u no' ne em) (q [(x, t)] s.toks def_.symm)
    · rw [if_neg em] at def_
      rw [def_] at hn
      refine call_meets F.slot_str_split (typeIs_str _ _ _) F.entry_str_split (F.args_str_split_2 _ _) (meets_str_split_sep x _ t u no' ne (by simpa using em) hx hn) ?_
      have h := q (numbered s.toks (partsBetween x (occurrences x ⟨#[c]⟩ 0 x.length (x.length + 1)) (⟨#[c]⟩ : Str).length))
      have h2 := fun k => h k ((numbered_texts _ _).trans def_.symm)
      rw [← strsFrom_eq] at h2
      exact h2 _
def rSplit : V → List V → Hp → VK → Prop := fun x vs H Q => ∃ (z : Str) (c : Nat), x = .str z ∧ vs = [.str ⟨#[c]⟩] ∧ z.length ≤ 10000000 ∧ ∀ l, H l = none → Q (.ref l) (upd H l (.lst ((Txt.split z ⟨#[c]⟩).map V.str)))
theorem strs_vals : ∀ (l : List (Str × Tok)), Vals ((l.map (·.1)).map V.str) (strValues l)
  | [] => .nil
  | (x, t) :: r => .cons ⟨t, rfl⟩ (strs_vals r)
section
variable {X : Cx}
theorem mt_split : MtR X "str.split" rSplit := by
  intro pins s σ H x vs v us Q I rx rv h
  obtain ⟨z, c, rfl, rfl, hz, q⟩ := h
  obtain ⟨t, rfl⟩ := rx
  obtain ⟨u, rfl, ru⟩ := vals1 rv
  obtain ⟨t', rfl⟩ := ru
  have sl := split_le z ⟨#[c]⟩
  have hs : z.length ≤ sizeLine := Nat.le_trans hz (by decide)
  have hn : (Txt.split z ⟨#[c]⟩).length ≤ sizeLine := Nat.le_trans sl (Nat.le_trans (Nat.add_le_add_right hz 2) (by decide))
  refine split_new hs hn fun l k e => ?_
  refine ⟨.ref s.heap.objs.size, _, I.laid (t' := k) (fun b o g => Heap.get?_push_of_some _ g) (Nat.le_refl _) (show ObjOk X.prog X.w _ _ _ (.lst ((Txt.split z ⟨#[c]⟩).map V.str)) from ⟨by rw [List.length_map]; exact hn, strValues l, 0, ?_, Heap.get?_push_size _ rfl⟩), rfl, q _ (I.hok.fresh (Nat.le_refl _))⟩
  rw [← e]
  exact strs_vals l
theorem call_intT : CallR X (.type "int") (fun xs H Q => ∃ (z : Str) (n : Int), xs = [.str z] ∧ intText? z = some n ∧ z.length ≤ 640 ∧ Q (.int n) H) := by
  intro pins s σ H xs us Q I r h
  obtain ⟨z, n, rfl, h0, h1, q⟩ := h
  obtain ⟨u, rfl, rx⟩ := vals1 r
  obtain ⟨t, rfl⟩ := rx
  exact PySem.W.KIN.call_text h0 h1 ⟨.int n, H, I.tok _, ⟨_, rfl⟩, q⟩
end
theorem join_cps (c : Nat) : ∀ (a : Str) (r : List Str), (Str.join ⟨#[c]⟩ (a :: r)).cps.toList = a.cps.toList ++ (r.map fun b => c :: b.cps.toList).flatten
  | a, [] => by simp [Str.join]
  | a, b :: r => by
    have ih := join_cps c b r
    show (a ++ ⟨#[c]⟩ ++ Str.join ⟨#[c]⟩ (b :: r)).cps.toList = _
    show ((a.cps ++ #[c]) ++ (Str.join ⟨#[c]⟩ (b :: r)).cps).toList = _
    rw [Array.toList_append, Array.toList_append, ih]
    simp
theorem cut_one {c : Nat} : ∀ {a b x y : List Nat}, c ∉ a → c ∉ b → a ++ c :: x = b ++ c :: y → a = b ∧ x = y
  | [], [], _, _, _, _, h => ⟨rfl, (List.cons.inj h).2⟩
  | [], d :: b, _, _, _, hb, h => absurd (List.mem_cons.mpr (.inl (List.cons.inj h).1)) hb
  | d :: a, [], _, _, ha, _, h => absurd (List.mem_cons.mpr (.inl (List.cons.inj h).1.symm)) ha
  | d :: a, e :: b, x, y, ha, hb, h => by
    have h1 := List.cons.inj h
    obtain ⟨e1, e2⟩ := cut_one (fun z => ha (List.mem_cons_of_mem _ z)) (fun z => hb (List.mem_cons_of_mem _ z)) h1.2
    exact ⟨by rw [h1.1, e1], e2⟩
theorem cut_none {c : Nat} {a b x : List Nat} (ha : c ∉ a) (h : a = b ++ c :: x) : False := ha (by rw [h]; simp)
theorem joins_eq (c : Nat) : ∀ {l m : List Str}, l ≠ [] → m ≠ [] → (∀ a ∈ l, c ∉ a.cps.toList) → (∀ a ∈ m, c ∉ a.cps.toList) → Str.join ⟨#[c]⟩ l = Str.join ⟨#[c]⟩ m → l = m
  | [], _, h, _, _, _, _ => absurd rfl h
  | _, [], _, h, _, _, _ => absurd rfl h
  | a :: l, b :: m, _, _, hl, hm, h => by
    have e := congrArg (fun z : Str => z.cps.toList) h
    simp only [join_cps] at e
    have ha := hl a List.mem_cons_self
    have hb := hm b List.mem_cons_self
    cases l with
    | nil =>
      cases m with
      | nil =>
        simp at e
        have : a = b := by cases a; cases b; simpa using e
        rw [this]
      | cons b2 m => exact (cut_none ha (by simpa using e)).elim
    | cons a2 l =>
      cases m with
      | nil => exact (cut_none hb (by simpa using e.symm)).elim
      | cons b2 m =>
        simp only [List.map_cons, List.flatten_cons, List.cons_append] at e
        obtain ⟨e1, e2⟩ := cut_one ha hb e
        have e3 : a = b := by cases a; cases b; simpa using e1
        have e4 : Str.join ⟨#[c]⟩ (a2 :: l) = Str.join ⟨#[c]⟩ (b2 :: m) := by
          apply Str.ext'
          apply Array.toList_inj.mp
          rw [join_cps, join_cps]
          exact e2
        rw [e3, joins_eq c (by simp) (by simp) (fun x hx => hl x (List.mem_cons_of_mem _ hx)) (fun x hx => hm x (List.mem_cons_of_mem _ hx)) e4]
theorem split_join {c : Nat} {l : List Str} (h : l ≠ []) (hf : ∀ a ∈ l, c ∉ a.cps.toList) : Txt.split (Str.join ⟨#[c]⟩ l) ⟨#[c]⟩ = l :=
  joins_eq c (fun e => by have := split_pos (Str.join ⟨#[c]⟩ l) ⟨#[c]⟩; rw [e] at this; exact absurd this (by decide)) h (fun a ha => StrLaws.split_free _ c a ha) hf (StrLaws.join_split _ _)
end L2
namespace L2
open PySem PySem.Spec PyProof.Rows
theorem Inv.turnedN {X : Cx} {pins : List (Addr × Obj)} {σ : List (Option V)} {H : Hp} {s : Shared} {h' : Heap} {t' : Nat} {ch : List Addr} (I : Inv X pins σ H s) (k : ∀ b o, b ∉ ch → s.heap.get? b = some o → h'.get? b = some o) (f : ∀ c ∈ ch, FpOk X pins H c) : Inv X pins σ H { s with heap := h', toks := t' } := by
  have ni : ∀ b u, H b = some u → b ∉ ch := fun b u q m => by
    rw [(f b m).1] at q; cases q
  refine I.step (g' := s.gens) (d' := s.drawn) (ch := ch) (fun b hb => ?_) (fun b o _ _ hc q _ => k b o hc q) (fun b o _ _ hc q _ => ⟨o.slots, k b o hc q⟩) (fun _ _ _ _ n => n)
    (fun b o hc q => ⟨o, k b o hc q⟩) (fun _ _ q => q) (fun _ _ _ q => q) (fun b ps q => ⟨#[], by rw [q]; simp⟩) (fun m hm => ?_) (fun b u q => ?_) I.bare
  · obtain ⟨_, f1, _, f3, f4, f5⟩ := f b hb
    exact ⟨f3, f1, f4, f5⟩
  · obtain ⟨o, es, ep, ho, r⟩ := hm
    exact ⟨o, es, ep, k _ o (fun hc => (f _ hc).2.1 rfl) ho, r⟩
  · refine (I.hok b u q).stay (fun c v hc q' => k c v ?_ q') (fun _ q => q) fun _ _ q => q
    rcases hc with z | z
    · rw [z]; exact ni b u q
    · exact ni c _ z
def Itz (K : PySem.W.Frag) (a b : Addr) : It :=
  ⟨fun i H => ∃ xs ys x y, SqL K H a xs ∧ SqL K H b ys ∧ xs[i]? = some x ∧ ys[i]? = some y, fun i H v H' => ∃ p x y, v = .ref p ∧ H p = none ∧ H' = upd H p (.tup [x, y]) ∧ (∀ xs, SqL K H a xs → xs[i]? = some x) ∧ ∀ ys, SqL K H b ys → ys[i]? = some y, fun i H => ∃ xs ys, SqL K H a xs ∧ SqL K H b ys ∧ (xs.length ≤ i ∨ ys.length ≤ i)⟩
structure ZAp (z TI TO i1 i2 : Addr) : Prop where
  a1 : TI ≠ z
  a2 : TO ≠ z
  a3 : i1 ≠ z
  a4 : i2 ≠ z
  a5 : TI ≠ TO
  a6 : TI ≠ i1
  a7 : TI ≠ i2
  a8 : TO ≠ i1
  a9 : TO ≠ i2
  a10 : i1 ≠ i2
theorem cls_ne {h : Heap} {a b : Addr} {o p : Obj} (ha : h.get? a = some o) (hb : h.get? b = some p) (n : o.cls ≠ p.cls) : a ≠ b := fun e => by
  subst e
  rw [ha] at hb
  cases hb
  exact n rfl
theorem ZAp.apart {z TI TO i1 i2 l1 l2 : Addr} {h : Heap} {xs ys : Array Value} {f0 a b : Value} {k1 k2 : Nat} {m1 m2 : Addr} (Z : ZAp z TI TO i1 i2) (hz : IsZip h z TI TO f0) (hO : IsPair h TO a b) (h1 : h.IsListIter i1 m1 k1) (h2 : h.IsListIter i2 m2 k2) (g1 : h.IsList l1 xs) (g2 : h.IsList l2 ys) : ZipApart z TI TO i1 i2 l1 l2 := by
  obtain ⟨o1, e1, c1, _⟩ := h1
  obtain ⟨o2, e2, c2, _⟩ := h2
  obtain ⟨p1, d1, b1, _⟩ := g1
  obtain ⟨p2, d2, b2, _⟩ := g2
  refine ⟨Z.a1, Z.a2, Z.a3, Z.a4, Z.a5, Z.a6, Z.a7, Z.a8, Z.a9, Z.a10, cls_ne d1 hz ?_, cls_ne d1 hO ?_, cls_ne d1 e1 ?_, cls_ne d1 e2 ?_, cls_ne d2 hz ?_, cls_ne d2 hO ?_, cls_ne d2 e1 ?_, cls_ne d2 e2 ?_⟩
  · rw [b1]; show Value.type "list" ≠ Value.type "zip"; decide
  · rw [b1]; show Value.type "list" ≠ Value.type "tuple"; decide
  · rw [b1, c1]; decide
  · rw [b1, c2]; decide
  · rw [b2]; show Value.type "list" ≠ Value.type "zip"; decide
  · rw [b2]; show Value.type "list" ≠ Value.type "tuple"; decide
  · rw [b2, c1]; decide
  · rw [b2, c2]; decide
def znow (z TI TO i1 i2 l1 l2 : Addr) (i : Nat) (h : Heap) : Prop := IsZip h z TI TO .none ∧ IsPair h TI (.ref i1) (.ref i2) ∧ (∃ a b, IsPair h TO a b) ∧ h.IsListIter i1 l1 i ∧ h.IsListIter i2 l2 i
theorem turn_zip {P : Program} {w : World} {K : PySem.W.Frag} {es : List Expr} {x1} {pos : Pos} (z TI TO i1 i2 l1 l2 : Addr) (Z : ZAp z TI TO i1 i2) : Turn P w K (.Tuple es x1 pos) (Itz K l1 l2) [z, TI, TO, i1, i2] z (znow z TI TO i1 i2 l1 l2) where
  mem := by simp
  obj := fun i h st b hb => by
    obtain ⟨hz, hI, ⟨a, c, hO⟩, h1, h2⟩ := st
    simp only [List.mem_cons, List.not_mem_nil, or_false] at hb
    rcases hb with rfl | rfl | rfl | rfl | rfl
    · exact ⟨_, hz, fun v q => nomatch q⟩
    · exact ⟨_, hI, fun v q => nomatch q⟩
    · exact ⟨_, hO, fun v q => nomatch q⟩
    · obtain ⟨o, e, _, d⟩ := h1
      exact ⟨o, e, fun v q => by rw [d] at q; cases q⟩
    · obtain ⟨o, e, _, d⟩ := h2
      exact ⟨o, e, fun v q => by rw [d] at q; cases q⟩
  keep := fun i h h' st k => by
    obtain ⟨hz, hI, ⟨a, c, hO⟩, h1, h2⟩ := st
    exact ⟨k z (by simp) _ hz, k TI (by simp) _ hI, ⟨a, c, k TO (by simp) _ hO⟩, h1.at fun o q => k i1 (by simp) o q, h2.at fun o q => k i2 (by simp) o q⟩
  item := by
    intro X hP hw hK hc i pins s σ H E I hf st hg
    subst hP hw hK
    obtain ⟨xs, ys, x, y, q1, q2, hx, hy⟩ := hg
    obtain ⟨t1, rv1, p1, z1⟩ := I.list q1
    obtain ⟨t2, rv2, p2, z2⟩ := I.list q2
    obtain ⟨u1, hu1, ru1⟩ := rv1.get hx
    obtain ⟨u2, hu2, ru2⟩ := rv2.get hy
    obtain ⟨hz, hI, ⟨a, c, hO⟩, h1, h2⟩ := st
    have D := Z.apart hz hO h1 h2 p1.isList p2.isList
    have lz := Heap.lt_size hz
    have lI := Heap.lt_size hI
    have lO := Heap.lt_size hO
    have l1' : i1 < s.heap.objs.size := by obtain ⟨_, q, _⟩ := h1; exact Heap.lt_size q
    have l2' : i2 < s.heap.objs.size := by obtain ⟨_, q, _⟩ := h2; exact Heap.lt_size q
    refine wpAny_pyNext_zip_item D hz hI hO h1 h2 p1.isList p2.isList (x := u1) (y := u2) (by simpa using hu1) (by simpa using hu2) fun h' b1 b2 b3 b4 b5 b6 hk => ?_
    refine ⟨_, rfl, wpAny_letOwnedTupleGo_zip b1 fun h'' bz bs => ?_⟩
    have hfr : H s.heap.objs.size = none := I.hok.fresh (Nat.le_refl _)
    have I1 : Inv X pins σ (upd H s.heap.objs.size (.tup [x, y])) { s with heap := s.heap.push { cls := .type "tuple", data := .seq #[u1, u2] }, toks := s.toks } :=
      I.laid (t' := s.toks) (fun b v q => Heap.get?_push_of_some _ q) (Nat.le_refl _) ⟨show 2 ≤ sizeLine by decide, [u1, u2], .cons ru1 (.cons ru2 .nil), ⟨_, Heap.get?_push_size _ rfl, rfl, _, rfl⟩⟩
    have small : ∀ b ∈ [z, TI, TO, i1, i2], b < s.heap.objs.size := fun b hb => by
      simp only [List.mem_cons, List.not_mem_nil, or_false] at hb
      rcases hb with rfl | rfl | rfl | rfl | rfl <;> assumption
    have up : ∀ b ∈ [z, TI, TO, i1, i2], FpOk X pins (upd H s.heap.objs.size (.tup [x, y])) b := fun b hb => ⟨by rw [upd_ne (Nat.ne_of_lt (small b hb))]; exact (hf b hb).1, (hf b hb).2⟩
    have I2 : Inv X pins σ (upd H s.heap.objs.size (.tup [x, y])) { s with heap := h'', toks := s.toks } :=
      Inv.turnedN (s := { s with heap := s.heap.push { cls := .type "tuple", data := .seq #[u1, u2] }, toks := s.toks }) (h' := h'') (t' := s.toks) (ch := [z, TI, TO, i1, i2]) I1 (fun b o hb q => by
        simp only [List.mem_cons, List.not_mem_nil, or_false, not_or] at hb
        obtain ⟨n1, n2, n3, n4, n5⟩ := hb
        refine bs.extBut b o n1 ?_
        by_cases e : b = s.heap.objs.size
        · subst e
          rw [Heap.get?_push_size _ rfl] at q
          cases q
          exact b5
        · refine hk b o n1 n3 n4 n5 ?_
          rw [← q]
          exact (Heap.get?_push_ne _ _ _ e).symm) up
    refine ⟨.ref s.heap.objs.size, _, I2, rfl, ⟨_, x, y, rfl, hfr, rfl, fun zs hs => by rw [I.list_inj hs q1]; exact hx, fun zs hs => by rw [I.list_inj hs q2]; exact hy⟩, ⟨bz, bs.extBut _ _ Z.a1 (hk _ _ Z.a1 Z.a5 Z.a6 Z.a7 hI), ⟨_, _, bs.extBut _ _ Z.a2 b2⟩, b3.extBut bs.extBut Z.a3, b4.extBut bs.extBut Z.a4⟩, fun b hb => (up b hb).1⟩
  done := by
    intro X hP hw hK hc i pins s σ H E I hf st hg
    subst hP hw hK
    obtain ⟨xs, ys, q1, q2, hx⟩ := hg
    obtain ⟨t1, rv1, p1, z1⟩ := I.list q1
    obtain ⟨t2, rv2, p2, z2⟩ := I.list q2
    obtain ⟨hz, hI, ⟨a, c, hO⟩, h1, h2⟩ := st
    have D := Z.apart hz hO h1 h2 p1.isList p2.isList
    have e1 := rv1.length
    have e2 := rv2.length
    refine wpAny_pyNext_zip_end (I.ok.hd hc) D hz hI hO h1 h2 p1.isList p2.isList (hx.imp (fun q => by simp; omega) (fun q => by simp; omega)) fun h' hk => ⟨rfl, Inv.turnedN (t' := s.toks) (ch := [z, TI, TO, i1, i2]) I (fun b o hb q => ?_) hf⟩
    simp only [List.mem_cons, List.not_mem_nil, or_false, not_or] at hb
    obtain ⟨n1, n2, n3, n4, n5⟩ := hb
    exact hk b o n1 n3 n4 n5 q
  self := fun _ _ _ _ _ st h => wpAny_pyIter_zip st.1 h
theorem zap (n : Nat) : ZAp (n + 4) (n + 2) (n + 3) n (n + 1) :=
  have q : ∀ {i j : Nat}, i ≠ j → ∀ {a b : Addr}, a = i → b = j → a ≠ b := fun h _ _ e1 e2 e => h (e1.symm.trans (e.trans e2))
  ⟨q (i := n + 2) (j := n + 4) (by omega) rfl rfl, q (i := n + 3) (j := n + 4) (by omega) rfl rfl, q (i := n) (j := n + 4) (by omega) rfl rfl, q (i := n + 1) (j := n + 4) (by omega) rfl rfl, q (i := n + 2) (j := n + 3) (by omega) rfl rfl, q (i := n + 2) (j := n) (by omega) rfl rfl, q (i := n + 2) (j := n + 1) (by omega) rfl rfl, q (i := n + 3) (j := n) (by omega) rfl rfl, q (i := n + 3) (j := n + 1) (by omega) rfl rfl, q (i := n) (j := n + 1) (by omega) rfl rfl⟩
theorem bt_zip : bootBuiltins "zip" = some (.type "zip") := by decide +kernel
def iZip (K : PySem.W.Frag) (ta : TA) : TI := fun σ H R => ta σ H fun vs H1 => ∃ a b : Addr, vs = [.ref a, .ref b] ∧ (∃ xs, SqL K H1 a xs) ∧ (∃ ys, SqL K H1 b ys) ∧ R (Itz K a b) H1
theorem pi_zip {X : Cx} {es : List Expr} {x1} {tpos : Pos} {a b : Expr} {ta : TA} {p pos : Pos} (hg : Gl X "zip") (hm : X.mg "zip" = none) (ha : PA X [a, b] ta) (hs : starEach [a, b] X.env = (false, eval a X.env) :: starEach [b] X.env := by rfl) (hs2 : (backTo pos (starEach [b] X.env)).any (·.1) = false := by rfl) : PI X (.Tuple es x1 tpos) (.Call (.Name "zip" p) [a, b] [] pos) (iZip X.K ta) := by
  intro pins s σ H R I h
  refine Call_ (ld_blt I hg hm bt_zip (PyProof.Rows.callWith_type1 (thn (ha pos pins s σ H _ I h) fun us s1 ⟨vs, H1, I1, r1, q1⟩ => ?_) hs hs2))
  obtain ⟨l1, l2, q0, ⟨xs, hq1⟩, ⟨ys, hq2⟩, q⟩ := q1
  subst q0
  obtain ⟨u1, u2, rfl, r1, r2⟩ := vals2 r1
  cases r1
  cases r2
  obtain ⟨t1, rv1, p1, z1⟩ := I1.list hq1
  obtain ⟨t2, rv2, p2, z2⟩ := I1.list hq2
  refine call_zip_2 p1.isList p2.isList fun h' hz hI hO h1 h2 hsz hk => wpAny_pyIter_zip hz ?_
  have ne : ∀ {i j : Nat}, i ≠ j → s1.heap.objs.size + i ≠ s1.heap.objs.size + j := fun h => by omega
  refine ⟨s1.heap.objs.size + 4, [s1.heap.objs.size + 4, s1.heap.objs.size + 2, s1.heap.objs.size + 3, s1.heap.objs.size, s1.heap.objs.size + 1], _, _, H1, rfl, I1.kept (t' := s1.toks) hk, turn_zip (s1.heap.objs.size + 4) (s1.heap.objs.size + 2) (s1.heap.objs.size + 3) s1.heap.objs.size (s1.heap.objs.size + 1) l1 l2 (zap _), ⟨hz, hI, ⟨_, _, hO⟩, h1, h2⟩, fun b hb => ?_, q⟩
  have hb' : s1.heap.objs.size ≤ b := by
    simp only [List.mem_cons, List.not_mem_nil, or_false] at hb
    rcases hb with rfl | rfl | rfl | rfl | rfl
    · exact Nat.le_add_right _ _
    · exact Nat.le_add_right _ _
    · exact Nat.le_add_right _ _
    · exact Nat.le_refl _
    · exact Nat.le_add_right _ _
  exact I1.fpOk hb' (I1.hok.fresh hb')
theorem lc_zip {K : PySem.W.Frag} {a b : Addr} {xs ys : List V} {sel : List (Option Nat)} {g : TG} {tt : TT} {te : TE} {σ : St} {H : Hp} {Qe : List V → Hp → Prop} (hlen : xs.length = ys.length) (Pv : Nat → List V → Hp → Prop) (h0 : Pv 0 [] H)
    (hl : ∀ i zs H, i ≤ xs.length → Pv i zs H → SqL K H a xs ∧ SqL K H b ys ∧ zs.length ≤ i) (hz : xs.length ≤ sizeLine)
    (hs : ∀ i x y p zs H, xs[i]? = some x → ys[i]? = some y → Pv i zs H → H p = none → g (.ref p) (selS sel σ) (upd H p (.tup [x, y])) fun σ2 H2 => tt σ2 H2 fun b H3 => if b = true then te σ2 H3 fun y H4 => Pv (i + 1) (zs ++ [y]) H4 else Pv (i + 1) zs H3)
    (hd : ∀ zs H, Pv xs.length zs H → Qe zs H) : ∃ W : Nat → Nat → List V → Hp → Prop, (∃ m, W 0 m [] H) ∧ lcTurn sel g tt te σ (Itz K a b) W Qe := by
  refine ⟨fun i m zs H => m = xs.length - i ∧ i ≤ xs.length ∧ Pv i zs H, ⟨_, rfl, Nat.zero_le _, h0⟩, ?_⟩
  rintro i m zs H ⟨rfl, hi, p⟩
  obtain ⟨hA, hB, hy⟩ := hl i zs H hi p
  by_cases e : i = xs.length
  · subst e
    exact .inl ⟨⟨xs, ys, hA, hB, .inl (Nat.le_refl _)⟩, hd _ _ p⟩
  · have lt1 : i < xs.length := Nat.lt_of_le_of_ne hi e
    have lt2 : i < ys.length := by omega
    refine .inr ⟨⟨xs, ys, xs[i], ys[i], hA, hB, by simp [lt1], by simp [lt2]⟩, by omega, Pv (i + 1), fun zs' H' p' => ⟨xs.length - (i + 1), by omega, rfl, lt1, p'⟩, ?_⟩
    rintro v H' ⟨q, x, y, rfl, hq, rfl, hx, hy⟩
    exact hs i x y q zs H (hx xs hA) (hy ys hB) p hq
end L2
namespace L2
open PySem PySem.Spec PyProof.Rows
section
variable {X : Cx} {o e i : Expr} {apos cpos pos : Pos} {td ty : TE}
def tDInK (P : Program) (w : World) (K : PySem.W.Frag) (neg : Bool) (ty td : TE) : TE := fun σ H Q => ty σ H fun y H1 => td σ H1 fun x H2 => ∃ a kvs k, x = .ref a ∧ DKd P w K a kvs ∧ y = kV k ∧ Q (.bl (neg ^^ (valV kvs k).isSome)) H2
theorem pc_dinK (hi : PE X i ty) (ho : PE X o td) : PC X .In i o (tDInK X.prog X.w X.K false ty td) := by
  intro pins s σ H Q I h
  refine thn (hi pins s σ H _ I h) fun iv s1 ⟨y, H1, I1, ry, q1⟩ => thn (ho pins s1 σ H1 _ I1 q1) fun u s2 ⟨x, H2, I2, rx, a, kvs, k, ex, d, ey, q2⟩ => ?_
  subst ex ey
  obtain rfl : u = Value.ref a := rx
  obtain ⟨vs, rel, dd⟩ := d.2 s2.heap I2.kIn
  refine wpAny_in_of (kV_is ry) d.1 dd.mapOf ?_
  rw [← (rel.val k).isSome_eq]
  exact ⟨.bl (valV kvs k).isSome, H2, I2.tok _, rfl, by rw [Bool.false_xor] at q2; exact q2⟩
def tDIxK (P : Program) (w : World) (K : PySem.W.Frag) (td ty : TE) : TE := fun σ H Q => td σ H fun x H1 => ty σ H1 fun y H2 => ∃ a kvs k v, x = .ref a ∧ DKd P w K a kvs ∧ y = kV k ∧ valV kvs k = some v ∧ Q v H2
theorem pe_dixK (ho : PE X o td) (hi : PE X i ty) (hs : NoSl i) : PE X (.Subscript o i pos) (tDIxK X.prog X.w X.K td ty) := by
  intro pins s σ H Q I h
  refine subD_of PySem.F.slot_dict_getitem.lookup hs (thn (ho pins s σ H _ I h) fun u s1 ⟨x, H1, I1, rx, q1⟩ => thn (hi pins s1 σ H1 _ I1 q1) fun iv s2 ⟨y, H2, I2, ry, a, kvs, k, v, ex, d, ey, l, q2⟩ => ?_)
  subst ex ey
  obtain rfl : u = Value.ref a := rx
  obtain ⟨vs, rel, dd⟩ := d.2 s2.heap I2.kIn
  obtain ⟨w', hw, rw'⟩ := RelO.some_of (v := v) (o := valueAt vs k) (by rw [← l]; exact rel.val k)
  exact ⟨dd.typeIs, wpAny_getItem_of (kV_is ry) dd.mapOf hw ⟨v, H2, I2.tok _, rw', q2⟩⟩
end
end L2
namespace L2
open PySem PySem.Spec PyProof.Rows
open AutoSeq1 (wpAny_loadPart')
end L2
namespace L2
open PySem PySem.Spec PyProof.Rows
end L2
namespace L2
open PySem PySem.Spec PyProof.Rows
section
variable {X : Cx} {tg : Expr}
def iSq (K : PySem.W.Frag) (tl : TE) : TI := fun σ H R => tl σ H fun x H1 => ∃ a, x = .ref a ∧ ((∃ xs, SqT K H1 a xs) ∧ R (Itt K a) H1 ∨ (∃ xs, SqL K H1 a xs) ∧ R (Itl K a) H1)
theorem pi_sq {l : Expr} {tl : TE} (hl : PE X l tl) : PI X tg l (iSq X.K tl) := by
  intro pins s σ H R I h
  refine thn (hl pins s σ H _ I h) fun v s1 ⟨x, H1, I1, r1, q1⟩ => ?_
  obtain ⟨a, e, q1⟩ := q1
  subst e
  cases r1
  rcases q1 with ⟨⟨xs, hq⟩, q⟩ | ⟨⟨xs, hq⟩, q⟩
  · obtain ⟨its, rv, p, hz⟩ := I1.tuple hq
    refine wpAny_pyIter_tuple (show s1.heap.IsTuple a its.toArray from p) ?_
    refine ⟨s1.heap.objs.size, [s1.heap.objs.size], _, _, H1, rfl, I1.kept (t' := s1.toks) fun b o e => Heap.get?_push_of_some _ e, turn_tuple a _, ⟨_, Heap.get?_push_size _ rfl, rfl, rfl⟩, fun b hb => ?_, q⟩
    have e : b = s1.heap.objs.size := by simpa using hb
    subst e
    exact I1.fpOk (Nat.le_refl _) (I1.hok.fresh (Nat.le_refl _))
  · obtain ⟨its, rv, p, hz⟩ := I1.list hq
    refine wpAny_pyIter_list p.isList ?_
    refine ⟨s1.heap.objs.size, [s1.heap.objs.size], _, _, H1, rfl, I1.kept (t' := s1.toks) fun b o e => Heap.get?_push_of_some _ e, turn_list a _, ⟨_, Heap.get?_push_size _ rfl, rfl, rfl⟩, fun b hb => ?_, q⟩
    have e : b = s1.heap.objs.size := by simpa using hb
    subst e
    exact I1.fpOk (Nat.le_refl _) (I1.hok.fresh (Nat.le_refl _))
end
def SqE (K : PySem.W.Frag) (tp : Bool) (H : Hp) (a : Addr) (xs : List V) : Prop := if tp = true then SqT K H a xs else SqL K H a xs
theorem lc_sq {K : PySem.W.Frag} {a : Addr} {xs : List V} {sel : List (Option Nat)} {g : TG} {tt : TT} {te : TE} {σ : St} {H : Hp} {Qe : List V → Hp → Prop} (tp : Bool) (Pv : Nat → List V → Hp → Prop) (h0 : Pv 0 [] H)
    (hl : ∀ i ys H, i ≤ xs.length → Pv i ys H → SqE K tp H a xs ∧ ys.length ≤ i) (hz : xs.length ≤ sizeLine)
    (hs : ∀ i x ys H, xs[i]? = some x → Pv i ys H → g x (selS sel σ) H fun σ2 H2 => tt σ2 H2 fun b H3 => if b = true then te σ2 H3 fun y H4 => Pv (i + 1) (ys ++ [y]) H4 else Pv (i + 1) ys H3)
    (hd : ∀ ys H, Pv xs.length ys H → Qe ys H) :
    ((∃ xs, SqT K H a xs) ∧ ∃ W : Nat → Nat → List V → Hp → Prop, (∃ m, W 0 m [] H) ∧ lcTurn sel g tt te σ (Itt K a) W Qe) ∨ ((∃ xs, SqL K H a xs) ∧ ∃ W : Nat → Nat → List V → Hp → Prop, (∃ m, W 0 m [] H) ∧ lcTurn sel g tt te σ (Itl K a) W Qe) := by
  cases tp with
  | true =>
    have hl' : ∀ i ys H, i ≤ xs.length → Pv i ys H → SqT K H a xs ∧ ys.length ≤ i := fun i σ H h p => by have := hl i σ H h p; unfold SqE at this; rw [if_pos rfl] at this; exact this
    exact .inl ⟨⟨xs, (hl' 0 [] H (Nat.zero_le _) h0).1⟩, lc_tup Pv h0 hl' hz hs hd⟩
  | false =>
    have hl' : ∀ i ys H, i ≤ xs.length → Pv i ys H → SqL K H a xs ∧ ys.length ≤ i := fun i σ H h p => by have := hl i σ H h p; unfold SqE at this; rw [if_neg Bool.false_ne_true] at this; exact this
    exact .inr ⟨⟨xs, (hl' 0 [] H (Nat.zero_le _) h0).1⟩, lc_list Pv h0 hl' hz hs hd⟩
section
variable {X : Cx}
def rJoinT (K : PySem.W.Frag) : V → List V → Hp → VK → Prop := fun x vs H Q => ∃ (z : Str) (p : Addr) (zs : List Str), x = .str z ∧ vs = [.ref p] ∧ SqT K H p (zs.map V.str) ∧ (zs.map (·.length)).sum + zs.length * z.length ≤ 16777216 ∧ Q (.str (Txt.join z zs)) H
theorem mt_joinT : MtR X "str.join" (rJoinT X.K) := by
  intro pins s σ H x vs v us Q I rx rv h
  obtain ⟨z, p, zs, rfl, rfl, hp, hz, q⟩ := h
  obtain ⟨t, rfl⟩ := rx
  obtain ⟨u, rfl, ru⟩ := vals1 rv
  cases ru
  obtain ⟨its, r', pl, _⟩ := I.tuple hp
  exact join_tuple pl (strs_of r') hz fun t' k => ⟨.str _, H, I.tok _, ⟨_, rfl⟩, q⟩
theorem ext_tup (l : Addr) (items : Array Value) (n : Nat) (b : Addr) (items2 : Array Value) (n2 : Nat) (dd : Option Addr) (sl : Array (Option Value)) (h0 : ¬(!items.isEmpty && Builtin.List.listTooLong (items.size + items2.size)) = true) (h1 : items.size ≤ sizeLine) (h2 : items.size + items2.size ≤ sizeLine + 1) :
    Meets (Builtin.«list.extend» ⟨[.ref l, .ref b], []⟩) (fun _ R s => s.heap.get? l = some { cls := .type "list", dict := none, data := .seq items n, slots := #[] } ∧ s.heap.get? b = some { cls := .type "tuple", dict := dd, data := .seq items2 n2, slots := sl } ∧ R (.ok (.ret Value.none)) { s with heap := s.heap.update l (Obj.mapSeq fun x => x ++ items2), toks := s.toks }) := by
  refine .of_wp fun prog w A R s h => ?_
  obtain ⟨hp, g, d, tk, os⟩ := s
  obtain ⟨hl, hb, h⟩ := h
  have f1 := PySem.AutoSeq1.sub_tuple_tuple
  have f2 := PySem.AutoSeq1.sub_list_list
  have f3 := PySem.AutoSeq1.sub_tuple_list
  have f4 := PySem.AutoSeq1.sub_list_tuple
  have hz' : (items ++ items2).size ≤ sizeLine + 1 := by rw [Array.size_append]; exact h2
  wp_walk using (wpAny_updateSeq hl rfl (hz := h1) (_hz' := hz')), wpAny_loadPart' hl, wpAny_loadPart' hb
  exact ⟨_, rfl, h⟩
def rExtendT : V → List V → Hp → VK → Prop := fun x vs H Q => ∃ l b xs zs, x = .ref l ∧ vs = [.ref b] ∧ H l = some (.lst xs) ∧ H b = some (.tup zs) ∧ xs.length + zs.length ≤ sizeLine ∧ Q .non (upd H l (.lst (xs ++ zs)))
theorem mt_extendT : MtM X "list.extend" rExtendT := by
  intro pins s σ H x vs v us Q I rx rv h
  obtain ⟨l, b, xs, zs, rfl, rfl, hH, hB, hz, q⟩ := h
  cases rx
  obtain ⟨u, rfl, ru⟩ := rv.one
  cases ru
  obtain ⟨z, its, n, r, hl, e⟩ := I.lstM hH
  obtain ⟨its2, r2, p2, hz2⟩ := I.tuple (SqT.of (K := X.K) hB)
  obtain ⟨o2, e2, c2, n2, d2⟩ := p2
  have hl2 := r2.length
  have hsz : its.toArray.size + its2.toArray.size ≤ sizeLine := by rw [List.size_toArray, List.size_toArray]; omega
  have hlong : ¬ (!its.toArray.isEmpty && Builtin.List.listTooLong (its.toArray.size + its2.toArray.size)) = true := by
    rw [notLongL hsz, Bool.and_false]
    exact Bool.false_ne_true
  refine call_meets F.slot_list_extend ⟨_, e, rfl⟩ F.entry_list_extend (F.args_list_extend_2 _ _) (ext_tup l its.toArray n b its2.toArray n2 o2.dict o2.slots hlong (by rw [List.size_toArray]; omega) (by omega)) ⟨e, ?_, ?_⟩
  · rw [e2]
    obtain ⟨c, d, dt, sl⟩ := o2
    simp only at c2 d2
    subst c2 d2
    rfl
  · refine ⟨.non, _, I.lset (its' := its ++ its2) hH e (by simp) (r.append r2) ?_, rfl, q⟩
    rw [List.length_append]
    omega
def eqS (z : Str) : Value → Bool := fun u => match u with | .str a _ => a == z | _ => false
theorem mt_countS : MtR X "list.count" (fun x xs H Q => ∃ (l : Addr) (zs : List Str) (z : Str), x = .ref l ∧ xs = [.str z] ∧ H l = some (.lst (zs.map V.str)) ∧ Q (.int (zs.countP (· == z) : Nat)) H) := by
  intro pins s σ H x xs v us Q I rx rv h
  obtain ⟨l, zs, z, rfl, rfl, hl, q⟩ := h
  cases rx
  obtain ⟨u, rfl, ru⟩ := vals1 rv
  obtain ⟨t, rfl⟩ := ru
  obtain ⟨sz, its, n, r, lv, e⟩ := I.lstM hl
  have ei : ∀ {zs : List Str} {us : List Value}, Vals (zs.map V.str) us → us.countP (eqS z) = zs.countP (· == z) ∧ ∀ y ∈ us, ∃ a tk, y = Value.str a tk := by
    intro zs
    induction zs with
    | nil => intro us h; cases h; exact ⟨rfl, fun _ h => nomatch h⟩
    | cons b r ih =>
      intro us h
      cases h with
      | cons h1 h2 =>
        obtain ⟨tk, rfl⟩ := h1
        obtain ⟨i1, i2⟩ := ih h2
        refine ⟨by rw [List.countP_cons, List.countP_cons, i1]; rfl, fun y hy => ?_⟩
        rcases List.mem_cons.mp hy with rfl | hy
        · exact ⟨_, _, rfl⟩
        · exact i2 y hy
  obtain ⟨i1, i2⟩ := ei r
  refine call_meets PySem.F.slot_list_count ⟨_, e, rfl⟩ PySem.F.entry_list_count (PySem.F.args_list_count_2 _ _) (SeqAt.list_countAt l _ n none #[] (.str z t) (eqS z)) ⟨e, fun y hy => ?_, ?_⟩
  · rw [List.mem_toArray] at hy
    obtain ⟨a, tk, rfl⟩ := i2 y hy
    exact SeqAt.EqAt.str_str a tk z t
  · refine ⟨.int (zs.countP (· == z) : Nat), H, I.tok _, ⟨s.toks, ?_⟩, q⟩
    rw [List.toList_toArray, i1]
theorem idx_from (l : Addr) (items : Array Value) (n : Nat) (x : Value) (i : Nat) (t : Tok) (e : Value → Bool) (j : Nat) (hj : j < items.size) (hs : (j : Int) < 2 ^ 63 - 1) (hij : i ≤ j)
    (hit : e items[j] = true) (hno : ∀ m (hm : m < items.size), i ≤ m → m < j → e items[m] = false) :
    Meets (Builtin.«list.index» ⟨[.ref l, x, .int i t], []⟩)
      (fun A R s => s.heap.get? l = some { cls := .type "list", dict := none, data := .seq items n, slots := #[] } ∧ (∀ y, y ∈ items → SeqAt.EqAt A.in1 s y x (e y)) ∧ R (.ok (.ret (.int j s.toks))) { s with toks := s.toks + 1 }) := by
  intro prog w A R s h
  obtain ⟨hp, g, d, tk, os⟩ := s
  obtain ⟨hl, he, h⟩ := h
  wp_walk using wpAny_loadPart' hl
  have a1 : ((fun i : Int => if i < 0 then max 0 (i + (items.size : Int)) else i) ((some (i : Int)).getD 0)) = ((i : Nat) : Int) := by
    show (if ((i : Nat) : Int) < 0 then _ else _) = _
    rw [if_neg (by omega)]
    rfl
  have a2 : ((fun i : Int => if i < 0 then max 0 (i + (items.size : Int)) else i) ((none : Option Int).getD (2 ^ 63 - 1))) = 2 ^ 63 - 1 := by simp
  rw [a1, a2]
  refine ⟨plainId_quiet MeetsSeq.plain_index_loop _, codeAny_builtin MeetsSeq.entry_index_loop ?_⟩
  rw [Around.under_plainId MeetsSeq.plain_index_loop _]
  exact SeqAt.index_loopAt l items n none #[] x e (2 ^ 63 - 1) j hj hs hit _ i rfl hij hno prog w A R _ ⟨hl, he, h⟩
theorem strs_at : ∀ {zs : List Str} {us : List Value} {j : Nat}, Vals (zs.map V.str) us → (hj : j < us.length) → ∃ a tk, us[j] = Value.str a tk ∧ zs[j]? = some a
  | [], _, _, .nil, h => nomatch h
  | z :: zs, _, 0, .cons h1 _, _ => by
    obtain ⟨tk, rfl⟩ := h1
    exact ⟨z, tk, rfl, rfl⟩
  | z :: zs, _, j + 1, .cons _ h2, h => strs_at h2 (Nat.lt_of_succ_lt_succ h)
theorem mt_indexS : MtR X "list.index" (fun x xs H Q => ∃ (l : Addr) (zs : List Str) (z : Str) (j : Nat), x = .ref l ∧ xs = [.str z] ∧ H l = some (.lst (zs.map V.str)) ∧ zs[j]? = some z ∧ (∀ m, m < j → zs[m]? ≠ some z) ∧ Q (.int (j : Nat)) H) := by
  intro pins s σ H x xs v us Q I rx rv h
  obtain ⟨l, zs, z, j, rfl, rfl, hl, h1, h2, q⟩ := h
  cases rx
  obtain ⟨u, rfl, ru⟩ := vals1 rv
  obtain ⟨t, rfl⟩ := ru
  obtain ⟨sz, its, n, r, lv, e⟩ := I.lstM hl
  have hj : j < its.toArray.size := by
    have := (List.getElem?_eq_some_iff.mp h1).1
    rw [List.length_map] at lv
    rw [List.size_toArray]; omega
  have hjs : its.toArray.size ≤ 16777216 := by rw [List.size_toArray, ← lv]; rw [sizeLine_eq] at sz; exact Nat.le_trans sz (by decide)
  refine call_meets PySem.F.slot_list_index ⟨_, e, rfl⟩ PySem.F.entry_list_index (PySem.F.args_list_index_2 _ _) (SeqAt.list_indexAt l its.toArray n none #[] (.str z t) (eqS z) j hj (by omega) ?_ (fun m hm hmj => ?_)) ⟨e, fun y hy => ?_, ?_⟩
  · obtain ⟨a, tk, e1, e2⟩ := strs_at (j := j) r (by simpa using hj)
    rw [List.getElem_toArray, e1]
    rw [h1] at e2
    cases e2
    simp [eqS]
  · obtain ⟨a, tk, e1, e2⟩ := strs_at (j := m) r (by simpa using hm)
    rw [List.getElem_toArray, e1]
    have := h2 m hmj
    rw [e2] at this
    simpa [eqS] using this
  · rw [List.mem_toArray] at hy
    obtain ⟨i, hi, rfl⟩ := List.mem_iff_getElem.mp hy
    obtain ⟨a, tk, e1, _⟩ := strs_at (j := i) r hi
    rw [e1]
    exact SeqAt.EqAt.str_str a tk z t
  · exact ⟨.int j, H, I.tok _, ⟨_, rfl⟩, q⟩
theorem mt_indexS2 : MtR X "list.index" (fun x xs H Q => ∃ (l : Addr) (zs : List Str) (z : Str) (i j : Nat), x = .ref l ∧ xs = [.str z, .int (i : Nat)] ∧ H l = some (.lst (zs.map V.str)) ∧ i ≤ j ∧ zs[j]? = some z ∧ (∀ m, i ≤ m → m < j → zs[m]? ≠ some z) ∧ Q (.int (j : Nat)) H) := by
  intro pins s σ H x xs v us Q I rx rv h
  obtain ⟨l, zs, z, i, j, rfl, rfl, hl, hij, h1, h2, q⟩ := h
  cases rx
  obtain ⟨u, u', rfl, ru, ru'⟩ := vals2 rv
  obtain ⟨t, rfl⟩ := ru
  obtain ⟨t', rfl⟩ := ru'
  obtain ⟨sz, its, n, r, lv, e⟩ := I.lstM hl
  have hj : j < its.toArray.size := by
    have := (List.getElem?_eq_some_iff.mp h1).1
    rw [List.length_map] at lv
    rw [List.size_toArray]; omega
  have hjs : its.toArray.size ≤ 16777216 := by rw [List.size_toArray, ← lv]; rw [sizeLine_eq] at sz; exact Nat.le_trans sz (by decide)
  refine call_meets PySem.F.slot_list_index ⟨_, e, rfl⟩ PySem.F.entry_list_index (PySem.F.args_list_index_3 _ _ _) (idx_from l its.toArray n (.str z t) i t' (eqS z) j hj (by omega) hij ?_ (fun m hm him hmj => ?_)) ⟨e, fun y hy => ?_, ?_⟩
  · obtain ⟨a, tk, e1, e2⟩ := strs_at (j := j) r (by simpa using hj)
    rw [List.getElem_toArray, e1]
    rw [h1] at e2
    cases e2
    simp [eqS]
  · obtain ⟨a, tk, e1, e2⟩ := strs_at (j := m) r (by simpa using hm)
    rw [List.getElem_toArray, e1]
    have := h2 m him hmj
    rw [e2] at this
    simpa [eqS] using this
  · rw [List.mem_toArray] at hy
    obtain ⟨i, hi, rfl⟩ := List.mem_iff_getElem.mp hy
    obtain ⟨a, tk, e1, _⟩ := strs_at (j := i) r hi
    rw [e1]
    exact SeqAt.EqAt.str_str a tk z t
  · exact ⟨.int j, H, I.tok _, ⟨_, rfl⟩, q⟩
def rInDT (K : PySem.W.Frag) (neg : Bool) : R2 := fun x y H Q => ∃ p xs n, ∃ e : V → Bool, y = .ref p ∧ SqT K H p xs ∧ n ≤ 90 ∧ (∀ z ∈ xs, EqD K H n z x (e z)) ∧ Q (.bl (neg ^^ xs.any e)) H
theorem op_inDT (hu : X.A.units + 100 < cLine) : OpR X (compareOp .In) (rInDT X.K false) := by
  intro pins s σ H x y v u Q I rx ry h
  obtain ⟨p, xs, n, e, rfl, hq, hn, he, q⟩ := h
  cases ry
  obtain ⟨its, r, pl, hz⟩ := I.tuple hq
  refine SeqAt.in_tupleAt (fun u => e (unV u)) (show s.heap.IsTuple p its.toArray from pl) (fun w hw => ?_) ⟨.bl _, H, I, rfl, ?_⟩
  · obtain ⟨z, hz, rz⟩ := mem_vals r (by simpa using hw)
    rw [unV_of rz]
    exact (he z hz).at rfl I rz rx (by show X.A.units + 1 + n < cLine; omega)
  · rw [show its.toArray.any (fun u => e (unV u)) = its.any (fun u => e (unV u)) by simp, any_abs r]
    rw [Bool.false_xor] at q
    exact q
end
section
variable {X : Cx}
theorem op_eqX (hu : X.A.units + 100 < cLine) : OpR X (compareOp .Eq) (fun x y H Q => rEq x y H Q ∨ rEqT X.K false x y H Q ∨ (∃ p ys, y = .ref p ∧ SqT X.K H p ys ∧ ((∃ i, x = .int i) ∨ ∃ z, x = .str z) ∧ Q (.bl false) H)) := by
  intro pins s σ H x y v u Q I rx ry h
  rcases h with h | h | ⟨p, ys, rfl, hq, hx, q⟩
  · exact op_eq pins s σ H x y v u Q I rx ry h
  · exact op_eqT hu pins s σ H x y v u Q I rx ry h
  · cases ry
    obtain ⟨its, r, pl, hz⟩ := I.tuple hq
    rcases hx with ⟨i, rfl⟩ | ⟨z, rfl⟩
    · obtain ⟨t, rfl⟩ := rx
      exact SeqAt.RcAt.int_tuple i t pl (by omega) _ _ _ _ ⟨.bl false, H, I, rfl, q⟩
    · obtain ⟨t, rfl⟩ := rx
      exact SeqAt.RcAt.str_tuple z t pl (by omega) _ _ _ _ ⟨.bl false, H, I, rfl, q⟩
end
def Itsr (lo c : Int) (n : Nat) : It := ⟨fun i _ => i < n, fun i H x H' => H' = H ∧ x = .int (lo + i * c), fun i _ => n ≤ i⟩
theorem turn_rangeS {P : Program} {w : World} {K : PySem.W.Frag} {tg : Expr} (it : Addr) (lo c : Int) (n : Nat) : Turn P w K tg (Itsr lo c n) [it] it (fun i h => IsRangeIter h it (lo + (i : Nat) * c) ((n : Int) - (i : Nat)) c) where
  mem := by simp
  obj := fun i h st b hb => by
    have e : b = it := by simpa using hb
    subst e
    exact ⟨_, st, fun v z => by
      have z' : Data.fields _ = Data.cell v := z
      cases z'⟩
  keep := fun i h h' st k => k it (by simp) _ st
  item := by
    intro X hP hw hK hc i pins s σ H E I hf st hg
    subst hP hw hK
    obtain ⟨f0, f1, f2, f3, f4, f5⟩ := hf it (by simp)
    have W := Walks.range (prog := X.prog) (w := X.w) (I.ok.hd hc) it lo c n
    refine W.item i s _ _ hg st fun v h' tk hv st' kk => ?_
    obtain ⟨t, rfl⟩ := hv
    have I1 : Inv X pins σ H { s with heap := h', toks := tk } := I.turned (fun b o hb e => kk b o (by simpa using hb) e) f0 f1 f3 f4 f5
    exact ⟨_, rfl, go_of (s := { s with heap := h', toks := tk }) (n := "range_iterator") st' rfl rfl (by decide) ⟨.int (lo + i * c), H, I1, ⟨t, rfl⟩, ⟨rfl, rfl⟩, st', fun b hb => (hf b hb).1⟩⟩
  done := by
    intro X hP hw hK hc i pins s σ H E I hf st hg
    subst hP hw hK
    obtain ⟨f0, f1, f2, f3, f4, f5⟩ := hf it (by simp)
    exact wpAny_pyNext_range_end (I.ok.hd hc) st (by have : n ≤ i := hg; omega) fun h' eb => ⟨rfl, I.turned (t' := s.toks) (fun b o hb e => eb b o hb e) f0 f1 f3 f4 f5⟩
  self := fun _ _ _ _ _ st h => wpAny_pyIter_rangeiter st h
def iRng3 (ta : TA) : TI := fun σ H R => ta σ H fun vs H1 => ∃ (j : Int) (n : Nat), vs = [.int 0, .int j, .int 3] ∧ 0 ≤ j ∧ j < 2 ^ 40 ∧ (n : Int) = (j + 2) / 3 ∧ R (Itsr 0 3 n) H1
theorem rsize3 {j : Int} (h : 0 ≤ j) : Builtin.Range.rangeSize 0 j 3 = (j + 2) / 3 := by
  unfold Builtin.Range.rangeSize
  rw [if_pos (by decide)]
  split <;> omega
section
variable {X : Cx} {tg : Expr}
theorem pi_range3 {a b c : Expr} {ta : TA} {p pos : Pos} (hg : Gl X "range") (hm : X.mg "range" = none) (ha : PA X [a, b, c] ta) (hs : starEach [a, b, c] X.env = [(false, eval a X.env), (false, eval b X.env), (false, eval c X.env)] := by rfl) (hs2 : starEach [b, c] X.env = [(false, eval b X.env), (false, eval c X.env)] := by rfl) :
    PI X tg (.Call (.Name "range" p) [a, b, c] [] pos) (iRng3 ta) := by
  intro pins s σ H R I h
  refine Call_ (ld_blt I hg hm boot_range (PyProof.Rows.callWith_type1 (thn (ha pos pins s σ H _ I h) fun us s1 ⟨vs, H1, I1, r1, q1⟩ => ?_) (by rw [hs, hs2]) (by rw [hs2]; rfl)))
  obtain ⟨j, n, e, q1, q2, q3, q⟩ := q1
  subst e
  cases r1 with
  | cons r rr =>
    cases rr with
    | cons r' rr =>
      cases rr with
      | cons r'' rr =>
        cases rr
        obtain ⟨t, rfl⟩ := r
        obtain ⟨t', rfl⟩ := r'
        obtain ⟨t'', rfl⟩ := r''
        refine call_range_3 (by decide) ?_ (Or.inl (PyProof.noPylong_small (by omega)))
        refine wpAny_pyIter_range (IsRange.new ..) ?_ ?_
        · unfold Builtin.Range.small
          rw [rsize3 q1]
          simp only [Builtin.Range.rangeFitsLong, Bool.and_eq_true, Bool.or_eq_true, decide_eq_true_eq, beq_iff_eq]
          refine ⟨by omega, .inr ?_⟩
          rw [if_pos (by decide), Bool.and_eq_true, decide_eq_true_eq, decide_eq_true_eq]
          omega
        · have I2 : Inv X pins σ H1 { s1 with heap := s1.heap.push { cls := .type "range", data := .fields #[.int 0 t, .int j t', .int 3 t''] }, toks := s1.toks } := I1.kept fun b o e => Heap.get?_push_of_some _ e
          refine ⟨(s1.heap.push { cls := .type "range", data := .fields #[.int 0 t, .int j t', .int 3 t''] }).objs.size, [(s1.heap.push { cls := .type "range", data := .fields #[.int 0 t, .int j t', .int 3 t''] }).objs.size], _, _, H1, rfl,
            I2.kept (t' := s1.toks) fun b o e => Heap.get?_push_of_some _ e, turn_rangeS _ 0 3 n, ?_, fun b hb => ?_, q⟩
          · have e1 : (0 : Int) + ((0 : Nat) : Int) * 3 = 0 := by decide
            have e2 : ((n : Nat) : Int) - ((0 : Nat) : Int) = Builtin.Range.rangeSize 0 j 3 := by rw [rsize3 q1]; omega
            show IsRangeIter _ _ ((0 : Int) + ((0 : Nat) : Int) * 3) (((n : Nat) : Int) - ((0 : Nat) : Int)) 3
            rw [e1, e2]
            exact Heap.get?_push_size _ rfl
          · have e : b = (s1.heap.push { cls := .type "range", data := .fields #[.int 0 t, .int j t', .int 3 t''] }).objs.size := by simpa using hb
            subst e
            exact I2.fpOk (Nat.le_refl _) (I2.hok.fresh (Nat.le_refl _))
end
theorem lc_rangeS {lo c : Int} {n : Nat} {sel : List (Option Nat)} {g : TG} {tt : TT} {te : TE} {σ : St} {H : Hp} {Qe : List V → Hp → Prop} (Pv : Nat → List V → Hp → Prop) (h0 : Pv 0 [] H)
    (hl : ∀ i ys H, i ≤ n → Pv i ys H → ys.length ≤ i) (hz : n ≤ sizeLine)
    (hs : ∀ i ys H, i < n → Pv i ys H → g (.int (lo + i * c)) (selS sel σ) H fun σ2 H2 => tt σ2 H2 fun b H3 => if b = true then te σ2 H3 fun y H4 => Pv (i + 1) (ys ++ [y]) H4 else Pv (i + 1) ys H3)
    (hd : ∀ ys H, Pv n ys H → Qe ys H) : ∃ W : Nat → Nat → List V → Hp → Prop, (∃ m, W 0 m [] H) ∧ lcTurn sel g tt te σ (Itsr lo c n) W Qe := by
  refine ⟨fun i m ys H => m = n - i ∧ i ≤ n ∧ Pv i ys H, ⟨_, rfl, Nat.zero_le _, h0⟩, ?_⟩
  rintro i m ys H ⟨rfl, hi, p⟩
  have hy := hl i ys H hi p
  by_cases e : i = n
  · subst e
    exact .inl ⟨Nat.le_refl _, hd _ _ p⟩
  · have hlt : i < n := Nat.lt_of_le_of_ne hi e
    refine .inr ⟨hlt, by omega, Pv (i + 1), fun ys' H' p' => ⟨n - (i + 1), by omega, rfl, hlt, p'⟩, ?_⟩
    rintro x H' ⟨rfl, rfl⟩
    exact hs i ys H' hlt p
end L2
namespace L2
open PySem PySem.Spec PyProof.Rows
section
variable {pg : Program} {wd : World} {Ar : Around}
end
section
variable {pr : Program} {wd : World} {Ar : Around} {E : Value → Shared → Prop} {s : Shared} {z TI TO p q : Addr} {f g : List Addr} {n m : Nat} {P1 P2 : Nat → Value → Prop} {S1 S2 : Nat → Heap → Prop}
end
end L2
namespace L2
open PySem PySem.Spec PyProof.Rows
def Slots (l : List Addr) (h h' : Heap) : Prop := ∀ b o, h.get? b = some o → b ∈ l → ∃ sl, h'.get? b = some { o with slots := sl }
structure UnB (fs : List Addr) (H H' : Hp) (h h' : Heap) : Prop where
  keep : ∀ b o, h.get? b = some o → H b = none → b ∉ fs → h'.get? b = some o
  free : ∀ b o, h.get? b = some o → H b = none → H' b = none
  there : ∀ b o, h.get? b = some o → b ∉ fs → ∃ o', h'.get? b = some o'
  tups : ∀ b xs, H b = some (.tup xs) → H' b = some (.tup xs)
  frzs : ∀ b o u, H b = some (.frz o u) → H' b = some (.frz o u)
  tbls : ∀ b ps, H b = some (.tbl ps) → ∃ more, H' b = some (.tbl (ps ++ more))
theorem UnB.un {fs : List Addr} {H H' : Hp} {h h' : Heap} (u : UnB fs H H' h h') (sl : Slots fs h h') : Un fs [] H H' h h' :=
  ⟨fun b o e n hb _ => u.keep b o e n hb, fun b o e _ hb _ => sl b o e hb, fun b o e n _ => u.free b o e n, fun b o e _ => by
    by_cases hb : b ∈ fs
    · obtain ⟨z, q⟩ := sl b o e hb
      exact ⟨_, q⟩
    · exact u.there b o e hb, u.tups, u.frzs, u.tbls⟩
theorem Slots.up {l : List Env} {base h h1 h2 : Heap} (f : h.FunFrames base l) (a : Slots (frs l) h h1) (u : h1.UpToSlots h2) : Slots (frs l) h h2 := fun b o e hb => by
  obtain ⟨_, o', e', hnf⟩ := f.mem hb
  rw [e] at e'
  cases e'
  obtain ⟨sl, q⟩ := a b o e hb
  obtain ⟨sl', q'⟩ := u b _ q hnf
  exact ⟨sl', q'⟩
theorem Inv.oldB {X : Cx} {pins : List (Addr × Obj)} {σ : St} {H : Hp} {s : Shared} (I : Inv X pins σ H s) {b : Addr} {o : Obj} (e : X.s₀.heap.get? b = some o) (hb : b ∉ frs X.outer) : b ∉ frs X.stack := fun hs => by
  rcases List.mem_cons.mp (I.stkSub b hs) with z | z
  · have := Heap.lt_size e
    rw [z] at this
    exact absurd this (Nat.not_lt.mpr I.ok.above)
  · exact hb z
theorem exc_of_in {K : PySem.W.Frag} {h : Heap} {C : Addr} {bmB : List Value} {newId : String} (X : K.In h) (q : PySem.W.excIn K C bmB newId = true) :
    ∃ bm N nm qn bs hdct sn sub ab col dd k0 k1 k2 k3 k5 mN, h.get? C = some (excClassObj nm qn C N bs bm hdct sn sub ab col dd k0 k1 k2 k3 k5 newId) ∧ h.Ns N mN ∧ mN "__init__" = none ∧ OwnTail h bmB bm := by
  unfold PySem.W.excIn at q
  split at q
  · rename_i dd cd sl ho
    split at q
    · rename_i C' bm k0 k1 k2 k3 n k5 hm hs
      simp only [Bool.and_eq_true, beq_iff_eq, Bool.not_eq_true'] at q
      obtain ⟨⟨⟨⟨⟨rfl, rfl⟩, hdel⟩, ht⟩, hok⟩, hni⟩ := q
      obtain ⟨nm, bs, mro, ns, qn, hd, sn, sub, ab, col, del⟩ := cd
      dsimp only at hm hdel hok hni
      subst hm hdel
      obtain ⟨l⟩ := sl
      dsimp only at hs
      subst hs
      exact ⟨bm, ns, nm, qn, bs, hd, sn, sub, ab, col, dd, k0, k1, k2, k3, k5, _, X _ _ ho, .of_isNs (PySem.W.isNs_of_in X hok), PySem.W.nsMap_none_of_in X hok hni, PySem.W.tail_of_in X ht⟩
    · cases q
  · cases q
structure XCls (K : PySem.W.Frag) (mg : Str → Option Value) (x : Str) (C : Addr) : Prop where
  at_ : mg x = some (.ref C)
  ex : PySem.W.excIn K C [.type "ValueError", .type "Exception", .type "BaseException", .type "object"] "ValueError.__new__" = true
section
variable {X : Cx}
end
section
variable {P : Program} {w : World} {K : PySem.W.Frag} {mg : Str → Option Value} {base : Heap}
end
theorem fn_ofW {CX : CXT} {P : Program} {w : World} {K : PySem.W.Frag} {mg : Str → Option Value} {base : Heap} {k : Nat} {f : Addr} {name qual : Str} {params : Arguments} {body : List Stmt} {scope : Scope} {dV kV doc pm cdv ct oc : Value} {an od : Option Addr}
    {osl : Array (Option Value)} {N ps : List Str} {sp : Sp} (lk : K.lookup f = some ⟨oc, od, .func (PySem.W.fnOf name qual params body scope dV kV doc pm an cdv ct), osl⟩) (hcd : PySem.W.codeIn K cdv qual = true) (S : FnScope N ps scope)
    (len : ∀ vs H Q E, sp vs H Q E → vs.length = ps.length)
    (hbody : ∀ (A : Around) (outer : List Env) (s : Shared) (H : Hp) (vs : List V) (Q : VK) (E : XK), Room k (A.deeper (envOfC qual scope s.heap.objs.size f cdv)) → sp vs H Q E →
      ∀ s1, Inv (cxOf CX P w K mg base N qual scope f cdv A outer s H E) [] (start N vs) H s1 → wpAny (model P w) (A.deeper (envOfC qual scope s.heap.objs.size f cdv)) (execs body (envOfC qual scope s.heap.objs.size f cdv)) (SP (cxOf CX P w K mg base N qual scope f cdv A outer s H E) [] { nx := fun _ H' => Q .non H', rt := Q }) (cxOf CX P w K mg base N qual scope f cdv A outer s H E).xe s1) :
    FnOk P w K mg base CX (k + 1) f (PySem.W.fnOf name qual params body scope dV kV doc pm an cdv ct) ps sp := by
  refine ⟨len, fun A outer s H args us vs Q E hr e0 hb r hsp => ?_⟩
  have hl := len _ _ _ _ hsp
  have KX : K.In s.heap := e0.mod.kin.keeps fun b o e => (e0.bs b o e).1
  have lim : s.heap.NoLimit := e0.mod.nolimit.keeps fun b o e => (e0.bs b o e).1
  have hkind : ∀ y ∈ ps.zip us, scope.names.lookup y.1 = some .local ∨ (scope.names.lookup y.1 = some .cell ∧ ((cellsFrom (s.heap.objs.size + 1) scope.names []).lookup y.1).isSome = true) := fun ⟨n, v⟩ hy => by
    rcases S.par n (List.of_mem_zip hy).1 with q | q
    · exact .inl q
    · exact .inr ⟨q, PySem.W.cellsFrom_some _ _ _ (.inl q)⟩
  refine codeAny_call_function hr.depth (KX _ _ lk) rfl S.co S.gen rfl (PySem.W.codeRec_of KX hcd) (hb _ _ _ _ ?_)
  refine wpAny_newFunctionEnv_cells S.kind hkind fun env he s1 x => ?_
  subst he
  refine ⟨lim.keeps x.toInCall.keep, codeAny_func ?_⟩
  have hq := hbody A outer s H vs Q E (hr.deeper _) hsp
  have I : Inv (cxOf CX P w K mg base N qual scope f cdv A outer s H E) [] (start N vs) H s1 := inv_start S hr.hd e0 hl r x
  refine wpAny_mono (hq s1 I) (fun fl s' hs => ?_) fun e s' hs => hs
  have fin : ∀ {σ' : St} {H' : Hp} {v : V} {u : Value}, Inv (cxOf CX P w K mg base N qual scope f cdv A outer s H E) [] σ' H' s' → RelV v u → Q v H' → CE outer P w H s Q u s' :=
    fun {σ' H' v u} J rv q => ⟨v, H', J.os, J.bare, J.base, J.hok, rv, q⟩
  cases fl with
  | ret u =>
    obtain ⟨v, σ', H', J, rv, q⟩ := hs
    exact fin J rv q
  | next =>
    obtain ⟨σ', H', J, q⟩ := hs
    exact fin (v := V.non) (u := Value.none) J rfl q
  | brk =>
    obtain ⟨_, _, _, q⟩ := hs
    exact False.elim q
  | cont =>
    obtain ⟨_, _, _, q⟩ := hs
    exact False.elim q
section
variable {P : Program} {w : World} {K : PySem.W.Frag} {mg : Str → Option Value} {base : Heap}
end
end L2
namespace L2
open PySem PySem.Spec PyProof.Rows
def TrD (h B : Heap) (e : Addr) (c : Value) (d : Option Addr) (fl : Value) : Prop :=
  ∃ oe vs T oT ts, h.get? e = some oe ∧ (oe.cls = c ∧ oe.dict = d) ∧ oe.data = .fields vs ∧ vs[1]? = some (.ref T) ∧ B.get? T = none ∧ T ≠ e ∧ h.get? T = some oT ∧ oT.data = .fields ts ∧ ts[3]? = some fl
theorem map_dict (f : Array Value → Array Value) (o : Obj) : (Obj.mapFields f o).dict = o.dict := by
  obtain ⟨c, d, x, sl⟩ := o
  cases x <;> rfl
def StpD (B : Heap) (l : List Env) (e : Addr) (c : Value) (d : Option Addr) (fl : Value) (h h' : Heap) : Prop := B.StaysIn h' ∧ h'.FunFrames B l ∧ TrD h' B e c d fl ∧ h.UpToSlots h'
section
variable {M : Model} {A : Around} {E : Value → Shared → Prop} {s : Shared} {B : Heap} {env : Env} {outer l : List Env} {L e : Addr} {c : Value} {d : Option Addr}
theorem fly_entry {oe : Obj} {vs : Array Value} {head : Value} {nx : Bool} {Q : Unit → Shared → Prop} (fr : A.frames = some (env :: outer)) (ff : s.heap.FunFrames B (env :: outer)) (hf : env.frame = some L) (at_ : s.heap.get? e = some oe) (kb : B.StaysIn s.heap) (nb : B.get? e = none) (dat : oe.data = .fields vs) (sz : 1 < vs.size)
    (k : ∀ h', StpD B (env :: outer) e oe.cls oe.dict (rawInt L) s.heap h' → Q () { s with heap := h' }) :
    wpAny M A (do let a ← frameOf env; let pl ← entryPlaceOf L nx; let b ← EntryCells.newEntry head a .none (rawInt L) .none pl; setField (.ref e) 1 b) Q E s := by
  have nfr : e ∉ (env :: outer).filterMap (·.frame) := fun z => by
    obtain ⟨_, o, ho, hn⟩ := ff.mem z
    rw [at_] at ho; cases ho
    exact hn vs dat
  refine wpAny_bind (wpAny_frameOf_fun fr ff hf fun h1 s1 => wpAny_bind (wpAny_entryPlaceOf fun pl hpl => ?_))
  unfold EntryCells.newEntry newFields
  have at1 : h1.get? e = some oe := (s1.2.1 e nfr).trans at_
  have kb1 : B.StaysIn h1 := fun b o q => (s1.2.1 b fun z => by rw [(ff.mem z).1] at q; cases q).trans (kb b o q)
  refine wpAny_bind (wpAny_newObj_type ?_ (hpl.sizeOk5 _ _ _ _ _))
  generalize hz : ([head, Value.ref L, .none, rawInt L, .none] ++ (if pl.isEmpty then List.replicate 6 Value.none else pl)).toArray = zs
  have z3 : zs[3]? = some (rawInt L) := by
    rw [← hz]
    first | (simp; done) | (rcases hpl with rfl | ⟨_, _, _, _, _, _, _, rfl⟩ <;> simp)
  have at2 := Heap.get?_push_of_some (h := h1) { cls := .type "traceback", dict := none, data := .fields zs } at1
  have neT : h1.objs.size ≠ e := Nat.ne_of_gt (Heap.lt_size at1)
  have dat3 := Obj.data_mapFields dat (·.setIfInBounds 1 (Value.ref h1.objs.size))
  have at3 := Heap.get?_update_self (Obj.mapFields (·.setIfInBounds 1 (Value.ref h1.objs.size))) at2 (Obj.isFreed_of_fields dat3)
  have kp : ∀ b o, b ≠ e → h1.get? b = some o → ((h1.push { cls := .type "traceback", dict := none, data := .fields zs }).update e (Obj.mapFields (·.setIfInBounds 1 (Value.ref h1.objs.size)))).get? b = some o := fun b o n q => by
    rw [Heap.get?_update_other _ _ (Ne.symm n)]; exact Heap.get?_push_of_some _ q
  have nr : ∀ b o, s.heap.get? b = some o → (∀ ws, o.data ≠ .fields ws) → b ≠ e := fun b o q n z => by
    rw [z, at_] at q; cases q
    exact n vs dat
  refine wpAny_setField at2 dat sz (k _ ⟨fun b o q => kp b o (fun z => by rw [z, nb] at q; cases q) (kb1 b o q), ff.of_keeps fun b o q n => ?_, ⟨_, _, h1.objs.size, { cls := .type "traceback", dict := none, data := .fields zs }, zs, at3, ⟨Obj.cls_mapFields _ _, map_dict _ _⟩, dat3, by simp [sz], kb1.fresh, neT, ?_, rfl, z3⟩, fun b o q n => ?_⟩)
  · obtain ⟨sl, q2⟩ := s1.2.2 b o q
    exact ⟨_, kp b _ (nr b o q n) q2, rfl⟩
  · rw [Heap.get?_update_other _ _ (Ne.symm neT)]; exact Heap.get?_push_size h1 rfl
  · obtain ⟨sl, q2⟩ := s1.2.2 b o q
    exact ⟨sl, kp b _ (nr b o q n) q2⟩
theorem fly_note0 {oe : Obj} {vs : Array Value} {Q : Unit → Shared → Prop} (fr : A.frames = some (env :: outer)) (ff : s.heap.FunFrames B (env :: outer)) (hf : env.frame = some L) (at_ : s.heap.get? e = some oe) (kb : B.StaysIn s.heap) (nb : B.get? e = none) (dat : oe.data = .fields vs) (no : vs[1]? = some .none)
    (k : ∀ h', StpD B (env :: outer) e oe.cls oe.dict (rawInt L) s.heap h' → Q () { s with heap := h' }) : wpAny M A (noteFrame (.ref e) env) Q E s := by
  unfold noteFrame
  simp only [hf]
  refine wpAny_bind (wpAny_field at_ dat no ?_)
  rw [if_neg (by decide)]
  exact fly_entry fr ff hf at_ kb nb dat (Array.getElem?_eq_some_iff.mp no).1 k
theorem fly_note {Q : Unit → Shared → Prop} (fr : A.frames = some (env :: outer)) (ff : s.heap.FunFrames B (env :: outer)) (hf : env.frame = some L) (t : TrD s.heap B e c d .none) (kb : B.StaysIn s.heap) (nb : B.get? e = none)
    (k : ∀ h', StpD B (env :: outer) e c d (rawInt L) s.heap h' → Q () { s with heap := h' }) : wpAny M A (noteFrame (.ref e) env) Q E s := by
  obtain ⟨oe, vs, T, oT, ts, at_, ⟨rfl, rfl⟩, dat, h1, nT, neT, atT, datT, h3⟩ := t
  unfold noteFrame
  simp only [hf]
  have oth : ∀ b, b ≠ T → (s.heap.update T (Obj.mapFields (·.setIfInBounds 3 Value.none))).get? b = s.heap.get? b := fun b n => Heap.get?_update_other _ _ (Ne.symm n)
  have nr : ∀ b o, s.heap.get? b = some o → (∀ ws, o.data ≠ .fields ws) → b ≠ T := fun b o q n z => by
    rw [z, atT] at q; cases q
    exact n ts datT
  refine wpAny_bind (wpAny_field at_ dat h1 ?_); rw [if_pos (show (Value.ref T != Value.none) = true by simp)]
  refine wpAny_bind (wpAny_field atT datT h3 ?_); rw [if_neg (show ¬ ((Value.none == rawInt L) = true) by simp [rawInt])]
  refine wpAny_bind (wpAny_setField atT datT (Array.getElem?_eq_some_iff.mp h3).1 (fly_entry fr (ff.of_keeps fun b o q n => ⟨o, (oth b (nr b o q n)).trans q, rfl⟩) hf ((oth e (Ne.symm neT)).trans at_) (fun b o q => (oth b fun z => by rw [z, nT] at q; cases q).trans (kb b o q)) nb dat (Array.getElem?_eq_some_iff.mp h1).1 fun h' ⟨x1, x2, x3, x4⟩ => ?_))
  exact k h' ⟨x1, x2, x3, fun b o q n => x4 b o ((oth b (nr b o q n)).trans q) n⟩
theorem fly_land {fl : Value} {Q : Unit → Shared → Prop} (kb : B.StaysIn s.heap) (ff : s.heap.FunFrames B l) (t : TrD s.heap B e c d fl) (k : ∀ h', StpD B l e c d .none s.heap h' → Q () { s with heap := h' }) : wpAny M A (setFlight (.ref e) none) Q E s := by
  obtain ⟨oe, vs, T, oT, ts, at_, cd, dat, h1, nT, neT, atT, datT, h3⟩ := t
  have z3 : 3 < ts.size := (Array.getElem?_eq_some_iff.mp h3).1
  have oth : ∀ b, b ≠ T → (s.heap.update T (Obj.mapFields (·.setIfInBounds 3 ((none : Option Addr).elim Value.none fun f => rawInt f)))).get? b = s.heap.get? b := fun b n => Heap.get?_update_other _ _ (Ne.symm n)
  have nr : ∀ b o, s.heap.get? b = some o → (∀ ws, o.data ≠ .fields ws) → b ≠ T := fun b o q n z => by
    rw [z, atT] at q; cases q
    exact n ts datT
  unfold setFlight
  refine wpAny_bind (wpAny_field at_ dat h1 ?_); rw [if_pos (show (Value.ref T != Value.none) = true by simp)]
  exact wpAny_setField atT datT z3 (k _ ⟨fun b o q => (oth b fun z => by rw [z, nT] at q; cases q).trans (kb b o q), ff.of_keeps fun b o q n => ⟨o, (oth b (nr b o q n)).trans q, rfl⟩, ⟨oe, vs, T, _, _, (oth e (Ne.symm neT)).trans at_, cd, dat, h1, nT, neT, Heap.get?_update_self _ atT (Obj.isFreed_of_fields (Obj.data_mapFields datT _)), Obj.data_mapFields datT _, by simp [z3]⟩, fun b o q n => ⟨o.slots, (oth b (nr b o q n)).trans q⟩⟩)
end
def FlyD (B : Heap) (l : List Env) (e : Addr) (c : Value) (d : Option Addr) (h : Heap) : Prop := B.StaysIn h ∧ B.get? e = none ∧ h.FunFrames B l ∧ TrD h B e c d .none
section
variable {M : Model} {A : Around} {E : Value → Shared → Prop} {s : Shared} {B : Heap} {env : Env} {outer l : List Env} {L e : Addr} {c : Value} {d : Option Addr}
theorem FlyD.there {h : Heap} (x : FlyD B l e c d h) : ∃ ob vs, h.get? e = some ob ∧ ob.cls = c ∧ ob.dict = d ∧ ob.data = .fields vs := by
  obtain ⟨_, _, _, oe, vs, _, _, _, at_, cd, dat, _⟩ := x
  exact ⟨oe, vs, at_, cd.1, cd.2, dat⟩
theorem FlyD.comes {Q : Unit → Shared → Prop} (x : FlyD B (env :: outer) e c d s.heap) (fr : A.frames = some (env :: outer)) (hf : env.frame = some L) (k : ∀ h', FlyD B (env :: outer) e c d h' → s.heap.UpToSlots h' → Q () { s with heap := h' }) :
    wpAny M A (noteFrame (.ref e) env) (fun _ s2 => wpAny M A (setFlight (.ref e) none) Q E s2) E s := by
  obtain ⟨f1, f2, f3, f4⟩ := x
  refine fly_note fr f3 hf f4 f1 f2 fun h1 ⟨a1, a2, a3, a4⟩ => fly_land (s := { s with heap := h1 }) a1 a2 a3 fun h2 ⟨b1, b2, b3, b4⟩ => k h2 ⟨b1, f2, b2, b3⟩ (a4.trans b4)
theorem FlyD.again {Q : Unit → Shared → Prop} (x : FlyD B l e c d s.heap) (k : ∀ h', FlyD B l e c d h' → s.heap.UpToSlots h' → Q () { s with heap := h' }) : wpAny M A (setFlight (.ref e) none) Q E s := by
  obtain ⟨f1, f2, f3, f4⟩ := x
  exact fly_land f1 f3 f4 fun h2 ⟨b1, b2, b3, b4⟩ => k h2 ⟨b1, f2, b2, b3⟩ b4
end
end L2

namespace L2
open PySem
def ExcUp (h : Heap) (C : Addr) (ups : List Value) : Prop := ∃ nm qn N bs hdct sn sub ab col dd k0 k1 k2 k3 k5 newId, h.get? C = some (excClassObj nm qn C N bs ups hdct sn sub ab col dd k0 k1 k2 k3 k5 newId)
theorem exc_matches {M : Model} {A : Around} {E : Value → Shared → Prop} {s : Shared} {C D e : Addr} {ups downs : List Value} {oe : Obj} {Q : Bool → Shared → Prop} (uC : ExcUp s.heap C ups) (uD : ExcUp s.heap D downs)
    (he : s.heap.get? e = some oe) (hcls : oe.cls = .ref C) (hbase : downs.contains (.type "BaseException") = true) (hq : Q ((Value.ref C :: ups).contains (.ref D)) s) : wpAny M A (excMatches (.ref e) (.ref D)) Q E s := by
  obtain ⟨hp, gs, dr, tk, os⟩ := s
  obtain ⟨_, _, _, _, _, _, _, _, _, _, _, _, _, _, _, _, atC⟩ := uC
  obtain ⟨_, _, _, _, _, _, _, _, _, _, _, _, _, _, _, _, atD⟩ := uD
  have inD : (Value.ref D :: downs).contains (.type "BaseException") = true := by rw [List.contains_cons, hbase, Bool.or_true]
  have notTup := tc_notTuple
  cases yes : (Value.ref C :: ups).contains (.ref D) <;> (
    rw [yes] at hq
    unfold excMatches
    repeat (first | (with_reducible refine wpAny_loadPart_at he ?_; rw [hcls]) | with_reducible refine wpAny_loadPart_at atD ?_ | (with_reducible refine wpAny_isSubtype_exc atC ?_; rw [yes]) | (with_reducible refine wpAny_isSubtype_exc atD ?_; rw [inD]) | wp_step)
    exact hq)
end L2


set_option maxRecDepth 100000
namespace L2
open PySem PySem.W PySem.Spec PySem.Calls PyProof.Rows
abbrev gaE : String := "BaseException.__getattribute__"
structure ExcCls (K : Frag) (D : Addr) : Prop where
  cls : (clsIn K D).isSome = true
  exc : mroIn K D (.type "BaseException") = some true
  obj : mroIn K D (.type "object") = some true
  ga : findIn K (.ref D) "__getattribute__" = some (some (.builtin gaE))
  hook : findIn K (.ref D) "__getattr__" = some none
theorem ga_slot : builtinKind gaE = some .slot ∧ splitId gaE = some ("BaseException", "__getattribute__") ∧ (Value.builtin gaE == Value.builtin "object.__getattribute__") = false := by decide +kernel
section
variable {prog : Program} {w : World} {A : Around} {E : Value → Shared → Prop} {s : Shared} {K : Frag} {x D : Addr} {ox : Obj} {od : Option Obj} {name : Str}
theorem exc_check {M : Model} {nv : Value} {Q : Unit → Shared → Prop} (X : K.In s.heap) (I : InstAt s.heap x ox D od) (c : ExcCls K D) (h : Q () s) : wpAny M A (checkBuiltinCall gaE ⟨[.ref x, nv], []⟩) Q E s := by
  obtain ⟨hp, gs, dr, tk, os⟩ := s
  have ty := I.type (M := M)
  have up := looks_mroIn (M := M) X c.exc
  have argsOk := F.args_bexc_ga (.ref x) nv
  simp only [checkBuiltinCall, ga_slot.1, ga_slot.2.1]
  refine wpAny_bind ?_
  unfold isInstance
  refine wpAny_bind (ty.at (up.at ?_))
  repeat (first | wp_step)
  exact h
theorem exc_entry {g a : Value} {t : Tok} {P : Value → Shared → Prop} (X : K.In s.heap) (I : InstAt s.heap x ox D od) (hf : findObj K D od name = some (.bind g a)) (h : wpAny (model prog w) A (call g [a, .ref x, .ref D]) P E s) :
    wpAny (model prog w) A (Builtin.«object.__getattribute__» ⟨[.ref x, .str name t], []⟩) (fun r s' => match r with | .done (.ret v) => P v s' | _ => False) E s := by
  obtain ⟨hp, gs, dr, tk, os⟩ := s
  have fd := looks_find (M := model prog w) X I hf
  refine wpAny_bind (wpAny_pure (wpAny_bind (wpAny_pure (wpAny_bind (I.type.at (wpAny_bind (fd.at ?_)))))))
  exact wpAny_bind (wpAny_holding (wpAny_mono h (fun _ _ q => wpAny_pure q) fun _ _ q => q))
theorem exc_entryV {v : Value} {t : Tok} {Q : Fin → Shared → Prop} (X : K.In s.heap) (I : InstAt s.heap x ox D od) (hf : findObj K D od name = some (.value v)) (h : Q (.done (.ret v)) s) :
    wpAny (model prog w) A (Builtin.«object.__getattribute__» ⟨[.ref x, .str name t], []⟩) Q E s := by
  obtain ⟨hp, gs, dr, tk, os⟩ := s
  have fd := looks_find (M := model prog w) X I hf
  exact wpAny_bind (wpAny_pure (wpAny_bind (wpAny_pure (wpAny_bind (I.type.at (wpAny_bind (fd.at (wpAny_pure h))))))))
theorem exc_by {t : Tok} {fill expr : Bool} {Q : Value → Shared → Prop} (X : K.In s.heap) (I : InstAt s.heap x ox D od) (c : ExcCls K D)
    (h : wpAny (model prog w) A.in1 (Builtin.«object.__getattribute__» ⟨[.ref x, .str name t], []⟩)
      (fun r s' => match r with | .done (.ret v) => wpAny (model prog w) A (handedOut v) Q (fun _ _ => False) s' | _ => False) (fun _ _ => False) s) :
    wpAny (model prog w) A (getAttrBy (.ref x) (.str name t) fill expr) Q E s := by
  obtain ⟨hp, gs, dr, tk, os⟩ := s
  have way := looks_findIn (M := model prog w) X c.ga
  have hook := looks_findIn (M := model prog w) X c.hook
  have plain : (expr && onTheHeap (Value.builtin gaE)) = false := by cases expr <;> rfl
  have other : (onTheHeap (Value.ref D) && Value.builtin gaE == Value.builtin "object.__getattribute__") = false := by rw [ga_slot.2.2]; rfl
  unfold getAttrBy
  refine wpAny_holding (wpAny_bind (I.type.at (wpAny_bind (way.at ?_))))
  dsimp only
  rw [if_neg (by rw [other]; decide)]
  unfold getAttrByItsOwn
  refine wpAny_bind ?_
  show wpAny _ _ (typeLookup (.ref D) "__getattr__") _ _ _
  refine hook.at (wpAny_bind (wpAny_attempt (wpAny_holding ?_)))
  unfold callGetattribute
  rw [if_neg (by rw [plain]; decide)]
  unfold boundAndCalled
  rw [PySem.F.attrBase_ValueError.ga.bind (.ref x)]
  refine wpAny_bind (wpAny_pure (wpAny_call (codeAny_call_builtin PySem.F.attrBase_ValueError.ga.plain F.entry_bexc_ga (exc_check X I c ?_))))
  refine wpAny_mono h (fun r s' z => ?_) (fun _ _ z => z.elim)
  rcases r with (_ | _ | _ | _) | _
  all_goals first | exact wpAny_mono z (fun _ _ q => q) (fun _ _ q => q.elim) | exact z.elim
theorem exc_fld {v : Value} {expr : Bool} {Q : Value → Shared → Prop} (X : K.In s.heap) (I : InstAt s.heap x ox D od) (c : ExcCls K D) (hf : findObj K D od name = some (.value v)) (hv : handedOut v = pure v)
    (h : Q v { s with toks := s.toks + 1 }) : wpAny (model prog w) A (getAttr (.ref x) name expr) Q E s := by
  refine wpAny_bind (wpAny_mkText (exc_by (s := { s with toks := s.toks + 1 }) X I c (exc_entryV (s := { s with toks := s.toks + 1 }) X I hf ?_)))
  dsimp only
  rw [hv]
  exact wpAny_pure h
theorem exc_class {Q : Option Value → Shared → Prop} (X : K.In s.heap) (I : InstAt s.heap x ox D od) (c : ExcCls K D) (hf : findObj K D od "__class__" = some (.bind (.builtin "getset_descriptor.__get__") (.builtin "object.__class__")))
    (h : Q (some (.ref D)) { s with toks := s.toks + 1 }) : wpAny (model prog w) A (getAttr? (.ref x) "__class__") Q E s := by
  refine wpAny_bind (wpAny_mkText (wpAny_bind (wpAny_attempt (exc_by (s := { s with toks := s.toks + 1 }) X I c ?_))))
  refine exc_entry (s := { s with toks := s.toks + 1 }) X I hf (wpAny_call (class_get (s := { s with toks := s.toks + 1 }) (ox := ox) (od := od) X I c.obj ?_))
  all_goals exact wpAny_pure (wpAny_pure h)
theorem ExcCls.at_ (c : ExcCls K D) : ∃ c0 dd cd sl, K.lookup D = some ⟨c0, dd, .cls cd, sl⟩ := by
  have z := c.cls
  unfold clsIn at z
  split at z
  · exact ⟨_, _, _, _, ‹_›⟩
  · cases z
theorem kitx_exc (c : ExcCls K D) (hf : findObj K D od "__class__" = some (.bind (.builtin "getset_descriptor.__get__") (.builtin "object.__class__"))) : KitX K (.ref x) (.ref D) (fun h => InstAt h x ox D od) := by
  obtain ⟨c0, dd, cd, sl, at_⟩ := c.at_
  refine ⟨fun _ _ _ I => I.type, fun M h X _ A' Q' E' s' k q => ?_, fun h tp _ _ _ _ X ht => ?_, fun X I k => exc_class X I c hf k⟩
  · unfold isType loadHead
    exact wpAny_bind (wpAny_loadPart (k _ _ (X _ _ at_)) (wpAny_pure q))
  · cases same : (Value.ref D == Value.ref tp) with
    | false => rfl
    | true =>
      cases beq_iff_eq.mp same
      cases (X _ _ at_).symm.trans ht
end
end L2
namespace L2
open PySem PySem.Spec PyProof.Rows
def CXD (P : Program) (w : World) : CXT := fun outer H s E e s' => ∃ (a : Addr) (C : Value) (d : Option Addr) (B : Heap) (H' : Hp), e = .ref a ∧ s'.os = s.os ∧ AllBare s'.gens ∧ FlyD B outer a C d s'.heap ∧ Slots (frs outer) s.heap s'.heap ∧
  (∀ h' : Heap, B.StaysIn h' → UnB (frs outer) H H' s.heap h' ∧ HOk P w H' h') ∧ E C d H'
section
variable {X : Cx}
def LeavesD (X : Cx) (E : XK) : Prop := X.stack = X.env :: X.outer ∧ X.env.frame = some X.env.locals ∧ X.ex = [] ∧
  X.xe = fun e s' => wpAny (model X.prog X.w) X.A (leaving X.env e) (fun _ s'' => CXD X.prog X.w X.outer X.H₀ X.s₀ E e s'') (fun e' s'' => CXD X.prog X.w X.outer X.H₀ X.s₀ E e' s'') s'
end
section
variable {P : Program} {w : World} {K : PySem.W.Frag} {mg : Str → Option Value} {base : Heap}
theorem Fun.okD {x qual : Str} {st : Stmt} {f : Addr} {fd : FuncData} {N ps : List Str} {k : Nat} {sp : Sp} (F : Fun K x qual st f fd) (S : FnScope N ps (defScope st)) (len : ∀ vs H Q E, sp vs H Q E → vs.length = ps.length)
    (hbody : ∀ (cdv : Value) (A : Around) (outer : List Env) (s : Shared) (H : Hp) (vs : List V) (Q : VK) (E : XK), Room k (A.deeper (envOfC qual (defScope st) s.heap.objs.size f cdv)) → sp vs H Q E →
      ∃ t, PSs (cxOf (CXD P w) P w K mg base N qual (defScope st) f cdv A outer s H E) (defBody st) t ∧ t { nx := fun _ H' => Q .non H', rt := Q } (start N vs) H) : FnOk P w K mg base (CXD P w) (k + 1) f fd ps sp := by
  obtain ⟨oc, od, kV, doc, pm, an, cdv, ct, osl, rfl, lk, hcd⟩ := F.ex
  exact fn_of lk hcd S len fun A outer s H vs Q E hr hsp => hbody cdv A outer s H vs Q E hr hsp
theorem leavesD {N : List Str} {qual : Str} {scope : Scope} {f : Addr} {cd : Value} {A : Around} {outer : List Env} {s : Shared} {H : Hp} {E : XK} : LeavesD (cxOf (CXD P w) P w K mg base N qual scope f cd A outer s H E) E := ⟨rfl, rfl, rfl, rfl⟩
theorem passDN {X : Cx} {P : Program} {w : World} {E : XK} (h : ∀ c d H, E c d H → False) : Passes (CXD P w) X E := fun _ _ _ _ _ _ _ q => by
  obtain ⟨a, c, d, B, H2, _, _, _, _, _, _, hq⟩ := q
  exact (h _ _ _ hq).elim
end
abbrev Cx.with (X : Cx) (A : Around) (c : Bool) (xe : Value → Shared → Prop) : Cx := { X with A := A, calm := c, xe := xe }
theorem Inv.with {X : Cx} {pins : List (Addr × Obj)} {σ : St} {H : Hp} {s : Shared} {A : Around} {c : Bool} {xe : Value → Shared → Prop} (I : Inv X pins σ H s) (hd : c = true → A.handled = none) (fr : A.frames = X.A.frames) : Inv (X.with A c xe) pins σ H s :=
  ⟨⟨I.ok.mod, I.ok.kind, I.ok.glob, I.ok.blt, I.ok.above, I.ok.inj, I.ok.has, I.ok.cab, hd, fr.trans I.ok.frames, I.ok.stk, I.ok.exf, I.ok.bs, I.ok.bsz, I.ok.noex, I.ok.exfs, I.ok.funs, I.ok.frf⟩, I.os, I.bare, I.base, I.loc, I.cell, I.free, I.freeC, I.pin, I.hok, I.len⟩
theorem Inv.back {X : Cx} {pins : List (Addr × Obj)} {σ σ0 : St} {H H0 : Hp} {s s0 : Shared} {A : Around} {c : Bool} {xe : Value → Shared → Prop} (I : Inv (X.with A c xe) pins σ H s) (J : Inv X pins σ0 H0 s0) : Inv X pins σ H s :=
  ⟨J.ok, I.os, I.bare, I.base, I.loc, I.cell, I.free, I.freeC, I.pin, I.hok, I.len⟩
theorem Inv.forgotten {X : Cx} {pins : List (Addr × Obj)} {σ : St} {H : Hp} {s : Shared} {h' : Heap} {m : Str → Option Value} {t' : Nat} (I : Inv X pins σ H s) (hn : h'.Ns X.env.locals m) (hs : Heap.SameBut X.env.locals s.heap h') : Inv X pins (List.replicate X.N.length none) H { s with heap := h', toks := t' } := by
  have neL : ∀ b o, X.s₀.heap.get? b = some o → b ≠ X.env.locals := fun b o e => Nat.ne_of_lt (Nat.lt_of_lt_of_le (Heap.lt_size e) I.ok.above)
  refine ⟨I.ok, I.os, I.bare, ⟨fun b o e n hb hx => (hs.2 b (neL b o e)).trans (I.base.keep b o e n hb hx), fun b o e n hb hx => ?_, I.base.free, fun b o e hx => ?_, I.base.tups, I.base.frzs, I.base.tbls⟩, ⟨m, hn, fun i x v _ e2 _ => ?_⟩, fun x c e => ?_, I.free, I.freeC, fun p hp => ?_, fun b ob e => ?_, List.length_replicate⟩
  · obtain ⟨sl, q⟩ := I.base.slot b o e n hb hx
    exact ⟨sl, (hs.2 b (neL b o e)).trans q⟩
  · obtain ⟨o', q⟩ := I.base.there b o e hx
    exact ⟨o', (hs.2 b (neL b o e)).trans q⟩
  · rw [List.getElem?_replicate] at e2
    split at e2 <;> cases e2
  · obtain ⟨v, z⟩ := I.cell x c e
    exact ⟨v, z.sameBut hs (I.cne x c e)⟩
  · obtain ⟨e, n, ne, nf, d⟩ := I.pin p hp
    exact ⟨(hs.2 p.1 ne).trans e, n, ne, nf, d⟩
  · refine (I.hok b ob e).stay (fun c v hc q => (hs.2 c fun z => ?_).trans q) (fun _ q => q) fun _ _ q => q
    rcases hc with w | w
    · rw [z] at w
      rw [← w, I.free] at e; cases e
    · rw [z, I.free] at w; cases w
def TakesD (X : Cx) (E : St → XK) (e : Value) (s' : Shared) : Prop := ∃ σ H s, Inv X [] σ H s ∧ CXD X.prog X.w X.stack H s (E σ) e s'
def PassesS (CX : CXT) (X : Cx) (E : St → XK) : Prop := ∀ (pins : List (Addr × Obj)) (σ : St) (H : Hp) (s : Shared) (e : Value) (s' : Shared), Inv X pins σ H s → CX X.stack H s (E σ) e s' → X.xe e s'
theorem passS {X : Cx} {E : St → XK} : PassesS (CXD X.prog X.w) (X.wish (TakesD X E)) E := fun _ σ H s _ _ I h => ⟨σ, H, s, I.unwish.pins_of (fun p hp => by cases hp), h⟩
section
variable {X : Cx} {CX : CXT} {k : Nat} {f C : Addr} {fd : FuncData} {ps : List Str} {sp : Sp} {dvs : List V} {ds : List Value} {x m : Str} {p pos apos : Pos} {e o : Expr} {es : List Expr} {ta : TE} {t : TA}
theorem run_fnS {E : St → XK} {pins : List (Addr × Obj)} {σ : St} {H : Hp} {s : Shared} {Q : VK} {us : List Value} {vs : List V} (F : FnOk X.prog X.w X.K X.mg X.base CX k f fd ps sp) (hr : Room k X.A) (hb : Binds X.K fd ps ds) (hd : Vals dvs ds) (hx : PassesS CX X E)
    (I : Inv X pins σ H s) (r : Vals vs us) (h : sp (vs ++ dvs) H Q (E σ)) : wpAny (model X.prog X.w) X.A (call (.ref f) us) (EP X pins σ Q) X.xe s := by
  have r2 : Vals (vs ++ dvs) (us ++ ds) := r.append hd
  have hl : (us ++ ds).length = ps.length := by rw [← r2.length]; exact F.len _ _ _ _ h
  refine wpAny_call (codeAny_mono (F.run X.A X.stack s H ⟨us, []⟩ (us ++ ds) (vs ++ dvs) Q (E σ) hr I.env0 (hb s us I.kIn hl) r2 h) fun r s' hq => ?_)
  cases r with
  | error e => exact hx pins σ H s e s' I hq
  | ok fl =>
    cases fl with
    | ret u => exact I.after hq
    | next => exact False.elim hq
    | brk => exact False.elim hq
    | cont => exact False.elim hq
def tCallS (sp : Sp) (dvs : List V) (E : St → XK) (t : TA) : TE := fun σ H Q => t σ H fun vs H1 => sp (vs ++ dvs) H1 Q (E σ)
theorem pe_callS {E : St → XK} (F : FnOk X.prog X.w X.K X.mg X.base CX k f fd ps sp) (hr : Room k X.A) (hg : Gl X x) (hm : X.mg x = some (.ref f)) (hk : PySem.W.keepIn X.K (.ref f) = true) (hb : Binds X.K fd ps ds) (hd : Vals dvs ds) (hx : PassesS CX X E)
    (ha : PA X (e :: es) t) (hdb : (x == ("__debug__" : Str)) = false := by decide) (he : starEach (e :: es) X.env = (false, eval e X.env) :: starEach es X.env := by rfl) (hpl : (backTo pos (starEach es X.env)).any (·.1) = false := by rfl) :
    PE X (.Call (.Name x p) (e :: es) [] pos) (tCallS sp dvs E t) := by
  intro pins s σ H Q I h
  refine wpAny_Call_Name_kw (ld_glob I hg hm ?_ hdb)
  exact PySem.W.callWith_K (h₀ := X.base) I.ok.mod.kin hk (thn (ha pos pins s σ H _ I h) fun us s1 ⟨vs, H1, I1, r, q⟩ => ⟨I1.kIn, run_fnS F hr hb hd hx I1 r q⟩) he hpl
end
section
variable {P : Program} {w : World} {K : PySem.W.Frag} {mg : Str → Option Value} {base : Heap}
end
section
variable {X : Cx} {CX : CXT} {k : Nat} {f C : Addr} {fd : FuncData} {ps : List Str} {sp : Sp} {dvs : List V} {ds : List Value} {E : XK} {x m : Str} {p pos apos : Pos} {e o : Expr} {es : List Expr} {ta : TE} {t : TA}
theorem pe_gl {v : Addr} (hg : Gl X x) (hm : X.mg x = some (.ref v)) (hdb : (x == ("__debug__" : Str)) = false := by decide) : PE X (.Name x p) (tC (.ref v)) := fun _ s _ H _ I h => ld_glob I hg hm ⟨.ref v, H, I, rfl, h⟩ hdb
end
end L2
namespace L2
open PySem PySem.Spec PyProof.Rows
theorem ObjOk.some {P : Program} {w : World} {H : Hp} {h : Heap} {a : Addr} {o : HO} (x : ObjOk P w H h a o) : ∃ ob, h.get? a = some ob := by
  cases o with
  | lst xs => obtain ⟨_, _, _, _, e⟩ := x; exact ⟨_, e⟩
  | tup xs => obtain ⟨_, _, _, o, e, _⟩ := x; exact ⟨o, e⟩
  | dK kvs => obtain ⟨_, _, _, _, o, _, _, e, _⟩ := x; exact ⟨o, e⟩
  | dT kvs => obtain ⟨_, _, _, _, o, _, _, e, _⟩ := x; exact ⟨o, e⟩
  | set S n => obtain ⟨o, _, _, _, e, _⟩ := x; exact ⟨o, e⟩
  | ins C dx fs => obtain ⟨_, _, _, e, _⟩ := x; exact ⟨_, e⟩
  | own y => exact x
  | xd fs => obtain ⟨_, ⟨o, _, _, e, _⟩, _⟩ := x; exact ⟨o, e⟩
  | rng lo hi => obtain ⟨_, _, _, e⟩ := x; exact ⟨_, e⟩
  | frz ob u => obtain ⟨e, _⟩ := x; exact ⟨_, e⟩
  | tbl ps => exact ⟨_, x⟩
  | met f y => exact ⟨_, x⟩
  | ext φ => obtain ⟨_, e, _⟩ := x; exact e
theorem Inv.track {X : Cx} {pins : List (Addr × Obj)} {σ : St} {H : Hp} {s : Shared} {a : Addr} {o : HO} (I : Inv X pins σ H s) (hn : H a = none) (n0 : X.s₀.heap.get? a = none) (nl : a ≠ X.env.locals) (nc : ∀ x c, X.env.cells.lookup x = some c → c ≠ a) (np : ∀ p ∈ X.pn ++ pins, p.1 ≠ a)
    (new : ObjOk X.prog X.w (upd H a o) s.heap a o) : Inv X pins σ (upd H a o) s := by
  refine ⟨I.ok, I.os, I.bare, ⟨I.base.keep, I.base.slot, fun b u e n hx => ?_, I.base.there, fun b xs e => ?_, fun b u v e => ?_, fun b ps e => ?_⟩, I.loc, I.cell, ?_, fun x c e => ?_, fun p hp => ?_, fun b u e => ?_, I.len⟩
  · rw [upd_ne (fun z => by rw [z, n0] at e; cases e)]; exact I.base.free b u e n hx
  · have q := I.base.tups b xs e
    rw [upd_ne (ne_of_none q hn)]; exact q
  · have q := I.base.frzs b u v e
    rw [upd_ne (ne_of_none q hn)]; exact q
  · obtain ⟨more, q⟩ := I.base.tbls b ps e
    exact ⟨more, by rw [upd_ne (ne_of_none q hn)]; exact q⟩
  · rw [upd_ne (Ne.symm nl)]; exact I.free
  · rw [upd_ne (nc x c e)]; exact I.freeC x c e
  · obtain ⟨e, n, ne, nf, d⟩ := I.pin p hp
    exact ⟨e, by rw [upd_ne (np p hp)]; exact n, ne, nf, d⟩
  · by_cases z : b = a
    · subst z
      rw [upd_same] at e; cases e
      exact new
    · rw [upd_ne z] at e
      exact (I.hok b u e).stay (fun _ _ _ q => q) (fun c q => by rw [upd_ne (ne_of_none q hn)]; exact q) fun c xs q => by rw [upd_ne (ne_of_none q hn)]; exact q
theorem mro_is {K : PySem.W.Frag} {h : Heap} {C N : Addr} {bm bs : List Value} {nm qn : Str} {hdct : Bool} {sn : List Str} {sub : List Value} {ab : Bool} {col : Option Bool} {dd : Option Addr} {k0 k1 k2 k3 k5 : Option Value} {newId : String} {v : Value} {b : Bool} (X : K.In h)
    (e : h.get? C = some (excClassObj nm qn C N bs bm hdct sn sub ab col dd k0 k1 k2 k3 k5 newId)) (q : PySem.W.mroIn K C v = some b) : (Value.ref C :: bm).contains v = b := by
  unfold PySem.W.mroIn PySem.W.clsIn at q
  split at q
  · rename_i ho
    have e2 := X _ _ ho
    rw [e] at e2
    cases e2
    exact Option.some.inj q
  · cases q
def IsExc (K : PySem.W.Frag) (C : Addr) : Prop := PySem.W.excIn K C [.type "ValueError", .type "Exception", .type "BaseException", .type "object"] "ValueError.__new__" = true
section
variable {P : Program} {w : World} {K : PySem.W.Frag} {mg : Str → Option Value} {base : Heap}
end
end L2
namespace L2
open PySem PySem.Spec PyProof.Rows PySem.W
abbrev BMV : List Value := [.type "ValueError", .type "Exception", .type "BaseException", .type "object"]
def excInI (K : Frag) (C f : Addr) : Bool := match K.lookup C with
  | some ⟨.type "type", _, .cls cd, sl⟩ => (match cd.mro, sl.toList with
    | .ref C' :: bm, [_, _, _, _, some (.builtin n), _] => C' == C && n == "ValueError.__new__" && !cd.hasDel && tailIn K BMV bm && nsOkIn K cd.ns && nsIn K cd.ns "__init__" == some (some (.ref f))
    | _, _ => false)
  | _ => false
theorem ns_some {K : Frag} {h : Heap} {N : Addr} {m : Str → Option Value} {x : Str} {v : Value} (X : K.In h) (G : h.Ns N m) (e : nsIn K N x = some (some v)) : m x = some v := by
  obtain ⟨o, es, ep, ho, hd, _, hf⟩ := G
  unfold nsIn at e
  split at e
  · rename_i q
    have z := X _ _ q
    rw [ho] at z
    cases z
    cases hd
    split at e
    · rename_i en he
      rw [← hf]
      unfold nsFind findBy
      rw [← Array.find?_toList, he]
      cases e
      rfl
    · split at e <;> cases e
  · cases e
theorem nsMap_some_of_in {K : Frag} {h : Heap} {N : Addr} {x : Str} {v : Value} (X : K.In h) (e : nsOkIn K N = true) (q : nsIn K N x = some (some v)) : h.nsMap N x = some v := ns_some X (.of_isNs (isNs_of_in X e)) q
theorem excI_of {K : Frag} {h : Heap} {C f : Addr} (X : K.In h) (q : excInI K C f = true) :
    ∃ bm N nm qn bs hdct sn sub ab col dd k0 k1 k2 k3 k5 mN, h.get? C = some (excClassObj nm qn C N bs bm hdct sn sub ab col dd k0 k1 k2 k3 k5 "ValueError.__new__") ∧ h.Ns N mN ∧ mN "__init__" = some (.ref f) ∧ OwnTail h BMV bm := by
  unfold excInI at q
  split at q
  · rename_i dd cd sl ho
    split at q
    · rename_i C' bm k0 k1 k2 k3 n k5 hm hs
      simp only [Bool.and_eq_true, beq_iff_eq, Bool.not_eq_true'] at q
      obtain ⟨⟨⟨⟨⟨rfl, rfl⟩, hdel⟩, ht⟩, hok⟩, hni⟩ := q
      obtain ⟨nm, bs, mro, ns, qn, hd, sn, sub, ab, col, del⟩ := cd
      dsimp only at hm hdel hok hni
      subst hm hdel
      obtain ⟨l⟩ := sl
      dsimp only at hs
      subst hs
      exact ⟨bm, ns, nm, qn, bs, hd, sn, sub, ab, col, dd, k0, k1, k2, k3, k5, _, X _ _ ho, .of_isNs (isNs_of_in X hok), nsMap_some_of_in X hok hni, tail_of_in X ht⟩
    · cases q
  · cases q
section
variable {prog : Program} {w : World} {A : Around} {E : Value → Shared → Prop} {s : Shared}
variable {nm q : Str} {C N f : Addr} {bs bm : List Value} {hdct : Bool} {sn : List Str} {sub : List Value} {ab : Bool} {col : Option Bool} {dd : Option Addr} {k0 k1 k2 k3 k5 : Option Value} {mN : Str → Option Value}
theorem callI_in {rest : List Value} {oI : Obj} {Q : Fin → Shared → Prop} (cC : s.heap.get? C = some (excClassObj nm q C N bs bm hdct sn sub ab col dd k0 k1 k2 k3 k5 "ValueError.__new__")) (cn : s.heap.Ns N mN) (ci : mN "__init__" = some (.ref f)) (T : OwnTail s.heap BMV bm) (fI : s.heap.get? f = some oI) (fc : oI.cls = .type "function") (lr : rest.length ≤ sizeLine)
    (k : ∀ h' e, Heap.MadeExcOf s.heap h' e (.ref C) rest → wpAny (model prog w) A (call (.ref f) (.ref e :: rest)) (fun r s' => r = .none ∧ Q (.done (.ret (.ref e))) s') E { s with heap := h' }) : wpAny (model prog w) A (Builtin.«type.__call__» ⟨.ref C :: rest, []⟩) Q E s := by
  obtain ⟨h, g, d, t, os⟩ := s
  have VE := PySem.F.excBase_ValueError
  repeat (first | with_reducible refine wpAny_loadPart_at cC ?_ | with_reducible refine wpAny_madeBy_exc cC ?_ | wp_step)
  refine codeAny_call_builtin_code (Code.quiet_builtin _ VE.quiet) (wpAny_check_new_subT VE T cC (codeAny_exc_new_subT VE T cC ?_ lr)); show wpAny _ _ _ _ _ _
  have pC := Heap.get?_push_of_some { cls := .ref C, data := .fields #[.ref h.objs.size, .none, .none, .none, .bool false, .none] } (Heap.get?_push_of_some { cls := .type "tuple", data := .seq rest.toArray } cC)
  have pf := Heap.get?_push_of_some { cls := .ref C, data := .fields #[.ref h.objs.size, .none, .none, .none, .bool false, .none] } (Heap.get?_push_of_some { cls := .type "tuple", data := .seq rest.toArray } fI)
  have pn : ((h.push { cls := .type "tuple", data := .seq rest.toArray }).push { cls := .ref C, data := .fields #[.ref h.objs.size, .none, .none, .none, .bool false, .none] }).Ns N mN := cn.keeps fun b o e => Heap.get?_push_of_some _ (Heap.get?_push_of_some _ e)
  have pe : ((h.push { cls := .type "tuple", data := .seq rest.toArray }).push { cls := .ref C, data := .fields #[.ref h.objs.size, .none, .none, .none, .bool false, .none] }).get? (h.objs.size + 1) = some { cls := .ref C, data := .fields #[.ref h.objs.size, .none, .none, .none, .bool false, .none] } := by heap_get
  have pT := T.keeps (h' := (h.push { cls := .type "tuple", data := .seq rest.toArray }).push { cls := .ref C, data := .fields #[.ref h.objs.size, .none, .none, .none, .bool false, .none] }) fun b o e => Heap.get?_push_of_some _ (Heap.get?_push_of_some _ e)
  have self : (Value.ref C :: bm).contains (.ref C) = true := by simp
  unfold isInstance
  repeat (first | with_reducible refine wpAny_loadPart_at pe ?_ | (with_reducible refine wpAny_isSubtype_exc pC ?_; rw [self]) | wp_step)
  show wpAny _ _ (typeLookup (.ref C) _) _ _ _; refine wpAny_typeLookup_tail pC pn pT VE.mroIs VE.init.lookup ?_; rw [ci]
  refine wpAny_holding (wpAny_bind ?_); unfold bindSpecial; refine wpAny_bind (wpAny_typeOf (T := "function") ⟨_, pf, fc⟩ ?_); rw [if_pos (by decide)]
  refine wpAny_pure (wpAny_bind (wpAny_mono (k _ (h.objs.size + 1) ⟨fun b o hb => Heap.get?_push_of_some _ (Heap.get?_push_of_some _ hb), Heap.get?_none_of_le (Nat.le_succ _), h.objs.size, pe, Heap.get?_none_of_le (Nat.le_refl _), Heap.get?_push_of_some _ (Heap.get?_push_at rfl rfl)⟩) (fun r s' hr => ?_) fun _ _ x => x))
  obtain ⟨rfl, hQ⟩ := hr
  wp_walk
  exact hQ
theorem callI {rest : List Value} {oI : Obj} {Q : Value → Shared → Prop} (cC : s.heap.get? C = some (excClassObj nm q C N bs bm hdct sn sub ab col dd k0 k1 k2 k3 k5 "ValueError.__new__")) (cn : s.heap.Ns N mN) (ci : mN "__init__" = some (.ref f)) (T : OwnTail s.heap BMV bm) (fI : s.heap.get? f = some oI) (fc : oI.cls = .type "function") (lr : rest.length ≤ sizeLine)
    (k : ∀ h' e, Heap.MadeExcOf s.heap h' e (.ref C) rest → wpAny (model prog w) (A.under (.builtin "type.__call__" ⟨.ref C :: rest, []⟩)) (call (.ref f) (.ref e :: rest)) (fun r s' => r = .none ∧ Q (.ref e) s') E { s with heap := h' }) : wpAny (model prog w) A (call (.ref C) rest) Q E s := by
  obtain ⟨h, g, d, t, os⟩ := s
  have f1 := tc_lookup
  have f2 := tc_bind (.ref C)
  have ty : (⟨h, g, d, t, os⟩ : Shared).TypeIs (.ref C) "type" := ⟨_, cC, rfl⟩
  refine wpAny_call (codeAny_of_tree ?_); show wpAny _ _ (callAny (.ref C) _) _ _ _
  repeat (any_goals (first | assumption | with_reducible refine wpAny_loadPart_at cC ?_ | wp_step))
  exact ⟨rfl, codeAny_call_builtin_at (Code.quiet_builtin _ (by decide +kernel)) entry_typeCall (wpAny_check_type_call_sub cC (callI_in (s := ⟨h, g, d, t, os⟩) cC cn ci T fI fc lr fun h' e hm => k h' e hm))⟩
end
theorem refuse_tail {h : Heap} {tl : List Value} (T : OwnTail h BMV tl) (x : Value) : refuseLoop x "__setattr__" tl = pure () := by
  induction T with
  | base => exact PySem.F.store_ValueError.passes x
  | own _ _ _ _ ih => rw [refuseLoop_ref]; exact ih
section
variable {prog : Program} {w : World} {A : Around} {E : Value → Shared → Prop} {s : Shared} {K : Frag} {x C : Addr} {ox : Obj} {od : Option Obj}
variable {nm q : Str} {N : Addr} {bs bm : List Value} {hdct : Bool} {sn : List Str} {sub : List Value} {ab : Bool} {col : Option Bool} {dd : Option Addr} {k0 k1 k2 k3 k5 : Option Value}
theorem osaE {R : Result → Shared → Prop} {name : Str} {tk : Tok} {v : Value} (X : K.In s.heap) (I : InstAt s.heap x ox C od) (cC : s.heap.get? C = some (excClassObj nm q C N bs bm hdct sn sub ab col dd k0 k1 k2 k3 k5 "ValueError.__new__")) (T : OwnTail s.heap BMV bm) (ho : mroIn K C (.type "object") = some true) (ht : takerIn K C name = some none)
    (h : ∀ b, wpAny (model prog w) A.in1 (Builtin.ObjectAttr.storeInOwnDict (.ref x) (.ref C) (.str name tk) name v b) (fun fin s' => match fin with | .done f => R (.ok f) s' | .again c' => c'.quiet = true ∧ codeAny (model prog w) A c' R s') (fun e s' => R (.error e) s') s) :
    codeAny (model prog w) A (.call (.builtin "object.__setattr__") ⟨[.ref x, .str name tk, v], []⟩) R s := by
  have SF := PySem.F.store_object
  have up : Looks (model prog w) s.heap (isInstance (.ref x) (.type "object")) true := I.type.andThen (looks_mroIn X ho)
  refine codeAny_call_builtin SF.slot.plain SF.entry (@check_slot (model prog w) _ _ s "object.__setattr__" "object" "__setattr__" (.ref x) [.str name tk, v] [] _ SF.kind SF.split up (SF.args (.ref x) (.str name tk) v) ?_)
  obtain ⟨attr, ha, hr⟩ := Option.bind_eq_some_iff.mp ht
  have take : Looks (model prog w) s.heap (Builtin.ObjectAttr.storeTaker? attr) none := by
    cases attr with
    | none => cases hr; exact .now
    | some a =>
      obtain ⟨b, hb, eb⟩ := Option.map_eq_some_iff.mp hr
      refine (looks_takesIn X hb).andThen ?_
      cases b with
      | false => exact .now
      | true => cases eb
  rw [osa_eq, refuse_eq]
  obtain ⟨hp, g, d, t, os⟩ := s
  refine wpAny_bind (wpAny_bind (I.type.here (wpAny_bind (wpAny_mroOf_exc cC ?_)))); rw [refuseLoop_ref, refuse_tail T]
  refine wpAny_pure (wpAny_bind (I.type.here (wpAny_bind ((looks_findIn X ha).here (wpAny_bind (take.here ?_)))))); exact h _
abbrev excObj (C : Addr) (d : Option Addr) (t : Addr) : Obj := { cls := .ref C, dict := d, data := .fields #[.ref t, .none, .none, .none, .bool false, .none] }
theorem exc_instN {h : Heap} {t : Addr} (hx : h.get? x = some (excObj C none t)) : InstAt h x (excObj C none t) C none := ⟨hx, rfl, rfl, trivial⟩
theorem exc_inst {h : Heap} {dx t : Addr} {mA : Str → Option Value} (hx : h.get? x = some (excObj C (some dx) t)) (n : h.Ns1 dx mA) : ∃ od, InstAt h x (excObj C (some dx) t) C (some od) ∧ ∀ name, lookIn name od = some (mA name) := by
  obtain ⟨od, e, l⟩ := lookIn_ns n
  exact ⟨od, ⟨hx, rfl, rfl, e⟩, l⟩
structure SetE (K : Frag) (C : Addr) : Prop where
  obj : mroIn K C (.type "object") = some true
  sa : findIn K (.ref C) "__setattr__" = some (some (.builtin "object.__setattr__"))
  hd : hasDictIn K C = true
variable {name : Str} {v : Value} {t : Addr} {Q : Unit → Shared → Prop}
theorem set_exc0 (X : K.In s.heap) (cC : s.heap.get? C = some (excClassObj nm q C N bs bm hdct sn sub ab col dd k0 k1 k2 k3 k5 "ValueError.__new__")) (T : OwnTail s.heap BMV bm) (c : SetE K C) (ht : takerIn K C name = some none) (hx : s.heap.get? x = some (excObj C none t))
    (k : ∀ h', h'.get? x = some (excObj C (some s.heap.objs.size) t) → h'.Ns1 s.heap.objs.size (fun y => if y = name then some v else none) → (∀ b o, b ≠ x → s.heap.get? b = some o → h'.get? b = some o) → Q () { s with heap := h', toks := s.toks + 2 }) : wpAny (model prog w) A (setAttr (.ref x) name v) Q E s := by
  refine set_plain X (exc_instN hx) c.sa (osaE (s := { s with toks := s.toks + 1 }) X (exc_instN hx) cC T c.obj ht fun b => ?_)
  obtain ⟨cd, hc, hd'⟩ := any_some c.hd
  have hx1 : (s.heap.push { cls := .type "dict", data := .dict #[] }).get? x = some (excObj C none t) := Heap.get?_push_of_some _ hx
  have xs : x ≠ s.heap.objs.size := Nat.ne_of_lt (Heap.lt_size hx)
  refine wpAny_bind (wpAny_pure (wpAny_bind (wpAny_bind (wpAny_loadPart hx (wpAny_bind (Looks.here (s := { s with toks := s.toks + 1 }) (looks_clsIn X hc) ?_))))))
  rw [hd']
  show wpAny _ _ (alloc _ >>= _) _ _ _
  refine wpAny_bind (wpAny_alloc' (wpAny_bind (wpAny_update' hx1 (wpAny_pure (wpAny_bind (wpAny_pure (wpAny_bind ?_)))))))
  have hgd : ((s.heap.push { cls := .type "dict", data := .dict #[] }).update x fun o => { o with dict := some s.heap.objs.size }).get? s.heap.objs.size = some { cls := .type "dict", data := .dict #[] } := (Heap.get?_update_ne _ _ _ _ xs.symm).trans (Heap.get?_push_at rfl rfl)
  have hnd : ((s.heap.push { cls := .type "dict", data := .dict #[] }).update x fun o => { o with dict := some s.heap.objs.size }).Ns s.heap.objs.size (fun _ => none) := ⟨_, #[], _, hgd, rfl, fun e he => absurd he (by simp), fun _ => rfl⟩
  refine wpAny_nsSet1 (Heap.Ns1.of_empty hnd) fun h' hn hs => ?_
  obtain ⟨oD, esD, epD, hoD, hdD, hcD⟩ := hn.count (Within.cons name v Within.nil)
  refine wpAny_bind (wpAny_lookBehind hoD (by rw [hdD]; exact pastItsLine_dict (Nat.le_trans hcD (by rw [List.length_cons, List.length_nil, sizeLine_eq]; omega))) ?_)
  refine wpAny_pure (k h' ((hs.2 x xs).trans (Heap.get?_update_self _ hx1 rfl)) hn fun b o bx hb => (hs.2 b (Nat.ne_of_lt (Heap.lt_size hb))).trans ((Heap.get?_update_ne _ _ _ _ bx).trans (Heap.get?_push_of_some _ hb)))
theorem set_exc1 {dx : Addr} {mA : Str → Option Value} {ns : List Str} (X : K.In s.heap) (cC : s.heap.get? C = some (excClassObj nm q C N bs bm hdct sn sub ab col dd k0 k1 k2 k3 k5 "ValueError.__new__")) (T : OwnTail s.heap BMV bm) (c : SetE K C) (ht : takerIn K C name = some none) (hx : s.heap.get? x = some (excObj C (some dx) t)) (hn : s.heap.Ns1 dx mA) (hw : Within mA ns) (hz : ns.length ≤ sizeLine)
    (k : ∀ h', h'.Ns1 dx (fun y => if y = name then some v else mA y) → Heap.SameBut dx s.heap h' → Q () { s with heap := h', toks := s.toks + 2 }) : wpAny (model prog w) A (setAttr (.ref x) name v) Q E s := by
  obtain ⟨od, J, _⟩ := exc_inst hx hn
  refine set_plain X J c.sa (osaE (s := { s with toks := s.toks + 1 }) X J cC T c.obj ht fun b => ?_)
  obtain ⟨cd, hc, hd'⟩ := any_some c.hd
  refine wpAny_bind (wpAny_pure (wpAny_bind (wpAny_bind (wpAny_loadPart hx (wpAny_bind (Looks.here (s := { s with toks := s.toks + 1 }) (looks_clsIn X hc) ?_))))))
  rw [hd']
  refine wpAny_pure (a := some dx) (wpAny_bind (wpAny_pure (wpAny_bind ?_)))
  refine wpAny_nsSet1 (s := { s with toks := s.toks + 1 }) hn fun h' n2 s2 => ?_
  obtain ⟨oD, esD, epD, hoD, hdD, hcD⟩ := n2.count (PySem.Within.cons name v hw)
  refine wpAny_bind (wpAny_lookBehind hoD (by rw [hdD]; exact pastItsLine_dict (Nat.le_trans hcD (by rw [List.length_cons]; omega))) ?_)
  exact wpAny_pure (k _ n2 s2)
end
end L2
namespace L2
open PySem PySem.Spec PyProof.Rows
def exNew (a C : Addr) (d : Option Addr) (t : Addr) : HO := .ext fun h => h.get? a = some (excObj C d t)
def xdE (a : Addr) (fs : List (Str × V)) : HO := .ext fun h => ∃ mA, h.Ns1 a mA ∧ (∀ f, RelO (fs.lookup f) (mA f)) ∧ PySem.Within mA (fs.map (·.1))
theorem exNew_ok {P : Program} {w : World} {H : Hp} {h : Heap} {a C t : Addr} {d : Option Addr} (e : h.get? a = some (excObj C d t)) : ObjOk P w H h a (exNew a C d t) := ⟨e, ⟨_, e⟩, fun _ _ x k => k _ x⟩
theorem xdE_ok {P : Program} {w : World} {H : Hp} {h : Heap} {a : Addr} {fs : List (Str × V)} {mA : Str → Option Value} (n : h.Ns1 a mA) (r : ∀ f, RelO (fs.lookup f) (mA f)) (wi : PySem.Within mA (fs.map (·.1))) : ObjOk P w H h a (xdE a fs) :=
  ⟨⟨mA, n, r, wi⟩, let ⟨o, _, _, e, _⟩ := n; ⟨o, e⟩, fun _ _ ⟨mA, n, r, wi⟩ k => ⟨mA, n.at k, r, wi⟩⟩
structure ExcI (K : PySem.W.Frag) (C f : Addr) : Prop where
  ex : excInI K C f = true
  st : SetE K C
section
variable {X : Cx} {pins : List (Addr × Obj)} {σ : St} {H : Hp} {s : Shared} {a C fI t dx : Addr} {fs : List (Str × V)} {f : Str} {A : Around} {E : Value → Shared → Prop}
theorem setE0 {y : V} {u : Value} {Q : Unit → Shared → Prop} (I : Inv X pins σ H s) (e : H a = some (exNew a C none t)) (c : ExcI X.K C fI) (n : PySem.W.takerIn X.K C f = some none) (ry : RelV y u)
    (h : ∀ dx s', H dx = none → dx ≠ a → Inv X pins σ (upd (upd H a (exNew a C (some dx) t)) dx (xdE dx [(f, y)])) s' → Q () s') : wpAny (model X.prog X.w) A (setAttr (.ref a) f u) Q E s := by
  obtain ⟨bm, N, nm, q, bs, hdct, sn, sub, ab, col, dd, k0, k1, k2, k3, k5, mN, cC, cn, ci, T⟩ := excI_of I.kIn c.ex
  have ob : s.heap.get? a = some (excObj C none t) := (I.hok a _ e).1
  refine set_exc0 I.kIn cC T c.st n ob fun h' ha hn kp => ?_
  have fr : H s.heap.objs.size = none := I.hok.fresh (Nat.le_refl _)
  have ne : s.heap.objs.size ≠ a := Nat.ne_of_gt (Heap.lt_size ob)
  have I1 : Inv X pins σ (upd H a (exNew a C (some s.heap.objs.size) t)) { s with heap := h', toks := s.toks + 2 } := I.write (x := a) (e := a) (by rw [e]; exact True.intro) (.inl rfl) kp ⟨_, ha⟩ (exNew_ok ha)
  have fp : FpOk X pins H s.heap.objs.size := I.fpOk (Nat.le_refl _) fr
  have n0 : X.s₀.heap.get? s.heap.objs.size = none := Heap.get?_none_of_le I.sz
  refine h s.heap.objs.size _ fr ne (I1.track (a := s.heap.objs.size) (by rw [upd_ne ne]; exact fr) n0 fp.2.1 fp.2.2.2.2.1 fp.2.2.2.2.2 (xdE_ok hn (fun g => ?_) fun g hg => ?_))
  · show RelO (List.lookup g [(f, y)]) (if g = f then some u else none)
    by_cases z : g = f
    · subst z
      rw [if_pos rfl, show List.lookup g [(g, y)] = some y by simp [List.lookup]]
      exact ry
    · rw [if_neg z, show List.lookup g [(f, y)] = none by rw [List.lookup, show (g == f) = false by simpa using z]; rfl]
      exact True.intro
  · by_cases z : g = f
    · simp [z]
    · exact absurd (show (if g = f then some u else none) = none from if_neg z) hg
theorem setE1 {y : V} {u : Value} {Q : Unit → Shared → Prop} (I : Inv X pins σ H s) (e : H a = some (exNew a C (some dx) t)) (ed : H dx = some (xdE dx fs)) (c : ExcI X.K C fI) (n : PySem.W.takerIn X.K C f = some none) (hl : fs.length < 1000) (ry : RelV y u)
    (h : ∀ s', Inv X pins σ (upd H dx (xdE dx (putF f y fs))) s' → Q () s') : wpAny (model X.prog X.w) A (setAttr (.ref a) f u) Q E s := by
  obtain ⟨bm, N, nm, q, bs, hdct, sn, sub, ab, col, dd, k0, k1, k2, k3, k5, mN, cC, cn, ci, T⟩ := excI_of I.kIn c.ex
  have ob : s.heap.get? a = some (excObj C (some dx) t) := (I.hok a _ e).1
  obtain ⟨mA, hn, r, wi⟩ := (I.hok dx _ ed).1
  refine set_exc1 I.kIn cC T c.st n ob hn wi (by rw [List.length_map, sizeLine_eq]; omega) fun h' n2 sb => h _ ?_
  have hd : ∃ o, h'.get? dx = some o := let ⟨o, _, _, e', _⟩ := n2; ⟨o, e'⟩
  refine I.write (x := dx) (e := dx) (by rw [ed]; exact True.intro) (.inl rfl) (fun b q hb z => (sb.2 b hb).trans z) hd (xdE_ok n2 (fun g => ?_) fun g hg => ?_)
  · show RelO ((putF f y fs).lookup g) (if g = f then some u else mA g)
    rw [lookup_putF]
    by_cases z : g = f
    · rw [if_pos z, if_pos z]; exact ry
    · rw [if_neg z, if_neg z]; exact r g
  · by_cases z : g = f
    · rw [z]; exact (keys_putF f y fs).1
    · refine (keys_putF f y fs).2 g (wi g fun q => hg ?_)
      show (if g = f then some u else mA g) = none
      rw [if_neg z]; exact q
end
def sFldE (K : PySem.W.Frag) (ta tv : TE) (f : Str) : TS := fun D σ H => tv σ H fun y H1 => ta σ H1 fun x H2 => ∃ a C fI t, x = .ref a ∧ ExcI K C fI ∧ PySem.W.takerIn K C f = some none ∧
  ((H2 a = some (exNew a C none t) ∧ ∀ dx, H2 dx = none → dx ≠ a → D.nx σ (upd (upd H2 a (exNew a C (some dx) t)) dx (xdE dx [(f, y)]))) ∨
   ∃ dx fs, H2 a = some (exNew a C (some dx) t) ∧ H2 dx = some (xdE dx fs) ∧ fs.length < 1000 ∧ D.nx σ (upd H2 dx (xdE dx (putF f y fs))))
theorem ps_fldE {X : Cx} {o value : Expr} {f : Str} {pos pos' : Pos} {ta tv : TE} (ha : PE X o ta) (hv : PE X value tv) (hs : swapsWith value (some (.Attribute o f pos')) pos.line X.env = pure false) : PS X (.Assign [.Attribute o f pos'] value pos) (sFldE X.K ta tv f) := by
  intro pins s σ H D I h
  refine plainObj_wpAny_Assign_Attribute (thn (hv pins s σ H _ I h) fun u s1 ⟨y, H1, I1, ry, q⟩ => thn (ha pins s1 σ H1 _ I1 q) fun ov s2 ⟨x, H2, I2, rx, a, C, fI, t, ex, c, n, q2⟩ => ?_) hs
  subst ex
  obtain rfl : ov = Value.ref a := rx
  rcases q2 with ⟨e, q2⟩ | ⟨dx, fs, e, ed, l, q2⟩
  · exact setE0 I2 e c n ry fun dx s3 fr ne I3 => ⟨σ, _, I3, q2 dx fr ne⟩
  · exact setE1 I2 e ed c n l ry fun s3 I3 => ⟨σ, _, I3, q2⟩
theorem fn_at {K : PySem.W.Frag} {h : Heap} {f : Addr} (X : K.In h) (e : PySem.W.isFn K (.ref f) = true) : ∃ o, h.get? f = some o ∧ o.cls = .type "function" := by
  have q : (K.lookup f).map (·.cls) = some (.type "function") := beq_iff_eq.mp e
  obtain ⟨o, ho, hc⟩ := Option.map_eq_some_iff.mp q
  exact ⟨o, X _ _ ho, hc⟩
structure MkE (K : PySem.W.Frag) (C f : Addr) : Prop where
  ex : ExcI K C f
  fn : PySem.W.isFn K (.ref f) = true
  kp : PySem.W.keepIn K (.ref C) = true
theorem Inv.newE {X : Cx} {pins : List (Addr × Obj)} {σ : St} {H : Hp} {s : Shared} {h' : Heap} {e : Addr} {c : Value} {us : List Value} (I : Inv X pins σ H s) (hex : X.ex = []) (mk : Heap.MadeExcOf s.heap h' e c us) {o : HO} (new : ObjOk X.prog X.w (upd H e o) h' e o) : H e = none ∧ X.s₀.heap.get? e = none ∧ Inv X pins σ (upd H e o) { s with heap := h' } := by
  have nH : H e = none := by
    cases q : H e with
    | none => rfl
    | some u =>
      obtain ⟨o', q'⟩ := (I.hok e u q).some
      rw [mk.new] at q'; cases q'
  have nX : X.s₀.heap.get? e = none := by
    cases q : X.s₀.heap.get? e with
    | none => rfl
    | some o =>
      obtain ⟨o', q'⟩ := I.base.there e o q (by rw [hex]; simp)
      rw [mk.new] at q'; cases q'
  have nL : e ≠ X.env.locals := fun z => by
    obtain ⟨m, ⟨o, _, _, e', _⟩, _⟩ := I.loc
    rw [← z, mk.new] at e'; cases e'
  have nC : ∀ y c, X.env.cells.lookup y = some c → c ≠ e := fun y c q z => by
    obtain ⟨v, o, ho, _⟩ := I.cell y c q
    rw [z, mk.new] at ho; cases ho
  have nP : ∀ p ∈ X.pn ++ pins, p.1 ≠ e := fun p hp z => by
    have q := (I.pin p hp).1
    rw [z, mk.new] at q; cases q
  exact ⟨nH, nX, (I.kept (t' := s.toks) mk.keeps).track nH nX nL nC nP new⟩
section
variable {X : Cx} {k : Nat} {f C : Addr} {fd : FuncData} {ps : List Str} {sp : Sp} {x : Str} {p pos : Pos} {e : Expr} {es : List Expr} {t : TA}
theorem run_makeE {pins : List (Addr × Obj)} {σ : St} {H : Hp} {s : Shared} {Q : VK} {us : List Value} {vs : List V} (M : MkE X.K C f) (F : FnOk X.prog X.w X.K X.mg X.base CX0 k f fd ps sp) (hr : Room (k + 1) X.A) (hb : Binds X.K fd ps []) (hex : X.ex = []) (I : Inv X pins σ H s) (r : Vals vs us) (lr : us.length ≤ sizeLine)
    (h : ∀ e t, H e = none → sp (.ref e :: vs) (upd H e (exNew e C none t)) (fun v H2 => v = .non ∧ Q (.ref e) H2) E0) : wpAny (model X.prog X.w) X.A (call (.ref C) us) (fun u s' => (∃ a, u = .ref a ∧ X.s₀.heap.get? a = none) ∧ EP X pins σ Q u s') X.xe s := by
  obtain ⟨bm, N, nm, q, bs, hdct, sn, sub, ab, col, dd, k0, k1, k2, k3, k5, mN, cC, cn, ci, T⟩ := excI_of I.kIn M.ex.ex
  obtain ⟨oI, fo, fc⟩ := fn_at I.kIn M.fn
  refine callI cC cn ci T fo fc lr fun h' a mk => ?_
  obtain ⟨t, at_, _, _⟩ := mk.there
  obtain ⟨nH, nX, I2⟩ := I.newE hex mk (exNew_ok (C := C) (d := none) (t := t) at_)
  have hq := h a t nH
  have r2 : Vals (V.ref a :: (vs ++ [])) (Value.ref a :: (us ++ [])) := .cons rfl (r.append .nil)
  rw [List.append_nil, List.append_nil] at r2
  have hl : (Value.ref a :: us).length = ps.length := by
    have e := r2.length
    rw [F.len _ _ _ _ hq] at e
    exact e.symm
  have bd := hb { s with heap := h' } (Value.ref a :: us) I2.kIn (by rw [List.append_nil]; exact hl)
  rw [List.append_nil] at bd
  refine wpAny_call (codeAny_mono (F.run _ X.stack _ _ ⟨Value.ref a :: us, []⟩ (Value.ref a :: us) _ _ E0 (hr.make C us []) (I2.env0.make C us []) bd r2 hq) fun r s' hq' => ?_)
  cases r with
  | error e => exact (pass0 (X := X) pins σ _ _ e s' I2 hq')
  | ok fl =>
    cases fl with
    | ret u =>
      obtain ⟨v, H', I3, rv, ev, q3⟩ := I2.after hq'
      subst ev
      exact ⟨rv, ⟨a, rfl, nX⟩, ⟨V.ref a, H', I3, rfl, q3⟩⟩
    | next => exact False.elim hq'
    | brk => exact False.elim hq'
    | cont => exact False.elim hq'
end
theorem raise_exc {M : Model} {A : Around} {E : Value → Shared → Prop} {s : Shared} {env : Env} {x : Sem Value} {Q : Flow → Shared → Prop} (hh : A.handled = none)
    (h : wpAny M A x (fun v s1 => ∃ e C d t nm q N bs bm hdct sn sub ab col dd k0 k1 k2 k3 k5, v = .ref e ∧ s1.heap.get? C = some (excClassObj nm q C N bs bm hdct sn sub ab col dd k0 k1 k2 k3 k5 "ValueError.__new__") ∧ bm.contains (.type "BaseException") = true ∧ s1.heap.get? e = some (excObj C d t) ∧ E (.ref e) s1) E s) : wpAny M A (raiseStmt env (some x) none) Q E s := by
  unfold raiseStmt
  refine wpAny_bind (wpAny_mono h (fun v s1 z => ?_) fun _ _ x => x)
  obtain ⟨e, C, d, t, nm, q, N, bs, bm, hdct, sn, sub, ab, col, dd, k0, k1, k2, k3, k5, rfl, cC, hb, he, hE⟩ := z
  have up : (Value.ref C :: bm).contains (.type "BaseException") = true := by rw [List.contains_cons, hb, Bool.or_true]
  obtain ⟨hp, g, dr, tk, os⟩ := s1
  repeat (first | with_reducible refine wpAny_loadPart_at he ?_ | with_reducible refine wpAny_loadPart_at cC ?_ | (with_reducible refine wpAny_isSubtype_exc cC ?_; rw [up]) | wp_step)
  exact wpAny_raiseNew_none hh hE
theorem Inv.raisedE {X : Cx} {pins : List (Addr × Obj)} {σ : St} {H : Hp} {s : Shared} {a C t : Addr} {d : Option Addr} (I : Inv X pins σ H s) (hex : X.ex = []) (ea : H a = some (exNew a C d t)) (na : X.s₀.heap.get? a = none) :
    ∀ h' : Heap, (PySem.W.hideAll s.heap (a :: frs X.stack)).StaysIn h' → UnB (frs X.outer) X.H₀ (del H a) X.s₀.heap h' ∧ HOk X.prog X.w (del H a) h' := by
  intro h' st
  have kp : ∀ b u, s.heap.get? b = some u → b ≠ a → b ∉ frs X.stack → h'.get? b = some u := fun b u e n hb => st b u (PySem.W.hideAll_get _ e fun z => by
    rcases List.mem_cons.mp z with z | z
    · exact n z
    · exact hb z)
  have nx : ∀ b, b ∉ X.ex := fun b z => by rw [hex] at z; cases z
  have old : ∀ b o, X.s₀.heap.get? b = some o → b ≠ a := fun b o e z => by rw [z, na] at e; cases e
  have tr : ∀ b u, H b = some u → u ≠ exNew a C d t → b ≠ a := fun b u e n z => by
    rw [z, ea] at e
    cases e
    exact n rfl
  refine ⟨⟨fun b o e n hb => kp b o (I.base.keep b o e n hb (nx b)) (old b o e) (I.oldB e hb), fun b o e n => ?_, fun b o e hb => ?_, fun b xs e => ?_, fun b o v e => ?_, fun b ps e => ?_⟩, fun b u e => ?_⟩
  · rw [del_ne (old b o e)]; exact I.base.free b o e n (nx b)
  · obtain ⟨o', q⟩ := I.base.there b o e (nx b)
    exact ⟨o', kp b o' q (old b o e) (I.oldB e hb)⟩
  · have q := I.base.tups b xs e
    rw [del_ne (tr b _ q fun z => by unfold exNew at z; cases z)]; exact q
  · have q := I.base.frzs b o v e
    rw [del_ne (tr b _ q fun z => by unfold exNew at z; cases z)]; exact q
  · obtain ⟨m, q⟩ := I.base.tbls b ps e
    exact ⟨m, by rw [del_ne (tr b _ q fun z => by unfold exNew at z; cases z)]; exact q⟩
  · have n : b ≠ a := fun z => by rw [z, del_same] at e; cases e
    rw [del_ne n] at e
    refine (I.hok b u e).stay (fun c v hc q => kp c v q (fun z => ?_) fun hs => ?_) (fun c q => ?_) fun c xs q => ?_
    · rcases hc with w | w
      · exact n (w.symm.trans z)
      · rw [z, ea] at w; unfold exNew at w; cases w
    · have hn := I.stkFree c hs
      rcases hc with z | z
      · rw [z, e] at hn; cases hn
      · rw [z] at hn; cases hn
    · rw [del_ne (tr c _ q fun z => by unfold exNew at z; cases z)]; exact q
    · rw [del_ne (tr c _ q fun z => by unfold exNew at z; cases z)]; exact q
def tRaiseC (C : Addr) (sp : Sp) (t : TA) (E : XK) : TS := fun _ σ H => t σ H fun vs H1 => vs.length ≤ sizeLine ∧ ∀ e t, H1 e = none → sp (.ref e :: vs) (upd H1 e (exNew e C none t)) (fun v H2 => v = .non ∧ ∃ a d t, (V.ref e) = .ref a ∧ H2 a = some (exNew a C d t) ∧ E (.ref C) d (del H2 a)) E0
theorem ps_raiseC {X : Cx} {E : XK} {k : Nat} {f C : Addr} {fd : FuncData} {ps : List Str} {sp : Sp} {x : Str} {p cpos pos : Pos} {e : Expr} {es : List Expr} {t : TA} (L : LeavesD X E) (hc : X.calm = true) (M : MkE X.K C f) (F : FnOk X.prog X.w X.K X.mg X.base CX0 k f fd ps sp) (hr : Room (k + 1) X.A) (hg : Gl X x) (hm : X.mg x = some (.ref C)) (hb : Binds X.K fd ps [])
    (ha : PA X (e :: es) t) (hdb : (x == ("__debug__" : Str)) = false := by decide) (he : starEach (e :: es) X.env = (false, eval e X.env) :: starEach es X.env := by rfl) (hpl : (backTo cpos (starEach es X.env)).any (·.1) = false := by rfl) : PS X (.Raise (some (.Call (.Name x p) (e :: es) [] cpos)) none pos) (tRaiseC C sp t E) := by
  intro pins s σ H D I h
  obtain ⟨hst, hfr, hex, hxe⟩ := L
  rw [arm_exec_Raise]
  refine wpAny_bind (wpAny_standAt (raise_exc (I.ok.hd hc) (wpAny_bind (wpAny_mono (wpAny_Call_Name_kw (ld_glob I hg hm (PySem.W.callWith_K (h₀ := X.base) I.ok.mod.kin M.kp (thn (ha cpos pins s σ H _ I h) fun us s1 ⟨vs, H1, I1, r, lr, q⟩ => ⟨I1.kIn, run_makeE (Q := fun v H2 => ∃ a d t, v = .ref a ∧ H2 a = some (exNew a C d t) ∧ E (.ref C) d (del H2 a)) M F hr hb hex I1 r (by show us.length ≤ _; rw [← r.length]; exact lr) q⟩) he hpl) hdb)) (fun v s1 z => wpAny_bind (wpAny_standAt (wpAny_pure ?_))) fun _ _ q => q))))
  obtain ⟨⟨a0, ev0, na⟩, x, H1, I1, rx, a, d, t, ev, ea, q⟩ := z
  subst ev
  obtain rfl : v = Value.ref a := rx
  rw [show a0 = a from (Value.ref.inj ev0).symm] at na
  obtain ⟨bm, N, nm, qn, bs, hdct, sn, sub, ab, col, dd, k0, k1, k2, k3, k5, mN, cC, cn, ci, T⟩ := excI_of I1.kIn M.ex.ex
  have ob : s1.heap.get? a = some (excObj C d t) := (I1.hok a _ ea).1
  refine ⟨a, C, d, t, nm, qn, N, bs, bm, hdct, sn, sub, ab, col, dd, k0, k1, k2, k3, k5, rfl, cC, T.hasType PySem.F.excBase_ValueError.hasBase, ob, ?_⟩
  rw [hxe]
  have fr : X.A.frames = some (X.env :: X.outer) := by rw [I1.ok.frames, hst]
  have ff : s1.heap.FunFrames X.base (X.env :: X.outer) := by rw [← hst]; exact I1.stack
  unfold leaving
  refine wpAny_bind (fly_note0 (B := PySem.W.hideAll s1.heap (a :: frs X.stack)) fr (PySem.W.funFrames_hide ff fun env he b hb => List.mem_cons_of_mem _ (by rw [hst]; exact List.mem_filterMap.mpr ⟨env, he, hb⟩)) hfr ob (fun b o z => PySem.W.of_hideAll _ z) (PySem.W.hideAll_none _ List.mem_cons_self) rfl rfl fun h1 ⟨a1, a2, a3, a4⟩ => fly_land (s := { s1 with heap := h1 }) a1 a2 a3 fun h2 ⟨b1, ⟨_, _, b2⟩, b3, b4⟩ => ?_)
  have s0 : Slots (frs X.outer) X.s₀.heap s1.heap := fun b o e hb => I1.base.slot b o e (I1.ok.frf b hb) hb (by rw [hex]; simp)
  exact ⟨a, .ref C, d, _, del H1 a, rfl, I1.os, I1.bare, ⟨b1, PySem.W.hideAll_none _ List.mem_cons_self, b2, b3⟩, s0.up I1.ok.funs (a4.trans b4), I1.raisedE hex ea na, q⟩
end L2
namespace L2
open PySem PySem.Spec PyProof.Rows
def AnyExc (K : PySem.W.Frag) (C : Addr) : Prop := IsExc K C ∨ ∃ f, excInI K C f = true
theorem AnyExc.rec {K : PySem.W.Frag} {h : Heap} {C : Addr} (x : AnyExc K C) (X : K.In h) : ∃ nid bm N nm qn bs hdct sn sub ab col dd k0 k1 k2 k3 k5, h.get? C = some (excClassObj nm qn C N bs bm hdct sn sub ab col dd k0 k1 k2 k3 k5 nid) := by
  rcases x with x | ⟨f, x⟩
  · obtain ⟨bm, N, nm, qn, bs, hd, sn, sub, ab, col, dd, k0, k1, k2, k3, k5, _, e, _⟩ := exc_of_in X x
    exact ⟨_, bm, N, nm, qn, bs, hd, sn, sub, ab, col, dd, k0, k1, k2, k3, k5, e⟩
  · obtain ⟨bm, N, nm, qn, bs, hd, sn, sub, ab, col, dd, k0, k1, k2, k3, k5, _, e, _⟩ := excI_of X x
    exact ⟨_, bm, N, nm, qn, bs, hd, sn, sub, ab, col, dd, k0, k1, k2, k3, k5, e⟩
def exHOd (a C : Addr) (d : Option Addr) : HO := .ext fun h => ∃ ob, h.get? a = some ob ∧ ob.cls = .ref C ∧ PySem.W.notCls ob = true ∧ ob.dict = d
theorem exHOd_ok {P : Program} {w : World} {H : Hp} {h : Heap} {a C : Addr} {d : Option Addr} {ob : Obj} (e : h.get? a = some ob) (c : ob.cls = .ref C) (n : PySem.W.notCls ob = true) (x : ob.dict = d) : ObjOk P w H h a (exHOd a C d) :=
  ⟨⟨ob, e, c, n, x⟩, ⟨ob, e⟩, fun _ _ ⟨ob, e, c, n, x⟩ k => ⟨ob, k _ e, c, n, x⟩⟩
def HasD (H : Hp) (d : Option Addr) : Prop := ∀ dx, d = some dx → ∃ fs, H dx = some (xdE dx fs)
theorem ex_inst {P : Program} {w : World} {H : Hp} {h : Heap} {a C : Addr} {d : Option Addr} (I : HOk P w H h) (e : H a = some (exHOd a C d)) (hd : HasD H d) : ∃ ob od, PySem.W.InstAt h a ob C od := by
  obtain ⟨ob, at_, c, n, x⟩ := (I a _ e).1
  cases d with
  | none => exact ⟨ob, none, at_, c, n, by rw [x]; trivial⟩
  | some dx =>
    obtain ⟨fs, e2⟩ := hd dx rfl
    obtain ⟨o, q⟩ := (I dx _ e2).2.1
    exact ⟨ob, some o, at_, c, n, by rw [x]; exact q⟩
theorem ex_instD {P : Program} {w : World} {H : Hp} {h : Heap} {a C dx : Addr} {fs : List (Str × V)} (I : HOk P w H h) (e : H a = some (exHOd a C (some dx))) (e2 : H dx = some (xdE dx fs)) : ∃ (ob od : Obj) (mA : Str → Option Value), PySem.W.InstAt h a ob C (some od) ∧ (∀ f, RelO (fs.lookup f) (mA f)) ∧ ∀ name, PySem.W.lookIn name od = some (mA name) := by
  obtain ⟨ob, at_, c, n, x⟩ := (I a _ e).1
  obtain ⟨mA, hn, r, _⟩ := (I dx _ e2).1
  obtain ⟨od, q, l⟩ := lookIn_ns hn
  exact ⟨ob, od, mA, ⟨at_, c, n, by rw [x]; exact q⟩, r, l⟩
section
variable {X : Cx}
theorem call_isD : CallR X (.builtin "isinstance") (fun xs H Q => ∃ (a C : Addr) (d : Option Addr) (c : V) (cv : Value) (b : Bool), xs = [.ref a, c] ∧ H a = some (exHOd a C d) ∧ HasD H d ∧ ((∃ D, c = .ref D ∧ cv = .ref D) ∨ ∃ n, c = .ty n ∧ cv = .type n) ∧ ExcCls X.K C ∧ (∀ od, PySem.W.findObj X.K C od "__class__" = some (.bind (.builtin "getset_descriptor.__get__") (.builtin "object.__class__"))) ∧ PySem.W.kitOne X.K (.ref C) cv = some b ∧ Q (.bl b) H) := by
  intro pins s σ H xs us Q I r h
  obtain ⟨a, C, d, c, cv, b, rfl, ha, hd, hc, ec, hf, e, q⟩ := h
  obtain ⟨u, u', rfl, ru, ru'⟩ := vals2 r
  cases ru
  obtain ⟨ob, od, J⟩ := ex_inst I.hok ha hd
  have eu : u' = cv := by
    rcases hc with ⟨D, rfl, rfl⟩ | ⟨n, rfl, rfl⟩ <;> exact ru'
  subst eu
  exact PySem.W.kia_one (kitx_exc ec (hf od)) I.kIn J e (fun z => nomatch z) fun tk => ⟨.bl b, H, I.tok _, rfl, q⟩
def tFldX (K : PySem.W.Frag) (ta : TE) (f : Str) : TE := fun σ H Q => ta σ H fun x H1 => ∃ a C dx fs v, x = .ref a ∧ H1 a = some (exHOd a C (some dx)) ∧ H1 dx = some (xdE dx fs) ∧ ExcCls K C ∧ PySem.W.hasDictIn K C = true ∧ PySem.W.findIn K (.ref C) f = some none ∧ fs.lookup f = some v ∧ Q v H1
theorem pe_fldX {e : Expr} {f : Str} {pos : Pos} {ta : TE} (he : PE X e ta) (hb : attributeBase e f X.env (eval e X.env) = eval e X.env) : PE X (.Attribute e f pos) (tFldX X.K ta f) := by
  intro pins s σ H Q I h
  refine attr_of hb (thn (he pins s σ H _ I h) fun u s1 ⟨x, H1, I1, rx, a, C, dx, fs, v, ex, ea, ed, c, hh, hf, l, q⟩ => ?_)
  subst ex
  obtain rfl : u = Value.ref a := rx
  obtain ⟨ob, od, mA, J, r, lk⟩ := ex_instD I1.hok ea ed
  obtain ⟨u, hu, ru⟩ := RelO.some_of (v := v) (o := mA f) (by rw [← l]; exact r f)
  refine exc_fld I1.kIn J c (PySem.W.findObj_own hh hf rfl (by rw [lk, hu])) ?_ ⟨v, H1, I1.tok _, ru, q⟩
  exact PySem.W.handedOut_of (handed_of ru)
end
def tAsE (K : PySem.W.Frag) (D : Addr) (i : Nat) (ts : TS) (D1 : Ends) : St → XK := fun σ C d H => ∃ Ca, C = .ref Ca ∧ AnyExc K Ca ∧ PySem.W.mroIn K Ca (.ref D) = some true ∧ ∀ a, H a = none → ts D1 (σ.set i (some (.ref a))) (upd H a (exHOd a Ca d))
theorem try_asE {X : Cx} {tb suite : List Stmt} {b0 : Stmt} {x n : Str} {D : Addr} {i : Nat} {np hp pos : Pos} {t : TS} {ts : TS} {D0 : Ends} {σ : St} {H : Hp} {s : Shared} (hst : X.stack = X.env :: X.outer) (hfr : X.env.frame = some X.env.locals) (hex : X.ex = []) (hpn : X.pn = []) (hg : Gl X x) (O : XCls X.K X.mg x D)
    (hN : X.N.Nodup) (hi : X.N[i]? = some n) (hl : X.env.scope.names.lookup n = some .local) (b1 : ∀ σ H, ¬ D0.bk σ H) (c1 : ∀ σ H, ¬ D0.ct σ H)
    (hb : PSs (X.wish (TakesD X (tAsE X.K D i ts { nx := fun _ H => D0.nx (List.replicate X.N.length none) H, rt := D0.rt }))) tb t) (hs : ∀ u, PSs (X.with (X.A.mark (some u)) false (fun _ _ => False)) (b0 :: suite) ts) (ht : t D0 σ H) (I : Inv X [] σ H s) (hd : (x == ("__debug__" : Str)) = false := by decide) :
    wpAny (model X.prog X.w) X.A (exec (.Try tb [.ExceptHandler (some (.Name x np)) (some n) (b0 :: suite) hp] [] [] pos) X.env) (SP X [] D0) X.xe s := by
  refine wpAny_Try_except (wpAny_mono (hb [] s σ H _ (I.wish _) ht) (fun f s1 q => ?_) fun e s1 q => ?_)
  · have q' := SP.unwish q
    cases f with
    | next => exact wpAny_execs_nil q'
    | brk => exact q'
    | cont => exact q'
    | ret u => exact q'
  · obtain ⟨σ1, H1, s0, I0, a, c, d, B, H2, rfl, os, bare, fly, sl, kp, Ca, rfl, xC, up, hts⟩ := q
    have fr : X.A.frames = some (X.env :: X.outer) := by rw [I0.ok.frames, hst]
    have ff : s0.heap.FunFrames X.base X.stack := I0.stack
    rw [hst] at fly
    refine fly.comes fr hfr fun h5 fly5 u5 => ?_
    have inv : ∀ h6 : Heap, B.StaysIn h6 → Slots (frs X.stack) s0.heap h6 → Inv X [] σ1 H2 { s1 with heap := h6 } := fun h6 b6 s6 => by
      obtain ⟨un, hok⟩ := kp h6 b6
      exact I0.call' (s' := { s1 with heap := h6 }) (ch := []) os (un.un s6) hok bare (fun b hb => by cases hb)
    have sl5 : Slots (frs X.stack) s0.heap h5 := sl.up ff u5
    have I5 := inv h5 fly5.1 sl5
    obtain ⟨ob, vs5, hob, hobc, _, hobd⟩ := fly5.there
    have nm : ∀ {A : Around} {E : Value → Shared → Prop} {R : Value → Shared → Prop}, R (.ref D) { s1 with heap := h5 } → wpAny (model X.prog X.w) A (eval (.Name x np) X.env) R E { s1 with heap := h5 } := fun r =>
      Calls.Name_function_global I5.ok.kind hg (Calls.loadGlobal_global (by rw [I5.ok.glob]; exact I5.mod.glob.keeps I5.bk) O.at_ r) hd
    -- it is new
    have nB : B.get? a = none := fly5.2.1
    have n0 : s0.heap.get? a = none := by
      cases q : s0.heap.get? a with
      | none => rfl
      | some o =>
        by_cases hb : a ∈ frs X.stack
        · obtain ⟨_, o', ho', hnf⟩ := ff.mem hb
          rw [q] at ho'; cases ho'
          obtain ⟨sl', q'⟩ := sl5 a _ q hb
          rw [hob] at q'; cases q'
          exact absurd hobd (hnf _)
        · obtain ⟨o', q'⟩ := (kp B (fun _ _ e => e)).1.there a o q hb
          rw [nB] at q'; cases q'
    have nH : H2 a = none := by
      cases q : H2 a with
      | none => rfl
      | some u =>
        obtain ⟨o', q'⟩ := ((kp B (fun _ _ e => e)).2 a u q).some
        rw [nB] at q'; cases q'
    have nX : X.s₀.heap.get? a = none := by
      cases q : X.s₀.heap.get? a with
      | none => rfl
      | some o =>
        obtain ⟨o', q'⟩ := I0.base.there a o q (by rw [hex]; simp)
        rw [n0] at q'; cases q'
    have nL : a ≠ X.env.locals := fun z => by
      obtain ⟨m, ⟨o, _, _, e, _⟩, _⟩ := I0.loc
      rw [← z, n0] at e; cases e
    have nC : ∀ y c, X.env.cells.lookup y = some c → c ≠ a := fun y c e z => by
      obtain ⟨v, o, ho, _⟩ := I0.cell y c e
      rw [z, n0] at ho; cases ho
    refine wpAny_handleBy_cons (codeAny_handlers_test (nm ?_)) (by intro q; cases q)
    obtain ⟨bmD, ND, nmD, qnD, bsD, hdD, snD, subD, abD, colD, ddD, a0, a1, a2, a3, a5, mD, atD, _, _, TD⟩ := exc_of_in I5.kIn O.ex
    obtain ⟨nidC, bmC, NC, nmC, qnC, bsC, hdC, snC, subC, abC, colC, ddC, e0, e1, e2, e3, e5, atC⟩ := xC.rec I5.kIn
    refine exc_matches (C := Ca) (D := D) (ups := bmC) (downs := bmD) ⟨nmC, qnC, NC, bsC, hdC, snC, subC, abC, colC, ddC, e0, e1, e2, e3, e5, _, atC⟩ ⟨nmD, qnD, ND, bsD, hdD, snD, subD, abD, colD, ddD, a0, a1, a2, a3, a5, _, atD⟩ hob hobc (TD.hasType PySem.F.excBase_ValueError.hasBase) ?_
    rw [mro_is I5.kIn atC up]
    refine codeAny_handlers_suite_as (fly5.again fun h6 fly6 u6 => ?_)
    have I6 := inv h6 fly6.1 (sl5.up ff u6)
    obtain ⟨ob6, vs6, hob6, hobc6, hobx6, hobd6⟩ := fly6.there
    have J6 : Inv X [] σ1 (upd H2 a (exHOd a Ca d)) { s1 with heap := h6 } := I6.track nH nX nL nC (fun p hp => by rw [hpn] at hp; cases hp) (exHOd_ok hob6 hobc6 (by unfold PySem.W.notCls; rw [hobd6]) hobx6)
    refine store_ok J6 hN hi (.inl hl) (v := .ref a) rfl (fun s7 I7 => ?_) (.inr hl)
    refine wpAny_mono (hs (.ref a) [] s7 _ _ _ (I7.with (fun z => nomatch z) rfl) (hts a nH)) (fun f s8 q => ?_) (fun _ _ z => z.elim)
    have kd : (X.env.scope.kind == .class || (X.env.scope.kind == .module && X.env.locals != X.env.globals)) = false := by rw [I5.ok.kind]; rfl
    cases f with
    | next =>
      obtain ⟨σ', H', I8, q⟩ := q
      have I8 := I8.back I7
      obtain ⟨m, hm, _⟩ := I8.loc
      exact wpAny_nameGoes hl hm kd fun h9 m9 hn9 hs9 => ⟨_, H', I8.forgotten hn9 hs9, q⟩
    | brk =>
      obtain ⟨σ', H', _, q⟩ := q
      exact False.elim q
    | cont =>
      obtain ⟨σ', H', _, q⟩ := q
      exact False.elim q
    | ret u =>
      obtain ⟨v, σ', H', I8, r, q⟩ := q
      have I8 := I8.back I7
      obtain ⟨m, hm, _⟩ := I8.loc
      exact wpAny_nameGoes hl hm kd fun h9 m9 hn9 hs9 => ⟨v, _, H', I8.forgotten hn9 hs9, r, q⟩
section
variable {P : Program} {w : World} {K : PySem.W.Frag} {mg : Str → Option Value} {base : Heap}
theorem Fun.okAsE {x qual : Str} {st : Stmt} {f : Addr} {fd : FuncData} {N ps : List Str} {k : Nat} {sp : Sp} {tb suite rest : List Stmt} {b0 : Stmt} {hx n : Str} {D : Addr} {i : Nat} {np hp pos : Pos} (F : Fun K x qual st f fd) (S : FnScope N ps (defScope st)) (O : XCls K mg hx D)
    (hb : defBody st = .Try tb [.ExceptHandler (some (.Name hx np)) (some n) (b0 :: suite) hp] [] [] pos :: rest) (hi : N[i]? = some n) (hl : (defScope st).names.lookup n = some .local) (len : ∀ vs H Q E, sp vs H Q E → vs.length = ps.length)
    (hgl : ∀ (cdv : Value) (n : Nat), (envOfC qual (defScope st) n f cdv).kindOf hx = some .globalImplicit) (hd : (hx == ("__debug__" : Str)) = false)
    (hbody : ∀ (cdv : Value) (A : Around) (outer : List Env) (s : Shared) (H : Hp) (vs : List V) (Q : VK) (E : XK), Room k (A.deeper (envOfC qual (defScope st) s.heap.objs.size f cdv)) → sp vs H Q E →
      ∃ (t : (St → XK) → TS) (ts tr : TS), (∀ E', PSs ((cxOf CX0 P w K mg base N qual (defScope st) f cdv A outer s H E).wish (TakesD (cxOf CX0 P w K mg base N qual (defScope st) f cdv A outer s H E) E')) tb (t E')) ∧
        (∀ u, PSs ((cxOf CX0 P w K mg base N qual (defScope st) f cdv A outer s H E).with ((A.deeper (envOfC qual (defScope st) s.heap.objs.size f cdv)).mark (some u)) false (fun _ _ => False)) (b0 :: suite) ts) ∧
        PSs (cxOf CX0 P w K mg base N qual (defScope st) f cdv A outer s H E).nox rest tr ∧
        t (tAsE K D i ts { nx := fun _ H' => tr { nx := fun _ H' => Q .non H', rt := Q } (List.replicate N.length none) H', rt := Q }) { nx := fun σ' H' => tr { nx := fun _ H' => Q .non H', rt := Q } σ' H', rt := Q } (start N vs) H) : FnOk P w K mg base CX0 (k + 1) f fd ps sp := by
  obtain ⟨oc, od, kV, doc, pm, an, cdv, ct, osl, rfl, lk, hcd⟩ := F.ex
  refine fn_ofW lk hcd S len fun A outer s H vs Q E hr hsp s1 I => ?_
  obtain ⟨t, ts, tr, h1, h2, h3, q⟩ := hbody cdv A outer s H vs Q E hr hsp
  rw [hb]
  refine wpAny_execs_cons (thn (try_asE (X := cxOf CX0 P w K mg base N qual (defScope st) f cdv A outer s H E) (D0 := { nx := fun σ' H' => tr { nx := fun _ H' => Q .non H', rt := Q } σ' H', rt := Q }) rfl rfl rfl rfl (hgl cdv _) O S.nd hi hl (fun _ _ z => z) (fun _ _ z => z) (h1 _) h2 q I hd) fun fl s2 z => ?_)
  cases fl with
  | next =>
    obtain ⟨σ', H', I', z⟩ := z
    exact h3.nox [] s2 σ' H' _ I' z
  | ret v => exact z
  | brk => obtain ⟨_, _, _, z⟩ := z; exact z.elim
  | cont => obtain ⟨_, _, _, z⟩ := z; exact z.elim
end
end L2
namespace L2
open PySem PySem.Spec PyProof.Rows
section
variable {X : Cx}
def tRepl (tb : TE) (y z : Str) : TE := fun σ H Q => tb σ H fun x H1 => ∃ i, x = .str i ∧ (y == z) = false ∧ i.length + (i.length + 1) * z.length ≤ 16777216 ∧ Q (.str (Txt.replace i y z)) H1
theorem name_at {i : Nat} {x : Str} {pos : Pos} {pins : List (Addr × Obj)} {s : Shared} {σ : St} {H : Hp} {v : V} {R : Value → Shared → Prop} (hN : X.N[i]? = some x) (hv : Vis X.env.scope x) (I : Inv X pins σ H s) (e : σ[i]? = some (some v)) (k : ∀ u, RelV v u → R u s) (hd : (x == ("__debug__" : Str)) = false := by decide) (hcd : (x == ("__classdict__" : Str)) = false := by decide) : wpAny (model X.prog X.w) X.A (eval (.Name x pos) X.env) R X.xe s := by
  obtain ⟨m, hn, hl⟩ := I.loc
  obtain ⟨u, r, l⟩ := hl i x v hN e hv
  have fin := k u r
  rcases l with ⟨hk, hm⟩ | ⟨hk, c, hc, hcell⟩
  · exact wpAny_Name (wpAny_loadName_local I.ok.kind hk hn hm fin) hd
  · rcases hk with hk | hk
    · exact wpAny_Name (wpAny_loadName_cell I.ok.kind hk hc hcell fin) hd
    · exact wpAny_Name (wpAny_loadName_free I.ok.kind hk hc hcell fin hcd) hd
theorem repl_at {i : Nat} {x y z : Str} {p apos cpos py pz : Pos} {ky kz} {pins : List (Addr × Obj)} {s : Shared} {σ : St} {H : Hp} {Q : VK} (hN : X.N[i]? = some x) (hv : Vis X.env.scope x) (I : Inv X pins σ H s) (pos : 0 < s.toks) (h : tRepl (tVar i) y z σ H Q)
    (hbase : attributeBase (.Name x p) "replace" X.env (eval (.Name x p) X.env) = eval (.Name x p) X.env) (hline : (apos.endLine == cpos.line) = true)
    (hfew : ((backTo cpos (starEach [.Constant (.str y) ky py, .Constant (.str z) kz pz] X.env)).all (fun x => !x.1) && (backToKw cpos (keywordEach [] X.env)).all (fun x => x.1.isSome) && decide (([.Constant (.str y) ky py, .Constant (.str z) kz pz] : List Expr).length + ([] : List Keyword).length + (if ([] : List Keyword).isEmpty then 0 else 1) < 30)) = true)
    (hs : starEach [.Constant (.str y) ky py, .Constant (.str z) kz pz] X.env = [(false, eval (.Constant (.str y) ky py) X.env), (false, eval (.Constant (.str z) kz pz) X.env)]) (hd : (x == ("__debug__" : Str)) = false := by decide) (hcd : (x == ("__classdict__" : Str)) = false := by decide) :
    wpAny (model X.prog X.w) X.A (eval (.Call (.Attribute (.Name x p) "replace" apos) [.Constant (.str y) ky py, .Constant (.str z) kz pz] [] cpos) X.env) (EP X pins σ Q) X.xe s := by
  obtain ⟨v, e, w, rfl, hyz, hl, q⟩ := h
  refine wpAny_Call_method_late hbase hfew hline rfl (name_at hN hv I e (fun u ru => ?_) hd hcd)
  obtain ⟨t, rfl⟩ := ru
  refine ⟨"str", "str.replace", PySem.F.plainAttrs_str, PySem.F.slot_str_replace, PySem.F.type_str_replace, typeIs_str _ _ _, (fun _ z => nomatch z), ?_⟩
  rw [hs]
  refine Calls.callWith_builtin rfl (Calls.evalArgs_plain ?_)
  show wpAny _ _ (spliced ((false, eval (.Constant (.str y) ky py) X.env) :: backTo cpos [(false, eval (.Constant (.str z) kz pz) X.env)])) _ _ s
  refine Calls.spliced_cons (Calls.Constant_str ?_)
  refine Calls.spliced_cons ?_
  rw [if_neg Bool.false_ne_true]
  refine Calls.Constant_str (Calls.spliced_nil ?_)
  exact SC.replace (Nat.ne_of_gt pos) (Nat.succ_ne_zero _) (Nat.ne_of_lt (Nat.lt_succ_self _)) hyz hl fun t' k => ⟨.str (Txt.replace w y z), H, ((I.tok _).tok _).tok _, ⟨_, rfl⟩, q⟩
theorem emp_str {a : Str} (h : (a.length == 0) = true) : a.cps.toList = [] := by
  have h1 : a.cps.size = 0 := eq_of_beq h
  exact List.eq_nil_of_length_eq_zero (by rw [Array.length_toList]; exact h1)
theorem str_eq0 {a b : Str} (h : (a.length == 0) = true) : a ++ b = b := by
  cases a; cases b
  show (⟨_ ++ _⟩ : Str) = ⟨_⟩
  congr 1
  apply Array.toList_inj.mp
  rw [Array.toList_append, emp_str h, List.nil_append]
theorem str_eq1 {a b : Str} (h : (b.length == 0) = true) : a ++ b = a := by
  cases a; cases b
  show (⟨_ ++ _⟩ : Str) = ⟨_⟩
  congr 1
  apply Array.toList_inj.mp
  rw [Array.toList_append, emp_str h, List.append_nil]
theorem pa_addRepl {i : Nat} {x y z z0 : Str} {p p1 p0 bp apos cpos py pz : Pos} {k0 ky kz} {es : List Expr} {t : TA} (hN : X.N[i]? = some x) (hv : Vis X.env.scope x) (hr : PA X es t)
    (hbase : attributeBase (.Name x p) "replace" X.env (eval (.Name x p) X.env) = eval (.Name x p) X.env := by rfl) (hline : (apos.endLine == cpos.line) = true := by rfl)
    (hfew : ((backTo cpos (starEach [.Constant (.str y) ky py, .Constant (.str z) kz pz] X.env)).all (fun x => !x.1) && (backToKw cpos (keywordEach [] X.env)).all (fun x => x.1.isSome) && decide (([.Constant (.str y) ky py, .Constant (.str z) kz pz] : List Expr).length + ([] : List Keyword).length + (if ([] : List Keyword).isEmpty then 0 else 1) < 30)) = true := by rfl)
    (hs : starEach [.Constant (.str y) ky py, .Constant (.str z) kz pz] X.env = [(false, eval (.Constant (.str y) ky py) X.env), (false, eval (.Constant (.str z) kz pz) X.env)] := by rfl) (hd : (x == ("__debug__" : Str)) = false := by decide) (hcd : (x == ("__classdict__" : Str)) = false := by decide)
    (h1 : starEach (.BinOp (.Name x p1) .Add (.Constant (.str z0) k0 p0) bp :: .Call (.Attribute (.Name x p) "replace" apos) [.Constant (.str y) ky py, .Constant (.str z) kz pz] [] cpos :: es) X.env = (false, eval (.BinOp (.Name x p1) .Add (.Constant (.str z0) k0 p0) bp) X.env) :: (false, eval (.Call (.Attribute (.Name x p) "replace" apos) [.Constant (.str y) ky py, .Constant (.str z) kz pz] [] cpos) X.env) :: starEach es X.env := by rfl) :
    PA X (.BinOp (.Name x p1) .Add (.Constant (.str z0) k0 p0) bp :: .Call (.Attribute (.Name x p) "replace" apos) [.Constant (.str y) ky py, .Constant (.str z) kz pz] [] cpos :: es) (tCons (tOp (fun x y H Q => ∃ i j, x = .str i ∧ y = .str j ∧ i.length + j.length ≤ sizeLine ∧ Q (.str (i ++ j)) H) (tVar i) (tC (.str z0))) (tCons (tRepl (tVar i) y z) t)) := by
  intro pos pins s σ H Q I h
  rw [h1]
  show wpAny _ _ (spliced ((false, eval (.BinOp (.Name x p1) .Add (.Constant (.str z0) k0 p0) bp) X.env) :: (false, eval (.Call (.Attribute (.Name x p) "replace" apos) [.Constant (.str y) ky py, .Constant (.str z) kz pz] [] cpos) X.env) :: backTo pos (starEach es X.env))) _ _ s
  obtain ⟨v, e, w, j, rfl, ej, hl, h2⟩ := h
  cases ej
  refine Calls.spliced_cons (wpAny_BinOp (name_at hN hv I e (fun u ru => ?_) hd hcd))
  obtain ⟨t1, rfl⟩ := ru
  refine Calls.Constant_str ?_
  have rest : ∀ (t' : Tok) (k : Nat), s.toks + 1 ≤ k → wpAny (model X.prog X.w) X.A (spliced ((false, eval (.Call (.Attribute (.Name x p) "replace" apos) [.Constant (.str y) ky py, .Constant (.str z) kz pz] [] cpos) X.env) :: backTo pos (starEach es X.env))) (fun vs s2 => AP X pins σ Q (.str (w ++ z0) t' :: vs) s2) X.xe { s with toks := k } := fun t' k hk => by
    refine Calls.spliced_cons (thn (repl_at (s := { s with toks := k }) hN hv (I.tok _) (by show 0 < k; omega) h2 hbase hline hfew hs hd hcd) fun u s1 ⟨x1, H1, I1, r1, q1⟩ => ?_)
    exact thn (hr pos pins s1 σ H1 _ I1 q1) fun us s2 ⟨xs, H2, I2, r2, q2⟩ => ⟨.str (w ++ z0) :: x1 :: xs, H2, I2, .cons ⟨t', rfl⟩ (.cons r1 r2), q2⟩
  refine PySem.P.add_str (s := { s with toks := s.toks + 1 }) ?_
  split
  · rename_i hz
    have e0 : w ++ z0 = z0 := str_eq0 hz
    have := rest s.toks (s.toks + 1) (Nat.le_refl _)
    rw [e0] at this
    exact this
  · split
    · rename_i hz
      have e0 : w ++ z0 = w := str_eq1 hz
      have := rest t1 (s.toks + 1) (Nat.le_refl _)
      rw [e0] at this
      exact this
    · exact ⟨by rw [Str.length_append]; exact hl, rest _ _ (Nat.le_succ _)⟩
end
theorem bt_min : bootBuiltins "min" = some (.builtin "min") := by decide +kernel
theorem bt_ValueError : bootBuiltins "ValueError" = some (.type "ValueError") := by decide +kernel
def rIsD (K : PySem.W.Frag) : List V → Hp → VK → Prop := fun xs H Q => ∃ (a C : Addr) (d : Option Addr) (c : V) (cv : Value) (b : Bool), xs = [.ref a, c] ∧ H a = some (exHOd a C d) ∧ HasD H d ∧ ((∃ D, c = .ref D ∧ cv = .ref D) ∨ ∃ n, c = .ty n ∧ cv = .type n) ∧ ExcCls K C ∧ (∀ od, PySem.W.findObj K C od "__class__" = some (.bind (.builtin "getset_descriptor.__get__") (.builtin "object.__class__"))) ∧ PySem.W.kitOne K (.ref C) cv = some b ∧ Q (.bl b) H
theorem call_isDK {X : Cx} {K : PySem.W.Frag} (hK : X.K = K) : CallR X (.builtin "isinstance") (rIsD K) := by subst hK; exact call_isD
theorem pe_fldXK {X : Cx} {K : PySem.W.Frag} {e : Expr} {f : Str} {pos : Pos} {ta : TE} (hK : X.K = K) (he : PE X e ta) (hb : attributeBase e f X.env (eval e X.env) = eval e X.env) : PE X (.Attribute e f pos) (tFldX K ta f) := by subst hK; exact pe_fldX he hb
theorem nsOk_of {K : PySem.W.Frag} {N : Addr} {c : Value} {dd : Option Addr} {es : Array DictEntry} {n : Nat} {sl : Array (Option Value)} (h : K.lookup N = some ⟨c, dd, .dict es n, sl⟩) (ha : es.toList.all (fun e => match e.key with | .str _ _ => true | _ => false) = true) : PySem.W.nsOkIn K N = true := by
  unfold PySem.W.nsOkIn
  rw [h]
  show es.all _ = true
  rw [← Array.all_toList]
  exact ha
theorem excInI_of {K : PySem.W.Frag} {C W f N : Addr} {dd dW : Option Addr} {cd cW : ClassData} {sl sW : Array (Option Value)} {oW cN : Value} {bm : List Value} {k0 k1 k2 k3 k5 : Option Value} {dN : Option Addr} {es : Array DictEntry} {n : Nat} {sN : Array (Option Value)} {nid : String}
    (hl : K.lookup C = some ⟨.type "type", dd, .cls cd, sl⟩) (hm : cd.mro = .ref C :: .ref W :: bm) (hs : sl.toList = [k0, k1, k2, k3, some (.builtin "ValueError.__new__"), k5]) (hd : cd.hasDel = false)
    (hW : K.lookup W = some ⟨oW, dW, .cls cW, sW⟩) (hWm : cW.mro = .ref W :: bm) (hx : PySem.W.excIn K W BMV nid = true) (hN : cd.ns = N) (hNl : K.lookup N = some ⟨cN, dN, .dict es n, sN⟩) (ha : es.toList.all (fun e => match e.key with | .str _ _ => true | _ => false) = true)
    (hi : PySem.W.nsIn K N "__init__" = some (some (.ref f))) : excInI K C f = true := by
  subst hN
  have ho := nsOk_of hNl ha
  have ht : PySem.W.tailIn K BMV (.ref W :: bm) = true := by
    unfold PySem.W.excIn at hx
    rw [hW] at hx
    split at hx
    · rename_i q
      cases q
      rw [hWm] at hx
      split at hx
      · rename_i q _
        cases q
        simp only [Bool.and_eq_true] at hx
        unfold PySem.W.tailIn
        simp only [hW, hx.1.2, hx.2, hx.1.1.2, Bool.and_self, Bool.or_true]
      · cases hx
    · cases hx
  unfold excInI
  rw [hl]
  simp only [hm, hs, hd, ht, ho, hi, beq_self_eq_true, Bool.not_false, Bool.and_true]
end L2
namespace K81
open PySem L2
@[elab_as_elim] theorem lx1 {α : Type} {P : List α → Prop} {us : List α} (h : us.length = 1) (k : ∀ a, P [a]) : P us := by
  match us, h with
  | [a], _ => exact k a
theorem lxC {α : Type} {P : List α → Prop} {us : List α} {n : Nat} (h : us.length = n + 1) (k : ∀ a r, r.length = n → P (a :: r)) : P us := by
  cases us with
  | nil => cases h
  | cons a r => exact k a r (Nat.succ.inj h)
@[elab_as_elim] theorem lx2 {α : Type} {P : List α → Prop} {us : List α} (h : us.length = 2) (k : ∀ a b, P [a, b]) : P us := lxC h fun a _ h => lx1 (P := fun r => P (a :: r)) h (k a)
@[elab_as_elim] theorem lx3 {α : Type} {P : List α → Prop} {us : List α} (h : us.length = 3) (k : ∀ a b c, P [a, b, c]) : P us := lxC h fun a _ h => lx2 (P := fun r => P (a :: r)) h (k a)
@[elab_as_elim] theorem lx4 {α : Type} {P : List α → Prop} {us : List α} (h : us.length = 4) (k : ∀ a b c d, P [a, b, c, d]) : P us := lxC h fun a _ h => lx3 (P := fun r => P (a :: r)) h (k a)
@[elab_as_elim] theorem lx5 {α : Type} {P : List α → Prop} {us : List α} (h : us.length = 5) (k : ∀ a b c d e, P [a, b, c, d, e]) : P us := lxC h fun a _ h => lx4 (P := fun r => P (a :: r)) h (k a)
theorem ifT {c A B : Prop} [Decidable c] (hc : c) (h : A) : if decide c = true then A else B := by
  rw [if_pos (decide_eq_true hc)]; exact h
theorem ifF {c A B : Prop} [Decidable c] (hc : ¬ c) (h : B) : if decide c = true then A else B := by
  rw [if_neg (by rw [decide_eq_false hc]; exact Bool.false_ne_true)]; exact h
theorem ifNT {c A B : Prop} [Decidable c] (hc : ¬ c) (h : A) : if (!decide c) = true then A else B := by
  rw [if_pos (by rw [decide_eq_false hc]; rfl)]; exact h
theorem ifNF {c A B : Prop} [Decidable c] (hc : c) (h : B) : if (!decide c) = true then A else B := by
  rw [if_neg (by rw [decide_eq_true hc]; exact Bool.false_ne_true)]; exact h
theorem take_snoc {α β : Type} {f : α → β} {xs : List α} {i : Nat} {x : α} (h : xs[i]? = some x) : (xs.take i).map f ++ [f x] = (xs.take (i + 1)).map f := by
  rw [List.take_succ, h, List.map_append]
  rfl
def TV (v : V) : Prop := (∃ n : Int, v = .int n ∧ 0 ≤ n ∧ n < 10000000) ∨ ∃ z : Str, v = .str z ∧ z.length ≤ 60
def KEYS : List Str := ["any", "ask", "begin", "but", "do", "end", "errand", "give", "group", "hear", "in", "keep", "last", "late", "let", "limit", "off", "raise", "repeat", "ring", "send", "take", "try", "wait", "when", "within"]
theorem flatMap_congr' {α β : Type} {f g : α → List β} : ∀ {xs : List α}, (∀ x ∈ xs, f x = g x) → xs.flatMap f = xs.flatMap g
  | [], _ => rfl
  | x :: r, h => by
    rw [List.flatMap_cons, List.flatMap_cons, h x List.mem_cons_self, flatMap_congr' fun y hy => h y (List.mem_cons_of_mem _ hy)]
theorem same_set {H H2 : Hp} {l : Addr} {o : HO} (s : Same H H2) (h : H l = none) : Same H (upd H2 l o) := fun b u e => by rw [upd_ne (ne_of_none e h)]; exact s b u e
theorem app_len (a b : Str) : (a ++ b).length = a.length + b.length := Array.size_append
theorem flat_keys : ∀ zs : List Str, (zs.map V.str).all flatV = true
  | [] => rfl
  | _ :: r => by rw [List.map_cons, List.all_cons, flat_keys r]; rfl
theorem pick {xs : List V} {m : Int} (h0 : 0 ≤ m) (h1 : m < xs.length) : ∃ v, atI xs m = some v ∧ v ∈ xs := by
  have hlt : m.toNat < xs.length := by omega
  refine ⟨xs[m.toNat], ?_, List.getElem_mem hlt⟩
  have hat := atI_nat (xs := xs) (j := m.toNat) (v := xs[m.toNat]) (by simp [hlt])
  rw [show ((m.toNat : Nat) : Int) = m by omega] at hat
  exact hat
theorem ixAny {K : PySem.W.Frag} {H : Hp} {p : Addr} {xs : List V} {m : Int} {Q : VK} (hp : SqL K H p xs) (h0 : 0 ≤ m) (h1 : m < xs.length) (k : ∀ v ∈ xs, Q v H) : rIxL K (.ref p) (.int m) H Q := by
  obtain ⟨v, e, hv⟩ := pick h0 h1
  exact ⟨p, _, _, _, rfl, rfl, hp, e, k v hv⟩
theorem mod_lt {x : Int} {n : Nat} (h : 1 ≤ n) : 0 ≤ x % (n : Int) ∧ x % (n : Int) < n := ⟨Int.emod_nonneg _ (by omega), Int.emod_lt_of_pos _ (by omega)⟩
def SameT (H H' : Hp) : Prop := ∀ (a : Addr) (xs : List V), H a = some (.tup xs) → H' a = some (.tup xs)
theorem str_eq {a b : Str} (h : a.cps.toList = b.cps.toList) : a = b := by
  cases a; cases b
  simp only [Str.mk.injEq]
  exact Array.toList_inj.mp h
theorem cps_app (a b : Str) : (a ++ b).cps.toList = a.cps.toList ++ b.cps.toList := by
  show (a.cps ++ b.cps).toList = _
  exact Array.toList_append
theorem len_cps (a : Str) : a.length = a.cps.toList.length := rfl
theorem iteT' {b : Bool} {A B : Prop} (h : b = true) (a : A) : if b = true then A else B := by rw [if_pos h]; exact a
theorem iteF' {b : Bool} {A B : Prop} (h : b = false) (a : B) : if b = true then A else B := by rw [h, if_neg Bool.false_ne_true]; exact a
theorem sameT_of {H H' : Hp} (s : Same H H') : SameT H H' := fun a _ h => s a _ h
theorem get_snoc {α : Type} {Gs : List α} {F X : α} {i : Nat} (h : (Gs ++ [F])[i]? = some X) : (i < Gs.length ∧ Gs[i]? = some X) ∨ (i = Gs.length ∧ X = F) := by
  by_cases hi : i < Gs.length
  · rw [List.getElem?_append_left hi] at h
    exact .inl ⟨hi, h⟩
  · rw [List.getElem?_append_right (by omega)] at h
    have e1 := (List.getElem?_eq_some_iff.mp h).1
    have e2 : i - Gs.length = 0 := by simp only [List.length_cons, List.length_nil] at e1; omega
    rw [e2] at h
    cases h
    exact .inr ⟨by omega, rfl⟩
theorem get_last {α : Type} {Gs : List α} {F : α} : (Gs ++ [F])[Gs.length]? = some F := by
  rw [List.getElem?_append_right (Nat.le_refl _), Nat.sub_self]; rfl
def spCell (K : PySem.W.Frag) : Sp := fun vs H Q _ => ∃ (a : Addr) (ns : List Int) (k : Int), vs = [.ref a, .int k] ∧ SqL K H a (ns.map V.int) ∧ ns.length ≤ 63 ∧ 0 ≤ k ∧ ∀ n : Int, Q (.int n) H
def spNo : Sp := fun _ _ _ _ => False
theorem fn_no {f : Addr} {fd : FuncData} {ps : List Str} {k : Nat} : FnOk P w K mg base CX0 k f fd ps spNo := ⟨fun _ _ _ _ h => h.elim, fun _ _ _ _ _ _ _ _ _ _ _ _ _ h => h.elim⟩
def txt : V → Str
  | .int n => (toString n : String)
  | .str z => z
  | _ => ""
inductive Tr where
  | i (n : Int)
  | s (z : Str)
  | t (ts : List Tr)
def RepT : Nat → Hp → V → Tr → Prop
  | 0, _, v, t => match t with
    | .i n => v = .int n
    | .s z => v = .str z
    | .t _ => False
  | m + 1, H, v, t => match t with
    | .i n => v = .int n
    | .s z => v = .str z
    | .t ts => ∃ (a : Addr) (xs : List V), v = .ref a ∧ H a = some (.tup xs) ∧ xs.length = ts.length ∧ ts.length ≤ 100000 ∧ ∀ (i : Nat) (x : V) (t : Tr), xs[i]? = some x → ts[i]? = some t → RepT m H x t
theorem iteT {c A B : Prop} [Decidable c] (hc : c) (h : A) : if c then A else B := by rw [if_pos hc]; exact h
theorem iteF {c A B : Prop} [Decidable c] (hc : ¬ c) (h : B) : if c then A else B := by rw [if_neg hc]; exact h
theorem log_lt {n : Int} (h0 : 0 ≤ n) (h1 : n < 10000000) : n.natAbs.log2 < 1920 := by
  by_cases e : n.natAbs = 0
  · rw [e]; decide
  · refine (Nat.log2_lt e).mpr (Nat.lt_of_lt_of_le (show n.natAbs < 10000000 by omega) ?_)
    exact Nat.le_trans (show 10000000 ≤ 2 ^ 24 by decide) (Nat.pow_le_pow_right (show 0 < 2 by decide) (show 24 ≤ 1920 by decide))
theorem inV_strs (z : Str) (zs : List Str) : inV (.str z) (zs.map V.str) = decide (z ∈ zs) := by
  unfold inV
  rw [Bool.eq_iff_iff, List.any_eq_true, decide_eq_true_eq]
  constructor
  · rintro ⟨y, hy, q⟩
    obtain ⟨n, hn, rfl⟩ := List.mem_map.mp hy
    have : n = z := by simpa [eqV] using q
    subst this
    exact hn
  · intro h
    exact ⟨.str z, List.mem_map.mpr ⟨z, h, rfl⟩, by simp [eqV]⟩
theorem txt_le {v : V} (h : TV v) : (txt v).length ≤ 60 := by
  rcases h with ⟨n, rfl, h0, h1⟩ | ⟨z, rfl, h⟩
  · exact Nat.le_trans (PyProof.Rows.toString_length_le h0 (k := 7) (by decide) h1) (by decide)
  · exact h
theorem join_le (sep : Str) : ∀ zs : List Str, (Txt.join sep zs).length ≤ (zs.map (·.length)).sum + zs.length * sep.length := by
  intro zs
  show (Builtin.Str.glued _ _).length ≤ _
  rw [StrLaws.glued_eq_join]
  induction zs with
  | nil => exact Nat.zero_le _
  | cons c r ih =>
    cases r with
    | nil => show c.length ≤ _; simp
    | cons d r =>
      show (c ++ sep ++ Str.join sep (d :: r)).length ≤ _
      rw [app_len, app_len]
      rw [List.map_cons, List.sum_cons, List.length_cons, Nat.succ_mul]
      omega
theorem take_snoc' {α : Type} {xs : List α} {i : Nat} {x : α} (h : xs[i]? = some x) : xs.take (i + 1) = xs.take i ++ [x] := by
  rw [List.take_succ, h]; rfl
theorem eqNilL {K : PySem.W.Frag} {G : Hp} {a : Addr} {xs : List V} {R : VK} (h : G a = some (.lst xs)) (k : ∀ G', Same G G' → R (.bl (decide (xs = []))) G') : 0 ≤ sizeLine ∧ ∀ p, G p = none → rEqL K false (.ref a) (.ref p) (upd G p (.lst [])) R := by
  refine ⟨by decide, fun p hp => ⟨a, p, _, [], 0, fun _ => true, rfl, rfl, SqL.of ((Same.upd hp) _ _ h), SqL.of upd_same, by decide, (fun i x y _ hy => by cases hy), ?_⟩⟩
  have e : (false ^^ (decide (xs.length = ([] : List V).length) && (List.range xs.length).all fun _ => true)) = decide (xs = []) := by
    cases xs with
    | nil => rfl
    | cons z r => simp
  rw [e]
  exact k _ (Same.upd hp)
def spAlike (m : Nat) : Sp := fun vs H Q _ => ∃ (a b : V) (t : Tr), vs = [a, b] ∧ RepT m H a t ∧ RepT m H b t ∧ ∀ H' : Hp, Same H H' → Q (.bl true) H'
def spAlikeD : Nat → Sp
  | 0 => spNo
  | n + 1 => spAlike n
def isL (c : Nat) : Bool := decide (97 ≤ c) && decide (c ≤ 122)
def isLet (z : Str) : Bool := decide (1 ≤ z.length) && decide (z.length ≤ 8) && z.cps.toList.all isL
def isName (z : Str) : Bool := isLet z && !(KEYS.any fun y => y == z)
def isTold (z : Str) : Bool := Txt.startswith z ":" && isLet (cutS z (some 1) none)
def mName : V → Bool
  | .str z => isName z
  | _ => false
def mVal : V → Bool
  | .str z => isName z || isTold z
  | .int i => decide (0 ≤ i) && decide (i ≤ 999999)
  | _ => false
def isD (c : Nat) : Bool := decide (48 ≤ c) && decide (c ≤ 57)
def figs (z : Str) : Bool := decide (1 ≤ z.length) && decide (z.length ≤ 6) && z.cps.toList.all isD
def numW (z : Str) : Option Int := if figs z = true then (if Txt.startswith z "0" = true ∧ z ≠ "0" then none else some ((PySem.NumText.digitsVal z.cps.toList : Nat) : Int)) else none
def bndV (z : Str) (lo hi : Int) : V := match numW z with
  | some n => if lo ≤ n ∧ n ≤ hi then .int n else .non
  | none => .non
def valueV (z : Str) : V := match numW z with
  | some n => if mVal (.int n) = true then .int n else .non
  | none => if mVal (.str z) = true then .str z else .non
theorem num_low {z : Str} {c : Nat} (h : c ∈ z.cps.toList) (hc : ¬ (48 ≤ c ∧ c ≤ 57)) : numW z = none := by
  unfold numW
  rw [if_neg]
  intro e
  unfold figs at e
  rw [Bool.and_eq_true, List.all_eq_true] at e
  have := e.2 c h
  unfold isD at this
  rw [Bool.and_eq_true, decide_eq_true_eq, decide_eq_true_eq] at this
  exact hc this
theorem starts1 (a c : Nat) (r : List Nat) : Txt.startswith ⟨⟨a :: r⟩⟩ ⟨#[c]⟩ = decide (a = c) := by
  unfold Txt.startswith Builtin.Str.subAt
  have e1 : (⟨⟨a :: r⟩⟩ : Str).length = r.length + 1 := rfl
  have e3 : (⟨#[c]⟩ : Str).length = 1 := rfl
  rw [e1, e3]
  have e5 : (⟨a :: r⟩ : Array Nat).extract 0 (0 + 1) = #[a] := by simp
  rw [e5]
  by_cases h : a = c
  · subst h; simp
  · simp [h]
theorem starts_at {z : Str} {a c : Nat} {r : List Nat} (h : z.cps.toList = a :: r) : Txt.startswith z ⟨#[c]⟩ = decide (a = c) := by
  obtain ⟨⟨l⟩⟩ := z
  cases h
  exact starts1 a c r
theorem digits_head (m : Nat) (h : 0 < m) : ∃ c r, Nat.toDigits 10 m = c :: r ∧ c.toNat ≠ 48 := by
  induction m using Nat.strongRecOn with
  | _ m ih =>
    by_cases h9 : m < 10
    · rw [Nat.toDigits_of_lt_base h9]
      refine ⟨_, [], rfl, ?_⟩
      have := PySem.W.KIN.digit_back m h9
      omega
    · have hm : m % 10 < 10 := Nat.mod_lt m (by decide)
      have t : Nat.toDigits 10 (m / 10) ++ Nat.toDigits 10 (m % 10) = Nat.toDigits 10 (10 * (m / 10) + m % 10) := Nat.toDigits_append_toDigits (by decide) (by omega) hm
      rw [Nat.div_add_mod] at t
      obtain ⟨c, r, e, hc⟩ := ih (m / 10) (by omega) (by omega)
      rw [e] at t
      exact ⟨c, _, t.symm, hc⟩
theorem num_txt {n : Int} (h0 : 0 ≤ n) (h1 : n ≤ 999999) : numW (txt (.int n)) = some n := by
  obtain ⟨m, rfl⟩ := Int.eq_ofNat_of_zero_le h0
  have hs := PySem.W.KIN.signs_num m
  show numW (Str.ofString (toString ((m : Nat) : Int))) = _
  have hl : (Str.ofString (toString ((m : Nat) : Int))).length ≤ 6 := PyProof.Rows.toString_length_le h0 (k := 6) (by decide) (by omega)
  have hp : 1 ≤ (Str.ofString (toString ((m : Nat) : Int))).length := by
    rw [len_cps, hs, List.length_map]
    exact PySem.toDigits_len_ge 10 m
  have hd : (Str.ofString (toString ((m : Nat) : Int))).cps.toList.all isD = true := by
    rw [List.all_eq_true]
    intro c hc
    rw [hs] at hc
    obtain ⟨ch, hch, e⟩ := List.mem_map.mp hc
    have r := PyProof.Rows.digit_range (Nat.isDigit_of_mem_toDigits (by decide) (by decide) hch)
    unfold isD
    rw [Bool.and_eq_true, decide_eq_true_eq, decide_eq_true_eq, ← e]
    exact r
  unfold numW
  rw [if_pos (by unfold figs; rw [decide_eq_true hp, decide_eq_true hl, hd]; rfl), if_neg, hs, PySem.W.KIN.val_back]
  rintro ⟨e, ne⟩
  by_cases hm : m = 0
  · subst hm
    exact ne (by decide +kernel)
  · obtain ⟨c, r, e2, hc⟩ := digits_head m (by omega)
    rw [e2, List.map_cons] at hs
    rw [show ("0" : Str) = ⟨#[48]⟩ by decide +kernel, starts_at hs, decide_eq_true_eq] at e
    exact hc e
theorem join_two (c : Nat) : ∀ {l m : List Str}, l ≠ [] → m ≠ [] → Str.join ⟨#[c]⟩ (l ++ m) = Str.join ⟨#[c]⟩ l ++ ⟨#[c]⟩ ++ Str.join ⟨#[c]⟩ m
  | [], _, h, _ => absurd rfl h
  | [a], b :: m, _, _ => rfl
  | [a], [], _, h => absurd rfl h
  | a :: b :: l, m, _, h => by
    have ih := join_two c (l := b :: l) (m := m) (fun z => nomatch z) h
    show a ++ ⟨#[c]⟩ ++ Str.join ⟨#[c]⟩ (b :: l ++ m) = a ++ ⟨#[c]⟩ ++ Str.join ⟨#[c]⟩ (b :: l) ++ ⟨#[c]⟩ ++ _
    rw [ih]
    refine str_eq ?_
    simp only [cps_app, List.append_assoc]
theorem split_ne (z : Str) (c : Nat) : Txt.split z ⟨#[c]⟩ ≠ [] := fun e => by
  have := PyProof.Rows.split_pos z ⟨#[c]⟩
  rw [e] at this
  exact absurd this (by decide)
theorem split_two (a b : Str) (c : Nat) : Txt.split (a ++ ⟨#[c]⟩ ++ b) ⟨#[c]⟩ = Txt.split a ⟨#[c]⟩ ++ Txt.split b ⟨#[c]⟩ := by
  have e : a ++ ⟨#[c]⟩ ++ b = Str.join ⟨#[c]⟩ (Txt.split a ⟨#[c]⟩ ++ Txt.split b ⟨#[c]⟩) := by
    rw [join_two c (split_ne a c) (split_ne b c), StrLaws.join_split, StrLaws.join_split]
  rw [e]
  refine split_join (fun q => split_ne a c (List.append_eq_nil_iff.mp q).1) fun x hx => ?_
  rcases List.mem_append.mp hx with hx | hx
  · exact StrLaws.split_free _ c x hx
  · exact StrLaws.split_free _ c x hx
theorem split_one {z : Str} {c : Nat} (h : c ∉ z.cps.toList) : Txt.split z ⟨#[c]⟩ = [z] := by
  have := split_join (c := c) (l := [z]) (fun q => nomatch q) (fun a ha => by rw [List.mem_singleton.mp ha]; exact h)
  exact this
structure GoodW (w : Str) : Prop where
  ne : w ≠ ""
  nb : (32 : Nat) ∉ w.cps.toList
  nl : (10 : Nat) ∉ w.cps.toList
  le : w.length ≤ 10
theorem app_nilS (a : Str) : a ++ ("" : Str) = a := str_eq (by rw [cps_app, show (Str.ofString "").cps.toList = [] by decide +kernel, List.append_nil])
theorem nil_appS (a : Str) : ("" : Str) ++ a = a := str_eq (by rw [cps_app, show (Str.ofString "").cps.toList = [] by decide +kernel]; rfl)
inductive Rep (H : Hp) : V → Tr → Prop
  | i (n : Int) : Rep H (.int n) (.i n)
  | s (z : Str) : Rep H (.str z) (.s z)
  | t {a : Addr} {xs : List V} {ts : List Tr} : H a = some (.tup xs) → xs.length = ts.length → (∀ (i : Nat) (x : V) (t : Tr), xs[i]? = some x → ts[i]? = some t → Rep H x t) → Rep H (.ref a) (.t ts)
theorem Rep.sameT {H H' : Hp} {v : V} {t : Tr} (r : Rep H v t) (s : SameT H H') : Rep H' v t := by
  induction r with
  | i n => exact .i n
  | s z => exact .s z
  | t h l _ ih => exact .t (s _ _ h) l ih
def Reps (H : Hp) (xs : List V) (ts : List Tr) : Prop := xs.length = ts.length ∧ ∀ (i : Nat) (x : V) (t : Tr), xs[i]? = some x → ts[i]? = some t → Rep H x t
theorem Reps.sameT {H H' : Hp} {xs : List V} {ts : List Tr} (r : Reps H xs ts) (s : SameT H H') : Reps H' xs ts := ⟨r.1, fun i x t hx ht => (r.2 i x t hx ht).sameT s⟩
theorem Reps.nil (H : Hp) : Reps H [] [] := ⟨rfl, fun _ _ _ h => nomatch h⟩
theorem Reps.snoc {H : Hp} {xs : List V} {ts : List Tr} {x : V} {t : Tr} (r : Reps H xs ts) (h : Rep H x t) : Reps H (xs ++ [x]) (ts ++ [t]) := by
  refine ⟨by rw [List.length_append, List.length_append, r.1]; rfl, fun i y u hy hu => ?_⟩
  rcases get_snoc hy with ⟨lt, hy⟩ | ⟨ei, ey⟩
  · have lt2 : i < ts.length := by rw [← r.1]; exact lt
    rw [List.getElem?_append_left lt2] at hu
    exact r.2 i y u hy hu
  · rw [ei, r.1, get_last] at hu
    cases hu
    rw [ey]
    exact h
theorem Reps.app {H : Hp} {xs ys : List V} {ts us : List Tr} (r : Reps H xs ts) (q : Reps H ys us) : Reps H (xs ++ ys) (ts ++ us) := by
  refine ⟨by rw [List.length_append, List.length_append, r.1, q.1], fun i x t hx ht => ?_⟩
  by_cases lt : i < xs.length
  · rw [List.getElem?_append_left lt] at hx
    rw [List.getElem?_append_left (by rw [← r.1]; exact lt)] at ht
    exact r.2 i x t hx ht
  · rw [List.getElem?_append_right (by omega)] at hx
    rw [List.getElem?_append_right (by rw [← r.1]; omega), ← r.1] at ht
    exact q.2 _ x t hx ht
theorem Reps.one {H : Hp} {x : V} {t : Tr} (h : Rep H x t) : Reps H [x] [t] := (Reps.nil H).snoc h
theorem Rep.tup {H : Hp} {a : Addr} {xs : List V} {ts : List Tr} (h : H a = some (.tup xs)) (r : Reps H xs ts) : Rep H (.ref a) (.t ts) := .t h r.1 r.2
theorem good_cps {w : Str} (h1 : 1 ≤ w.length) (h2 : w.length ≤ 10) (h : ∀ c ∈ w.cps.toList, 33 ≤ c) : GoodW w := by
  refine ⟨fun e => ?_, fun m => ?_, fun m => ?_, h2⟩
  · rw [e] at h1
    exact absurd h1 (by decide +kernel)
  · have := h _ m; omega
  · have := h _ m; omega
theorem good_int {n : Int} (h0 : 0 ≤ n) (h1 : n ≤ 999999) : GoodW (txt (.int n)) := by
  obtain ⟨m, rfl⟩ := Int.eq_ofNat_of_zero_le h0
  have hs := PySem.W.KIN.signs_num m
  show GoodW (Str.ofString (toString ((m : Nat) : Int)))
  refine good_cps ?_ (Nat.le_trans (PyProof.Rows.toString_length_le h0 (k := 6) (by decide) (by omega)) (by decide)) fun c hc => ?_
  · rw [len_cps, hs, List.length_map]
    exact PySem.toDigits_len_ge 10 m
  · rw [hs] at hc
    obtain ⟨ch, hch, e⟩ := List.mem_map.mp hc
    have r := PyProof.Rows.digit_range (Nat.isDigit_of_mem_toDigits (by decide) (by decide) hch)
    omega
theorem sum_lens {L : List Str} {c : Nat} (h : ∀ l ∈ L, l.length ≤ c) : (L.map (·.length)).sum ≤ L.length * c := by
  induction L with
  | nil => exact Nat.zero_le _
  | cons a r ih =>
    have h1 := h a List.mem_cons_self
    have h2 := ih fun l hl => h l (List.mem_cons_of_mem _ hl)
    rw [List.map_cons, List.sum_cons, List.length_cons, Nat.succ_mul]
    omega
theorem glue_join (z : Str) (L : List Str) : Txt.join z L = Str.join z L := by
  show Builtin.Str.glued _ _ = _
  rw [StrLaws.glued_eq_join]
theorem lt_one (a b : Nat) : ([a] < [b]) ↔ a < b := by
  constructor
  · intro h
    cases h with
    | rel h => exact h
    | cons h => cases h
  · intro h; exact List.Lex.rel h
theorem chain_let (c : Nat) : (if (!decide ((⟨#[c]⟩ : Str).cps.toList < ("a" : Str).cps.toList)) = true then (!decide (("z" : Str).cps.toList < (⟨#[c]⟩ : Str).cps.toList)) else false) = isL c := by
  have ea : ("a" : Str).cps.toList = [97] := by decide +kernel
  have ez : ("z" : Str).cps.toList = [122] := by decide +kernel
  have ec : (⟨#[c]⟩ : Str).cps.toList = [c] := rfl
  rw [ea, ez, ec]
  have h1 := lt_one c 97
  have h2 := lt_one 122 c
  unfold isL
  by_cases a : c < 97 <;> by_cases b : 122 < c <;> simp [h1, h2, a, b] <;> omega
theorem chain_dig (c : Nat) : (if (!decide ((⟨#[c]⟩ : Str).cps.toList < ("0" : Str).cps.toList)) = true then (!decide (("9" : Str).cps.toList < (⟨#[c]⟩ : Str).cps.toList)) else false) = isD c := by
  have ea : ("0" : Str).cps.toList = [48] := by decide +kernel
  have ez : ("9" : Str).cps.toList = [57] := by decide +kernel
  have ec : (⟨#[c]⟩ : Str).cps.toList = [c] := rfl
  rw [ea, ez, ec]
  have h1 := lt_one c 48
  have h2 := lt_one 57 c
  unfold isD
  by_cases a : c < 48 <;> by_cases b : 57 < c <;> simp [h1, h2, a, b] <;> omega
inductive Th (H : Hp) : V → Prop
  | str (z : Str) : z.length ≤ 1000 → Th H (.str z)
  | int (i : Int) : Th H (.int i)
  | bl (b : Bool) : Th H (.bl b)
  | non : Th H .non
  | lst {a : Addr} {xs : List V} : H a = some (.lst xs) → Th H (.ref a)
  | tup {a : Addr} {xs : List V} : H a = some (.tup xs) → Th H (.ref a)
  | dic {a : Addr} {kvs : List (Key × V)} : H a = some (.dK kvs) → Th H (.ref a)
theorem Th.same {H H' : Hp} {v : V} (t : Th H v) (s : Same H H') : Th H' v := by
  cases t with
  | str z h => exact .str z h
  | int i => exact .int i
  | bl b => exact .bl b
  | non => exact .non
  | lst h => exact .lst (s _ _ h)
  | tup h => exact .tup (s _ _ h)
  | dic h => exact .dic (s _ _ h)
def isS : V → Bool
  | .str _ => true
  | _ => false
def isB : V → Bool
  | .bl _ => true
  | _ => false
def isI : V → Bool
  | .int _ => true
  | .bl _ => true
  | _ => false
theorem Th.ty {K : PySem.W.Frag} {H : Hp} {v : V} (t : Th H v) : ∃ u, TyOf K H v u ∧ PySem.W.kitOne K u (.type "str") = some (isS v) ∧ PySem.W.kitOne K u (.type "bool") = some (isB v) ∧ PySem.W.kitOne K u (.type "int") = some (isI v) := by
  cases t with
  | str z h => exact ⟨_, .str z, rfl, rfl, rfl⟩
  | int i => exact ⟨_, .int i, rfl, rfl, rfl⟩
  | bl b => exact ⟨_, .bl b, rfl, rfl, rfl⟩
  | non => exact ⟨_, .non, rfl, rfl, rfl⟩
  | lst h => exact ⟨_, .lst h, rfl, rfl, rfl⟩
  | tup h => exact ⟨_, .tup h, rfl, rfl, rfl⟩
  | dic h => exact ⟨_, .dK h, rfl, rfl, rfl⟩
theorem name_any (z : Str) : inV (V.str z) (KEYS.map V.str) = KEYS.any fun y => y == z := by
  unfold inV
  rw [List.any_map]
  rfl
def spLetters : Sp := fun vs H Q _ => ∃ z : Str, vs = [.str z] ∧ z.length ≤ 1000 ∧ ∀ H', Same H H' → Q (.bl (isLet z)) H'
def spName : Sp := fun vs H Q _ => ∃ v : V, vs = [v] ∧ Th H v ∧ ∀ H', Same H H' → Q (.bl (mName v)) H'
def spTold : Sp := fun vs H Q _ => ∃ z : Str, vs = [.str z] ∧ z.length ≤ 1000 ∧ ∀ H', Same H H' → Q (.bl (isTold z)) H'
def spVal : Sp := fun vs H Q _ => ∃ v : V, vs = [v] ∧ Th H v ∧ ∀ H', Same H H' → Q (.bl (mVal v)) H'
def oN : Option Int → V
  | some n => .int n
  | none => .non
def spNumber : Sp := fun vs H Q _ => ∃ z : Str, vs = [.str z] ∧ z.length ≤ 1000 ∧ ∀ H', Same H H' → Q (oN (numW z)) H'
def spBounded : Sp := fun vs H Q _ => ∃ (z : Str) (lo hi : Int), vs = [.str z, .int lo, .int hi] ∧ z.length ≤ 1000 ∧ ∀ H', Same H H' → Q (bndV z lo hi) H'
def spValueOf : Sp := fun vs H Q _ => ∃ z : Str, vs = [.str z] ∧ z.length ≤ 1000 ∧ ∀ H', Same H H' → Q (valueV z) H'
theorem fig_text {z : Str} (h : figs z = true) : intText? z = some ((PySem.NumText.digitsVal z.cps.toList : Nat) : Int) := by
  unfold figs at h
  rw [Bool.and_eq_true, Bool.and_eq_true, decide_eq_true_eq, decide_eq_true_eq, List.all_eq_true] at h
  refine PySem.intText_digits (fun c hc => ?_) (fun e => ?_) (Nat.le_trans h.1.2 (by decide))
  · have := h.2 c hc
    unfold isD at this
    rw [Bool.and_eq_true, decide_eq_true_eq, decide_eq_true_eq] at this
    exact this
  · have := h.1.1
    rw [len_cps, e] at this
    exact absurd this (by decide)
theorem sp1 : (" " : Str) = ⟨#[32]⟩ := by decide +kernel
theorem nl1 : ("\n" : Str) = ⟨#[10]⟩ := by decide +kernel
theorem join_mem (s : Nat) {c : Nat} : ∀ {l : List Str}, c ∈ (Str.join ⟨#[s]⟩ l).cps.toList → c = s ∨ ∃ a ∈ l, c ∈ a.cps.toList
  | [], h => by
    have h' : c ∈ ([] : List Nat) := h
    cases h'
  | [a], h => .inr ⟨a, List.mem_singleton.mpr rfl, h⟩
  | a :: b :: l, h => by
    have h' : c ∈ (a ++ ⟨#[s]⟩ ++ Str.join ⟨#[s]⟩ (b :: l)).cps.toList := h
    rw [cps_app, cps_app] at h'
    rcases List.mem_append.mp h' with q | q
    · rcases List.mem_append.mp q with q | q
      · exact .inr ⟨a, List.mem_cons_self, q⟩
      · exact .inl (List.mem_singleton.mp q)
    · rcases join_mem s q with q | ⟨x, hx, q⟩
      · exact .inl q
      · exact .inr ⟨x, List.mem_cons_of_mem _ hx, q⟩
def stk : Str := "/"
def dsh : Str := "-"
def sT : Tr → Str
  | .i n => txt (.int n)
  | .s z => z
  | .t _ => ""
def faultS : List Tr → Str
  | [] => dsh
  | fs => Str.join ⟨#[44]⟩ (fs.map sT)
def outW : List Tr → List Str
  | [.s z, .t fs] => [z, faultS fs]
  | ts => ts.map sT
def partW (w : Str) : Tr → List Str
  | .t ts => if w = "ended" then outW ts else [faultS ts]
  | x => [sT x]
def deedW : List Tr → List Str
  | .s w :: r => w :: r.flatMap (partW w)
  | _ => []
def markW : Tr → List Str
  | .t xs => xs.map sT
  | _ => []
def marksW : List Tr → List Str
  | [] => [dsh]
  | ms => ms.flatMap markW
def wokenW : List Tr → List Str
  | [] => [dsh]
  | ws => ws.map sT
set_option genInjectivity false in
structure Row where
  tick : Int
  who : Tr
  deed : List Tr
  marks : List Tr
  woken : List Tr
def Row.tr (r : Row) : Tr := .t [.i r.tick, r.who, .t r.deed, .t r.marks, .t r.woken]
def Row.words (r : Row) : List Str := [sT (.i r.tick), sT r.who] ++ deedW r.deed ++ [stk] ++ marksW r.marks ++ [stk] ++ wokenW r.woken
def Row.line (r : Row) : Str := Str.join ⟨#[32]⟩ r.words
def Num (lo hi : Int) (t : Tr) : Prop := ∃ n, t = .i n ∧ lo ≤ n ∧ n ≤ hi
def NAM : List Str := ["a", "gate", "torn", "zzzzzzzz", "box", "lostone", "b", "nobody"]
def Nm (t : Tr) : Prop := ∃ z, t = .s z ∧ z ∈ NAM
def Told (t : Tr) : Prop := Num 0 999999 t ∨ ∃ z, t = .s z ∧ (z = ":off" ∨ z = ":abc")
def Flts (k : Nat) (fs : List Tr) : Prop := (∀ f ∈ fs, Nm f) ∧ k ≤ fs.length ∧ fs.length ≤ 4
inductive OutOk : List Tr → Prop
  | value {v : Tr} : Told v → OutOk [.s "value", v]
  | faults {fs : List Tr} : Flts 1 fs → OutOk [.s "faults", .t fs]
  | bare {z : Str} : z = "off" ∨ z = "late" → OutOk [.s z]
inductive DeedE : List Tr → Prop
  | line {w : Str} {l : Tr} : w = "did" ∨ w = "clean" → Num 0 99999 l → DeedE [.s w, l]
  | name {w : Str} {l a : Tr} : w = "ring" ∨ w = "hear" ∨ w = "raise" ∨ w = "off" → Num 0 99999 l → Nm a → DeedE [.s w, l, a]
  | scope {w : Str} {l s : Tr} : w = "group" ∨ w = "join" ∨ w = "left" ∨ w = "late" ∨ w = "off" → Num 0 99999 l → Num 0 999 s → DeedE [.s w, l, s]
  | send {l a v : Tr} : Num 0 99999 l → Nm a → Told v → DeedE [.s "send", l, a, v]
  | two {w : Str} {l a b : Tr} : w = "take" ∨ w = "ask" → Num 0 99999 l → Nm a → Nm b → DeedE [.s w, l, a, b]
  | begin {l a b s n : Tr} : Num 0 99999 l → Nm a → Nm b → Num 0 999 s → Num 0 99 n → DeedE [.s "begin", l, a, b, s, n]
  | limit {l s n : Tr} : Num 0 99999 l → Num 0 999 s → Num 1 99 n → DeedE [.s "limit", l, s, n]
  | wait {l n : Tr} : Num 0 99999 l → Num 1 99 n → DeedE [.s "wait", l, n]
  | halt {l s : Tr} {fs : List Tr} : Num 0 99999 l → Num 0 999 s → Flts 0 fs → DeedE [.s "halt", l, s, .t fs]
  | caught {l : Tr} {fs : List Tr} : Num 0 99999 l → Flts 1 fs → DeedE [.s "caught", l, .t fs]
  | ended {l : Tr} {os : List Tr} : Num 0 99999 l → OutOk os → DeedE [.s "ended", l, .t os]
inductive DeedC : List Tr → Prop
  | woke {n : Tr} : Num 0 99 n → DeedC [.s "woke", n]
  | late {n s : Tr} : Num 0 99 n → Num 0 999 s → DeedC [.s "late", n, s]
inductive DeedO : List Tr → Prop
  | ring {a : Tr} : Nm a → DeedO [.s "ring", a]
  | send {a v : Tr} : Nm a → Told v → DeedO [.s "send", a, v]
  | off {n : Tr} : Num 0 9999 n → DeedO [.s "off", n]
inductive MarkOk : Tr → Prop
  | mk {a b : Tr} {z : Str} : Num 0 99 a → Num 0 999 b → z = "off" ∨ z = "late" → MarkOk (.t [a, b, .s z])
structure RowOk (r : Row) : Prop where
  tick : 0 ≤ r.tick ∧ r.tick ≤ 99999
  deed : (r.who = .s "clock" ∧ DeedC r.deed) ∨ (r.who = .s "outside" ∧ DeedO r.deed) ∨ (Num 0 99 r.who ∧ DeedE r.deed)
  marks : (∀ m ∈ r.marks, MarkOk m) ∧ r.marks.length ≤ 3
  woken : (∀ m ∈ r.woken, Num 0 99 m) ∧ r.woken.length ≤ 3
def bndT (z : Str) (lo hi : Int) : Option Tr := match numW z with
  | some n => if lo ≤ n ∧ n ≤ hi then some (.i n) else none
  | none => none
def toldT (z : Str) : Option Tr := match numW z with
  | some n => if 0 ≤ n ∧ n ≤ 999999 then some (.i n) else none
  | none => if isTold z = true ∧ isName z = false then some (.s z) else none
def fltT (z : Str) : Option Tr := if (Txt.split z ⟨#[44]⟩).all isName = true then some (.t ((Txt.split z ⟨#[44]⟩).map .s)) else none
def bndsOf (slot : Str) : Option (Int × Int) := if slot = "TICK" then some (0, 99999) else if slot = "LINE" then some (0, 99999) else if slot = "SCOPE" then some (0, 999) else if slot = "ERRAND" then some (0, 99) else if slot = "NUMBER" then some (0, 9999) else if slot = "WITHIN" then some (0, 99) else if slot = "TICKS" then some (1, 99) else none
def fieldT (slot z : Str) : Option Tr := match bndsOf slot with
  | some b => bndT z b.1 b.2
  | none => if slot = "NAME" then (if isName z = true then some (.s z) else none) else if slot = "TOLD" then toldT z else if slot = "NOTED" ∧ z = dsh then some (.t []) else if slot = "NOTED" ∨ slot = "FAULTS" then fltT z else if z = slot then some (.s z) else none
def allO : List (Option Tr) → Option (List Tr)
  | [] => some []
  | none :: _ => none
  | some t :: r => (allO r).map (t :: ·)
def fitT (slots ws : List Str) : Option (List Tr) := if slots.length = ws.length then allO (List.zipWith fieldT slots ws) else none
def firstT : List (List Str) → List Str → Option (List Tr)
  | [], _ => none
  | f :: r, ws => match fitT f ws with
    | some x => some x
    | none => firstT r ws
def ERF : List (List Str) := [["did", "LINE"], ["clean", "LINE"], ["ring", "LINE", "NAME"], ["hear", "LINE", "NAME"], ["send", "LINE", "NAME", "TOLD"], ["raise", "LINE", "NAME"], ["begin", "LINE", "NAME", "NAME", "SCOPE", "WITHIN"], ["off", "LINE", "SCOPE"], ["off", "LINE", "NAME"], ["group", "LINE", "SCOPE"], ["join", "LINE", "SCOPE"], ["left", "LINE", "SCOPE"], ["late", "LINE", "SCOPE"], ["limit", "LINE", "SCOPE", "TICKS"], ["wait", "LINE", "TICKS"], ["take", "LINE", "NAME", "NAME"], ["ask", "LINE", "NAME", "NAME"], ["halt", "LINE", "SCOPE", "NOTED"], ["caught", "LINE", "FAULTS"]]
def CLF : List (List Str) := [["woke", "ERRAND"], ["late", "ERRAND", "SCOPE"]]
def OUF : List (List Str) := [["ring", "NAME"], ["send", "NAME", "TOLD"], ["off", "NUMBER"]]
def OCF : List (List Str) := [["value", "TOLD"], ["faults", "FAULTS"], ["off"], ["late"]]
def MKF : List (List Str) := [["ERRAND", "SCOPE", "off"], ["ERRAND", "SCOPE", "late"]]
def whoT (z : Str) : Option Tr := if z = "clock" ∨ z = "outside" then some (.s z) else fieldT "ERRAND" z
def endT (ws : List Str) : Option Tr := match ws with
  | _ :: l :: r => match fieldT "LINE" l, firstT OCF r with
    | some l, some o => some (.t [.s "ended", l, .t o])
    | _, _ => none
  | _ => none
def whoIs (o : Option Tr) (z : Str) : Bool := match o with
  | some (.s y) => decide (y = z)
  | _ => false
def endW : Str := "ended"
def deedT (who : Option Tr) (ws : List Str) : Option Tr :=
  if whoIs who "clock" = true then (firstT CLF ws).map .t else if whoIs who "outside" = true then (firstT OUF ws).map .t else if ws.head? = some endW then endT ws else (firstT ERF ws).map .t
def allT (fs : List (Option Tr)) : Option Tr := match fs with
  | [] => none
  | fs => (allO fs).map .t
def chunks : Nat → List Str → List (List Str)
  | 0, _ => []
  | n + 1, ws => ws.take 3 :: chunks n (ws.drop 3)
def marksT (ws : List Str) : Option Tr := if ws = [dsh] then some (.t []) else allT ((chunks ((ws.length + 2) / 3) ws).map fun c => (firstT MKF c).map .t)
def wokenT (ws : List Str) : Option Tr := if ws = [dsh] then some (.t []) else allT (ws.map (fieldT "ERRAND"))
def rowT (ws : List Str) : Option Tr :=
  if ws.countP (· == stk) = 2 ∧ 3 ≤ ws.idxOf stk then
    (allO [fieldT "TICK" (ws.getD 0 ""), whoT (ws.getD 1 ""), deedT (whoT (ws.getD 1 "")) ((ws.take (ws.idxOf stk)).drop 2), marksT ((ws.drop (ws.idxOf stk + 1)).take ((ws.drop (ws.idxOf stk + 1)).idxOf stk)), wokenT ((ws.drop (ws.idxOf stk + 1)).drop ((ws.drop (ws.idxOf stk + 1)).idxOf stk + 1))]).map .t
  else none
theorem nam_all : ∀ z ∈ NAM, isName z = true ∧ numW z = none ∧ (44 : Nat) ∉ z.cps.toList ∧ (32 : Nat) ∉ z.cps.toList ∧ (10 : Nat) ∉ z.cps.toList ∧ z ≠ stk ∧ z ≠ dsh ∧ z.length ≤ 8 ∧ z ≠ "" := by decide +kernel
theorem tw_all : ∀ z ∈ ([":off", ":abc"] : List Str), isTold z = true ∧ isName z = false ∧ numW z = none ∧ (32 : Nat) ∉ z.cps.toList ∧ (10 : Nat) ∉ z.cps.toList ∧ z ≠ stk ∧ z.length ≤ 8 := by decide +kernel
theorem bnd_sT {lo hi : Int} {t : Tr} (h : Num lo hi t) (h0 : 0 ≤ lo) (h1 : hi ≤ 999999) : bndT (sT t) lo hi = some t := by
  obtain ⟨n, rfl, a, b⟩ := h
  unfold bndT
  show (match numW (txt (.int n)) with | some n => _ | none => _) = _
  rw [num_txt (by omega) (by omega)]
  exact if_pos ⟨a, b⟩
theorem fld_num {slot : Str} {lo hi : Int} {t : Tr} (hb : bndsOf slot = some (lo, hi)) (h : Num lo hi t) (h0 : 0 ≤ lo := by decide) (h1 : hi ≤ 999999 := by decide) : fieldT slot (sT t) = some t := by
  unfold fieldT
  rw [hb]
  exact bnd_sT h h0 h1
theorem fld_name {t : Tr} (h : Nm t) : fieldT "NAME" (sT t) = some t := by
  obtain ⟨z, rfl, hz⟩ := h
  unfold fieldT
  rw [show bndsOf "NAME" = none by decide +kernel]
  show (if Str.ofString "NAME" = Str.ofString "NAME" then _ else _) = _
  rw [if_pos rfl]
  exact if_pos (nam_all z hz).1
theorem fld_told {t : Tr} (h : Told t) : fieldT "TOLD" (sT t) = some t := by
  unfold fieldT
  rw [show bndsOf "TOLD" = none by decide +kernel]
  show (if Str.ofString "TOLD" = Str.ofString "NAME" then _ else if Str.ofString "TOLD" = Str.ofString "TOLD" then _ else _) = _
  rw [if_neg (by decide +kernel), if_pos rfl]
  rcases h with ⟨n, rfl, a, b⟩ | ⟨z, rfl, hz⟩
  · unfold toldT
    show (match numW (txt (.int n)) with | some n => _ | none => _) = _
    rw [num_txt a b]
    exact if_pos ⟨a, b⟩
  · have hm : z ∈ ([":off", ":abc"] : List Str) := by rcases hz with rfl | rfl <;> simp
    obtain ⟨a, b, c, _⟩ := tw_all z hm
    unfold toldT
    show (match numW z with | some n => _ | none => _) = _
    rw [c]
    exact if_pos ⟨a, b⟩
theorem map_sT {fs : List Tr} (h : ∀ f ∈ fs, Nm f) : (fs.map sT).map Tr.s = fs := by
  rw [List.map_map]
  induction fs with
  | nil => rfl
  | cons f r ih =>
    obtain ⟨z, rfl, _⟩ := h f List.mem_cons_self
    rw [List.map_cons, ih fun g hg => h g (List.mem_cons_of_mem _ hg)]
    rfl
theorem split_flt {fs : List Tr} (h : ∀ f ∈ fs, Nm f) (hn : fs ≠ []) : Txt.split (faultS fs) ⟨#[44]⟩ = fs.map sT := by
  cases fs with
  | nil => exact absurd rfl hn
  | cons f r =>
    show Txt.split (Str.join ⟨#[44]⟩ ((f :: r).map sT)) ⟨#[44]⟩ = _
    refine split_join (fun z => nomatch z) fun a ha => ?_
    obtain ⟨g, hg, rfl⟩ := List.mem_map.mp ha
    obtain ⟨z, rfl, hz⟩ := h g hg
    exact (nam_all z hz).2.2.1
theorem flt_back {fs : List Tr} (h : Flts 1 fs) : fltT (faultS fs) = some (.t fs) := by
  have hn : fs ≠ [] := fun e => by have := h.2.1; rw [e] at this; exact absurd this (by decide)
  unfold fltT
  rw [split_flt h.1 hn, map_sT h.1, if_pos]
  rw [List.all_eq_true]
  intro a ha
  obtain ⟨g, hg, rfl⟩ := List.mem_map.mp ha
  obtain ⟨z, rfl, hz⟩ := h.1 g hg
  exact (nam_all z hz).1
theorem flt_ndsh {fs : List Tr} (h : ∀ f ∈ fs, Nm f) (hn : fs ≠ []) : faultS fs ≠ dsh := fun e => by
  have h1 := split_flt h hn
  rw [e, show Txt.split dsh ⟨#[44]⟩ = [dsh] by decide +kernel] at h1
  cases fs with
  | nil => exact hn rfl
  | cons f r =>
    obtain ⟨z, rfl, hz⟩ := h f List.mem_cons_self
    have : dsh = z := (List.cons.inj h1).1
    exact (nam_all z hz).2.2.2.2.2.2.1 this.symm
theorem fld_flt {fs : List Tr} (h : Flts 1 fs) : fieldT "FAULTS" (faultS fs) = some (.t fs) := by
  unfold fieldT
  rw [show bndsOf "FAULTS" = none by decide +kernel]
  show (if Str.ofString "FAULTS" = Str.ofString "NAME" then _ else if Str.ofString "FAULTS" = Str.ofString "TOLD" then _ else if Str.ofString "FAULTS" = Str.ofString "NOTED" ∧ _ then _ else if _ ∨ Str.ofString "FAULTS" = Str.ofString "FAULTS" then _ else _) = _
  rw [if_neg (by decide +kernel), if_neg (by decide +kernel), if_neg (fun z => absurd z.1 (by decide +kernel)), if_pos (.inr rfl)]
  exact flt_back h
theorem fld_noted {fs : List Tr} (h : Flts 0 fs) : fieldT "NOTED" (faultS fs) = some (.t fs) := by
  unfold fieldT
  rw [show bndsOf "NOTED" = none by decide +kernel]
  show (if Str.ofString "NOTED" = Str.ofString "NAME" then _ else if Str.ofString "NOTED" = Str.ofString "TOLD" then _ else if Str.ofString "NOTED" = Str.ofString "NOTED" ∧ _ then _ else if Str.ofString "NOTED" = Str.ofString "NOTED" ∨ _ then _ else _) = _
  rw [if_neg (by decide +kernel), if_neg (by decide +kernel)]
  by_cases hn : fs = []
  · subst hn
    exact if_pos ⟨rfl, rfl⟩
  · rw [if_neg (fun z => flt_ndsh h.1 hn z.2), if_pos (.inl rfl)]
    exact flt_back ⟨h.1, Nat.succ_le_of_lt (List.length_pos_iff.mpr hn), h.2.2⟩
def litB (s : Str) : Bool := (bndsOf s).isNone && !(s == "NAME") && !(s == "TOLD") && !(s == "NOTED") && !(s == "FAULTS")
theorem lit_is {s : Str} (h : litB s = true) : bndsOf s = none ∧ s ≠ "NAME" ∧ s ≠ "TOLD" ∧ s ≠ "NOTED" ∧ s ≠ "FAULTS" := by
  unfold litB at h
  simp only [Bool.and_eq_true, Bool.not_eq_true', beq_eq_false_iff_ne, ne_eq, Option.isNone_iff_eq_none] at h
  exact ⟨h.1.1.1.1, h.1.1.1.2, h.1.1.2, h.1.2, h.2⟩
theorem fld_lit {s : Str} (z : Str) (h : litB s = true) : fieldT s z = if z = s then some (.s z) else none := by
  obtain ⟨h0, h1, h2, h3, h4⟩ := lit_is h
  unfold fieldT
  rw [h0]
  show (if s = _ then _ else if s = _ then _ else if _ then _ else if _ then _ else _) = _
  rw [if_neg h1, if_neg h2, if_neg (fun q => h3 q.1), if_neg (fun q => q.elim h3 h4)]
theorem fld_same {s : Str} (h : litB s = true) : fieldT s s = some (.s s) := by rw [fld_lit s h, if_pos rfl]
theorem scope_name {t : Tr} (h : Nm t) : fieldT "SCOPE" (sT t) = none := by
  obtain ⟨z, rfl, hz⟩ := h
  unfold fieldT
  rw [show bndsOf "SCOPE" = some (0, 999) by decide +kernel]
  show bndT z 0 999 = none
  unfold bndT
  rw [(nam_all z hz).2.1]
theorem allO_some : ∀ ts : List Tr, allO (ts.map some) = some ts
  | [] => rfl
  | t :: r => by
    show (allO (r.map some)).map (t :: ·) = _
    rw [allO_some r]
    rfl
theorem fit_is {slots ws : List Str} {ts : List Tr} (hl : slots.length = ws.length) (h : List.zipWith fieldT slots ws = ts.map some) : fitT slots ws = some ts := by
  unfold fitT
  rw [if_pos hl, h, allO_some]
theorem allO_none : ∀ {os : List (Option Tr)}, none ∈ os → allO os = none
  | none :: _, _ => rfl
  | some t :: r, h => by
    have h' : none ∈ r := by
      rcases List.mem_cons.mp h with e | e
      · cases e
      · exact e
    show (allO r).map _ = none
    rw [allO_none h']
    rfl
def skipT (z : Str) (n : Nat) (slots : List Str) : Bool := slots.length != n || (match slots with
  | [] => false
  | s :: _ => litB s && s != z)
theorem fit_skipT {z : Str} {slots r : List Str} (h : skipT z (r.length + 1) slots = true) : fitT slots (z :: r) = none := by
  unfold fitT
  unfold skipT at h
  by_cases e : slots.length = (z :: r).length
  · rw [if_pos e]
    cases slots with
    | nil => cases e
    | cons s t =>
      have e' : (s :: t).length = r.length + 1 := e
      rw [e'] at h
      simp only [bne_self_eq_false, Bool.false_or, Bool.and_eq_true, bne_iff_ne, ne_eq] at h
      rw [List.zipWith_cons_cons, fld_lit z h.1, if_neg (fun q => h.2 q.symm)]
      rfl
  · rw [if_neg e]
theorem firstT_at : ∀ (F : List (List Str)) (i : Nat) (f : List Str) {z : Str} {r : List Str} {ts : List Tr}, F[i]? = some f → (F.take i).all (skipT z (r.length + 1)) = true → fitT f (z :: r) = some ts → firstT F (z :: r) = some ts
  | [], _, _, _, _, _, h, _, _ => nomatch h
  | g :: F, 0, f, z, r, ts, h, _, e => by
    have h' : some g = some f := h
    cases h'
    show (match fitT g (z :: r) with | some x => some x | none => _) = _
    rw [e]
  | g :: F, i + 1, f, z, r, ts, h, hs, e => by
    rw [List.take_succ_cons, List.all_cons, Bool.and_eq_true] at hs
    show (match fitT g (z :: r) with | some x => some x | none => firstT F (z :: r)) = _
    rw [fit_skipT hs.1]
    exact firstT_at F i f h hs.2 e
theorem lineB : bndsOf "LINE" = some (0, 99999) := by decide +kernel
theorem scopeB : bndsOf "SCOPE" = some (0, 999) := by decide +kernel
theorem errB : bndsOf "ERRAND" = some (0, 99) := by decide +kernel
theorem withB : bndsOf "WITHIN" = some (0, 99) := by decide +kernel
theorem ticksB : bndsOf "TICKS" = some (1, 99) := by decide +kernel
theorem numB : bndsOf "NUMBER" = some (0, 9999) := by decide +kernel
theorem tickB : bndsOf "TICK" = some (0, 99999) := by decide +kernel
theorem pw_num {w : Str} {lo hi : Int} {t : Tr} (h : Num lo hi t) : partW w t = [sT t] := by obtain ⟨n, rfl, _⟩ := h; rfl
theorem pw_nm {w : Str} {t : Tr} (h : Nm t) : partW w t = [sT t] := by obtain ⟨n, rfl, _⟩ := h; rfl
theorem pw_told {w : Str} {t : Tr} (h : Told t) : partW w t = [sT t] := by
  rcases h with ⟨n, rfl, _⟩ | ⟨n, rfl, _⟩ <;> rfl
theorem pw_flt {w : Str} {fs : List Tr} (h : w ≠ "ended") : partW w (.t fs) = [faultS fs] := if_neg h
theorem pw_end (os : List Tr) : partW endW (.t os) = outW os := by
  have : ∀ w : Str, w = "ended" → partW w (.t os) = outW os := fun w hw => if_pos hw
  exact this _ rfl
inductive Fts (w : Str) : List Str → List Tr → List Str → Prop
  | nil : Fts w [] [] []
  | cons {s x : Str} {t : Tr} {ss xs : List Str} {ts : List Tr} : fieldT s x = some t → partW w t = [x] → Fts w ss ts xs → Fts w (s :: ss) (t :: ts) (x :: xs)
theorem Fts.is {w : Str} {ss xs : List Str} {ts : List Tr} (h : Fts w ss ts xs) : ss.length = xs.length ∧ List.zipWith fieldT ss xs = ts.map some ∧ ts.flatMap (partW w) = xs := by
  induction h with
  | nil => exact ⟨rfl, rfl, rfl⟩
  | cons a b _ ih =>
    obtain ⟨h1, h2, h3⟩ := ih
    refine ⟨by rw [List.length_cons, List.length_cons, h1], ?_, ?_⟩
    · rw [List.zipWith_cons_cons, a, h2]; rfl
    · rw [List.flatMap_cons, b, h3]; rfl
theorem fit_deed {F : List (List Str)} {w : Str} {slots xs : List Str} {ts : List Tr} (i : Nat) (hi : F[i]? = some (w :: slots)) (hs : (F.take i).all (skipT w (slots.length + 1)) = true) (hw : litB w = true) (h : Fts w slots ts xs) : firstT F (deedW (.s w :: ts)) = some (.s w :: ts) ∧ deedW (.s w :: ts) = w :: xs := by
  obtain ⟨h1, h2, h3⟩ := h.is
  have e : deedW (.s w :: ts) = w :: xs := by
    show w :: ts.flatMap (partW w) = _
    rw [h3]
  refine ⟨?_, e⟩
  rw [e]
  refine firstT_at F i _ hi (by rw [← h1]; exact hs) (fit_is (ts := .s w :: ts) (by rw [List.length_cons, List.length_cons, h1]) ?_)
  rw [List.zipWith_cons_cons, fld_same hw, h2]
  rfl
theorem firstT_skip : ∀ (F G : List (List Str)) (z : Str) (r : List Str), F.all (skipT z (r.length + 1)) = true → firstT (F ++ G) (z :: r) = firstT G (z :: r)
  | [], _, _, _, _ => rfl
  | f :: F, G, z, r, hs => by
    rw [List.all_cons, Bool.and_eq_true] at hs
    show (match fitT f (z :: r) with | some x => some x | none => firstT (F ++ G) (z :: r)) = _
    rw [fit_skipT hs.1]
    exact firstT_skip F G z r hs.2
theorem out_back {os : List Tr} (h : OutOk os) : firstT OCF (outW os) = some os := by
  cases h with
  | @value v hv =>
    have e : outW [.s "value", v] = deedW [.s "value", v] := by
      rcases hv with ⟨n, rfl, _⟩ | ⟨z, rfl, _⟩ <;> rfl
    rw [e]
    exact (fit_deed 0 rfl (by decide +kernel) (by decide +kernel) (.cons (fld_told hv) (pw_told hv) .nil)).1
  | @faults fs hf =>
    exact (fit_deed (F := OCF) (w := "faults") 1 rfl (by decide +kernel) (by decide +kernel) (.cons (fld_flt hf) (pw_flt (by decide +kernel)) .nil)).1
  | bare hz => rcases hz with rfl | rfl <;> rfl
theorem deed_of {who : Option Tr} {w : Str} {ts : List Tr} {xs : List Str} (h1 : whoIs who "clock" = false) (h2 : whoIs who "outside" = false) (hw : w ≠ endW) (h : firstT ERF (deedW (.s w :: ts)) = some (.s w :: ts) ∧ deedW (.s w :: ts) = w :: xs) : deedT who (deedW (.s w :: ts)) = some (.t (.s w :: ts)) := by
  unfold deedT
  rw [if_neg (by rw [h1]; exact Bool.false_ne_true), if_neg (by rw [h2]; exact Bool.false_ne_true), if_neg (by rw [h.2]; exact fun e => hw (Option.some.inj e)), h.1]
  rfl
theorem deedE_back {d : List Tr} (h : DeedE d) {who : Option Tr} (h1 : whoIs who "clock" = false) (h2 : whoIs who "outside" = false) : deedT who (deedW d) = some (.t d) := by
  cases h with
  | line hw hl =>
    have f := fld_num lineB hl
    rcases hw with rfl | rfl
    · exact deed_of h1 h2 (by decide +kernel) (fit_deed 0 rfl (by decide +kernel) (by decide +kernel) (.cons f (pw_num hl) .nil))
    · exact deed_of h1 h2 (by decide +kernel) (fit_deed 1 rfl (by decide +kernel) (by decide +kernel) (.cons f (pw_num hl) .nil))
  | @name w l a hw hl ha =>
    have f : ∀ w, Fts w ["LINE", "NAME"] [l, a] [sT l, sT a] := fun w => .cons (fld_num lineB hl) (pw_num hl) (.cons (fld_name ha) (pw_nm ha) .nil)
    rcases hw with rfl | rfl | rfl | rfl
    · exact deed_of h1 h2 (by decide +kernel) (fit_deed 2 rfl (by decide +kernel) (by decide +kernel) (f _))
    · exact deed_of h1 h2 (by decide +kernel) (fit_deed 3 rfl (by decide +kernel) (by decide +kernel) (f _))
    · exact deed_of h1 h2 (by decide +kernel) (fit_deed 5 rfl (by decide +kernel) (by decide +kernel) (f _))
    · refine deed_of h1 h2 (by decide +kernel) (xs := [sT l, sT a]) ?_
      have f8 := fit_deed (F := ERF.drop 8) (w := "off") 0 rfl rfl (by decide +kernel) (f "off")
      refine ⟨?_, f8.2⟩
      have e7 : ERF = ERF.take 7 ++ ((["off", "LINE", "SCOPE"] : List Str) :: ERF.drop 8) := by decide +kernel
      have f9 := f8.1
      rw [f8.2] at f9 ⊢
      rw [e7, firstT_skip _ _ _ _ (show (ERF.take 7).all (skipT "off" 3) = true by decide +kernel)]
      have f7 : fitT ["off", "LINE", "SCOPE"] ["off", sT l, sT a] = none := by
        unfold fitT
        refine (if_pos rfl).trans (allO_none ?_)
        show none ∈ [fieldT "off" "off", fieldT "LINE" (sT l), fieldT "SCOPE" (sT a)]
        rw [scope_name ha]
        simp
      show (match fitT ["off", "LINE", "SCOPE"] ["off", sT l, sT a] with | some x => some x | none => firstT (ERF.drop 8) _) = _
      rw [f7]
      exact f9
  | @scope w l s hw hl hs =>
    have f : ∀ w, Fts w ["LINE", "SCOPE"] [l, s] [sT l, sT s] := fun w => .cons (fld_num lineB hl) (pw_num hl) (.cons (fld_num scopeB hs) (pw_num hs) .nil)
    rcases hw with rfl | rfl | rfl | rfl | rfl
    · exact deed_of h1 h2 (by decide +kernel) (fit_deed 9 rfl (by decide +kernel) (by decide +kernel) (f _))
    · exact deed_of h1 h2 (by decide +kernel) (fit_deed 10 rfl (by decide +kernel) (by decide +kernel) (f _))
    · exact deed_of h1 h2 (by decide +kernel) (fit_deed 11 rfl (by decide +kernel) (by decide +kernel) (f _))
    · exact deed_of h1 h2 (by decide +kernel) (fit_deed 12 rfl (by decide +kernel) (by decide +kernel) (f _))
    · exact deed_of h1 h2 (by decide +kernel) (fit_deed 7 rfl (by decide +kernel) (by decide +kernel) (f _))
  | send hl ha hv => exact deed_of h1 h2 (by decide +kernel) (fit_deed 4 rfl (by decide +kernel) (by decide +kernel) (.cons (fld_num lineB hl) (pw_num hl) (.cons (fld_name ha) (pw_nm ha) (.cons (fld_told hv) (pw_told hv) .nil))))
  | @two w l a b hw hl ha hb =>
    have f : ∀ w, Fts w ["LINE", "NAME", "NAME"] [l, a, b] [sT l, sT a, sT b] := fun w => .cons (fld_num lineB hl) (pw_num hl) (.cons (fld_name ha) (pw_nm ha) (.cons (fld_name hb) (pw_nm hb) .nil))
    rcases hw with rfl | rfl
    · exact deed_of h1 h2 (by decide +kernel) (fit_deed 15 rfl (by decide +kernel) (by decide +kernel) (f _))
    · exact deed_of h1 h2 (by decide +kernel) (fit_deed 16 rfl (by decide +kernel) (by decide +kernel) (f _))
  | begin hl ha hb hs hn => exact deed_of h1 h2 (by decide +kernel) (fit_deed 6 rfl (by decide +kernel) (by decide +kernel) (.cons (fld_num lineB hl) (pw_num hl) (.cons (fld_name ha) (pw_nm ha) (.cons (fld_name hb) (pw_nm hb) (.cons (fld_num scopeB hs) (pw_num hs) (.cons (fld_num withB hn) (pw_num hn) .nil))))))
  | limit hl hs hn => exact deed_of h1 h2 (by decide +kernel) (fit_deed 13 rfl (by decide +kernel) (by decide +kernel) (.cons (fld_num lineB hl) (pw_num hl) (.cons (fld_num scopeB hs) (pw_num hs) (.cons (fld_num ticksB hn) (pw_num hn) .nil))))
  | wait hl hn => exact deed_of h1 h2 (by decide +kernel) (fit_deed 14 rfl (by decide +kernel) (by decide +kernel) (.cons (fld_num lineB hl) (pw_num hl) (.cons (fld_num ticksB hn) (pw_num hn) .nil)))
  | halt hl hs hf => exact deed_of h1 h2 (by decide +kernel) (fit_deed 17 rfl (by decide +kernel) (by decide +kernel) (.cons (fld_num lineB hl) (pw_num hl) (.cons (fld_num scopeB hs) (pw_num hs) (.cons (fld_noted hf) (pw_flt (by decide +kernel)) .nil))))
  | caught hl hf => exact deed_of h1 h2 (by decide +kernel) (fit_deed 18 rfl (by decide +kernel) (by decide +kernel) (.cons (fld_num lineB hl) (pw_num hl) (.cons (fld_flt hf) (pw_flt (by decide +kernel)) .nil)))
  | @ended l os hl ho =>
    have e : deedW [.s "ended", l, .t os] = endW :: sT l :: outW os := by
      show endW :: ((partW endW l) ++ (partW endW (.t os) ++ [])) = _
      rw [pw_num hl, List.append_nil]
      rw [pw_end os]
      rfl
    unfold deedT
    rw [if_neg (by rw [h1]; exact Bool.false_ne_true), if_neg (by rw [h2]; exact Bool.false_ne_true), e, if_pos (show (endW :: sT l :: outW os).head? = some endW from rfl)]
    show (match fieldT "LINE" (sT l), firstT OCF (outW os) with | some l, some o => some (Tr.t [.s "ended", l, .t o]) | _, _ => none) = _
    rw [fld_num lineB hl, out_back ho]
theorem deedC_back {d : List Tr} (h : DeedC d) : deedT (some (.s "clock")) (deedW d) = some (.t d) := by
  unfold deedT
  rw [if_pos (by decide +kernel)]
  cases h with
  | woke hn => rw [(fit_deed (F := CLF) (w := "woke") 0 rfl rfl (by decide +kernel) (.cons (fld_num errB hn) (pw_num hn) .nil)).1]; rfl
  | late hn hs => rw [(fit_deed (F := CLF) (w := "late") 1 rfl (by decide +kernel) (by decide +kernel) (.cons (fld_num errB hn) (pw_num hn) (.cons (fld_num scopeB hs) (pw_num hs) .nil))).1]; rfl
theorem deedO_back {d : List Tr} (h : DeedO d) : deedT (some (.s "outside")) (deedW d) = some (.t d) := by
  unfold deedT
  rw [if_neg (by decide +kernel), if_pos (by decide +kernel)]
  cases h with
  | ring ha => rw [(fit_deed (F := OUF) (w := "ring") 0 rfl rfl (by decide +kernel) (.cons (fld_name ha) (pw_nm ha) .nil)).1]; rfl
  | send ha hv => rw [(fit_deed (F := OUF) (w := "send") 1 rfl (by decide +kernel) (by decide +kernel) (.cons (fld_name ha) (pw_nm ha) (.cons (fld_told hv) (pw_told hv) .nil))).1]; rfl
  | off hn => rw [(fit_deed (F := OUF) (w := "off") 2 rfl (by decide +kernel) (by decide +kernel) (.cons (fld_num numB hn) (pw_num hn) .nil)).1]; rfl
theorem mark_back {m : Tr} (h : MarkOk m) : (firstT MKF (markW m)).map Tr.t = some m ∧ (markW m).length = 3 := by
  cases h with
  | @mk a b z ha hb hz =>
    have f1 := fld_num errB ha
    have f2 := fld_num scopeB hb
    refine ⟨?_, rfl⟩
    have e : markW (.t [a, b, .s z]) = [sT a, sT b, z] := rfl
    rw [e]
    rcases hz with rfl | rfl
    · have : fitT ["ERRAND", "SCOPE", "off"] [sT a, sT b, "off"] = some [a, b, .s "off"] := fit_is rfl (by
        show [fieldT "ERRAND" (sT a), fieldT "SCOPE" (sT b), fieldT "off" "off"] = _
        rw [f1, f2, fld_same (by decide +kernel)]; rfl)
      show Option.map Tr.t (match fitT ["ERRAND", "SCOPE", "off"] [sT a, sT b, "off"] with | some x => some x | none => _) = _
      rw [this]
      rfl
    · have n1 : fitT ["ERRAND", "SCOPE", "off"] [sT a, sT b, "late"] = none := by
        unfold fitT
        refine (if_pos rfl).trans (allO_none ?_)
        show none ∈ [fieldT "ERRAND" (sT a), fieldT "SCOPE" (sT b), fieldT "off" "late"]
        rw [fld_lit "late" (by decide +kernel), if_neg (by decide +kernel)]
        simp
      have : fitT ["ERRAND", "SCOPE", "late"] [sT a, sT b, "late"] = some [a, b, .s "late"] := fit_is rfl (by
        show [fieldT "ERRAND" (sT a), fieldT "SCOPE" (sT b), fieldT "late" "late"] = _
        rw [f1, f2, fld_same (by decide +kernel)]; rfl)
      show Option.map Tr.t (match fitT ["ERRAND", "SCOPE", "off"] [sT a, sT b, "late"] with | some x => some x | none => (match fitT ["ERRAND", "SCOPE", "late"] [sT a, sT b, "late"] with | some x => some x | none => _)) = _
      rw [n1, this]
      rfl
theorem chunks_of : ∀ {ms : List Tr}, (∀ m ∈ ms, MarkOk m) → chunks ms.length (ms.flatMap markW) = ms.map markW ∧ (ms.flatMap markW).length = 3 * ms.length
  | [], _ => ⟨rfl, rfl⟩
  | m :: r, h => by
    have h3 := (mark_back (h m List.mem_cons_self)).2
    obtain ⟨i1, i2⟩ := chunks_of fun x hx => h x (List.mem_cons_of_mem _ hx)
    rw [List.flatMap_cons]
    refine ⟨?_, by rw [List.length_append, h3, i2, List.length_cons]; omega⟩
    show ((markW m ++ r.flatMap markW).take 3) :: chunks r.length ((markW m ++ r.flatMap markW).drop 3) = _
    rw [← h3, List.take_left, List.drop_left, i1]
    rfl
theorem num_ndsh {lo hi : Int} {t : Tr} (h : Num lo hi t) (h0 : 0 ≤ lo) (h1 : hi ≤ 999999) : sT t ≠ dsh := fun e => by
  obtain ⟨n, rfl, a, b⟩ := h
  have := num_txt (n := n) (by omega) (by omega)
  rw [show txt (.int n) = dsh from e, show numW dsh = none by decide +kernel] at this
  cases this
theorem marks_back {ms : List Tr} (h : ∀ m ∈ ms, MarkOk m) : marksT (marksW ms) = some (.t ms) := by
  cases ms with
  | nil => exact if_pos rfl
  | cons m r =>
    obtain ⟨c1, c2⟩ := chunks_of h
    unfold marksT
    show (if (m :: r).flatMap markW = [dsh] then _ else allT ((chunks ((((m :: r).flatMap markW).length + 2) / 3) ((m :: r).flatMap markW)).map _)) = _
    rw [if_neg (fun e => by rw [e] at c2; rw [List.length_cons, List.length_cons, List.length_nil] at c2; omega), c2, show (3 * (m :: r).length + 2) / 3 = (m :: r).length by omega, c1, List.map_map]
    have e : (m :: r).map ((fun c => (firstT MKF c).map Tr.t) ∘ markW) = (m :: r).map some := List.map_congr_left fun x hx => (mark_back (h x hx)).1
    rw [e]
    show (allO ((m :: r).map some)).map Tr.t = _
    rw [allO_some]
    rfl
theorem woken_back {ms : List Tr} (h : ∀ m ∈ ms, Num 0 99 m) : wokenT (wokenW ms) = some (.t ms) := by
  cases ms with
  | nil => exact if_pos rfl
  | cons m r =>
    unfold wokenT
    show (if (m :: r).map sT = [dsh] then _ else allT (((m :: r).map sT).map (fieldT "ERRAND"))) = _
    rw [if_neg (show ¬ ((m :: r).map sT = [dsh]) from fun e => num_ndsh (h m List.mem_cons_self) (by decide) (by decide) (List.cons.inj e).1), List.map_map]
    have e : (m :: r).map (fieldT "ERRAND" ∘ sT) = (m :: r).map some := List.map_congr_left fun x hx => fld_num errB (h x hx)
    rw [e]
    show (allO ((m :: r).map some)).map Tr.t = _
    rw [allO_some]
    rfl
structure Wd (w : Str) : Prop where
  nb : (32 : Nat) ∉ w.cps.toList
  nl : (10 : Nat) ∉ w.cps.toList
  ns : w ≠ stk
  le : w.length ≤ 40
theorem wd_num {lo hi : Int} {t : Tr} (h : Num lo hi t) (h0 : 0 ≤ lo := by decide) (h1 : hi ≤ 999999 := by decide) : Wd (sT t) := by
  obtain ⟨n, rfl, a, b⟩ := h
  have g := good_int (n := n) (by omega) (by omega)
  refine ⟨g.nb, g.nl, fun e => ?_, Nat.le_trans g.le (by decide)⟩
  have := num_txt (n := n) (by omega) (by omega)
  rw [show txt (.int n) = stk from e, show numW stk = none by decide +kernel] at this
  cases this
theorem wd_nm {t : Tr} (h : Nm t) : Wd (sT t) := by
  obtain ⟨z, rfl, hz⟩ := h
  obtain ⟨_, _, _, a, b, c, _, d, _⟩ := nam_all z hz
  exact ⟨a, b, c, Nat.le_trans d (by decide)⟩
theorem wd_told {t : Tr} (h : Told t) : Wd (sT t) := by
  rcases h with h | ⟨z, rfl, hz⟩
  · exact wd_num h
  · have hm : z ∈ ([":off", ":abc"] : List Str) := by rcases hz with rfl | rfl <;> simp
    obtain ⟨_, _, _, a, b, c, d⟩ := tw_all z hm
    exact ⟨a, b, c, Nat.le_trans d (by decide)⟩
def wdB (z : Str) : Bool := !(z.cps.toList.contains 32) && !(z.cps.toList.contains 10) && !(z == stk) && decide (z.length ≤ 40)
theorem wd_lit {z : Str} (h : wdB z = true) : Wd z := by
  unfold wdB at h
  simp only [Bool.and_eq_true, Bool.not_eq_true', decide_eq_true_eq, beq_eq_false_iff_ne, ne_eq] at h
  refine ⟨fun m => ?_, fun m => ?_, h.1.2, h.2⟩
  · have := h.1.1.1
    rw [List.contains_eq_mem, decide_eq_true m] at this
    cases this
  · have := h.1.1.2
    rw [List.contains_eq_mem, decide_eq_true m] at this
    cases this
theorem wd_flt {fs : List Tr} (h : Flts 0 fs) : Wd (faultS fs) := by
  cases fs with
  | nil => exact wd_lit (by decide +kernel)
  | cons f r =>
    have each : ∀ a ∈ (f :: r).map sT, ∃ z, a = z ∧ z ∈ NAM := fun a ha => by
      obtain ⟨g, hg, rfl⟩ := List.mem_map.mp ha
      obtain ⟨z, rfl, hz⟩ := h.1 g hg
      exact ⟨z, rfl, hz⟩
    have cm : ∀ c, c ∈ (faultS (f :: r)).cps.toList → c = 44 ∨ ∃ z ∈ NAM, c ∈ z.cps.toList := fun c hc => by
      rcases join_mem 44 hc with q | ⟨a, ha, q⟩
      · exact .inl q
      · obtain ⟨z, rfl, hz⟩ := each a ha
        exact .inr ⟨_, hz, q⟩
    refine ⟨fun m => ?_, fun m => ?_, fun e => ?_, ?_⟩
    · rcases cm _ m with q | ⟨z, hz, q⟩
      · cases q
      · exact (nam_all z hz).2.2.2.1 q
    · rcases cm _ m with q | ⟨z, hz, q⟩
      · cases q
      · exact (nam_all z hz).2.2.2.2.1 q
    · have h1 := split_flt h.1 (fun z => nomatch z)
      rw [e, show Txt.split stk ⟨#[44]⟩ = [stk] by decide +kernel] at h1
      obtain ⟨z, rfl, hz⟩ := h.1 f List.mem_cons_self
      have : stk = z := (List.cons.inj h1).1
      exact (nam_all z hz).2.2.2.2.2.1 this.symm
    · have h1 := join_le ⟨#[44]⟩ ((f :: r).map sT)
      rw [glue_join] at h1
      have h2 := sum_lens (L := (f :: r).map sT) (c := 8) fun l hl => by
        obtain ⟨z, rfl, hz⟩ := each l hl
        exact (nam_all _ hz).2.2.2.2.2.2.2.1
      rw [List.length_map] at h1 h2
      have h3 := h.2.2
      have h4 : (⟨#[44]⟩ : Str).length = 1 := rfl
      rw [h4] at h1
      show (Str.join ⟨#[44]⟩ ((f :: r).map sT)).length ≤ 40
      omega
theorem wd_two {a b : Str} {r : List Str} (ha : Wd a) (hr : ∀ x ∈ r, Wd x) : ∀ x ∈ a :: r, Wd x := fun x hx => by
  rcases List.mem_cons.mp hx with rfl | hx
  · exact ha
  · exact hr x hx
theorem wd_nil : ∀ x ∈ ([] : List Str), Wd x := fun _ h => nomatch h
theorem wd_out {os : List Tr} (h : OutOk os) : ∀ x ∈ outW os, Wd x := by
  cases h with
  | @value v hv =>
    have e : outW [.s "value", v] = [("value" : Str), sT v] := by
      rcases hv with ⟨n, rfl, _⟩ | ⟨z, rfl, _⟩ <;> rfl
    rw [e]
    exact wd_two (b := "") (wd_lit (by decide +kernel)) (wd_two (b := "") (wd_told hv) wd_nil)
  | faults hf => exact wd_two (b := "") (wd_lit (by decide +kernel)) (wd_two (b := "") (wd_flt ⟨hf.1, Nat.zero_le _, hf.2.2⟩) wd_nil)
  | bare hz => rcases hz with rfl | rfl <;> exact wd_two (b := "") (wd_lit (by decide +kernel)) wd_nil
theorem wd_cons {w : Str} {t : Tr} {x : Str} {ts : List Tr} (e : partW w t = [x]) (hx : Wd x) (hr : ∀ y ∈ ts.flatMap (partW w), Wd y) : ∀ y ∈ (t :: ts).flatMap (partW w), Wd y := fun y hy => by
  rw [List.flatMap_cons, e] at hy
  rcases List.mem_cons.mp hy with rfl | hy
  · exact hx
  · exact hr y hy
theorem wd_deed {w : Str} {ts : List Tr} (hw : Wd w) (h : ∀ y ∈ ts.flatMap (partW w), Wd y) : ∀ y ∈ deedW (.s w :: ts), Wd y := fun y hy => by
  rcases List.mem_cons.mp (show y ∈ w :: ts.flatMap (partW w) from hy) with rfl | hy
  · exact hw
  · exact h y hy
theorem wd_e {w : Str} : ∀ y ∈ ([] : List Tr).flatMap (partW w), Wd y := fun _ h => nomatch h
theorem wd_dE {d : List Tr} (h : DeedE d) : ∀ x ∈ deedW d, Wd x := by
  cases h with
  | line hw hl =>
    refine wd_deed ?_ (wd_cons (pw_num hl) (wd_num hl) wd_e)
    rcases hw with rfl | rfl <;> exact wd_lit (by decide +kernel)
  | name hw hl ha =>
    refine wd_deed ?_ (wd_cons (pw_num hl) (wd_num hl) (wd_cons (pw_nm ha) (wd_nm ha) wd_e))
    rcases hw with rfl | rfl | rfl | rfl <;> exact wd_lit (by decide +kernel)
  | scope hw hl hs =>
    refine wd_deed ?_ (wd_cons (pw_num hl) (wd_num hl) (wd_cons (pw_num hs) (wd_num hs) wd_e))
    rcases hw with rfl | rfl | rfl | rfl | rfl <;> exact wd_lit (by decide +kernel)
  | send hl ha hv => exact wd_deed (wd_lit (by decide +kernel)) (wd_cons (pw_num hl) (wd_num hl) (wd_cons (pw_nm ha) (wd_nm ha) (wd_cons (pw_told hv) (wd_told hv) wd_e)))
  | two hw hl ha hb =>
    refine wd_deed ?_ (wd_cons (pw_num hl) (wd_num hl) (wd_cons (pw_nm ha) (wd_nm ha) (wd_cons (pw_nm hb) (wd_nm hb) wd_e)))
    rcases hw with rfl | rfl <;> exact wd_lit (by decide +kernel)
  | begin hl ha hb hs hn => exact wd_deed (wd_lit (by decide +kernel)) (wd_cons (pw_num hl) (wd_num hl) (wd_cons (pw_nm ha) (wd_nm ha) (wd_cons (pw_nm hb) (wd_nm hb) (wd_cons (pw_num hs) (wd_num hs) (wd_cons (pw_num hn) (wd_num hn) wd_e)))))
  | limit hl hs hn => exact wd_deed (wd_lit (by decide +kernel)) (wd_cons (pw_num hl) (wd_num hl) (wd_cons (pw_num hs) (wd_num hs) (wd_cons (pw_num hn) (wd_num hn) wd_e)))
  | wait hl hn => exact wd_deed (wd_lit (by decide +kernel)) (wd_cons (pw_num hl) (wd_num hl) (wd_cons (pw_num hn) (wd_num hn) wd_e))
  | halt hl hs hf => exact wd_deed (wd_lit (by decide +kernel)) (wd_cons (pw_num hl) (wd_num hl) (wd_cons (pw_num hs) (wd_num hs) (wd_cons (pw_flt (by decide +kernel)) (wd_flt hf) wd_e)))
  | caught hl hf => exact wd_deed (wd_lit (by decide +kernel)) (wd_cons (pw_num hl) (wd_num hl) (wd_cons (pw_flt (by decide +kernel)) (wd_flt ⟨hf.1, Nat.zero_le _, hf.2.2⟩) wd_e))
  | @ended l os hl ho =>
    refine wd_deed (wd_lit (by decide +kernel)) (wd_cons (pw_num hl) (wd_num hl) fun y hy => ?_)
    rw [List.flatMap_cons, List.flatMap_nil, List.append_nil] at hy
    have hy' : y ∈ partW endW (.t os) := hy
    rw [pw_end os] at hy'
    exact wd_out ho y hy'
theorem wd_dC {d : List Tr} (h : DeedC d) : ∀ x ∈ deedW d, Wd x := by
  cases h with
  | woke hn => exact wd_deed (wd_lit (by decide +kernel)) (wd_cons (pw_num hn) (wd_num hn) wd_e)
  | late hn hs => exact wd_deed (wd_lit (by decide +kernel)) (wd_cons (pw_num hn) (wd_num hn) (wd_cons (pw_num hs) (wd_num hs) wd_e))
theorem wd_dO {d : List Tr} (h : DeedO d) : ∀ x ∈ deedW d, Wd x := by
  cases h with
  | ring ha => exact wd_deed (wd_lit (by decide +kernel)) (wd_cons (pw_nm ha) (wd_nm ha) wd_e)
  | send ha hv => exact wd_deed (wd_lit (by decide +kernel)) (wd_cons (pw_nm ha) (wd_nm ha) (wd_cons (pw_told hv) (wd_told hv) wd_e))
  | off hn => exact wd_deed (wd_lit (by decide +kernel)) (wd_cons (pw_num hn) (wd_num hn) wd_e)
theorem wd_marks {ms : List Tr} (h : ∀ m ∈ ms, MarkOk m) : ∀ x ∈ marksW ms, Wd x := by
  cases ms with
  | nil => exact wd_two (b := "") (wd_lit (by decide +kernel)) wd_nil
  | cons m r =>
    intro x hx
    obtain ⟨k, hk, hx⟩ := List.mem_flatMap.mp (show x ∈ (m :: r).flatMap markW from hx)
    cases h k hk with
    | mk ha hb hz =>
      refine wd_two (b := "") (wd_num ha) (wd_two (b := "") (wd_num hb) (wd_two (b := "") ?_ wd_nil)) x hx
      rcases hz with rfl | rfl <;> exact wd_lit (by decide +kernel)
theorem wd_woken {ms : List Tr} (h : ∀ m ∈ ms, Num 0 99 m) : ∀ x ∈ wokenW ms, Wd x := by
  cases ms with
  | nil => exact wd_two (b := "") (wd_lit (by decide +kernel)) wd_nil
  | cons m r =>
    intro x hx
    obtain ⟨k, hk, rfl⟩ := List.mem_map.mp (show x ∈ (m :: r).map sT from hx)
    exact wd_num (h k hk)
theorem deed_ne {d : List Tr} {r : Row} (h : RowOk r) : deedW r.deed ≠ [] := by
  rcases h.deed with ⟨_, q⟩ | ⟨_, q⟩ | ⟨_, q⟩ <;> generalize r.deed = d at q <;> cases q <;> exact fun z => nomatch z
theorem wd_deedR {r : Row} (h : RowOk r) : ∀ x ∈ deedW r.deed, Wd x := by
  rcases h.deed with ⟨_, q⟩ | ⟨_, q⟩ | ⟨_, q⟩
  · exact wd_dC q
  · exact wd_dO q
  · exact wd_dE q
theorem wd_who {r : Row} (h : RowOk r) : Wd (sT r.who) := by
  rcases h.deed with ⟨e, _⟩ | ⟨e, _⟩ | ⟨q, _⟩
  · rw [e]; exact wd_lit (by decide +kernel)
  · rw [e]; exact wd_lit (by decide +kernel)
  · exact wd_num q
theorem who_back {r : Row} (h : RowOk r) : whoT (sT r.who) = some r.who ∧ deedT (some r.who) (deedW r.deed) = some (.t r.deed) := by
  rcases h.deed with ⟨e, q⟩ | ⟨e, q⟩ | ⟨q, w⟩
  · rw [e]; exact ⟨if_pos (.inl rfl), deedC_back q⟩
  · rw [e]; exact ⟨if_pos (.inr rfl), deedO_back q⟩
  · obtain ⟨n, e, a, b⟩ := id q
    refine ⟨?_, deedE_back w (by rw [e]; rfl) (by rw [e]; rfl)⟩
    unfold whoT
    rw [if_neg, fld_num errB q]
    have := num_txt (n := n) (by omega) (by omega)
    rw [e]
    show ¬ (txt (.int n) = "clock" ∨ txt (.int n) = "outside")
    rintro (z | z)
    · rw [z, show numW "clock" = none by decide +kernel] at this; cases this
    · rw [z, show numW "outside" = none by decide +kernel] at this; cases this
theorem idx_first {A B : List Str} (h : ∀ x ∈ A, Wd x) : (A ++ stk :: B).idxOf stk = A.length := by
  induction A with
  | nil => show (stk :: B).idxOf stk = 0; rw [List.idxOf_cons, beq_self_eq_true]; rfl
  | cons a A ih =>
    rw [List.cons_append, List.idxOf_cons, show (a == stk) = false by simpa using (h a List.mem_cons_self).ns, ih fun x hx => h x (List.mem_cons_of_mem _ hx)]
    rfl
theorem cnt_none {A : List Str} (h : ∀ x ∈ A, Wd x) : A.countP (· == stk) = 0 := List.countP_eq_zero.mpr fun x hx => by simpa using (h x hx).ns
theorem rowT_of {A B C : List Str} (hA : ∀ x ∈ A, Wd x) (hB : ∀ x ∈ B, Wd x) (hC : ∀ x ∈ C, Wd x) (h3 : 3 ≤ A.length) : rowT (A ++ stk :: (B ++ stk :: C)) =
    (allO [fieldT "TICK" (A.getD 0 ""), whoT (A.getD 1 ""), deedT (whoT (A.getD 1 "")) (A.drop 2), marksT B, wokenT C]).map .t := by
  have i1 := idx_first (A := A) (B := B ++ stk :: C) hA
  have i2 := idx_first (A := B) (B := C) hB
  have c : (A ++ stk :: (B ++ stk :: C)).countP (· == stk) = 2 := by
    rw [List.countP_append, List.countP_cons, List.countP_append, List.countP_cons, cnt_none hA, cnt_none hB, cnt_none hC, if_pos (beq_self_eq_true _)]
  have d1 : (A ++ stk :: (B ++ stk :: C)).drop (A.length + 1) = B ++ stk :: C := by
    rw [List.drop_append, List.drop_of_length_le (by omega), List.nil_append, show A.length + 1 - A.length = 1 by omega]
    rfl
  have d2 : (B ++ stk :: C).drop (B.length + 1) = C := by
    rw [List.drop_append, List.drop_of_length_le (by omega), List.nil_append, show B.length + 1 - B.length = 1 by omega]
    rfl
  have g : ∀ i, i < A.length → (A ++ stk :: (B ++ stk :: C)).getD i "" = A.getD i "" := fun i hi => by
    rw [List.getD_eq_getElem?_getD, List.getD_eq_getElem?_getD, List.getElem?_append_left hi]
  unfold rowT
  rw [if_pos ⟨c, by rw [i1]; exact h3⟩, i1, d1, i2, d2, g 0 (by omega), g 1 (by omega), List.take_left, List.take_left]
theorem row_back {r : Row} (h : RowOk r) : rowT r.words = some r.tr ∧ (∀ x ∈ r.words, (32 : Nat) ∉ x.cps.toList ∧ (10 : Nat) ∉ x.cps.toList ∧ x.length ≤ 40) ∧ r.words ≠ [] := by
  have hk : Num 0 99999 (.i r.tick) := ⟨_, rfl, h.tick.1, h.tick.2⟩
  obtain ⟨w1, w2⟩ := who_back h
  have dn := deed_ne (d := []) h
  have hA : ∀ x ∈ [sT (.i r.tick), sT r.who] ++ deedW r.deed, Wd x := fun x hx => by
    rcases List.mem_append.mp hx with q | q
    · exact wd_two (b := "") (wd_num hk) (wd_two (b := "") (wd_who h) wd_nil) x q
    · exact wd_deedR h x q
  have e : r.words = ([sT (.i r.tick), sT r.who] ++ deedW r.deed) ++ stk :: (marksW r.marks ++ stk :: wokenW r.woken) := by
    unfold Row.words
    simp only [List.append_assoc, List.cons_append, List.nil_append]
  refine ⟨?_, fun x hx => ?_, by rw [e]; exact fun z => nomatch z⟩
  · rw [e, rowT_of hA (wd_marks h.marks.1) (wd_woken h.woken.1) (by
      have := List.length_pos_iff.mpr dn
      rw [List.length_append]
      show 3 ≤ 2 + _
      omega)]
    show (allO [fieldT "TICK" (sT (.i r.tick)), whoT (sT r.who), deedT (whoT (sT r.who)) (deedW r.deed), marksT (marksW r.marks), wokenT (wokenW r.woken)]).map Tr.t = _
    rw [fld_num tickB hk, w1, w2, marks_back h.marks.1, woken_back h.woken.1]
    rfl
  · have st : Wd "-" := wd_lit (by decide +kernel)
    have all : Wd x ∨ x = stk := by
      rw [e] at hx
      rcases List.mem_append.mp hx with q | q
      · exact .inl (hA x q)
      · rcases List.mem_cons.mp q with q | q
        · exact .inr q
        · rcases List.mem_append.mp q with q | q
          · exact .inl (wd_marks h.marks.1 x q)
          · rcases List.mem_cons.mp q with q | q
            · exact .inr q
            · exact .inl (wd_woken h.woken.1 x q)
    rcases all with w | rfl
    · exact ⟨w.nb, w.nl, w.le⟩
    · exact ⟨by decide +kernel, by decide +kernel, by decide +kernel⟩
theorem line_split {r : Row} (h : RowOk r) : Txt.split r.line ⟨#[32]⟩ = r.words ∧ (10 : Nat) ∉ r.line.cps.toList := by
  obtain ⟨_, h2, h3⟩ := row_back h
  refine ⟨split_join h3 fun a ha => (h2 a ha).1, fun m => ?_⟩
  rcases join_mem 32 m with q | ⟨a, ha, q⟩
  · cases q
  · exact (h2 a ha).2.1 q
def mkE (w : World) (x : Str × Tok × Value) : DictEntry := ⟨PyData.keyHash w.params x.1, .str x.1 x.2.1, x.2.2⟩
theorem dk_gen {P : Program} {w : World} {K : PySem.W.Frag} {p : Addr} {ep : Nat} (L : List (Str × Tok × Value)) {kvs : List (Key × V)} (l : K.lookup p = some ⟨.type "dict", none, .dict (L.map (mkE w)).toArray ep, #[]⟩) (s : (p == sysModules) = false) (nd : (L.map (·.1)).Nodup) (kv : KV kvs (L.map fun x => ((.inr x.1 : Key), x.2.2))) : DKd P w K p kvs := by
  refine ⟨s, fun h X => ⟨L.map fun x => ((.inr x.1 : Key), x.2.2), kv, _, _, _, X _ _ l, ⟨rfl, rfl, rfl⟩, rfl, ?_, ?_, ?_⟩⟩
  · intro e he
    have he' : e ∈ L.map (mkE w) := by rw [← List.mem_toArray]; exact he
    obtain ⟨x, _, rfl⟩ := List.mem_map.mp he'
    exact ⟨.inr x.1, keyIs_str _ x.2.1, rfl⟩
  · show Pairs _ (L.map (mkE w)).toArray.toList _
    rw [List.toList_toArray]
    clear l nd kv
    induction L with
    | nil => exact .nil
    | cons x r ih => exact .cons (keyIs_str _ x.2.1) rfl ih
  · rw [List.map_map]
    have e : (fun x => x.1) ∘ (fun x : Str × Tok × Value => ((.inr x.1 : Key), x.2.2)) = (Sum.inr : Str → Key) ∘ (fun x : Str × Tok × Value => x.1) := rfl
    rw [e, ← List.map_map]
    exact List.Pairwise.map _ (fun a b h q => h (Sum.inr.inj q)) nd
def intsOf : List Nat → List Value → Bool
  | [], [] => true
  | i :: r, .int j _ :: us => j == (i : Int) && intsOf r us
  | _, _ => false
theorem intsOf_vals : ∀ {is : List Nat} {us : List Value}, intsOf is us = true → Vals (is.map fun i => V.int (i : Nat)) us := by
  intro is
  induction is with
  | nil =>
    intro us h
    cases us with
    | nil => exact .nil
    | cons u r => cases h
  | cons i r ih =>
    intro us h
    cases us with
    | nil => cases h
    | cons u us =>
      cases u with
      | int j t =>
        have h' : (j == (i : Int) && intsOf r us) = true := h
        rw [Bool.and_eq_true] at h'
        have e : j = (i : Int) := by simpa using h'.1
        subst e
        exact .cons ⟨t, rfl⟩ (ih h'.2)
      | _ => cases h
structure InI (K : PySem.W.Frag) (b : Addr) (is : List Nat) : Prop where
  ex : ∃ (dd : Option Addr) (its : Array Value) (n : Nat) (sl : Array (Option Value)), K.lookup b = some ⟨.type "tuple", dd, .seq its n, sl⟩ ∧ its.size ≤ sizeLine ∧ intsOf is its.toList = true
theorem InI.of {K : PySem.W.Frag} {b : Addr} {is : List Nat} {dd : Option Addr} {its : Array Value} {n : Nat} {sl : Array (Option Value)} (l : K.lookup b = some ⟨.type "tuple", dd, .seq its n, sl⟩) (s : its.size ≤ sizeLine) (v : intsOf is its.toList = true) : InI K b is := ⟨⟨dd, its, n, sl, l, s, v⟩⟩
theorem InI.sq {K : PySem.W.Frag} {b : Addr} {is : List Nat} (i : InI K b is) (H : Hp) : SqT K H b (is.map fun i => V.int (i : Nat)) := by
  obtain ⟨dd, its, n, sl, l, s, v⟩ := i.ex
  exact .inr ⟨_, its, n, l, rfl, rfl, s, intsOf_vals v⟩
structure InBD (w : World) (K : PySem.W.Frag) : Prop where
  ex : ∃ (p b1 b2 b3 b4 b5 b6 b7 : Addr) (t1 t2 t3 t4 t5 t6 t7 : Tok) (ep : Nat), PySem.W.nsIn K mainGlobals "BOUNDS" = some (some (.ref p)) ∧ (p == sysModules) = false ∧
    K.lookup p = some ⟨.type "dict", none, .dict #[⟨PyData.keyHash w.params "TICK", .str "TICK" t1, .ref b1⟩, ⟨PyData.keyHash w.params "LINE", .str "LINE" t2, .ref b2⟩, ⟨PyData.keyHash w.params "SCOPE", .str "SCOPE" t3, .ref b3⟩, ⟨PyData.keyHash w.params "ERRAND", .str "ERRAND" t4, .ref b4⟩, ⟨PyData.keyHash w.params "NUMBER", .str "NUMBER" t5, .ref b5⟩, ⟨PyData.keyHash w.params "WITHIN", .str "WITHIN" t6, .ref b6⟩, ⟨PyData.keyHash w.params "TICKS", .str "TICKS" t7, .ref b7⟩] ep, #[]⟩ ∧ InI K b1 [0, 99999] ∧ InI K b2 [0, 99999] ∧ InI K b3 [0, 999] ∧ InI K b4 [0, 99] ∧ InI K b5 [0, 9999] ∧ InI K b6 [0, 99] ∧ InI K b7 [1, 99]
theorem InBD.of {w : World} {K : PySem.W.Frag} {p b1 b2 b3 b4 b5 b6 b7 : Addr} {t1 t2 t3 t4 t5 t6 t7 : Tok} {ep : Nat} (a : PySem.W.nsIn K mainGlobals "BOUNDS" = some (some (.ref p)))
    (l : K.lookup p = some ⟨.type "dict", none, .dict #[⟨PyData.keyHash w.params "TICK", .str "TICK" t1, .ref b1⟩, ⟨PyData.keyHash w.params "LINE", .str "LINE" t2, .ref b2⟩, ⟨PyData.keyHash w.params "SCOPE", .str "SCOPE" t3, .ref b3⟩, ⟨PyData.keyHash w.params "ERRAND", .str "ERRAND" t4, .ref b4⟩, ⟨PyData.keyHash w.params "NUMBER", .str "NUMBER" t5, .ref b5⟩, ⟨PyData.keyHash w.params "WITHIN", .str "WITHIN" t6, .ref b6⟩, ⟨PyData.keyHash w.params "TICKS", .str "TICKS" t7, .ref b7⟩] ep, #[]⟩) (s : (p == sysModules) = false) (q1 : InI K b1 [0, 99999]) (q2 : InI K b2 [0, 99999]) (q3 : InI K b3 [0, 999]) (q4 : InI K b4 [0, 99]) (q5 : InI K b5 [0, 9999]) (q6 : InI K b6 [0, 99]) (q7 : InI K b7 [1, 99]) : InBD w K :=
  ⟨⟨p, b1, b2, b3, b4, b5, b6, b7, t1, t2, t3, t4, t5, t6, t7, ep, a, s, l, q1, q2, q3, q4, q5, q6, q7⟩⟩
theorem InBD.get {P : Program} {w : World} {K : PySem.W.Frag} {mg : Str → Option Value} {h : Heap} (i : InBD w K) (X : K.In h) (G : h.Ns mainGlobals mg) : ∃ (a : Addr) (kvs : List (Key × V)), mg "BOUNDS" = some (.ref a) ∧ DKd P w K a kvs ∧
    ∀ z : Str, match bndsOf z with | none => valV kvs (.inr z) = none | some b => ∃ c, valV kvs (.inr z) = some (.ref c) ∧ ∀ H : Hp, SqT K H c [.int b.1, .int b.2] := by
  obtain ⟨p, b1, b2, b3, b4, b5, b6, b7, t1, t2, t3, t4, t5, t6, t7, ep, a, s, l, q1, q2, q3, q4, q5, q6, q7⟩ := i.ex
  refine ⟨p, [(.inr "TICK", .ref b1), (.inr "LINE", .ref b2), (.inr "SCOPE", .ref b3), (.inr "ERRAND", .ref b4), (.inr "NUMBER", .ref b5), (.inr "WITHIN", .ref b6), (.inr "TICKS", .ref b7)], PySem.W.mg_of X G a, dk_gen [("TICK", t1, .ref b1), ("LINE", t2, .ref b2), ("SCOPE", t3, .ref b3), ("ERRAND", t4, .ref b4), ("NUMBER", t5, .ref b5), ("WITHIN", t6, .ref b6), ("TICKS", t7, .ref b7)] l s ?_ ?_, fun z => ?_⟩
  · show (["TICK", "LINE", "SCOPE", "ERRAND", "NUMBER", "WITHIN", "TICKS"] : List Str).Nodup
    decide +kernel
  · exact .cons ⟨rfl, rfl⟩ (.cons ⟨rfl, rfl⟩ (.cons ⟨rfl, rfl⟩ (.cons ⟨rfl, rfl⟩ (.cons ⟨rfl, rfl⟩ (.cons ⟨rfl, rfl⟩ (.cons ⟨rfl, rfl⟩ .nil))))))
  · have ne : ∀ {y z : Str}, y ≠ z → decide ((Sum.inr y : Key) = Sum.inr z) = false := fun h => decide_eq_false fun e => h (Sum.inr.inj e)
    have eq : ∀ (y : Str), decide ((Sum.inr y : Key) = Sum.inr y) = true := fun y => decide_eq_true rfl
    unfold bndsOf valV
    by_cases h1 : z = "TICK"
    · subst h1
      rw [if_pos rfl]
      refine ⟨b1, ?_, fun H => q1.sq H⟩
      rw [List.find?_cons, eq]; rfl
    by_cases h2 : z = "LINE"
    · subst h2
      rw [if_neg (by decide +kernel), if_pos rfl]
      refine ⟨b2, ?_, fun H => q2.sq H⟩
      rw [List.find?_cons, ne (by decide +kernel), List.find?_cons, eq]; rfl
    by_cases h3 : z = "SCOPE"
    · subst h3
      rw [if_neg (by decide +kernel), if_neg (by decide +kernel), if_pos rfl]
      refine ⟨b3, ?_, fun H => q3.sq H⟩
      rw [List.find?_cons, ne (by decide +kernel), List.find?_cons, ne (by decide +kernel), List.find?_cons, eq]; rfl
    by_cases h4 : z = "ERRAND"
    · subst h4
      rw [if_neg (by decide +kernel), if_neg (by decide +kernel), if_neg (by decide +kernel), if_pos rfl]
      refine ⟨b4, ?_, fun H => q4.sq H⟩
      rw [List.find?_cons, ne (by decide +kernel), List.find?_cons, ne (by decide +kernel), List.find?_cons, ne (by decide +kernel), List.find?_cons, eq]; rfl
    by_cases h5 : z = "NUMBER"
    · subst h5
      rw [if_neg (by decide +kernel), if_neg (by decide +kernel), if_neg (by decide +kernel), if_neg (by decide +kernel), if_pos rfl]
      refine ⟨b5, ?_, fun H => q5.sq H⟩
      rw [List.find?_cons, ne (by decide +kernel), List.find?_cons, ne (by decide +kernel), List.find?_cons, ne (by decide +kernel), List.find?_cons, ne (by decide +kernel), List.find?_cons, eq]; rfl
    by_cases h6 : z = "WITHIN"
    · subst h6
      rw [if_neg (by decide +kernel), if_neg (by decide +kernel), if_neg (by decide +kernel), if_neg (by decide +kernel), if_neg (by decide +kernel), if_pos rfl]
      refine ⟨b6, ?_, fun H => q6.sq H⟩
      rw [List.find?_cons, ne (by decide +kernel), List.find?_cons, ne (by decide +kernel), List.find?_cons, ne (by decide +kernel), List.find?_cons, ne (by decide +kernel), List.find?_cons, ne (by decide +kernel), List.find?_cons, eq]; rfl
    by_cases h7 : z = "TICKS"
    · subst h7
      rw [if_neg (by decide +kernel), if_neg (by decide +kernel), if_neg (by decide +kernel), if_neg (by decide +kernel), if_neg (by decide +kernel), if_neg (by decide +kernel), if_pos rfl]
      refine ⟨b7, ?_, fun H => q7.sq H⟩
      rw [List.find?_cons, ne (by decide +kernel), List.find?_cons, ne (by decide +kernel), List.find?_cons, ne (by decide +kernel), List.find?_cons, ne (by decide +kernel), List.find?_cons, ne (by decide +kernel), List.find?_cons, ne (by decide +kernel), List.find?_cons, eq]; rfl
    rw [if_neg h1, if_neg h2, if_neg h3, if_neg h4, if_neg h5, if_neg h6, if_neg h7]
    show Option.map _ (List.find? _ _) = none
    rw [List.find?_cons, ne (Ne.symm h1), List.find?_cons, ne (Ne.symm h2), List.find?_cons, ne (Ne.symm h3), List.find?_cons, ne (Ne.symm h4), List.find?_cons, ne (Ne.symm h5), List.find?_cons, ne (Ne.symm h6), List.find?_cons, ne (Ne.symm h7)]; rfl
def ERS : List Str := ["did LINE", "clean LINE", "ring LINE NAME", "hear LINE NAME", "send LINE NAME TOLD", "raise LINE NAME", "begin LINE NAME NAME SCOPE WITHIN", "off LINE SCOPE", "off LINE NAME", "group LINE SCOPE", "join LINE SCOPE", "left LINE SCOPE", "late LINE SCOPE", "limit LINE SCOPE TICKS", "wait LINE TICKS", "take LINE NAME NAME", "ask LINE NAME NAME", "halt LINE SCOPE NOTED", "caught LINE FAULTS"]
def CLS : List Str := ["woke ERRAND", "late ERRAND SCOPE"]
def OUS : List Str := ["ring NAME", "send NAME TOLD", "off NUMBER"]
def OCS : List Str := ["value TOLD", "faults FAULTS", "off", "late"]
def MKS : List Str := ["ERRAND SCOPE off", "ERRAND SCOPE late"]
theorem ers_split : ERS.map (fun f => Txt.split f ⟨#[32]⟩) = ERF := by decide +kernel
theorem cls_split : CLS.map (fun f => Txt.split f ⟨#[32]⟩) = CLF := by decide +kernel
theorem ous_split : OUS.map (fun f => Txt.split f ⟨#[32]⟩) = OUF := by decide +kernel
theorem ocs_split : OCS.map (fun f => Txt.split f ⟨#[32]⟩) = OCF := by decide +kernel
theorem mks_split : MKS.map (fun f => Txt.split f ⟨#[32]⟩) = MKF := by decide +kernel
structure BbF (K : PySem.W.Frag) (C W c1 c2 c3 c4 c5 : Addr) : Prop where
  ec : ExcCls K C
  fc : ∀ od, PySem.W.findObj K C od "__class__" = some (.bind (.builtin "getset_descriptor.__get__") (.builtin "object.__class__"))
  ei : ∃ f, excInI K C f = true
  up : PySem.W.mroIn K C (.ref W) = some true
  hd : PySem.W.hasDictIn K C = true
  fp : PySem.W.findIn K (.ref C) "place" = some none
  k1 : PySem.W.kitOne K (.ref C) (.ref c1) = some false
  k2 : PySem.W.kitOne K (.ref C) (.ref c2) = some false
  k3 : PySem.W.kitOne K (.ref C) (.ref c3) = some false
  k4 : PySem.W.kitOne K (.ref C) (.ref c4) = some false
  k5 : PySem.W.kitOne K (.ref C) (.ref c5) = some false
  k6 : PySem.W.kitOne K (.ref C) (.ref C) = some true
  kv : PySem.W.kitOne K (.ref C) (.type "ValueError") = some true
theorem findOa {K : PySem.W.Frag} {C : Addr} {cd : ClassData} (hc : PySem.W.clsIn K C = some cd) (ha : PySem.W.findIn K (.ref C) "__class__" = some (some (.builtin "object.__class__"))) (hg : PySem.W.specialIn K (.builtin "object.__class__") "__get__" = some (some (.builtin "getset_descriptor.__get__"))) (ht : PySem.W.takesIn K (.builtin "object.__class__") = some true) (od : Option Obj) : PySem.W.findObj K C od "__class__" = some (.bind (.builtin "getset_descriptor.__get__") (.builtin "object.__class__")) := by
  unfold PySem.W.findObj
  rw [hc, Option.bind_some, ha, Option.bind_some]
  simp only [hg, ht, Option.bind_some]

def top (i : Nat) : Stmt := PySem.Challenge.pw_nightwatch_k81_texts_refused.main.body.getD i (.Pass ⟨0, 0, 0, 0⟩)

set_option genInjectivity false in
structure Tx (P : Program) (w : World) (K : PySem.W.Frag) (mg : Str → Option Value) where
  d_is_letters : Def K mg "is_letters" (top 12) ["text"]
  d_is_name : Def K mg "is_name" (top 13) ["thing"]
  d_is_told_word : Def K mg "is_told_word" (top 14) ["text"]
  d_is_value : Def K mg "is_value" (top 15) ["thing"]
  d_number_of : Def K mg "number_of" (top 18) ["word"]
  d_bounded : Def K mg "bounded" (top 19) ["word", "least", "greatest"]
  d_value_of : Def K mg "value_of" (top 20) ["word"]
  d_told_value_of : Def K mg "told_value_of" (top 40) ["word"]
  d_faults_of_word : Def K mg "faults_of_word" (top 41) ["word"]
  d_field_at : Def K mg "field_at" (top 42) ["slot", "word"]
  d_fitted : Def K mg "fitted" (top 21) ["slots", "words", "field_at"]
  d_first_fit : Def K mg "first_fit" (top 22) ["forms", "words", "field_at"]
  d_tuple_of : Def K mg "tuple_of" (top 43) ["forms", "words"]
  d_faults_text : Def K mg "faults_text" (top 32) ["faults"]
  d_outcome_text : Def K mg "outcome_text" (top 33) ["outcome"]
  d_part_text : Def K mg "part_text" (top 34) ["word", "part"]
  d_deed_text : Def K mg "deed_text" (top 35) ["deed"]
  d_words_text : Def K mg "words_text" (top 36) ["words"]
  d_marked_text : Def K mg "marked_text" (top 37) ["marks"]
  d_row_text : Def K mg "row_text" (top 38) ["row"]
  d_booktext : Def K mg "booktext" (top 39) ["rows"]
  d_who_of : Def K mg "who_of" (top 44) ["word"]
  d_ended_of : Def K mg "ended_of" (top 45) ["words"]
  d_deed_of : Def K mg "deed_of" (top 46) ["who", "words"]
  d_all_or_none : Def K mg "all_or_none" (top 47) ["fields"]
  d_marked_of : Def K mg "marked_of" (top 48) ["words"]
  d_woken_of : Def K mg "woken_of" (top 49) ["words"]
  d_row_of_line : Def K mg "row_of_line" (top 50) ["line"]
  d_read_book : Def K mg "read_book" (top 51) ["text"]
  d_l_cell_at : Def K mg "_law_cell_at" (top 53) ["_law_script", "_law_k"]
  d_l_mixed : Def K mg "_law_mixed" (top 54) ["_law_cell", "_law_k"]
  d_l_stream : Def K mg "_law_stream" (top 55) ["_law_cell", "_law_place", "_law_many"]
  d_l_name : Def K mg "_law_name" (top 56) ["_law_x"]
  d_l_value : Def K mg "_law_value" (top 57) ["_law_x"]
  d_l_number : Def K mg "_law_number" (top 58) ["_law_x", "_law_least", "_law_most"]
  d_l_faults : Def K mg "_law_faults" (top 59) ["_law_x", "_law_least"]
  d_l_errand_deed : Def K mg "_law_errand_deed" (top 60) ["_law_xs"]
  d_l_row : Def K mg "_law_row" (top 61) ["_law_cell", "_law_place"]
  d_l_word : Def K mg "_law_word" (top 62) ["_law_part"]
  d_l_line : Def K mg "_law_line" (top 63) ["_law_row_here"]
  d_l_none : Def K mg "_law_none" (top 64) ["_law_x"]
  d_l_spoilt : Def K mg "_law_spoilt" (top 65) ["_law_line_here", "_law_x"]
  d_l_refused : Def K mg "_law_refused" (top 66) ["_law_text"]
  d_l_right : Def K mg "_law_right" (top 67) ["_law_lines", "_law_good", "_law_xs"]
  kwa : Addr
  kwm : mg "KEY_WORDS" = some (.ref kwa)
  kwt : ∀ H : Hp, SqT K H kwa (KEYS.map V.str)
  era : Addr
  erm : mg "ERRAND_FORMS" = some (.ref era)
  ert : ∀ H : Hp, SqT K H era (ERS.map V.str)
  cla : Addr
  clm : mg "CLOCK_FORMS" = some (.ref cla)
  clt : ∀ H : Hp, SqT K H cla (CLS.map V.str)
  oua : Addr
  oum : mg "OUTSIDE_FORMS" = some (.ref oua)
  out : ∀ H : Hp, SqT K H oua (OUS.map V.str)
  oca : Addr
  ocm : mg "OUTCOME_FORMS" = some (.ref oca)
  oct : ∀ H : Hp, SqT K H oca (OCS.map V.str)
  mka : Addr
  mkm : mg "MARK_FORMS" = some (.ref mka)
  mkt : ∀ H : Hp, SqT K H mka (MKS.map V.str)
  mlt : Tok
  mlm : mg "MOST_LETTERS" = some (.int 8 mlt)
  mvt : Tok
  mvm : mg "MOST_VALUE" = some (.int 999999 mvt)
  mft : Tok
  mfm : mg "MOST_FIGURES" = some (.int 6 mft)
  nto : Tok
  nom : mg "NONE" = some (.str "-" nto)
  skt : Tok
  skm : mg "STROKE" = some (.str "/" skt)
  bda : Addr
  bdm : mg "BOUNDS" = some (.ref bda)
  bkv : List (Key × V)
  bd : DKd P w K bda bkv
  bv : ∀ z : Str, match bndsOf z with | none => valV bkv (.inr z) = none | some b => ∃ c, valV bkv (.inr z) = some (.ref c) ∧ ∀ H : Hp, SqT K H c [.int b.1, .int b.2]
  C_BadClock : Addr
  h_BadClock : mg "BadClock" = some (.ref C_BadClock)
  C_NotWaiting : Addr
  h_NotWaiting : mg "NotWaiting" = some (.ref C_NotWaiting)
  C_BadDesk : Addr
  h_BadDesk : mg "BadDesk" = some (.ref C_BadDesk)
  C_BadRow : Addr
  h_BadRow : mg "BadRow" = some (.ref C_BadRow)
  C_BadProgram : Addr
  h_BadProgram : mg "BadProgram" = some (.ref C_BadProgram)
  C_BadBook : Addr
  h_BadBook : mg "BadBook" = some (.ref C_BadBook)
  C_WatchError : Addr
  x_WatchError : XCls K mg "WatchError" C_WatchError
  h_WatchError : mg "WatchError" = some (.ref C_WatchError)
  m_BadBook___init__ : MDef K C_BadBook "__init__" "BadBook.__init__" (inClass (top 7) 0) ["self", "place"]
  mk_BadBook : MkE K C_BadBook m_BadBook___init__.f
  tk_BadBook : PySem.W.takerIn K C_BadBook "place" = some none
  bb : BbF K C_BadBook C_WatchError C_BadClock C_NotWaiting C_BadDesk C_BadRow C_BadProgram
  n_len : mg "len" = none
  n_isinstance : mg "isinstance" = none
  n_list : mg "list" = none
  n_tuple : mg "tuple" = none
  n_int : mg "int" = none
  n_range : mg "range" = none
  n_enumerate : mg "enumerate" = none
  n_str : mg "str" = none
  n_bool : mg "bool" = none
  n_all : mg "all" = none
  n_zip : mg "zip" = none
  n_min : mg "min" = none
  n_ValueError : mg "ValueError" = none
section
variable {P : Program} {w : World} {K : PySem.W.Frag} {mg : Str → Option Value} {base : Heap}
local macro_rules
  | `(tactic| walk_at $s:str) => do
    let e ← match s.getString with
      | "sx" => pure ""
      | "sy" => pure "tLst tTup tDNewK "
      | "sw" => pure "tLst tTup tDNewK tLc iList iStr iTup "
      | _ => Lean.Macro.throwUnsupported
    let a := ((e ++ "L2.start cxOf_K cxComp_K tSeq tAsg gName tRet tRetN tDrop tIfS tTest tB tNot tAnd tOr tAndV tOrV tNotV tOp tUn tVar tC tCons tNil tStrs tCB tCall tChain tBM tBM0 tPart tNoPart tSl tIf tNext tTrue selS Option.bind_none Option.bind_some Option.join_some if_true rI rI0 rU rEq rNe rStarts rSlS lenV_str tyV List.map_cons List.map_nil List.length_cons List.length_nil List.replicate List.cons_append List.nil_append List.append_nil Nat.reduceAdd Nat.reduceSub Nat.zero_add Nat.add_zero Nat.sub_self List.getElem?_cons_zero List.getElem?_cons_succ List.set_cons_zero List.set_cons_succ").splitOn " ").toArray.map fun x => Lean.mkIdent x.toName
    let b := a ++ (("Option.some.injEq V.int.injEq V.str.injEq V.ref.injEq V.bl.injEq V.ty.injEq List.cons.injEq exists_eq_left exists_eq_left' exists_eq_right exists_and_left exists_eq and_true true_and and_self and_assoc").splitOn " ").toArray.map fun x => Lean.mkIdent x.toName
    `(tactic| (try dsimp only [$[$a:term],*]; try simp only [$[$b:term],*]))




seal PE PT PW PA PS PSs PG PGs PI PC PTs PO
def OT (H : Hp) (v : V) : Option Tr → Prop
  | none => v = .non
  | some t => Rep H v t
theorem OT.same {H H' : Hp} {v : V} {o : Option Tr} (h : OT H v o) (s : Same H H') : OT H' v o := by
  cases o with
  | none => exact h
  | some t => exact Rep.sameT h (sameT_of s)
def OTs (H : Hp) (vs : List V) (os : List (Option Tr)) : Prop := vs.length = os.length ∧ ∀ (i : Nat) (v : V) (o : Option Tr), vs[i]? = some v → os[i]? = some o → OT H v o
theorem OTs.nil (H : Hp) : OTs H [] [] := ⟨rfl, fun _ _ _ h => nomatch h⟩
theorem OTs.same {H H' : Hp} {vs : List V} {os : List (Option Tr)} (h : OTs H vs os) (s : Same H H') : OTs H' vs os := ⟨h.1, fun i v o a b => (h.2 i v o a b).same s⟩
theorem OTs.snoc {H : Hp} {vs : List V} {os : List (Option Tr)} {v : V} {o : Option Tr} (h : OTs H vs os) (x : OT H v o) : OTs H (vs ++ [v]) (os ++ [o]) := by
  refine ⟨by rw [List.length_append, List.length_append, h.1]; rfl, fun i y u hy hu => ?_⟩
  rcases get_snoc hy with ⟨lt, hy⟩ | ⟨ei, ey⟩
  · rw [List.getElem?_append_left (by rw [← h.1]; exact lt)] at hu
    exact h.2 i y u hy hu
  · rw [ei, h.1, get_last] at hu
    cases hu
    rw [ey]
    exact x
theorem eqD_none {K : PySem.W.Frag} {H : Hp} {v : V} {o : Option Tr} (h : OT H v o) : EqD K H 1 v .non o.isNone := by
  cases o with
  | none =>
    have e : v = .non := h
    subst e
    have : EqD K H 1 .non .non (eqV .non .non) := .flat rfl rfl
    exact this
  | some t =>
    have r : Rep H v t := h
    cases r with
    | i n => exact EqD.flat (x := .int n) (y := .non) rfl rfl
    | s z => exact EqD.flat (x := .str z) (y := .non) rfl rfl
    | t ha _ _ => exact .tupF (SqT.of ha) rfl
theorem none_in {K : PySem.W.Frag} {H : Hp} : ∀ {vs : List V} {os : List (Option Tr)}, OTs H vs os → ∃ e : V → Bool, (∀ z ∈ vs, EqD K H 1 z .non (e z)) ∧ vs.any e = os.any Option.isNone := by
  intro vs os h
  refine ⟨fun v => decide (v = .non), fun z hz => ?_, ?_⟩
  · obtain ⟨i, hi⟩ := List.getElem?_of_mem hz
    have lt : i < os.length := by
      have := (List.getElem?_eq_some_iff.mp hi).1
      rw [h.1] at this
      exact this
    have o := h.2 i z _ hi (List.getElem?_eq_getElem lt)
    have q := eqD_none (K := K) o
    have e : (os[i]).isNone = decide (z = .non) := by
      cases eo : os[i] with
      | none =>
        rw [eo] at o
        have : z = .non := o
        rw [this]; rfl
      | some t =>
        rw [eo] at o
        have r : Rep H z t := o
        cases r <;> rfl
    rw [e] at q
    exact q
  · rw [Bool.eq_iff_iff, List.any_eq_true, List.any_eq_true]
    constructor
    · rintro ⟨z, hz, hz2⟩
      obtain ⟨i, hi⟩ := List.getElem?_of_mem hz
      have lt : i < os.length := by
        have := (List.getElem?_eq_some_iff.mp hi).1
        rw [h.1] at this
        exact this
      refine ⟨os[i], List.getElem_mem lt, ?_⟩
      have o := h.2 i z _ hi (List.getElem?_eq_getElem lt)
      have e : z = .non := by simpa using hz2
      cases eo : os[i] with
      | none => rfl
      | some t =>
        rw [eo, e] at o
        have r : Rep H .non t := o
        cases r
    · rintro ⟨o, ho, ho2⟩
      obtain ⟨i, hi⟩ := List.getElem?_of_mem ho
      have lt : i < vs.length := by
        have := (List.getElem?_eq_some_iff.mp hi).1
        rw [← h.1] at this
        exact this
      refine ⟨vs[i], List.getElem_mem lt, ?_⟩
      have q := h.2 i _ _ (List.getElem?_eq_getElem lt) hi
      cases o with
      | none =>
        have e : vs[i] = .non := q
        simp [e]
      | some t => cases ho2
theorem allO_any {os : List (Option Tr)} : (os.any Option.isNone = true → allO os = none) ∧ (os.any Option.isNone = false → ∃ ts, allO os = some ts ∧ os = ts.map some) := by
  refine ⟨fun h => ?_, fun h => ?_⟩
  · obtain ⟨o, ho, h2⟩ := List.any_eq_true.mp h
    cases o with
    | none => exact allO_none ho
    | some t => cases h2
  · induction os with
    | nil => exact ⟨[], rfl, rfl⟩
    | cons o r ih =>
      rw [List.any_cons, Bool.or_eq_false_iff] at h
      obtain ⟨ts, e1, e2⟩ := ih h.2
      cases o with
      | none => cases h.1
      | some t => exact ⟨t :: ts, by show (allO r).map _ = _; rw [e1]; rfl, by rw [e2]; rfl⟩
theorem OTs.reps {H : Hp} {vs : List V} {ts : List Tr} (h : OTs H vs (ts.map some)) : Reps H vs ts := by
  refine ⟨by rw [h.1, List.length_map], fun i x t hx ht => ?_⟩
  exact h.2 i x (some t) hx (by rw [List.getElem?_map, ht]; rfl)
def spToldOf : Sp := fun vs H Q _ => ∃ z : Str, vs = [.str z] ∧ z.length ≤ 1000 ∧ ∀ (v : V) (H' : Hp), OT H' v (toldT z) → Same H H' → Q v H'
def spFaultsOf : Sp := fun vs H Q _ => ∃ z : Str, vs = [.str z] ∧ z.length ≤ 1000 ∧ ∀ (v : V) (H' : Hp), OT H' v (fltT z) → Same H H' → Q v H'
def spFieldAt : Sp := fun vs H Q _ => ∃ y z : Str, vs = [.str y, .str z] ∧ y.length ≤ 1000 ∧ z.length ≤ 1000 ∧ ∀ (v : V) (H' : Hp), OT H' v (fieldT y z) → Same H H' → Q v H'
def WsOk (ws : List Str) : Prop := ws.length ≤ 5000 ∧ ∀ w ∈ ws, w.length ≤ 1000
def spFitted (f : Addr) : Sp := fun vs H Q _ => ∃ (a b : Addr) (slots ws : List Str), vs = [.ref a, .ref b, .ref f] ∧ H a = some (.lst (slots.map V.str)) ∧ H b = some (.lst (ws.map V.str)) ∧ WsOk slots ∧ WsOk ws ∧
  (fitT slots ws = none → ∀ H', Same H H' → Q .non H') ∧ ∀ ts, fitT slots ws = some ts → ∀ (l : Addr) (us : List V) (H' : Hp), H l = none → H' l = some (.lst us) → Reps H' us ts → Same H H' → Q (.ref l) H'
def FmsAt (K : PySem.W.Frag) (a : Addr) (F : List Str) : Prop := (∀ G : Hp, SqT K G a (F.map V.str)) ∧ F.length ≤ 30 ∧ (∀ f ∈ F, f.length ≤ 1000) ∧ ∀ f ∈ F, WsOk (Txt.split f ⟨#[32]⟩)
def spFirst (T : Tx P w K mg) : Sp := fun vs H Q _ => ∃ (a b : Addr) (F ws : List Str), vs = [.ref a, .ref b, .ref T.d_field_at.f] ∧ FmsAt K a F ∧ H b = some (.lst (ws.map V.str)) ∧ WsOk ws ∧
  (firstT (F.map fun f => Txt.split f ⟨#[32]⟩) ws = none → ∀ H', Same H H' → Q .non H') ∧ ∀ ts, firstT (F.map fun f => Txt.split f ⟨#[32]⟩) ws = some ts → ∀ (l : Addr) (us : List V) (H' : Hp), H l = none → H' l = some (.lst us) → Reps H' us ts → Same H H' → Q (.ref l) H'
def spTupleOf (T : Tx P w K mg) : Sp := fun vs H Q _ => ∃ (a b : Addr) (F ws : List Str), vs = [.ref a, .ref b] ∧ FmsAt K a F ∧ H b = some (.lst (ws.map V.str)) ∧ WsOk ws ∧ ∀ (v : V) (H' : Hp), OT H' v ((firstT (F.map fun f => Txt.split f ⟨#[32]⟩) ws).map .t) → Same H H' → Q v H'
theorem value_th {H : Hp} {z : Str} (h : z.length ≤ 1000) : Th H (valueV z) := by
  unfold valueV
  split
  · split
    · exact .int _
    · exact .non
  · split
    · exact .str z h
    · exact .non
theorem bnd_OT {H : Hp} {z : Str} {lo hi : Int} : OT H (bndV z lo hi) (bndT z lo hi) := by
  unfold bndV bndT
  split
  · rename_i n e
    by_cases h : lo ≤ n ∧ n ≤ hi
    · rw [if_pos h, if_pos h]; exact .i n
    · rw [if_neg h, if_neg h]; rfl
  · rfl
theorem dinK {P : Program} {w : World} {K : PySem.W.Frag} {neg : Bool} {σ : L2.St} {i : Nat} {a : Addr} {kvs : List (Key × V)} {z : Str} {H : Hp} {R : VK} (hσ : σ[i]? = some (some (.str z))) (hd : DKd P w K a kvs) (k : R (.bl (neg ^^ (L2.valV kvs (.inr z)).isSome)) H) : tDInK P w K neg (tVar i) (tC (.ref a)) σ H R := ⟨_, hσ, a, kvs, .inr z, rfl, hd, rfl, k⟩
theorem dixK {P : Program} {w : World} {K : PySem.W.Frag} {σ : L2.St} {i : Nat} {a : Addr} {kvs : List (Key × V)} {z : Str} {v : V} {H : Hp} {R : VK} (hσ : σ[i]? = some (some (.str z))) (hd : DKd P w K a kvs) (e : L2.valV kvs (.inr z) = some v) (k : R v H) : tDIxK P w K (tC (.ref a)) (tVar i) σ H R := ⟨_, hσ, a, kvs, .inr z, v, rfl, hd, rfl, e, k⟩
theorem mem_join_le (sep : Str) : ∀ {l : List Str} {a : Str}, a ∈ l → a.length ≤ (Str.join sep l).length
  | [b], a, h => by rw [List.mem_singleton.mp h]; exact Nat.le_refl _
  | b :: c :: l, a, h => by
    show a.length ≤ (b ++ sep ++ Str.join sep (c :: l)).length
    rw [app_len, app_len]
    rcases List.mem_cons.mp h with rfl | h
    · omega
    · have := mem_join_le sep (l := c :: l) h
      omega
theorem split_mem_le {z a : Str} {c : Nat} (h : a ∈ Txt.split z ⟨#[c]⟩) : a.length ≤ z.length := by
  have := mem_join_le ⟨#[c]⟩ h
  rw [StrLaws.join_split] at this
  exact this
theorem split_len (z : Str) (c : Nat) : (Txt.split z ⟨#[c]⟩).length ≤ z.length + 1 := by
  have h : ∀ l : List Str, l.length ≤ (Str.join ⟨#[c]⟩ l).length + 1 := by
    intro l
    induction l with
    | nil => exact Nat.zero_le _
    | cons a r ih =>
      cases r with
      | nil => exact Nat.le_add_left _ _
      | cons b r =>
        show (a :: b :: r).length ≤ (a ++ ⟨#[c]⟩ ++ Str.join ⟨#[c]⟩ (b :: r)).length + 1
        rw [app_len, app_len, List.length_cons]
        have e : (⟨#[c]⟩ : Str).length = 1 := rfl
        omega
  have := h (Txt.split z ⟨#[c]⟩)
  rw [StrLaws.join_split] at this
  exact this
theorem firstT_drop {F : List (List Str)} {i : Nat} {f ws : List Str} (h : F[i]? = some f) : firstT (F.drop i) ws = match fitT f ws with | some x => some x | none => firstT (F.drop (i + 1)) ws := by
  have lt := (List.getElem?_eq_some_iff.mp h).1
  have e := (List.getElem?_eq_some_iff.mp h).2
  rw [List.drop_eq_getElem_cons lt, e]
  rfl
theorem TV.t {x : V} (h : TV x) {R : Str → Prop} (k : R (txt x)) : (∃ i : Int, x = .int i ∧ i.natAbs.log2 < 1920 ∧ R (Str.ofString (toString i))) ∨ ∃ z, x = .str z ∧ R z := by
  rcases h with ⟨n, rfl, h0, h1⟩ | ⟨z, rfl, _⟩
  · exact .inl ⟨n, rfl, log_lt h0 h1, k⟩
  · exact .inr ⟨z, rfl, k⟩
def J (ws : List Str) : Str := Str.join ⟨#[32]⟩ ws
def spFaultsText : Sp := fun vs H Q _ => ∃ (v : V) (fs : List Tr), vs = [v] ∧ Rep H v (.t fs) ∧ Flts 0 fs ∧ ∀ H', Same H H' → Q (.str (faultS fs)) H'
def spOutText : Sp := fun vs H Q _ => ∃ (v : V) (os : List Tr), vs = [v] ∧ Rep H v (.t os) ∧ OutOk os ∧ ∀ H', Same H H' → Q (.str (J (outW os))) H'
def PartOk (w : Str) (t : Tr) : Prop := (∃ n, t = .i n ∧ 0 ≤ n ∧ n ≤ 999999) ∨ (∃ z, t = .s z ∧ z.length ≤ 40) ∨ (∃ fs, t = .t fs ∧ w ≠ "ended" ∧ Flts 0 fs) ∨ (∃ os, t = .t os ∧ w = "ended" ∧ OutOk os)
def spPartText : Sp := fun vs H Q _ => ∃ (w : Str) (v : V) (t : Tr), vs = [.str w, v] ∧ Rep H v t ∧ PartOk w t ∧ ∀ H', Same H H' → Q (.str (J (partW w t))) H'
def DeedOk (d : List Tr) : Prop := ∃ (w : Str) (ts : List Tr), d = .s w :: ts ∧ w.length ≤ 40 ∧ ts.length ≤ 6 ∧ ∀ t ∈ ts, PartOk w t
def spDeedText : Sp := fun vs H Q _ => ∃ (v : V) (d : List Tr), vs = [v] ∧ Rep H v (.t d) ∧ DeedOk d ∧ ∀ H', Same H H' → Q (.str (J (deedW d))) H'
def wordsS : List V → Str
  | [] => dsh
  | xs => J (xs.map txt)
def spWordsText (K : PySem.W.Frag) : Sp := fun vs H Q _ => ∃ (tp : Bool) (a : Addr) (xs : List V), vs = [.ref a] ∧ SqE K tp H a xs ∧ xs.length ≤ 100 ∧ (∀ x ∈ xs, TV x) ∧ ∀ H', Same H H' → Q (.str (wordsS xs)) H'
def spMarkedText : Sp := fun vs H Q _ => ∃ (v : V) (ms : List Tr), vs = [v] ∧ Rep H v (.t ms) ∧ (∀ m ∈ ms, MarkOk m) ∧ ms.length ≤ 3 ∧ ∀ H', Same H H' → Q (.str (J (marksW ms))) H'
def spRowText : Sp := fun vs H Q _ => ∃ (v : V) (r : Row), vs = [v] ∧ Rep H v r.tr ∧ RowOk r ∧ ∀ H', Same H H' → Q (.str r.line) H'
def bookS (rs : List Row) : Str := Txt.join "" (rs.map fun r => r.line ++ "\n")
def spBookText (K : PySem.W.Frag) : Sp := fun vs H Q _ => ∃ (tp : Bool) (a : Addr) (us : List V) (rs : List Row), vs = [.ref a] ∧ SqE K tp H a us ∧ Reps H us (rs.map Row.tr) ∧ (∀ r ∈ rs, RowOk r) ∧ rs.length ≤ 20 ∧ ∀ H', Same H H' → Q (.str (bookS rs)) H'
theorem Rep.tupI {H : Hp} {v : V} {ts : List Tr} (h : Rep H v (.t ts)) : ∃ (a : Addr) (xs : List V), v = .ref a ∧ H a = some (.tup xs) ∧ Reps H xs ts := by
  cases h with
  | t ha hl hx => exact ⟨_, _, rfl, ha, hl, hx⟩
theorem Reps.consI {H : Hp} {xs : List V} {t : Tr} {ts : List Tr} (h : Reps H xs (t :: ts)) : ∃ x r, xs = x :: r ∧ Rep H x t ∧ Reps H r ts := by
  cases xs with
  | nil => cases h.1
  | cons x r => exact ⟨x, r, rfl, h.2 0 x t rfl rfl, Nat.succ.inj h.1, fun i y u hy hu => h.2 (i + 1) y u hy hu⟩
theorem Reps.nilI {H : Hp} {xs : List V} (h : Reps H xs []) : xs = [] := List.eq_nil_of_length_eq_zero h.1
def vT : Tr → V
  | .i n => .int n
  | .s z => .str z
  | .t _ => .non
def flatT : Tr → Bool
  | .t _ => false
  | _ => true
theorem Rep.flatI {H : Hp} {v : V} {t : Tr} (h : Rep H v t) (f : flatT t = true) : v = vT t := by
  cases h with
  | i n => rfl
  | s z => rfl
  | t _ _ _ => cases f
theorem Reps.flatI {H : Hp} : ∀ {ts : List Tr} {xs : List V}, Reps H xs ts → (∀ t ∈ ts, flatT t = true) → xs = ts.map vT
  | [], _, h, _ => h.nilI
  | t :: ts, xs, h, f => by
    obtain ⟨x, r, rfl, h1, h2⟩ := h.consI
    rw [h1.flatI (f t List.mem_cons_self), h2.flatI fun u hu => f u (List.mem_cons_of_mem _ hu)]
    rfl
theorem Nm.flat {t : Tr} (h : Nm t) : flatT t = true := by obtain ⟨z, rfl, _⟩ := h; rfl
theorem Num.flat {lo hi : Int} {t : Tr} (h : Num lo hi t) : flatT t = true := by obtain ⟨z, rfl, _⟩ := h; rfl
theorem Told.flat {t : Tr} (h : Told t) : flatT t = true := by rcases h with ⟨z, rfl, _⟩ | ⟨z, rfl, _⟩ <;> rfl
theorem nm_vT {fs : List Tr} (h : ∀ f ∈ fs, Nm f) : fs.map vT = (fs.map sT).map V.str := by
  rw [List.map_map]
  exact List.map_congr_left fun f hf => by obtain ⟨z, rfl, _⟩ := h f hf; rfl
theorem eqNilT {K : PySem.W.Frag} {G : Hp} {b : Addr} {ys : List V} {R : VK} (h : G b = some (.tup ys)) (k : ∀ G', Same G G' → R (.bl (decide (ys = []))) G') : 0 ≤ sizeLine ∧ ∀ p, G p = none → rEqT K false (.ref b) (.ref p) (upd G p (.tup [])) R := by
  refine ⟨by decide, fun p hp => ⟨b, p, ys, [], 0, fun _ => true, rfl, rfl, SqT.of ((Same.upd hp) _ _ h), SqT.of upd_same, by decide, (fun i x y _ hy => by cases hy), ?_⟩⟩
  have e : (false ^^ ((List.range (min ys.length ([] : List V).length)).all fun _ => true) && ys.length == ([] : List V).length) = decide (ys = []) := by
    cases ys with
    | nil => rfl
    | cons z r => simp
  rw [e]
  exact k _ (Same.upd hp)
theorem ixT {K : PySem.W.Frag} {H : Hp} {a : Addr} {xs : List V} {x : V} {R : VK} (ha : H a = some (.tup xs)) (i : Nat) (hx : xs[i]? = some x) (k : R x H) : rIxT K (.ref a) (.int (i : Nat)) H R := ⟨a, xs, _, x, rfl, rfl, SqT.of ha, atI_nat hx, k⟩
theorem j_cons {a : Str} {ws : List Str} (h : ws ≠ []) : J (a :: ws) = a ++ ⟨#[32]⟩ ++ J ws := by
  cases ws with
  | nil => exact absurd rfl h
  | cons b r => rfl
theorem j_app {l m : List Str} (h : l ≠ []) (h' : m ≠ []) : J (l ++ m) = J l ++ ⟨#[32]⟩ ++ J m := join_two 32 h h'
theorem j_flat : ∀ {xss : List (List Str)}, (∀ xs ∈ xss, xs ≠ []) → J (xss.map J) = J xss.flatten
  | [], _ => rfl
  | [xs], _ => by
    show J xs = J (xs ++ [])
    rw [List.append_nil]
  | xs :: ys :: r, h => by
    have hy := h ys (List.mem_cons_of_mem _ List.mem_cons_self)
    have ih := j_flat (xss := ys :: r) fun z hz => h z (List.mem_cons_of_mem _ hz)
    show J (J xs :: (ys :: r).map J) = J (xs ++ (ys :: r).flatten)
    rw [j_cons (by simp), ih]
    exact (j_app (h xs List.mem_cons_self) (fun z => hy (List.append_eq_nil_iff.mp (show ys ++ r.flatten = [] from z)).1)).symm
theorem j_len {ws : List Str} {c : Nat} (h : ∀ w ∈ ws, w.length ≤ c) : (J ws).length ≤ ws.length * (c + 1) := by
  have h1 := join_le ⟨#[32]⟩ ws
  rw [glue_join] at h1
  have h2 := sum_lens h
  have h3 : (⟨#[32]⟩ : Str).length = 1 := rfl
  rw [h3] at h1
  show (Str.join ⟨#[32]⟩ ws).length ≤ _
  rw [Nat.mul_add]
  omega
theorem sp_is : (" " : Str) = ⟨#[32]⟩ := by decide +kernel
theorem cm_is : ("," : Str) = ⟨#[44]⟩ := by decide +kernel
theorem val_j (x : Str) : ("value " : Str) ++ x = J [("value" : Str), x] := by
  rw [j_cons (List.cons_ne_nil _ _), show ("value " : Str) = ("value" : Str) ++ ⟨#[32]⟩ by decide +kernel]; rfl
theorem flt_j (x : Str) : ("faults " : Str) ++ x = J [("faults" : Str), x] := by
  rw [j_cons (List.cons_ne_nil _ _), show ("faults " : Str) = ("faults" : Str) ++ ⟨#[32]⟩ by decide +kernel]; rfl
theorem big {n : Nat} (h : n ≤ 16777216) : n ≤ sizeLine := Nat.le_trans h (by decide)
theorem part_ne (w : Str) (t : Tr) (h : PartOk w t) : partW w t ≠ [] := by
  rcases h with ⟨n, rfl, _⟩ | ⟨z, rfl, _⟩ | ⟨fs, rfl, hw, _⟩ | ⟨os, rfl, hw, ho⟩
  · exact fun z => nomatch z
  · exact fun z => nomatch z
  · rw [pw_flt hw]; exact fun z => nomatch z
  · rw [hw, show partW "ended" (.t os) = outW os from pw_end os]
    cases ho with
    | value hv => rcases hv with ⟨n, rfl, _⟩ | ⟨z, rfl, _⟩ <;> exact fun z => nomatch z
    | faults _ => exact fun z => nomatch z
    | bare _ => exact fun z => nomatch z
theorem part_len {w : Str} {t : Tr} (h : PartOk w t) : (J (partW w t)).length ≤ 200 := by
  rcases h with ⟨n, rfl, a, b⟩ | ⟨z, rfl, hz⟩ | ⟨fs, rfl, hw, hf⟩ | ⟨os, rfl, hw, ho⟩
  · show (sT (.i n)).length ≤ 200
    exact Nat.le_trans (wd_num (t := .i n) ⟨n, rfl, a, b⟩).le (by decide)
  · show z.length ≤ 200
    omega
  · rw [pw_flt hw]
    show (faultS fs).length ≤ 200
    exact Nat.le_trans (wd_flt hf).le (by decide)
  · rw [hw, show partW "ended" (.t os) = outW os from pw_end os]
    have := j_len (ws := outW os) (c := 40) fun x hx => (wd_out ho x hx).le
    have l2 : (outW os).length ≤ 2 := by
      cases ho with
      | value hv => rcases hv with ⟨n, rfl, _⟩ | ⟨z, rfl, _⟩ <;> exact Nat.le_refl 2
      | faults _ => exact Nat.le_refl 2
      | bare _ => exact Nat.le_succ 1
    omega
def markV : Tr → List V
  | .t xs => xs.map vT
  | _ => []
theorem mark_rep {H : Hp} {v : V} {m : Tr} (h : MarkOk m) (r : Rep H v m) : ∃ (b : Addr) (ys : List V), v = .ref b ∧ H b = some (.tup ys) ∧ markV m = ys ∧ ys.length = 3 := by
  cases h with
  | @mk a b z ha hb hz =>
    obtain ⟨p, xs, rfl, hp, hR⟩ := r.tupI
    have e := Reps.flatI hR fun t ht => by
      simp only [List.mem_cons, List.not_mem_nil, or_false] at ht
      rcases ht with rfl | rfl | rfl
      · exact ha.flat
      · exact hb.flat
      · rfl
    exact ⟨p, xs, rfl, hp, e.symm, by rw [e]; rfl⟩
theorem marks_len {ms : List Tr} (h : ∀ m ∈ ms, MarkOk m) : (ms.flatMap markV).length = 3 * ms.length := by
  induction ms with
  | nil => rfl
  | cons m r ih =>
    rw [List.flatMap_cons, List.length_append, ih fun x hx => h x (List.mem_cons_of_mem _ hx), List.length_cons]
    cases h m List.mem_cons_self
    show 3 + _ = _
    omega
theorem num_tv {lo hi : Int} {t : Tr} (h : Num lo hi t) (h0 : 0 ≤ lo := by decide) (h1 : hi ≤ 999999 := by decide) : TV (vT t) ∧ txt (vT t) = sT t := by
  obtain ⟨n, rfl, a, b⟩ := h
  exact ⟨.inl ⟨n, rfl, by omega, by omega⟩, rfl⟩
theorem marks_tv {ms : List Tr} (h : ∀ m ∈ ms, MarkOk m) : ∀ x ∈ ms.flatMap markV, TV x := fun x hx => by
  obtain ⟨m, hm, hx⟩ := List.mem_flatMap.mp hx
  cases h m hm with
  | mk ha hb hz =>
    simp only [markV, List.map_cons, List.map_nil, List.mem_cons, List.not_mem_nil, or_false] at hx
    rcases hx with rfl | rfl | rfl
    · exact (num_tv ha).1
    · exact (num_tv hb).1
    · rcases hz with rfl | rfl <;> exact .inr ⟨_, rfl, by decide +kernel⟩
theorem mark_txt {m : Tr} (h : MarkOk m) : (markV m).map txt = markW m := by
  cases h with
  | @mk a b z ha hb hz =>
    show [txt (vT a), txt (vT b), z] = [sT a, sT b, z]
    rw [(num_tv ha).2, (num_tv hb).2]
theorem marks_txt {ms : List Tr} (h : ∀ m ∈ ms, MarkOk m) : wordsS (ms.flatMap markV) = J (marksW ms) := by
  cases ms with
  | nil => rfl
  | cons m r =>
    have e : ((m :: r).flatMap markV).map txt = (m :: r).flatMap markW := by
      rw [List.map_flatMap]
      exact flatMap_congr' fun x hx => mark_txt (h x hx)
    have hl := marks_len h
    cases q : (m :: r).flatMap markV with
    | nil => rw [q, List.length_cons] at hl; cases hl
    | cons y ys =>
      rw [q] at e
      show J ((y :: ys).map txt) = J ((m :: r).flatMap markW)
      rw [e]
theorem who_flat {r : Row} (h : RowOk r) : flatT r.who = true := by
  rcases h.deed with ⟨e, _⟩ | ⟨e, _⟩ | ⟨q, _⟩
  · rw [e]; rfl
  · rw [e]; rfl
  · exact q.flat
theorem Num.part {lo hi : Int} {t : Tr} {w : Str} (h : Num lo hi t) (h0 : 0 ≤ lo := by decide) (h1 : hi ≤ 999999 := by decide) : PartOk w t := by
  obtain ⟨n, rfl, a, b⟩ := h
  exact .inl ⟨n, rfl, by omega, by omega⟩
theorem Nm.part {t : Tr} {w : Str} (h : Nm t) : PartOk w t := by
  have := (wd_nm h).le
  obtain ⟨z, rfl, _⟩ := h
  exact .inr (.inl ⟨z, rfl, this⟩)
theorem Told.part {t : Tr} {w : Str} (h : Told t) : PartOk w t := by
  rcases h with h | ⟨z, rfl, hz⟩
  · exact h.part
  · exact .inr (.inl ⟨z, rfl, by rcases hz with rfl | rfl <;> decide +kernel⟩)
theorem Flts.part {k : Nat} {fs : List Tr} {w : Str} (h : Flts k fs) (hw : w ≠ "ended") : PartOk w (.t fs) := .inr (.inr (.inl ⟨fs, rfl, hw, h.1, Nat.zero_le _, h.2.2⟩))
theorem p1 {w : Str} {a : Tr} (ha : PartOk w a) : ∀ t ∈ [a], PartOk w t := fun t ht => by rw [List.mem_singleton.mp ht]; exact ha
theorem pc {w : Str} {a : Tr} {r : List Tr} (ha : PartOk w a) (hr : ∀ t ∈ r, PartOk w t) : ∀ t ∈ a :: r, PartOk w t := fun t ht => by
  rcases List.mem_cons.mp ht with rfl | ht
  · exact ha
  · exact hr t ht
theorem deed_ok {r : Row} (h : RowOk r) : DeedOk r.deed := by
  have dk : ∀ {w : Str} {ts : List Tr}, wdB w = true → ts.length ≤ 6 → (∀ t ∈ ts, PartOk w t) → DeedOk (.s w :: ts) := fun hw hl hp => ⟨_, _, rfl, (wd_lit hw).le, hl, hp⟩
  rcases h.deed with ⟨_, q⟩ | ⟨_, q⟩ | ⟨_, q⟩ <;> generalize r.deed = d at q
  · cases q with
    | woke hn => exact dk (by decide +kernel) (show 1 ≤ 6 by decide) (p1 hn.part)
    | late hn hs => exact dk (by decide +kernel) (show 2 ≤ 6 by decide) (pc hn.part (p1 hs.part))
  · cases q with
    | ring ha => exact dk (by decide +kernel) (show 1 ≤ 6 by decide) (p1 ha.part)
    | send ha hv => exact dk (by decide +kernel) (show 2 ≤ 6 by decide) (pc ha.part (p1 hv.part))
    | off hn => exact dk (by decide +kernel) (show 1 ≤ 6 by decide) (p1 hn.part)
  · cases q with
    | line hw hl => exact dk (by rcases hw with rfl | rfl <;> decide +kernel) (show 1 ≤ 6 by decide) (p1 hl.part)
    | name hw hl ha => exact dk (by rcases hw with rfl | rfl | rfl | rfl <;> decide +kernel) (show 2 ≤ 6 by decide) (pc hl.part (p1 ha.part))
    | scope hw hl hs => exact dk (by rcases hw with rfl | rfl | rfl | rfl | rfl <;> decide +kernel) (show 2 ≤ 6 by decide) (pc hl.part (p1 hs.part))
    | send hl ha hv => exact dk (by decide +kernel) (show 3 ≤ 6 by decide) (pc hl.part (pc ha.part (p1 hv.part)))
    | two hw hl ha hb => exact dk (by rcases hw with rfl | rfl <;> decide +kernel) (show 3 ≤ 6 by decide) (pc hl.part (pc ha.part (p1 hb.part)))
    | begin hl ha hb hs hn => exact dk (by decide +kernel) (show 5 ≤ 6 by decide) (pc hl.part (pc ha.part (pc hb.part (pc hs.part (p1 hn.part)))))
    | limit hl hs hn => exact dk (by decide +kernel) (show 3 ≤ 6 by decide) (pc hl.part (pc hs.part (p1 hn.part)))
    | wait hl hn => exact dk (by decide +kernel) (show 2 ≤ 6 by decide) (pc hl.part (p1 hn.part))
    | halt hl hs hf => exact dk (by decide +kernel) (show 3 ≤ 6 by decide) (pc hl.part (pc hs.part (p1 (hf.part (by decide +kernel)))))
    | caught hl hf => exact dk (by decide +kernel) (show 2 ≤ 6 by decide) (pc hl.part (p1 (hf.part (by decide +kernel))))
    | ended hl ho => exact dk (by decide +kernel) (show 2 ≤ 6 by decide) (pc hl.part (p1 (.inr (.inr (.inr ⟨_, rfl, rfl, ho⟩)))))
theorem woken_txt {ms : List Tr} (h : ∀ m ∈ ms, Num 0 99 m) : wordsS (ms.map vT) = J (wokenW ms) := by
  cases ms with
  | nil => rfl
  | cons m r =>
    have e : ((m :: r).map vT).map txt = (m :: r).map sT := by
      rw [List.map_map]
      exact List.map_congr_left fun x hx => (num_tv (h x hx)).2
    show J (((m :: r).map vT).map txt) = J ((m :: r).map sT)
    rw [e]
theorem row_line {r : Row} (h : RowOk r) : Str.join ⟨#[32]⟩ [sT (.i r.tick), sT r.who, J (deedW r.deed), "/", J (marksW r.marks), "/", J (wokenW r.woken)] = r.line := by
  have m1 : marksW r.marks ≠ [] := by
    have q := h.marks.1
    generalize r.marks = ms at q
    cases ms with
    | nil => exact fun z => nomatch z
    | cons m ms =>
      have := (chunks_of q).2
      intro z
      rw [show (m :: ms).flatMap markW = [] from z, List.length_cons] at this
      cases this
  have m2 : wokenW r.woken ≠ [] := by
    generalize r.woken = ms
    cases ms <;> exact fun z => nomatch z
  have := j_flat (xss := [[sT (.i r.tick)], [sT r.who], deedW r.deed, [stk], marksW r.marks, [stk], wokenW r.woken]) fun xs hx => by
    simp only [List.mem_cons, List.not_mem_nil, or_false] at hx
    rcases hx with rfl | rfl | rfl | rfl | rfl | rfl | rfl
    · exact fun z => nomatch z
    · exact fun z => nomatch z
    · exact deed_ne (d := []) h
    · exact fun z => nomatch z
    · exact m1
    · exact fun z => nomatch z
    · exact m2
  refine Eq.trans this ?_
  show J _ = J r.words
  unfold Row.words
  simp only [List.flatten_cons, List.flatten_nil, List.append_nil, List.append_assoc, List.cons_append, List.nil_append]
theorem part_w2 {w : Str} {t : Tr} (h : PartOk w t) : (partW w t).length ≤ 2 ∧ ∀ x ∈ partW w t, x.length ≤ 40 := by
  rcases h with ⟨n, rfl, a, b⟩ | ⟨z, rfl, hz⟩ | ⟨fs, rfl, hw, hf⟩ | ⟨os, rfl, hw, ho⟩
  · refine ⟨show 1 ≤ 2 by decide, fun x hx => ?_⟩
    rw [List.mem_singleton.mp hx]
    exact (wd_num (t := .i n) ⟨n, rfl, a, b⟩).le
  · refine ⟨show 1 ≤ 2 by decide, fun x hx => ?_⟩
    rw [List.mem_singleton.mp hx]
    exact hz
  · rw [pw_flt hw]
    refine ⟨show 1 ≤ 2 by decide, fun x hx => ?_⟩
    rw [List.mem_singleton.mp hx]
    exact (wd_flt hf).le
  · rw [hw, show partW "ended" (.t os) = outW os from pw_end os]
    refine ⟨?_, fun x hx => (wd_out ho x hx).le⟩
    cases ho with
    | value hv => rcases hv with ⟨n, rfl, _⟩ | ⟨z, rfl, _⟩ <;> exact Nat.le_refl 2
    | faults _ => exact Nat.le_refl 2
    | bare _ => exact Nat.le_succ 1
theorem deed_len {d : List Tr} (h : DeedOk d) : (deedW d).length ≤ 13 ∧ ∀ x ∈ deedW d, x.length ≤ 40 := by
  obtain ⟨w, ts, rfl, hw, hl, hp⟩ := h
  have h1 : ∀ {ts : List Tr}, (∀ t ∈ ts, PartOk w t) → (ts.flatMap (partW w)).length ≤ 2 * ts.length := fun {ts} hp => by
    induction ts with
    | nil => exact Nat.le_refl _
    | cons t r ih =>
      rw [List.flatMap_cons, List.length_append, List.length_cons]
      have := (part_w2 (hp t List.mem_cons_self)).1
      have := ih fun x hx => hp x (List.mem_cons_of_mem _ hx)
      omega
  have h2 := h1 hp
  refine ⟨by show (ts.flatMap (partW w)).length + 1 ≤ 13; omega, fun x hx => ?_⟩
  rcases List.mem_cons.mp (show x ∈ w :: ts.flatMap (partW w) from hx) with rfl | hx
  · exact hw
  · obtain ⟨t, ht, hx⟩ := List.mem_flatMap.mp hx
    exact (part_w2 (hp t ht)).2 x hx
theorem marks_n {r : Row} (h : RowOk r) : (marksW r.marks).length ≤ 9 := by
  have q := h.marks
  generalize r.marks = ms at q
  cases ms with
  | nil => exact (show 1 ≤ 9 by decide)
  | cons m ms =>
    have e := (chunks_of q.1).2
    have := q.2
    show ((m :: ms).flatMap markW).length ≤ 9
    omega
theorem woken_n {r : Row} (h : RowOk r) : (wokenW r.woken).length ≤ 3 := by
  have q := h.woken
  generalize r.woken = ms at q
  cases ms with
  | nil => exact (show 1 ≤ 3 by decide)
  | cons m ms => show ((m :: ms).map sT).length ≤ 3; rw [List.length_map]; exact q.2
theorem words_len {r : Row} (h : RowOk r) : r.words.length ≤ 29 := by
  have h1 := (deed_len (deed_ok h)).1
  have h2 := marks_n h
  have h3 := woken_n h
  unfold Row.words
  simp only [List.length_append, List.length_cons, List.length_nil]
  omega
theorem line_len {r : Row} (h : RowOk r) : r.line.length ≤ 1200 := by
  have h1 := j_len (ws := r.words) (c := 40) fun x hx => ((row_back h).2.1 x hx).2.2
  have h2 := words_len h
  show (J r.words).length ≤ 1200
  omega
theorem row_sum {r : Row} (h : RowOk r) : (([sT (.i r.tick), sT r.who, J (deedW r.deed), "/", J (marksW r.marks), "/", J (wokenW r.woken)] : List Str).map (·.length)).sum + ([sT (.i r.tick), sT r.who, J (deedW r.deed), "/", J (marksW r.marks), "/", J (wokenW r.woken)] : List Str).length * (" " : Str).length ≤ 16777216 := by
  have hs := sum_lens (L := [sT (.i r.tick), sT r.who, J (deedW r.deed), "/", J (marksW r.marks), "/", J (wokenW r.woken)]) (c := 1000) fun l hl => by
    have d1 := deed_len (deed_ok h)
    have d2 := marks_n h
    have d3 := woken_n h
    simp only [List.mem_cons, List.not_mem_nil, or_false] at hl
    rcases hl with rfl | rfl | rfl | rfl | rfl | rfl | rfl
    · exact Nat.le_trans (wd_num (t := .i r.tick) ⟨_, rfl, h.tick.1, h.tick.2⟩).le (by decide)
    · exact Nat.le_trans (wd_who h).le (by decide)
    · have := j_len d1.2; omega
    · decide +kernel
    · have := j_len (ws := marksW r.marks) (c := 40) fun x hx => (wd_marks h.marks.1 x hx).le
      omega
    · decide +kernel
    · have := j_len (ws := wokenW r.woken) (c := 40) fun x hx => (wd_woken h.woken.1 x hx).le
      omega
  have h4 : (" " : Str).length = 1 := by decide +kernel
  rw [h4]
  simp only [List.length_cons, List.length_nil] at hs ⊢
  omega
theorem sqE_same {K : PySem.W.Frag} {tp : Bool} {H H' : Hp} {a : Addr} {xs : List V} (s : L2.Same H H') (h : SqE K tp H a xs) : SqE K tp H' a xs := by
  unfold SqE at h ⊢
  split at h
  · rename_i e
    rw [if_pos e]
    exact s.seqT h
  · rename_i e
    rw [if_neg e]
    exact s.seq h
def spWhoOf : Sp := fun vs H Q _ => ∃ z : Str, vs = [.str z] ∧ z.length ≤ 1000 ∧ ∀ (v : V) (H' : Hp), OT H' v (whoT z) → Same H H' → Q v H'
def spEndedOf : Sp := fun vs H Q _ => ∃ (a : Addr) (ws : List Str), vs = [.ref a] ∧ H a = some (.lst (ws.map V.str)) ∧ WsOk ws ∧ ∀ (v : V) (H' : Hp), OT H' v (endT ws) → Same H H' → Q v H'
def spDeedOf : Sp := fun vs H Q _ => ∃ (v : V) (who : Option Tr) (a : Addr) (ws : List Str), vs = [v, .ref a] ∧ OT H v who ∧ (∀ t, who = some t → flatT t = true) ∧ H a = some (.lst (ws.map V.str)) ∧ ws ≠ [] ∧ WsOk ws ∧ ∀ (u : V) (H' : Hp), OT H' u (deedT who ws) → Same H H' → Q u H'
def spAllOr : Sp := fun vs H Q _ => ∃ (a : Addr) (us : List V) (os : List (Option Tr)), vs = [.ref a] ∧ H a = some (.lst us) ∧ OTs H us os ∧ ∀ (v : V) (H' : Hp), OT H' v (allT os) → Same H H' → Q v H'
def spMarkedOf : Sp := fun vs H Q _ => ∃ (a : Addr) (ws : List Str), vs = [.ref a] ∧ H a = some (.lst (ws.map V.str)) ∧ WsOk ws ∧ ∀ (v : V) (H' : Hp), OT H' v (marksT ws) → Same H H' → Q v H'
def spWokenOf : Sp := fun vs H Q _ => ∃ (a : Addr) (ws : List Str), vs = [.ref a] ∧ H a = some (.lst (ws.map V.str)) ∧ WsOk ws ∧ ∀ (v : V) (H' : Hp), OT H' v (wokenT ws) → Same H H' → Q v H'
def spRowOf : Sp := fun vs H Q _ => ∃ z : Str, vs = [.str z] ∧ z.length ≤ 4000 ∧ (∀ w ∈ Txt.split z ⟨#[32]⟩, w.length ≤ 1000) ∧ ∀ (v : V) (H' : Hp), OT H' v (rowT (Txt.split z ⟨#[32]⟩)) → Same H H' → Q v H'
theorem fms_of {K : PySem.W.Frag} {a : Addr} {F : List Str} (h : ∀ H : Hp, SqT K H a (F.map V.str)) (h2 : F.length ≤ 30 ∧ (∀ f ∈ F, f.length ≤ 1000) ∧ ∀ f ∈ F, (Txt.split f ⟨#[32]⟩).length ≤ 1000 ∧ ∀ w ∈ Txt.split f ⟨#[32]⟩, w.length ≤ 1000) : FmsAt K a F := ⟨h, h2.1, h2.2.1, fun f hf => ⟨Nat.le_trans (h2.2.2 f hf).1 (by decide), (h2.2.2 f hf).2⟩⟩
theorem ers_ok : ERS.length ≤ 30 ∧ (∀ f ∈ ERS, f.length ≤ 1000) ∧ ∀ f ∈ ERS, (Txt.split f ⟨#[32]⟩).length ≤ 1000 ∧ ∀ w ∈ Txt.split f ⟨#[32]⟩, w.length ≤ 1000 := by decide +kernel
theorem cls_ok : CLS.length ≤ 30 ∧ (∀ f ∈ CLS, f.length ≤ 1000) ∧ ∀ f ∈ CLS, (Txt.split f ⟨#[32]⟩).length ≤ 1000 ∧ ∀ w ∈ Txt.split f ⟨#[32]⟩, w.length ≤ 1000 := by decide +kernel
theorem ous_ok : OUS.length ≤ 30 ∧ (∀ f ∈ OUS, f.length ≤ 1000) ∧ ∀ f ∈ OUS, (Txt.split f ⟨#[32]⟩).length ≤ 1000 ∧ ∀ w ∈ Txt.split f ⟨#[32]⟩, w.length ≤ 1000 := by decide +kernel
theorem ocs_ok : OCS.length ≤ 30 ∧ (∀ f ∈ OCS, f.length ≤ 1000) ∧ ∀ f ∈ OCS, (Txt.split f ⟨#[32]⟩).length ≤ 1000 ∧ ∀ w ∈ Txt.split f ⟨#[32]⟩, w.length ≤ 1000 := by decide +kernel
theorem mks_ok : MKS.length ≤ 30 ∧ (∀ f ∈ MKS, f.length ≤ 1000) ∧ ∀ f ∈ MKS, (Txt.split f ⟨#[32]⟩).length ≤ 1000 ∧ ∀ w ∈ Txt.split f ⟨#[32]⟩, w.length ≤ 1000 := by decide +kernel
theorem cut_nat (xs : List V) (i j : Nat) : cutV xs (some (i : Int)) (some (j : Int)) = (xs.take j).drop i := by
  unfold cutV
  have e1 : HT.sIx xs.length 0 (some (i : Int)) = min i xs.length := HT.sIx_nat _ _ i
  have e2 : HT.sIx xs.length xs.length (some (j : Int)) = min j xs.length := HT.sIx_nat _ _ j
  rw [e1, e2, List.drop_take]
  refine List.ext_getElem? fun k => ?_
  rw [List.getElem?_take, List.getElem?_take, List.getElem?_drop, List.getElem?_drop]
  by_cases h : i ≤ xs.length
  · rw [Nat.min_eq_left h]
    by_cases h2 : j ≤ xs.length
    · rw [Nat.min_eq_left h2]
    · rw [Nat.min_eq_right (by omega)]
      by_cases h3 : k < xs.length - i
      · rw [if_pos h3, if_pos (by omega)]
      · rw [if_neg h3, List.getElem?_eq_none (by omega)]
        split <;> rfl
  · have a : ∀ n, xs.length ≤ n → xs[n]? = none := fun n h => List.getElem?_eq_none h
    rw [Nat.min_eq_right (show xs.length ≤ i by omega), a (xs.length + k) (by omega), a (i + k) (by omega)]
    split <;> split <;> rfl
theorem cut_from (xs : List V) (i : Nat) : cutV xs (some (i : Int)) none = xs.drop i := by
  unfold cutV
  have e1 : HT.sIx xs.length 0 (some (i : Int)) = min i xs.length := HT.sIx_nat _ _ i
  rw [e1, HT.sIx_none]
  by_cases h : i ≤ xs.length
  · rw [Nat.min_eq_left h]
    exact List.take_of_length_le (by rw [List.length_drop]; exact Nat.le_refl _)
  · rw [Nat.min_eq_right (by omega), List.drop_of_length_le (Nat.le_refl _), List.drop_of_length_le (by omega)]
    exact List.take_nil
theorem WsOk.sub {ws us : List Str} (h : WsOk ws) (hs : ∀ w ∈ us, w ∈ ws) (hl : us.length ≤ ws.length) : WsOk us := ⟨Nat.le_trans hl h.1, fun w hw => h.2 w (hs w hw)⟩
theorem WsOk.drop {ws : List Str} (h : WsOk ws) (i : Nat) : WsOk (ws.drop i) := h.sub (fun w hw => List.mem_of_mem_drop hw) (by rw [List.length_drop]; omega)
theorem WsOk.take {ws : List Str} (h : WsOk ws) (i : Nat) : WsOk (ws.take i) := h.sub (fun w hw => List.mem_of_mem_take hw) (by rw [List.length_take]; omega)
theorem eq_dsh {K : PySem.W.Frag} {H : Hp} {a : Addr} {ws : List Str} {R : VK} (ha : H a = some (.lst (ws.map V.str))) (k : ∀ G', Same H G' → R (.bl (decide (ws = [dsh]))) G') : 1 ≤ sizeLine ∧ ∀ p, H p = none → rEqL K false (.ref a) (.ref p) (upd H p (.lst [.str "-"])) R := by
  refine ⟨by decide, fun p hp => ⟨a, p, ws.map V.str, [.str "-"], 1, fun i => match ws[i]? with | some z => z == dsh | none => true, rfl, rfl, SqL.of ((Same.upd hp) _ _ ha), SqL.of upd_same, by decide, fun i x y hx hy => ?_, ?_⟩⟩
  · rw [List.getElem?_map] at hx
    obtain ⟨z, hz, rfl⟩ := Option.map_eq_some_iff.mp hx
    cases i with
    | succ i => cases hy
    | zero =>
      cases hy
      have : EqD K (upd H p (.lst [.str "-"])) 1 (.str z) (.str "-") (eqV (.str z) (.str "-")) := .flat rfl rfl
      show EqD K _ 1 _ _ (match ws[0]? with | some z => z == dsh | none => true)
      rw [hz]
      exact this
  · have e : (false ^^ (decide ((ws.map V.str).length = ([V.str "-"] : List V).length) && (List.range (ws.map V.str).length).all fun i => match ws[i]? with | some z => z == dsh | none => true)) = decide (ws = [dsh]) := by
      cases ws with
      | nil => rfl
      | cons z r =>
        cases r with
        | cons y r => simp
        | nil =>
          show (false ^^ (true && (List.range 1).all _)) = _
          rw [Bool.false_xor, Bool.true_and, show List.range 1 = [0] from rfl]
          show ((z == dsh) && true) = _
          rw [Bool.and_true]
          by_cases h : z = dsh
          · subst h; simp
          · rw [show (z == dsh) = false by simpa using h, decide_eq_false (fun q => h (List.cons.inj q).1)]
    rw [e]
    exact k _ (Same.upd hp)
theorem chunks_at : ∀ {n i : Nat} {ws : List Str}, i < n → (chunks n ws)[i]? = some ((ws.drop (3 * i)).take 3)
  | n + 1, 0, ws, _ => rfl
  | n + 1, i + 1, ws, h => by
    show (chunks n (ws.drop 3))[i]? = _
    rw [chunks_at (Nat.lt_of_succ_lt_succ h), List.drop_drop, show 3 + 3 * i = 3 * (i + 1) by omega]
theorem chunks_n : ∀ {n : Nat} {ws : List Str}, (chunks n ws).length = n
  | 0, _ => rfl
  | n + 1, ws => by show (chunks n _).length + 1 = _; rw [chunks_n]
theorem one_stk : ∀ {ws : List Str}, 0 < ws.countP (· == stk) → ∃ A B, ws = A ++ stk :: B ∧ (∀ x ∈ A, x ≠ stk) ∧ ws.countP (· == stk) = B.countP (· == stk) + 1
  | [], h => nomatch h
  | z :: r, h => by
    by_cases e : z = stk
    · subst e
      exact ⟨[], r, rfl, (fun _ h => nomatch h), by rw [List.countP_cons, if_pos (beq_self_eq_true _)]⟩
    · have e' : (z == stk) = false := by simpa using e
      rw [List.countP_cons, e'] at h
      obtain ⟨A, B, e1, e2, e3⟩ := one_stk (ws := r) (by simpa using h)
      refine ⟨z :: A, B, by rw [e1]; rfl, fun x hx => ?_, by rw [List.countP_cons, e', e3]; rfl⟩
      rcases List.mem_cons.mp hx with rfl | hx
      · exact e
      · exact e2 x hx
theorem two_stk {ws : List Str} (h : ws.countP (· == stk) = 2) : ∃ A B C, ws = A ++ stk :: (B ++ stk :: C) ∧ (∀ x ∈ A, x ≠ stk) ∧ (∀ x ∈ B, x ≠ stk) := by
  obtain ⟨A, B, e1, e2, e3⟩ := one_stk (ws := ws) (by omega)
  obtain ⟨B', C, f1, f2, f3⟩ := one_stk (ws := B) (by omega)
  exact ⟨A, B', C, by rw [e1, f1], e2, f2⟩
theorem idx_stk {A B : List Str} (h : ∀ x ∈ A, x ≠ stk) : (A ++ stk :: B).idxOf stk = A.length := by
  induction A with
  | nil => show (stk :: B).idxOf stk = 0; rw [List.idxOf_cons, beq_self_eq_true]; rfl
  | cons a A ih =>
    rw [List.cons_append, List.idxOf_cons, show (a == stk) = false by simpa using h a List.mem_cons_self, ih fun x hx => h x (List.mem_cons_of_mem _ hx)]
    rfl
theorem drop_past {A B : List Str} {z : Str} : (A ++ z :: B).drop (A.length + 1) = B := by
  rw [List.drop_append, List.drop_of_length_le (by omega), List.nil_append, show A.length + 1 - A.length = 1 by omega]
  rfl
theorem rowT_two {A B C : List Str} (h : (A ++ stk :: (B ++ stk :: C)).countP (· == stk) = 2) (hA : ∀ x ∈ A, x ≠ stk) (hB : ∀ x ∈ B, x ≠ stk) : rowT (A ++ stk :: (B ++ stk :: C)) =
    if 3 ≤ A.length then (allO [fieldT "TICK" (A.getD 0 ""), whoT (A.getD 1 ""), deedT (whoT (A.getD 1 "")) (A.drop 2), marksT B, wokenT C]).map .t else none := by
  have i1 := idx_stk (A := A) (B := B ++ stk :: C) hA
  have i2 := idx_stk (A := B) (B := C) hB
  unfold rowT
  rw [i1]
  by_cases h3 : 3 ≤ A.length
  · have g : ∀ i, i < A.length → (A ++ stk :: (B ++ stk :: C)).getD i "" = A.getD i "" := fun i hi => by
      rw [List.getD_eq_getElem?_getD, List.getD_eq_getElem?_getD, List.getElem?_append_left hi]
    rw [if_pos ⟨h, h3⟩, if_pos h3, drop_past, i2, drop_past, g 0 (by omega), g 1 (by omega), List.take_left, List.take_left]
  · rw [if_neg (fun q => h3 q.2), if_neg h3]
theorem who_fl {z : Str} {t : Tr} (h : whoT z = some t) : flatT t = true := by
  unfold whoT at h
  split at h
  · cases h; rfl
  · unfold fieldT at h
    rw [errB] at h
    have h' : bndT z 0 99 = some t := h
    unfold bndT at h'
    split at h'
    · split at h'
      · cases h'; rfl
      · cases h'
    · cases h'
theorem rowT_no {ws : List Str} (h : ¬ ws.countP (· == stk) = 2) : rowT ws = none := if_neg fun q => h q.1
theorem cutA {A D : List Str} : cutV ((A ++ D).map V.str) (some 2) (some (A.length : Int)) = (A.drop 2).map V.str := by
  have := cut_nat ((A ++ D).map V.str) 2 A.length
  rw [← List.map_take, List.take_left, ← List.map_drop] at this
  exact this
theorem cutB {A B C : List Str} : cutV ((A ++ stk :: (B ++ stk :: C)).map V.str) (some ((A.length : Int) + 1)) (some ((A.length + 1 + B.length : Nat) : Int)) = B.map V.str := by
  have := cut_nat ((A ++ stk :: (B ++ stk :: C)).map V.str) (A.length + 1) (A.length + 1 + B.length)
  have e : A ++ stk :: (B ++ stk :: C) = (A ++ stk :: B) ++ stk :: C := by simp
  have l : A.length + 1 + B.length = (A ++ stk :: B).length := by rw [List.length_append, List.length_cons]; omega
  rw [show (((A.length + 1 : Nat)) : Int) = (A.length : Int) + 1 by omega] at this
  rw [this, ← List.map_take, e, l, List.take_left, ← List.map_drop, drop_past]
theorem cutC {A B C : List Str} : cutV ((A ++ stk :: (B ++ stk :: C)).map V.str) (some (((A.length + 1 + B.length : Nat) : Int) + 1)) none = C.map V.str := by
  have := cut_from ((A ++ stk :: (B ++ stk :: C)).map V.str) (A.length + 1 + B.length + 1)
  have e : A ++ stk :: (B ++ stk :: C) = (A ++ stk :: B) ++ stk :: C := by simp
  have l : A.length + 1 + B.length = (A ++ stk :: B).length := by rw [List.length_append, List.length_cons]; omega
  rw [show (((A.length + 1 + B.length + 1 : Nat)) : Int) = ((A.length + 1 + B.length : Nat) : Int) + 1 by omega] at this
  rw [this, ← List.map_drop, e, l, drop_past]
theorem join_e0 : Str.join "" [] = ("" : Str) := by decide +kernel
theorem book_len {rs : List Row} (h : ∀ r ∈ rs, RowOk r) (hl : rs.length ≤ 20) : (bookS rs).length ≤ 30000 := by
  have h1 := join_le "" (rs.map fun r => r.line ++ ("\n" : Str))
  have h2 := sum_lens (L := rs.map fun r => r.line ++ ("\n" : Str)) (c := 1300) fun l hm => by
    obtain ⟨r, hr', rfl⟩ := List.mem_map.mp hm
    have := line_len (h r hr')
    rw [app_len, show ("\n" : Str).length = 1 by decide +kernel]
    omega
  rw [show ("" : Str).length = 0 by decide +kernel] at h1
  rw [List.length_map] at h1 h2
  show (Txt.join "" _).length ≤ _
  omega
def spMixed : Sp := fun vs H Q _ => ∃ c k : Int, vs = [.int c, .int k] ∧ ∀ r : Int, 0 ≤ r → r < 2147483647 → Q (.int r) H
def spStream : Sp := fun vs H Q _ => ∃ c p m : Int, vs = [.int c, .int p, .int m] ∧ 0 ≤ m ∧ m ≤ 100 ∧ ∀ (l : Addr) (ns : List Int) (H' : Hp), H l = none → (ns.length : Int) = m → (∀ n ∈ ns, 0 ≤ n ∧ n < 2147483647) → H' l = some (.lst (ns.map V.int)) → Same H H' → Q (.ref l) H'
def spLName : Sp := fun vs H Q _ => ∃ x : Int, vs = [.int x] ∧ ∀ (z : Str) (H' : Hp), z ∈ NAM → Same H H' → Q (.str z) H'
def spLValue : Sp := fun vs H Q _ => ∃ x : Int, vs = [.int x] ∧ ∀ (t : Tr) (H' : Hp), Told t → Same H H' → Q (vT t) H'
def spLNumber : Sp := fun vs H Q _ => ∃ x lo hi : Int, vs = [.int x, .int lo, .int hi] ∧ lo + 8 ≤ hi ∧ ∀ (n : Int) (H' : Hp), lo ≤ n → n ≤ hi → Same H H' → Q (.int n) H'
def spLFaults : Sp := fun vs H Q _ => ∃ (x : Int) (k : Nat), vs = [.int x, .int k] ∧ k ≤ 1 ∧ ∀ (v : V) (fs : List Tr) (H' : Hp), Rep H' v (.t fs) → Flts k fs → Same H H' → Q v H'
def spLErrand : Sp := fun vs H Q _ => ∃ (a : Addr) (ns : List Int), vs = [.ref a] ∧ H a = some (.lst (ns.map V.int)) ∧ ns.length = 12 ∧ ∀ (v : V) (d : List Tr) (H' : Hp), Rep H' v (.t d) → DeedE d → Same H H' → Q v H'
def spLRow : Sp := fun vs H Q _ => ∃ c p : Int, vs = [.int c, .int p] ∧ ∀ (v : V) (r : Row) (H' : Hp), Rep H' v r.tr → RowOk r → Same H H' → Q v H'
inductive PartK : Nat → Tr → Str → Prop
  | int {k : Nat} {n : Int} : 0 ≤ n → n ≤ 999999 → PartK k (.i n) (txt (.int n))
  | str {k : Nat} {z : Str} : z.length ≤ 40 → PartK k (.s z) z
  | flt {k : Nat} {fs : List Tr} : Flts 0 fs → PartK k (.t fs) (faultS fs)
  | out {k : Nat} {os : List Tr} : OutOk os → PartK (k + 1) (.t os) (J (outW os))
def spLWord (k : Nat) : Sp := fun vs H Q _ => ∃ (v : V) (t : Tr) (z : Str), vs = [v] ∧ Rep H v t ∧ PartK k t z ∧ ∀ H', Same H H' → Q (.str z) H'
def spLWordD : Nat → Sp
  | 0 => spNo
  | k + 1 => spLWord k
def spLLine : Sp := fun vs H Q _ => ∃ (v : V) (r : Row), vs = [v] ∧ Rep H v r.tr ∧ RowOk r ∧ ∀ H', Same H H' → Q (.str r.line) H'
theorem kp {G : Hp} {x q : Addr} {o o' : HO} (e : G x = some o) (hq : G q = none) : upd G q o' x = some o := (Same.upd hq) _ _ e
theorem sk {H G : Hp} {q : Addr} {o : HO} (s : Same H G) (hq : G q = none) : Same H (upd G q o) := s.trans (Same.upd hq)
theorem rk {G : Hp} {v : V} {t : Tr} {q : Addr} {o : HO} (r : Rep G v t) (hq : G q = none) : Rep (upd G q o) v t := r.sameT (sameT_of (Same.upd hq))
theorem rp2 {H : Hp} {a b : V} {s t : Tr} (h1 : Rep H a s) (h2 : Rep H b t) : Reps H [a, b] [s, t] := ((Reps.nil _).snoc h1).snoc h2
theorem rp3 {H : Hp} {a b c : V} {s t u : Tr} (h1 : Rep H a s) (h2 : Rep H b t) (h3 : Rep H c u) : Reps H [a, b, c] [s, t, u] := (rp2 h1 h2).snoc h3
theorem rp4 {H : Hp} {a b c d : V} {s t u w : Tr} (h1 : Rep H a s) (h2 : Rep H b t) (h3 : Rep H c u) (h4 : Rep H d w) : Reps H [a, b, c, d] [s, t, u, w] := (rp3 h1 h2 h3).snoc h4
theorem rp6 {H : Hp} {a b c d e f : V} {s t u w x y : Tr} (h1 : Rep H a s) (h2 : Rep H b t) (h3 : Rep H c u) (h4 : Rep H d w) (h5 : Rep H e x) (h6 : Rep H f y) : Reps H [a, b, c, d, e, f] [s, t, u, w, x, y] := ((rp4 h1 h2 h3 h4).snoc h5).snoc h6
theorem told_rep {H : Hp} {t : Tr} (h : Told t) : Rep H (vT t) t := by
  rcases h with ⟨n, rfl, _⟩ | ⟨z, rfl, _⟩
  · exact .i n
  · exact .s z
theorem catT0_any {K : PySem.W.Frag} {H : Hp} {a b : Addr} {xs ys : List V} {Q : VK} (ha : H a = some (.tup xs)) (hb : H b = some (.tup ys)) (hne : xs ≠ []) (hl : xs.length + ys.length ≤ sizeLine) (k : ∀ (p : Addr) (H' : Hp), H' p = some (.tup (xs ++ ys)) → Same H H' → Q (.ref p) H') : rCatT0 K (.ref a) (.ref b) H Q :=
  .inl ⟨a, b, xs, ys, rfl, rfl, SqT.of ha, SqT.of hb, hne, hl, fun e => k a H (by rw [e, List.append_nil]; exact ha) (Same.refl H), fun _ p hp => k p _ upd_same (Same.upd hp)⟩
theorem nums_reps {H : Hp} {vs : List Tr} (h : ∀ m ∈ vs, Num 0 99 m) : Reps H (vs.map vT) vs := by
  refine ⟨by rw [List.length_map], fun i x t hx ht => ?_⟩
  rw [List.getElem?_map, ht] at hx
  cases hx
  obtain ⟨n, rfl, _⟩ := h t (List.mem_of_getElem? ht)
  exact .i n
theorem in_vol {K : PySem.W.Frag} {G : Hp} {z : Str} {R : VK} (k : ∀ G', Same G G' → R (.bl (decide (z ∈ (["value", "off", "late"] : List Str)))) G') : 3 ≤ sizeLine ∧ ∀ p, G p = none → rIn K false (.str z) (.ref p) (upd G p (.tup [.str "value", .str "off", .str "late"])) R := by
  refine ⟨by decide, fun p hp => ⟨p, _, rfl, .inr (SqT.of upd_same), rfl, rfl, ?_⟩⟩
  rw [if_neg Bool.false_ne_true, show ([V.str "value", V.str "off", V.str "late"] : List V) = (["value", "off", "late"] : List Str).map V.str from rfl, inV_strs]
  exact k _ (Same.upd hp)
theorem nam_vol : ∀ z ∈ NAM, z ∉ (["value", "off", "late"] : List Str) ∧ z ≠ "faults" := by decide +kernel
theorem part_k {w : Str} {t : Tr} (h : PartOk w t) : PartK 1 t (J (partW w t)) := by
  rcases h with ⟨n, rfl, a, b⟩ | ⟨z, rfl, hz⟩ | ⟨fs, rfl, hw, hf⟩ | ⟨os, rfl, hw, ho⟩
  · exact .int a b
  · exact .str hz
  · rw [pw_flt hw]; exact .flt hf
  · rw [hw, show partW "ended" (.t os) = outW os from pw_end os]; exact .out ho
theorem out_two {os : List Tr} (h : OutOk os) : (∃ z r, os = .s z :: r ∧ z ∈ (["value", "off", "late"] : List Str) ∧ (∀ t ∈ os, (∃ n, t = .i n ∧ 0 ≤ n ∧ n ≤ 999999) ∨ ∃ y, t = .s y) ∧ (∀ t ∈ os, (sT t).length ≤ 40) ∧ os.length ≤ 2 ∧ outW os = os.map sT) ∨ ∃ fs, os = [.s "faults", .t fs] ∧ Flts 1 fs := by
  cases h with
  | @value v hv =>
    have e : outW [.s "value", v] = [Tr.s "value", v].map sT := by rcases hv with ⟨n, rfl, _⟩ | ⟨z, rfl, _⟩ <;> rfl
    refine .inl ⟨_, _, rfl, by decide +kernel, fun t ht => ?_, fun t ht => ?_, Nat.le_refl 2, e⟩
    · rcases List.mem_cons.mp ht with rfl | ht
      · exact .inr ⟨_, rfl⟩
      · rw [List.mem_singleton.mp ht]
        rcases hv with ⟨n, rfl, a, b⟩ | ⟨z, rfl, _⟩
        · exact .inl ⟨n, rfl, a, b⟩
        · exact .inr ⟨_, rfl⟩
    · rcases List.mem_cons.mp ht with rfl | ht
      · decide +kernel
      · rw [List.mem_singleton.mp ht]; exact (wd_told hv).le
  | @faults fs hf => exact .inr ⟨fs, rfl, hf⟩
  | @bare z hz =>
    refine .inl ⟨z, [], rfl, by rcases hz with rfl | rfl <;> decide +kernel, fun t ht => ?_, fun t ht => ?_, Nat.le_succ 1, rfl⟩
    · rw [List.mem_singleton.mp ht]; exact .inr ⟨_, rfl⟩
    · rw [List.mem_singleton.mp ht]; rcases hz with rfl | rfl <;> decide +kernel
theorem str_alt {A : Str → Prop} {t : Tr} (hf : flatT t = true) (hb : ∀ n, t = .i n → 0 ≤ n ∧ n ≤ 999999) (k : A (sT t)) : (∃ z, vT t = .str z ∧ A z) ∨ ∃ i : Int, vT t = .int i ∧ i.natAbs.log2 < 1920 ∧ A (Str.ofString (toString i)) := by
  cases t with
  | i n => exact .inr ⟨n, rfl, log_lt (hb n rfl).1 (by have := (hb n rfl).2; omega), k⟩
  | s z => exact .inl ⟨z, rfl, k⟩
  | t _ => cases hf
theorem asc (a b c : Str) : a ++ b ++ c = a ++ (b ++ c) := str_eq (by simp only [cps_app, List.append_assoc])
theorem jS {A B : List Str} (hA : A ≠ []) (hB : B ≠ []) : J A ++ (" " : Str) ++ J B = J (A ++ B) := by rw [j_app hA hB, sp_is]
theorem jS1 {A : List Str} (hA : A ≠ []) (z : Str) : J A ++ (" " : Str) ++ z = J (A ++ [z]) := jS hA (B := [z]) (List.cons_ne_nil _ _)
theorem j_stk {A : List Str} (hA : A ≠ []) : J A ++ (" /" : Str) = J (A ++ [stk]) := by
  rw [← jS1 hA, show (" /" : Str) = (" " : Str) ++ stk by decide +kernel]
  exact (asc _ _ _).symm
theorem j_dsh {A : List Str} (hA : A ≠ []) : J A ++ (" -" : Str) = J (A ++ [dsh]) := by
  rw [← jS1 hA, show (" -" : Str) = (" " : Str) ++ dsh by decide +kernel]
  exact (asc _ _ _).symm
theorem pre_len {r : Row} (h : RowOk r) {A B : List Str} (e : r.words = A ++ B) : (J A).length ≤ 1200 := by
  have h1 := j_len (ws := A) (c := 40) fun x hx => ((row_back h).2.1 x (by rw [e]; exact List.mem_append_left _ hx)).2.2
  have h2 := words_len h
  rw [e, List.length_append] at h2
  have h3 : A.length * 41 ≤ 29 * 41 := Nat.mul_le_mul_right _ (by omega)
  omega
theorem app_ne {A B : List Str} (h : A ≠ []) : A ++ B ≠ [] := fun e => h (List.append_eq_nil_iff.mp e).1
theorem fm_cut {f : Tr → List Str} {ts : List Tr} (i : Nat) : ts.flatMap f = (ts.take i).flatMap f ++ (ts.drop i).flatMap f := by rw [← List.flatMap_append, List.take_append_drop]
theorem fm_snoc {f : Tr → List Str} {ts : List Tr} {i : Nat} {t : Tr} (h : ts[i]? = some t) : (ts.take (i + 1)).flatMap f = (ts.take i).flatMap f ++ f t := by rw [take_snoc' h, List.flatMap_append]; simp
theorem for_ixT {K : PySem.W.Frag} {a b : Addr} {vs xs : List V} {g : TG} {tb : TS} {D : Ends} {σ : St} {H : Hp} (n : Nat) (ha : H a = some (.tup vs)) (hn : vs[n]? = some (.ref b)) (hb : H b = some (.tup xs)) (Pv : Nat → St → Hp → Prop) (h0 : Pv 0 (some (.ref a) :: σ) H) (hl : ∀ i σ H, i ≤ xs.length → Pv i σ H → SqT K H b xs)
    (hs : ∀ i x σ H, xs[i]? = some x → Pv i σ H → g x σ H fun σ2 H2 => tb { D with nx := Pv (i + 1), ct := Pv (i + 1), bk := D.nx } σ2 H2) (hd : ∀ σ H, Pv xs.length σ H → D.nx σ H) : tFor (iTup K (tOp (rIxT K) (tVar 0) (tC (.int (n : Nat))))) g tb D (some (.ref a) :: σ) H := by
  have h := for_tup (K := K) (a := b) (xs := xs) (g := g) (tb := tb) (D := D) Pv h0 hl hs hd
  unfold tFor iTup
  simp only [tOp, tVar, tC, List.getElem?_cons_zero, Option.some.injEq, exists_eq_left']
  exact ixT ha n hn ⟨b, rfl, ⟨xs, SqT.of hb⟩, h⟩
def Row.hd (r : Row) : List Str := [sT (.i r.tick), sT r.who]
theorem Row.hd_ne (r : Row) : r.hd ≠ [] := List.cons_ne_nil _ _
theorem Row.words_hd (r : Row) : r.words = r.hd ++ deedW r.deed ++ [stk] ++ marksW r.marks ++ [stk] ++ wokenW r.woken := rfl
theorem marksW_ne {ms : List Tr} (h : ms ≠ []) : marksW ms = ms.flatMap markW := by
  cases ms with
  | nil => exact absurd rfl h
  | cons m ms => rfl
theorem wokenW_ne {ms : List Tr} (h : ms ≠ []) : wokenW ms = ms.map sT := by
  cases ms with
  | nil => exact absurd rfl h
  | cons m ms => rfl
theorem Reps.nil_iff {H : Hp} {us : List V} {ts : List Tr} (h : Reps H us ts) : us = [] ↔ ts = [] := by
  have := h.1
  constructor
  · rintro rfl; exact List.eq_nil_of_length_eq_zero this.symm
  · rintro rfl; exact List.eq_nil_of_length_eq_zero this
def spLaw (K : PySem.W.Frag) : Sp := fun vs H Q _ => ∃ (a : Addr) (ns : List Int), vs = [.ref a] ∧ SqL K H a (ns.map V.int) ∧ ns.length ≤ 63 ∧ ∀ H', Q (.bl true) H'
noncomputable def eqB (t u : Tr) : Bool := @decide (t = u) (Classical.propDecidable _)
theorem sqE_t {K : PySem.W.Frag} {H : Hp} {a : Addr} {xs : List V} (h : H a = some (.tup xs)) : SqE K true H a xs := by unfold SqE; rw [if_pos rfl]; exact SqT.of h
theorem allO_of_mem {os : List (Option Tr)} (h : none ∈ os) : (allO os).map Tr.t = none := by rw [allO_none h]; rfl
theorem rowT_tick {ws : List Str} (h : fieldT "TICK" (ws.getD 0 "") = none) : rowT ws = none := by
  unfold rowT
  split
  · rw [h]; exact allO_of_mem List.mem_cons_self
  · rfl
theorem rowT_who {ws : List Str} (h : whoT (ws.getD 1 "") = none) : rowT ws = none := by
  unfold rowT
  split
  · rw [h]; exact allO_of_mem (List.mem_cons_of_mem _ List.mem_cons_self)
  · rfl
theorem woken_no {C : List Str} (h : C ≠ [dsh]) {z : Str} (hz : z ∈ C) (hn : fieldT "ERRAND" z = none) : wokenT C = none := by
  unfold wokenT
  rw [if_neg h]
  have hm : none ∈ C.map (fieldT "ERRAND") := List.mem_map.mpr ⟨z, hz, hn⟩
  cases e : C.map (fieldT "ERRAND") with
  | nil => rfl
  | cons o r =>
    show (allO (o :: r)).map Tr.t = none
    rw [e] at hm
    exact allO_of_mem hm
theorem rowT_woken {A B C : List Str} (hA : ∀ x ∈ A, Wd x) (hB : ∀ x ∈ B, Wd x) (hC : ∀ x ∈ C, x ≠ stk) (h : wokenT C = none) : rowT (A ++ stk :: (B ++ stk :: C)) = none := by
  have c0 : C.countP (· == stk) = 0 := List.countP_eq_zero.mpr fun x hx => by simpa using hC x hx
  have c : (A ++ stk :: (B ++ stk :: C)).countP (· == stk) = 2 := by
    rw [List.countP_append, List.countP_cons, List.countP_append, List.countP_cons, cnt_none hA, cnt_none hB, c0, if_pos (beq_self_eq_true _)]
  rw [rowT_two c (fun x hx => (hA x hx).ns) (fun x hx => (hB x hx).ns)]
  split
  · rw [h]; exact allO_of_mem (by simp)
  · rfl
theorem fld_e {slot z : Str} {b : Int × Int} (h : bndsOf slot = some b) (hn : numW z = none) : fieldT slot z = none := by
  unfold fieldT
  rw [h]
  show bndT z _ _ = none
  unfold bndT
  rw [hn]
theorem who_e {z : Str} (h1 : z ≠ "clock") (h2 : z ≠ "outside") (hn : numW z = none) : whoT z = none := by
  unfold whoT
  rw [if_neg (fun q => q.elim h1 h2)]
  exact fld_e errB hn
theorem num_zero {z : Str} (h : 1 ≤ z.length) : numW (("0" : Str) ++ z) = none := by
  have e1 : Txt.startswith (("0" : Str) ++ z) "0" = true := by
    rw [show ("0" : Str) = ⟨#[48]⟩ by decide +kernel]
    rw [starts_at (a := 48) (r := z.cps.toList) (by rw [cps_app]; rfl)]
    rfl
  have e2 : ("0" : Str) ++ z ≠ "0" := fun e => by
    have := congrArg Str.length e
    rw [app_len, show ("0" : Str).length = 1 by decide +kernel] at this
    omega
  unfold numW
  rw [if_pos (c := Txt.startswith (("0" : Str) ++ z) "0" = true ∧ ("0" : Str) ++ z ≠ "0") ⟨e1, e2⟩]
  split <;> rfl
theorem num_sign {z p : Str} {c : Nat} (hp : c ∈ p.cps.toList) (hc : ¬ (48 ≤ c ∧ c ≤ 57)) : numW (p ++ z) = none := num_low (c := c) (by rw [cps_app]; exact List.mem_append_left _ hp) hc
theorem row_runs {r : Row} (h : RowOk r) : ∃ A, r.words = (sT (.i r.tick) :: A) ++ stk :: (marksW r.marks ++ stk :: wokenW r.woken) ∧ (∀ x ∈ sT (.i r.tick) :: A, Wd x) ∧ 1 ≤ A.length := by
  have hk : Num 0 99999 (.i r.tick) := ⟨_, rfl, h.tick.1, h.tick.2⟩
  refine ⟨sT r.who :: deedW r.deed, ?_, fun x hx => ?_, Nat.succ_le_succ (Nat.zero_le _)⟩
  · unfold Row.words
    simp only [List.append_assoc, List.cons_append, List.nil_append]
  · rcases List.mem_cons.mp hx with rfl | hx
    · exact wd_num hk
    · rcases List.mem_cons.mp hx with rfl | hx
      · exact wd_who h
      · exact wd_deedR h x hx
structure Spo (ws : List Str) : Prop where
  g : ∀ w ∈ ws, w.length ≤ 42 ∧ (10 : Nat) ∉ w.cps.toList
  n : ws.length ≤ 70
  no : rowT ws = none
theorem spoil_first {r : Row} (h : RowOk r) {p : Str} (hb : (32 : Nat) ∉ p.cps.toList) (h10 : (10 : Nat) ∉ p.cps.toList) (hl1 : p.length ≤ 1) (hn : numW (p ++ sT (.i r.tick)) = none) : Spo (Txt.split (p ++ r.line) ⟨#[32]⟩) := by
  obtain ⟨A, e, hA, hl⟩ := row_runs h
  have e2 : p ++ r.line = Str.join ⟨#[32]⟩ ((p ++ sT (.i r.tick)) :: (A ++ stk :: (marksW r.marks ++ stk :: wokenW r.woken))) := by
    show p ++ Str.join ⟨#[32]⟩ r.words = _
    rw [e]
    cases A with
    | nil => exact absurd hl (by decide)
    | cons a A =>
      show p ++ (sT (.i r.tick) ++ ⟨#[32]⟩ ++ Str.join ⟨#[32]⟩ _) = p ++ sT (.i r.tick) ++ ⟨#[32]⟩ ++ Str.join ⟨#[32]⟩ _
      refine str_eq ?_
      simp only [cps_app, List.append_assoc]
      rfl
  have hw := (row_back h).2.1
  rw [e2, split_join (l := (p ++ sT (.i r.tick)) :: (A ++ stk :: (marksW r.marks ++ stk :: wokenW r.woken))) (List.cons_ne_nil _ _) fun a ha => ?_]
  · refine ⟨fun x hx => ?_, ?_, rowT_tick (show fieldT "TICK" (p ++ sT (.i r.tick)) = none from fld_e tickB hn)⟩
    · rcases List.mem_cons.mp hx with rfl | hx
      · have q := hA _ List.mem_cons_self
        refine ⟨?_, fun m => ?_⟩
        · rw [app_len]; have := q.le; omega
        · rw [cps_app] at m
          rcases List.mem_append.mp m with m | m
          · exact h10 m
          · exact q.nl m
      · have q := hw x (by rw [e]; exact List.mem_cons_of_mem _ hx)
        exact ⟨Nat.le_trans q.2.2 (by decide), q.2.1⟩
    · have q := words_len h
      rw [e, List.cons_append, List.length_cons] at q
      rw [List.length_cons]
      omega
  · rcases List.mem_cons.mp ha with rfl | ha
    · rw [cps_app]
      intro m
      rcases List.mem_append.mp m with m | m
      · exact hb m
      · exact (hA _ List.mem_cons_self).nb m
    · exact (hw a (by rw [e]; exact List.mem_cons_of_mem _ ha)).1
theorem spoil_last {r : Row} (h : RowOk r) {z : Str} (hb : (32 : Nat) ∉ z.cps.toList) (h10 : (10 : Nat) ∉ z.cps.toList) (hl1 : z.length ≤ 1) (hs : z ≠ stk) (hn : numW z = none) : Spo (Txt.split (r.line ++ (⟨#[32]⟩ ++ z)) ⟨#[32]⟩) := by
  obtain ⟨A, e, hA, hl⟩ := row_runs h
  have e1 : r.line ++ (⟨#[32]⟩ ++ z) = r.line ++ ⟨#[32]⟩ ++ z := (asc _ _ _).symm
  rw [e1, split_two, (line_split h).1, split_one hb]
  refine ⟨fun x hx => ?_, ?_, ?_⟩
  · rcases List.mem_append.mp hx with q | q
    · have q := (row_back h).2.1 x q
      exact ⟨Nat.le_trans q.2.2 (by decide), q.2.1⟩
    · rw [List.mem_singleton.mp q]
      exact ⟨Nat.le_trans hl1 (by decide), h10⟩
  · have q := words_len h
    rw [List.length_append, List.length_singleton]
    omega
  rw [e]
  have e3 : sT (.i r.tick) :: A ++ stk :: (marksW r.marks ++ stk :: wokenW r.woken) ++ [z] = (sT (.i r.tick) :: A) ++ stk :: (marksW r.marks ++ stk :: (wokenW r.woken ++ [z])) := by simp only [List.append_assoc, List.cons_append]
  rw [e3]
  refine rowT_woken hA (wd_marks h.marks.1) (fun x hx => ?_) (woken_no (z := z) (fun q => ?_) (by simp) (fld_e errB hn))
  · rcases List.mem_append.mp hx with q | q
    · exact (wd_woken h.woken.1 x q).ns
    · rw [List.mem_singleton.mp q]; exact hs
  · have := congrArg List.length q
    have n0 : wokenW r.woken ≠ [] := by
      cases r.woken with
      | nil => exact fun z => nomatch z
      | cons m ms => exact fun z => nomatch z
    have := List.length_pos_iff.mpr n0
    simp only [List.length_append, List.length_cons, List.length_nil] at *
    omega
theorem two_blanks (a t : Str) : a ++ ⟨#[32, 32]⟩ ++ t = a ++ ⟨#[32]⟩ ++ (("" : Str) ++ ⟨#[32]⟩ ++ t) := by
  refine str_eq ?_
  simp only [cps_app, List.append_assoc, show (Str.ofString "").cps.toList = [] by decide +kernel]
  rfl
theorem split_e : Txt.split ("" : Str) ⟨#[32]⟩ = [("" : Str)] := by decide +kernel
theorem blanks_in {ws : List Str} (h : ws ≠ []) (hb : ∀ w ∈ ws, (32 : Nat) ∉ w.cps.toList) : (∀ x ∈ Txt.split (Str.join ⟨#[32, 32]⟩ ws) ⟨#[32]⟩, x ∈ ws ∨ x = "") ∧ (Txt.split (Str.join ⟨#[32, 32]⟩ ws) ⟨#[32]⟩).length ≤ 2 * ws.length := by
  induction ws with
  | nil => exact absurd rfl h
  | cons a r ih =>
    have e1 := split_one (hb a List.mem_cons_self)
    cases r with
    | nil =>
      rw [show Str.join ⟨#[32, 32]⟩ [a] = a from rfl, e1]
      refine ⟨fun x hx => .inl hx, ?_⟩
      show 1 ≤ 2 * 1
      decide
    | cons b r =>
      obtain ⟨h1, h2⟩ := ih (List.cons_ne_nil _ _) fun w hw => hb w (List.mem_cons_of_mem _ hw)
      rw [show Str.join ⟨#[32, 32]⟩ (a :: b :: r) = a ++ ⟨#[32, 32]⟩ ++ Str.join ⟨#[32, 32]⟩ (b :: r) from rfl, two_blanks, split_two, split_two, e1, split_e]
      refine ⟨fun x hx => ?_, ?_⟩
      · rcases List.mem_append.mp hx with q | q
        · rw [List.mem_singleton.mp q]; exact .inl List.mem_cons_self
        · rcases List.mem_append.mp q with q | q
          · exact .inr (List.mem_singleton.mp q)
          · exact (h1 x q).imp (fun z => List.mem_cons_of_mem _ z) id
      · rw [List.length_append, List.length_append, List.length_cons (as := b :: r)]
        show 1 + (1 + _) ≤ _
        omega
theorem spoil_blanks {r : Row} (h : RowOk r) : Spo (Txt.split (Txt.replace r.line ⟨#[32]⟩ ⟨#[32, 32]⟩) ⟨#[32]⟩) := by
  obtain ⟨A, e, hA, hl⟩ := row_runs h
  have hw := (row_back h).2.1
  rw [StrLaws.replace_one, (line_split h).1]
  obtain ⟨i1, i2⟩ := blanks_in (row_back h).2.2 fun w hm => (hw w hm).1
  refine ⟨fun x hx => ?_, by have := words_len h; omega, ?_⟩
  · rcases i1 x hx with q | rfl
    · exact ⟨Nat.le_trans (hw x q).2.2 (by decide), (hw x q).2.1⟩
    · exact ⟨by decide +kernel, by decide +kernel⟩
  rw [e]
  cases A with
  | nil => exact absurd hl (by decide)
  | cons a A =>
    show rowT (Txt.split (sT (.i r.tick) ++ ⟨#[32, 32]⟩ ++ _) ⟨#[32]⟩) = none
    rw [two_blanks, split_two, split_two, split_one (hA _ List.mem_cons_self).nb, split_e]
    exact rowT_who (who_e (z := "") (by decide +kernel) (by decide +kernel) (by decide +kernel))
theorem repl_parts {x y z : Str} {k : Nat} (hy : 1 ≤ y.length) (hk : StrLaws.At x y x.length k) : ∃ parts : List Str, 2 ≤ parts.length ∧ Str.join y parts = x ∧ Txt.replace x y z = Str.join z parts := by
  obtain ⟨f, h1, h2⟩ := StrLaws.occ_tight x y hy
  obtain ⟨g, h3⟩ := StrLaws.occ_chain x y (x.length + 1)
  have hy0 : (y.length == 0) = false := by
    rw [beq_eq_false_iff_ne]; omega
  cases ho : Builtin.Str.occurrences x y 0 x.length (x.length + 1) with
  | nil =>
    rw [ho] at h1
    have e : f = 0 := h1
    exact absurd hk (h2 k (by rw [e]; exact Nat.zero_le _))
  | cons i r =>
    refine ⟨StrLaws.partsFrom x y.length 0 (i :: r), ?_, ?_, ?_⟩
    · obtain ⟨p, q, e⟩ := StrLaws.partsFrom_ne x y.length (i + y.length) r
      show 2 ≤ (_ :: StrLaws.partsFrom x y.length (i + y.length) r).length
      rw [e]
      simp
    · rw [ho] at h3
      rw [StrLaws.join_partsFrom x y _ 0 g h3, StrLaws.sub_whole]
    · unfold Txt.replace
      rw [ho, hy0, Bool.false_and, Bool.or_false]
      rw [if_neg (by simp), StrLaws.glued_eq_join, StrLaws.partsBetween_eq]
def SS : Str := " / "
theorem ss_is : SS = ⟨#[32]⟩ ++ stk ++ ⟨#[32]⟩ := by decide +kernel
theorem split_ss (a b : Str) : Txt.split (a ++ SS ++ b) ⟨#[32]⟩ = Txt.split a ⟨#[32]⟩ ++ stk :: Txt.split b ⟨#[32]⟩ := by
  have e : a ++ SS ++ b = a ++ ⟨#[32]⟩ ++ (stk ++ ⟨#[32]⟩ ++ b) := by
    rw [ss_is]
    refine str_eq ?_
    simp only [cps_app, List.append_assoc]
  rw [e, split_two, split_two, split_one (z := stk) (by decide +kernel)]
  rfl
theorem cnt_ss : ∀ {ps : List Str}, ps ≠ [] → (Txt.split (Str.join SS ps) ⟨#[32]⟩).countP (· == stk) + 1 = (Txt.split (Str.join ⟨#[32]⟩ ps) ⟨#[32]⟩).countP (· == stk) + ps.length
  | [], h => absurd rfl h
  | [a], _ => rfl
  | a :: b :: r, _ => by
    have ih := cnt_ss (ps := b :: r) (fun z => nomatch z)
    show (Txt.split (a ++ SS ++ Str.join SS (b :: r)) ⟨#[32]⟩).countP (· == stk) + 1 = (Txt.split (a ++ ⟨#[32]⟩ ++ Str.join ⟨#[32]⟩ (b :: r)) ⟨#[32]⟩).countP (· == stk) + (b :: r).length + 1
    rw [split_ss, split_two, List.countP_append, List.countP_append, List.countP_cons, if_pos (beq_self_eq_true _)]
    omega
theorem sub_ss : ∀ {ps : List Str}, ps ≠ [] → (∀ x ∈ Txt.split (Str.join ⟨#[32]⟩ ps) ⟨#[32]⟩, x ∈ Txt.split (Str.join SS ps) ⟨#[32]⟩) ∧ (Txt.split (Str.join ⟨#[32]⟩ ps) ⟨#[32]⟩).length ≤ (Txt.split (Str.join SS ps) ⟨#[32]⟩).length
  | [], h => absurd rfl h
  | [a], _ => ⟨fun _ h => h, Nat.le_refl _⟩
  | a :: b :: r, _ => by
    obtain ⟨h1, h2⟩ := sub_ss (ps := b :: r) (fun z => nomatch z)
    show (∀ x ∈ Txt.split (a ++ ⟨#[32]⟩ ++ Str.join ⟨#[32]⟩ (b :: r)) ⟨#[32]⟩, x ∈ Txt.split (a ++ SS ++ Str.join SS (b :: r)) ⟨#[32]⟩) ∧ (Txt.split (a ++ ⟨#[32]⟩ ++ Str.join ⟨#[32]⟩ (b :: r)) ⟨#[32]⟩).length ≤ (Txt.split (a ++ SS ++ Str.join SS (b :: r)) ⟨#[32]⟩).length
    rw [split_ss, split_two]
    refine ⟨fun x hx => ?_, by simp only [List.length_append, List.length_cons]; omega⟩
    rcases List.mem_append.mp hx with q | q
    · exact List.mem_append_left _ q
    · exact List.mem_append_right _ (List.mem_cons_of_mem _ (h1 x q))
theorem spoil_strokes {r : Row} (h : RowOk r) : Spo (Txt.split (Txt.replace r.line SS ⟨#[32]⟩) ⟨#[32]⟩) := by
  obtain ⟨A, e, hA, hl⟩ := row_runs h
  have eL : r.line = J (sT (.i r.tick) :: A) ++ SS ++ J (marksW r.marks ++ stk :: wokenW r.woken) := by
    show Str.join ⟨#[32]⟩ r.words = _
    rw [e]
    have n1 : marksW r.marks ++ stk :: wokenW r.woken ≠ [] := by simp
    rw [show (sT (.i r.tick) :: A) ++ stk :: (marksW r.marks ++ stk :: wokenW r.woken) = (sT (.i r.tick) :: A) ++ ([stk] ++ (marksW r.marks ++ stk :: wokenW r.woken)) from rfl, join_two 32 (List.cons_ne_nil _ _) (by simp), join_two 32 (List.cons_ne_nil _ _) n1, ss_is]
    refine str_eq ?_
    simp only [cps_app, List.append_assoc]
    rfl
  have hat : StrLaws.At r.line SS r.line.length (J (sT (.i r.tick) :: A)).length := by
    refine ⟨?_, ?_⟩
    · rw [eL, app_len, app_len]; omega
    · rw [StrLaws.subAt_eq, eL]
      generalize J (sT (.i r.tick) :: A) = a
      generalize J (marksW r.marks ++ stk :: wokenW r.woken) = b
      rw [beq_iff_eq, cps_app, cps_app, List.append_assoc, len_cps a, List.drop_left, len_cps SS, List.take_left]
  obtain ⟨ps, h2, h3, h4⟩ := repl_parts (z := ⟨#[32]⟩) (by decide +kernel) hat
  rw [h4]
  obtain ⟨i1, i2⟩ := sub_ss (ps := ps) (fun q => by rw [q] at h2; exact absurd h2 (by decide))
  rw [h3, (line_split h).1] at i1 i2
  have hw := (row_back h).2.1
  refine ⟨fun x hx => ⟨Nat.le_trans (hw x (i1 x hx)).2.2 (by decide), (hw x (i1 x hx)).2.1⟩, by have := words_len h; omega, ?_⟩
  have hc := cnt_ss (ps := ps) (fun q => by rw [q] at h2; exact absurd h2 (by decide))
  rw [h3, (line_split h).1] at hc
  have hcw : r.words.countP (· == stk) = 2 := by
    rw [e, List.countP_append, List.countP_cons (l := marksW r.marks ++ stk :: wokenW r.woken), List.countP_append, List.countP_cons (l := wokenW r.woken), cnt_none hA, cnt_none (wd_marks h.marks.1), cnt_none (wd_woken h.woken.1), if_pos (beq_self_eq_true _)]
  rw [hcw] at hc
  exact rowT_no (by omega)
def NL1 : List Str := ["3 4 did 5 / -", "3 4 did 5 / - / - /", "3 4 did / - / -", "3 4 did 5 6 / - / -", "3 100 did 5 / - / -", "100000 4 did 5 / - / -", "3 4 did 100000 / - / -", "3 4 wait 5 0 / - / -", "3 4 wait 5 100 / - / -", "3 4 limit 5 1 0 / - / -", "3 4 begin 5 a b 1 100 / - / -", "3 4 ring 5 end / - / -", "3 4 ring 5 :a / - / -", "3 4 send 5 a b / - / -", "3 4 send 5 a 1000000 / - / -", "3 4 send 5 a : / - / -", "3 clock did 5 / - / -", "3 4 woke 5 / - / -", "3 outside wait 5 / - / -", "3 watch did 5 / - / -", "3 4 caught 5 - / - / -", "3 4 halt 5 1 a,,b / - / -", "3 4 halt 5 1 / - / -", "3 4 ended 5 / - / -", "3 4 ended 5 value / - / -", "3 4 ended 5 off 1 / - / -", "3 4 ended 5 faults - / - / -", "3 4 did 5 / 1 2 / -", "3 4 did 5 / 1 2 gone / -", "3 4 did 5 / - / 100", "3 4 did 5 / 1 1000 off / -", "3 4 ring 5 abcdefghi / - / -"]
def NL2 : List Str := ["3 outside off 10000 / - / -", "3 4 join 5 1000 / - / -", "3 4 off 5 1000 / - / -", "3 4 limit 5 1 100 / - / -", "3 4 did 5 / 100 1 off / -", "3 clock woke 100 / - / -", "3 clock late 1 1000 / - / -", "3 4 begin 5 late a 1 0 / - / -", "3 4 caught 5 any / - / -", "3 4 send 5 end 1 / - / -", "3 4 halt 5 1000 - / - / -", "3 outside send a b / - / -", "3 4 join 5 1 1 / - / -", "3 4 wait 5 5 5 / - / -", "3 outside ring gate gate / - / -", "3 clock woke 4 4 / - / -", "3 4 clean 5 - / - / -", "3 4 take 5 a b c / - / -", "3 4 did +5 / - / -", "3 4 did 1_0 / - / -", "3 4 did 05 / - / -", "3 4 did 5 / 01 1 off / -", "3 4 did 5 / - / 03", "3 4 send 5 box :abcdefghi / - / -", "3 4 send 5 box :Off / - / -", "3 4 ended 5 value :a1 / - / -", "3 outside send box : / - / -", "+3 4 did 5 / - / -"]
def lineW (l : Str) : List Str := Txt.split l ⟨#[32]⟩
structure LnOk (l : Str) : Prop where
  le : l.length ≤ 4000
  ws : ∀ w ∈ lineW l, w.length ≤ 1000
def Bad (ls : List Str) (b : Str) (i : Nat) : Prop := (∀ j l, j < i → ls[j]? = some l → ∃ t, rowT (lineW l) = some t) ∧ ((∃ l, ls[i]? = some l ∧ rowT (lineW l) = none) ∨ (i = ls.length ∧ b ≠ ""))
def Good (ls : List Str) (b : Str) (ts : List Tr) : Prop := ls.map (fun l => rowT (lineW l)) = ts.map some ∧ b = ""
structure TxOk (z : Str) (ls : List Str) (b : Str) : Prop where
  le : z.length ≤ 100000
  sp : Txt.split z ⟨#[10]⟩ = ls ++ [b]
  n : ls.length ≤ 20
  ok : ∀ l ∈ ls, LnOk l
def spBInit (C : Addr) : Sp := fun vs H Q _ => ∃ (a : Addr) (v : V) (t : Addr), vs = [.ref a, v] ∧ H a = some (exNew a C none t) ∧ ∀ dx, H dx = none → dx ≠ a → Q .non (upd (upd H a (exNew a C (some dx) t)) dx (xdE dx [("place", v)]))
def spReadX (C : Addr) : Sp := fun vs H Q E => ∃ (z : Str) (ls : List Str) (b : Str), vs = [.str z] ∧ TxOk z ls b ∧
  ((∃ i, Bad ls b i ∧ ∀ (d : Addr) (H' : Hp), H' d = some (xdE d [("place", .int (i : Nat))]) → Same H H' → E (.ref C) (some d) H') ∨ ∃ ts, Good ls b ts ∧ ∀ (v : V) (H' : Hp), Rep H' v (.t ts) → Same H H' → Q v H')
def spRefused : Sp := fun vs H Q _ => ∃ (z : Str) (ls : List Str) (b : Str) (i : Nat), vs = [.str z] ∧ TxOk z ls b ∧ Bad ls b i ∧ ∀ H', Same H H' → Q (.int (i : Nat)) H'
structure NoLn (l : Str) : Prop where
  ok : LnOk l
  nl : (10 : Nat) ∉ l.cps.toList
  no : rowT (lineW l) = none
def spNone : Sp := fun vs H Q _ => ∃ x : Int, vs = [.int x] ∧ 0 ≤ x ∧ ∀ (z : Str) (H' : Hp), NoLn z → Same H H' → Q (.str z) H'
def spSpoilt : Sp := fun vs H Q _ => ∃ (r : Row) (x : Int), vs = [.str r.line, .int x] ∧ RowOk r ∧ 0 ≤ x ∧ ∀ (z : Str) (H' : Hp), NoLn z → Same H H' → Q (.str z) H'
def spRight : Sp := fun vs H Q _ => ∃ (a b : Addr) (rs : List Row) (ns : List Int), vs = [.ref a, .str (bookS rs), .ref b] ∧ H a = some (.lst ((rs.map Row.line).map V.str)) ∧ H b = some (.lst (ns.map V.int)) ∧ (∀ r ∈ rs, RowOk r) ∧ 1 ≤ rs.length ∧ rs.length ≤ 9 ∧ ns.length = 4 ∧ (∀ n ∈ ns, 0 ≤ n ∧ n < 2147483647) ∧ ∀ H', Same H H' → Q (.bl true) H'
theorem Spo.ln {z : Str} (h : Spo (Txt.split z ⟨#[32]⟩)) : NoLn z := by
  have e : Str.join ⟨#[32]⟩ (Txt.split z ⟨#[32]⟩) = z := StrLaws.join_split z _
  refine ⟨⟨?_, fun w hw => Nat.le_trans (h.g w hw).1 (by decide)⟩, fun m => ?_, h.no⟩
  · have h1 := j_len (ws := Txt.split z ⟨#[32]⟩) (c := 42) fun x hx => (h.g x hx).1
    have h2 : (J (Txt.split z ⟨#[32]⟩)).length = z.length := by unfold J; rw [e]
    have h3 := Nat.mul_le_mul_right (42 + 1) h.n
    omega
  · rw [← e] at m
    rcases join_mem 32 m with q | ⟨a, ha, q⟩
    · cases q
    · exact (h.g a ha).2 q
def nonB (z : Str) : Bool := (rowT (lineW z)).isNone && !(z.cps.toList.contains 10) && decide (z.length ≤ 4000) && (lineW z).all fun w => decide (w.length ≤ 1000)
theorem non_is {z : Str} (h : nonB z = true) : NoLn z := by
  unfold nonB at h
  simp only [Bool.and_eq_true, Bool.not_eq_true', decide_eq_true_eq, Option.isNone_iff_eq_none, List.all_eq_true] at h
  refine ⟨⟨h.1.2, h.2⟩, fun m => ?_, h.1.1.1⟩
  have := h.1.1.2
  rw [List.contains_eq_mem, decide_eq_true m] at this
  cases this
theorem nl_all : ∀ z ∈ NL1 ++ NL2, nonB z = true := by decide +kernel
def textS (ls : List Str) : Str := Txt.join "" (ls.map fun l => l ++ "\n")
theorem book_text (rs : List Row) : bookS rs = textS (rs.map Row.line) := by
  unfold bookS textS
  rw [List.map_map]
  rfl
theorem text_cons (l : Str) (ls : List Str) : textS (l :: ls) = l ++ ⟨#[10]⟩ ++ textS ls := by
  unfold textS
  rw [List.map_cons, glue_join, glue_join, nl1]
  cases ls with
  | nil =>
    show l ++ ⟨#[10]⟩ = l ++ ⟨#[10]⟩ ++ Str.join "" []
    rw [join_e0, app_nilS]
  | cons y rs =>
    show l ++ ⟨#[10]⟩ ++ ("" : Str) ++ Str.join "" _ = _
    rw [app_nilS]
theorem text_join (ls : List Str) : textS ls = Str.join ⟨#[10]⟩ (ls ++ [("" : Str)]) := by
  induction ls with
  | nil =>
    unfold textS
    rw [glue_join]
    exact join_e0
  | cons l ls ih =>
    rw [text_cons, ih]
    exact (join_two 10 (l := [l]) (m := ls ++ [("" : Str)]) (List.cons_ne_nil _ _) (by simp)).symm
theorem text_split {ls : List Str} (h : ∀ l ∈ ls, (10 : Nat) ∉ l.cps.toList) : Txt.split (textS ls) ⟨#[10]⟩ = ls ++ [("" : Str)] := by
  rw [text_join]
  refine split_join (by simp) fun a ha => ?_
  rcases List.mem_append.mp ha with q | q
  · exact h a q
  · rw [List.mem_singleton.mp q]
    decide +kernel
theorem text_len {ls : List Str} (h : ∀ l ∈ ls, l.length ≤ 4000) (hl : ls.length ≤ 20) : (textS ls).length ≤ 100000 := by
  have h1 := join_le "" (ls.map fun l => l ++ ("\n" : Str))
  have h2 := sum_lens (L := ls.map fun l => l ++ ("\n" : Str)) (c := 4001) fun l hm => by
    obtain ⟨r, hr', rfl⟩ := List.mem_map.mp hm
    have := h r hr'
    rw [app_len, show ("\n" : Str).length = 1 by decide +kernel]
    omega
  rw [show ("" : Str).length = 0 by decide +kernel] at h1
  rw [List.length_map] at h1 h2
  show (Txt.join "" _).length ≤ _
  omega
theorem TxOk.of {ls : List Str} (h : ∀ l ∈ ls, LnOk l ∧ (10 : Nat) ∉ l.cps.toList) (hl : ls.length ≤ 20) : TxOk (textS ls) ls "" := ⟨text_len (fun l hm => (h l hm).1.le) hl, text_split fun l hm => (h l hm).2, hl, fun l hm => (h l hm).1⟩
theorem row_ln {r : Row} (h : RowOk r) : (LnOk r.line ∧ (10 : Nat) ∉ r.line.cps.toList) ∧ rowT (lineW r.line) = some r.tr := by
  have sp := line_split h
  refine ⟨⟨⟨Nat.le_trans (line_len h) (by decide), fun w hw => ?_⟩, sp.2⟩, ?_⟩
  · unfold lineW at hw
    rw [sp.1] at hw
    exact Nat.le_trans ((row_back h).2.1 w hw).2.2 (by decide)
  · unfold lineW
    rw [sp.1]
    exact (row_back h).1
theorem good_to {ls : List Str} {i : Nat} {ts : List Tr} (h : (ls.take i).map (fun l => rowT (lineW l)) = ts.map some) : ∀ j l, j < i → ls[j]? = some l → ∃ t, rowT (lineW l) = some t := fun j l hj hl => by
  have e : ((ls.take i).map (fun l => rowT (lineW l)))[j]? = some (rowT (lineW l)) := by
    rw [List.getElem?_map, List.getElem?_take_of_lt hj, hl]; rfl
  rw [h, List.getElem?_map] at e
  obtain ⟨t, _, q⟩ := Option.map_eq_some_iff.mp e
  exact ⟨t, q.symm⟩
theorem good_bad {ls : List Str} {b : Str} {ts : List Tr} {i : Nat} (h : Good ls b ts) (g : Bad ls b i) : False := by
  rcases g.2 with ⟨l, hl, hn⟩ | ⟨_, hb⟩
  · have h' : (ls.take (i + 1)).map (fun l => rowT (lineW l)) = (ts.take (i + 1)).map some := by rw [List.map_take, h.1, ← List.map_take]
    obtain ⟨t, ht⟩ := good_to h' i l (Nat.lt_succ_self i) hl
    rw [hn] at ht; cases ht
  · exact hb h.2
theorem bad_one {ls : List Str} {b : Str} {i j : Nat} (h : Bad ls b i) (g : Bad ls b j) : i = j := by
  have go : ∀ {i j : Nat}, Bad ls b i → Bad ls b j → ¬ i < j := fun {i j} h g lt => by
    rcases h.2 with ⟨l, hl, hn⟩ | ⟨e, _⟩
    · obtain ⟨t, ht⟩ := g.1 i l lt hl
      rw [hn] at ht; cases ht
    · rcases g.2 with ⟨l, hl, _⟩ | ⟨e', _⟩
      · have := (List.getElem?_eq_some_iff.mp hl).1
        omega
      · omega
  have a := go h g
  have b := go g h
  omega
theorem good_one {ls : List Str} {b : Str} {ts us : List Tr} (h : Good ls b ts) (g : Good ls b us) : ts = us := by
  have e := h.1.symm.trans g.1
  exact (List.map_inj_right (fun _ _ q => Option.some.inj q)).mp e
theorem cut_end {ls : List Str} (h : ls ≠ []) : cutS (textS ls) none (some (-1)) = Str.join ⟨#[10]⟩ ls := by
  have e : textS ls = Str.join ⟨#[10]⟩ ls ++ ⟨#[10]⟩ := by
    rw [text_join, join_two 10 h (List.cons_ne_nil _ _)]
    exact app_nilS _
  rw [e]
  generalize Str.join ⟨#[10]⟩ ls = z
  have l1 : (z ++ ⟨#[10]⟩).length = z.length + 1 := by rw [app_len]; rfl
  unfold cutS
  have i1 : HT.sIx (z ++ ⟨#[10]⟩).length (z ++ ⟨#[10]⟩).length (some (-1)) = z.length := by
    rw [l1]
    unfold HT.sIx
    simp only []
    split <;> omega
  rw [i1, HT.sIx_none]
  refine str_eq ?_
  show ((z ++ ⟨#[10]⟩).cps.toList.drop 0).take (z.length - 0) = _
  rw [cps_app, List.drop_zero, Nat.sub_zero, len_cps, List.take_left]
theorem cut_bad {rs : List Row} (ok : ∀ r ∈ rs, RowOk r) (l1 : 1 ≤ rs.length) (l9 : rs.length ≤ 9) : TxOk (cutS (bookS rs) none (some (-1))) ((rs.map Row.line).dropLast) ((rs.map Row.line).getLastD "") ∧ Bad ((rs.map Row.line).dropLast) ((rs.map Row.line).getLastD "") (rs.length - 1) := by
  have hne : rs.map Row.line ≠ [] := fun q => by
    have := congrArg List.length q
    rw [List.length_map] at this
    rw [this] at l1
    exact absurd l1 (by decide)
  have hg : ∀ l ∈ rs.map Row.line, (LnOk l ∧ (10 : Nat) ∉ l.cps.toList) ∧ (∃ t, rowT (lineW l) = some t) := fun l hm => by
    obtain ⟨r, hr, rfl⟩ := List.mem_map.mp hm
    exact ⟨(row_ln (ok r hr)).1, _, (row_ln (ok r hr)).2⟩
  have hcut : (rs.map Row.line).dropLast ++ [(rs.map Row.line).getLastD ""] = rs.map Row.line := by
    rw [List.getLastD_eq_getLast?, List.getLast?_eq_some_getLast hne]
    exact List.dropLast_concat_getLast hne
  have hle : (rs.map Row.line).dropLast.length = rs.length - 1 := by rw [List.length_dropLast, List.length_map]
  refine ⟨⟨?_, ?_, by omega, fun l hm => (hg l (List.dropLast_subset _ hm)).1.1⟩, fun j l _ hl => (hg l (List.dropLast_subset _ (List.mem_of_getElem? hl))).2, .inr ⟨hle.symm, fun e0 => ?_⟩⟩
  · rw [book_text]
    have h1 := text_len (ls := rs.map Row.line) (fun l hm => (hg l hm).1.1.le) (by rw [List.length_map]; omega)
    rw [cut_end hne]
    have e : textS (rs.map Row.line) = Str.join ⟨#[10]⟩ (rs.map Row.line) ++ ⟨#[10]⟩ := by
      rw [text_join, join_two 10 hne (List.cons_ne_nil _ _)]
      exact app_nilS _
    rw [e, app_len] at h1
    omega
  · rw [book_text, cut_end hne, hcut]
    exact split_join hne fun l hm => (hg l hm).1.2
  · have hm : (rs.map Row.line).getLastD "" ∈ rs.map Row.line := by
      have : (rs.map Row.line).getLastD "" ∈ (rs.map Row.line).dropLast ++ [(rs.map Row.line).getLastD ""] := by simp
      rw [hcut] at this
      exact this
    obtain ⟨t, ht⟩ := (hg _ hm).2
    rw [e0, show rowT (lineW "") = none by decide +kernel] at ht
    cases ht
theorem bad_set1 {L : List Str} {z : Str} {i : Nat} (h : ∀ l ∈ L, ∃ t, rowT (lineW l) = some t) (hi : i < L.length) (hz : NoLn z) : Bad (L.set i z) "" i := by
  refine ⟨fun j l hj hl => ?_, .inl ⟨z, by rw [List.getElem?_set_self hi], hz.no⟩⟩
  rw [List.getElem?_set_ne (by omega)] at hl
  exact h l (List.mem_of_getElem? hl)
theorem bad_set2 {L : List Str} {z : Str} {i j : Nat} (h : Bad L "" i) (hj : j < L.length) (hz : NoLn z) : Bad (L.set j z) "" (if j < i then j else i) := by
  by_cases lt : j < i
  · rw [if_pos lt]
    refine ⟨fun k l hk hl => ?_, .inl ⟨z, by rw [List.getElem?_set_self hj], hz.no⟩⟩
    rw [List.getElem?_set_ne (by omega)] at hl
    exact h.1 k l (by omega) hl
  · rw [if_neg lt]
    refine ⟨fun k l hk hl => ?_, ?_⟩
    · rw [List.getElem?_set_ne (by omega)] at hl
      exact h.1 k l hk hl
    · by_cases e : j = i
      · subst e
        exact .inl ⟨z, by rw [List.getElem?_set_self hj], hz.no⟩
      · rcases h.2 with ⟨l, hl, hn⟩ | ⟨_, hb⟩
        · exact .inl ⟨l, by rw [List.getElem?_set_ne e]; exact hl, hn⟩
        · exact absurd rfl hb
theorem set_ok {L : List Str} {z : Str} {i : Nat} (h : ∀ l ∈ L, LnOk l ∧ (10 : Nat) ∉ l.cps.toList) (hz : NoLn z) : ∀ l ∈ L.set i z, LnOk l ∧ (10 : Nat) ∉ l.cps.toList := fun l hl => by
  rcases List.mem_or_eq_of_mem_set hl with q | rfl
  · exact h l q
  · exact ⟨hz.ok, hz.nl⟩


theorem sc_is_letters : FnScope ["text"] ["text"] (defScope (top 12)) := ⟨rfl, rfl, rfl, by decide +kernel, rfl, by decide +kernel, by decide +kernel⟩
theorem ok_is_letters (T : Tx P w K mg) : FnOk P w K mg base CX0 1 T.d_is_letters.f T.d_is_letters.fd ["text"] (spLetters) := by
  refine T.d_is_letters.F.ok sc_is_letters (fun vs H Q E h => ?_) (fun cdv A outer s H vs Q E hr h => ?_)
  · obtain ⟨z, rfl, _⟩ := h
    rfl
  · obtain ⟨z, rfl, hz, k⟩ := h
    have hz2 : z.length ≤ sizeLine := Nat.le_trans hz (by decide)
    refine ⟨_, (pss_cons (ps_if (pt_not (pt_chain op_le op_le pe_int (pe_callB call_len (by rfl) T.n_len bt_len (pa_cons (pv 0) pa_nil)) (pe_glob (v := .int 8) rfl T.mlm ⟨_, rfl⟩)))
    (pss_one (ps_ret pe_bl))
    pss_nil)
    (pss_one (ps_ret (pe_callB (call_all rfl) (by rfl) T.n_all bt_all (pa_cons (pe_lc (N' := ["sign"]) (sel := [none]) rfl rfl rfl (pi_str (pv 0)) (gk_name rfl) (fun _ _ _ _ _ => ⟨(pg_name (i := 0) (show (["sign"] : List Str).Nodup by decide +kernel) rfl (Or.inl rfl)), pts_nil, (pe_chain op_le_str op_le_str pe_str (pv 0) pe_str)⟩)) pa_nil))))), ?_⟩
    walk_at "sx"
    refine ⟨hz2, ?_⟩
    have hF : isLet z = false → Q (V.bl false) H := fun e => by rw [← e]; exact k H (Same.refl H)
    by_cases h1 : 1 ≤ z.length
    · by_cases h2 : z.length ≤ 8
      · refine ifT (by omega) (ifNF (by omega) ?_)
        refine ⟨_, rfl, z, rfl, ?_⟩
        refine lc_str (fun i ys H' => H' = H ∧ ys = (z.cps.toList.take i).map fun c => V.bl (isL c)) ⟨rfl, rfl⟩ ?_ hz2 ?_ ?_
        · rintro i ys H' hi ⟨rfl, rfl⟩
          rw [List.length_map, List.length_take]
          omega
        · rintro i c ys H' hc ⟨rfl, rfl⟩
          walk_at "sx"
          have e := chain_let c
          have e2 := take_snoc (f := fun c => V.bl (isL c)) hc
          split <;> rename_i hb
          · rw [if_pos hb] at e
            rw [e]
            exact e2
          · rw [if_neg hb] at e
            rw [e]
            exact e2
        · rintro ys H' ⟨rfl, rfl⟩ D hD
          refine ⟨D, rfl, z.cps.toList.map isL, ?_, ?_⟩
          · refine SqL.of ?_
            rw [upd_same, List.map_map]
            have : z.cps.toList.take z.length = z.cps.toList := List.take_length
            rw [this]
            rfl
          · have e : (z.cps.toList.map isL).all id = isLet z := by
              unfold isLet
              rw [decide_eq_true h1, decide_eq_true h2, List.all_map]
              rfl
            rw [e]
            exact k _ (Same.upd hD)
      · refine ifT (by omega) (ifNT (by omega) (hF ?_))
        unfold isLet
        rw [decide_eq_false h2, Bool.and_false, Bool.false_and]
    · refine ifF (by omega) (L2.iteT (hF ?_))
      unfold isLet
      rw [decide_eq_false h1, Bool.false_and, Bool.false_and]
theorem sc_is_name : FnScope ["thing"] ["thing"] (defScope (top 13)) := ⟨rfl, rfl, rfl, by decide +kernel, rfl, by decide +kernel, by decide +kernel⟩
theorem ok_is_name (T : Tx P w K mg)
    (G_is_letters : FnOk P w K mg base CX0 1 T.d_is_letters.f T.d_is_letters.fd ["text"] (spLetters)) : FnOk P w K mg base CX0 2 T.d_is_name.f T.d_is_name.fd ["thing"] (spName) := by
  refine T.d_is_name.F.ok sc_is_name (fun vs H Q E h => ?_) (fun cdv A outer s H vs Q E hr h => ?_)
  · obtain ⟨v, rfl, _⟩ := h
    rfl
  · obtain ⟨v, rfl, th, k⟩ := h
    obtain ⟨u, hu1, hS, hB, hI⟩ := th.ty (K := K)
    refine ⟨_, (pss_one (ps_ret (pe_and (pe_callB call_isinst (by rfl) T.n_isinstance bt_isinstance (pa_cons (pv 0) (pa_cons (pe_bltn (v := .ty "str") rfl T.n_str bt_str rfl) pa_nil))) (pe_and (pe_call G_is_letters (hr.mono (by omega)) rfl T.d_is_letters.hm T.d_is_letters.F.kp T.d_is_letters.b .nil pass0 (pa_cons (pv 0) pa_nil)) (pe_one (pe_cmpR op_notIn_seq (pv 0) (pe_glob (v := .ref T.kwa) rfl T.kwm rfl) (by with_unfolding_all rfl))))))), ?_⟩
    walk_at "sx"
    refine ⟨u, hu1, _, hS, ?_⟩
    cases th with
    | str z hz =>
      refine L2.iteT ⟨z, rfl, hz, fun H' s' => ⟨_, rfl, ?_⟩⟩
      by_cases hl : isLet z = true
      · rw [if_pos hl]
        refine ⟨_, _, rfl, .inr (T.kwt H'), rfl, flat_keys KEYS, ?_⟩
        have e : (if true = true then !inV (V.str z) (KEYS.map V.str) else inV (V.str z) (KEYS.map V.str)) = mName (.str z) := by
          rw [if_pos rfl, name_any]
          show _ = isName z
          unfold isName
          rw [hl, Bool.true_and]
        rw [e]
        exact k H' s'
      · rw [if_neg hl]
        have e : false = mName (.str z) := by
          show _ = isName z
          unfold isName
          rw [show isLet z = false by simpa using hl, Bool.false_and]
        rw [e]
        exact k H' s'
    | _ => exact L2.iteF (k H (Same.refl H))
theorem sc_is_told_word : FnScope ["text"] ["text"] (defScope (top 14)) := ⟨rfl, rfl, rfl, by decide +kernel, rfl, by decide +kernel, by decide +kernel⟩
theorem ok_is_told_word (T : Tx P w K mg)
    (G_is_letters : FnOk P w K mg base CX0 1 T.d_is_letters.f T.d_is_letters.fd ["text"] (spLetters)) : FnOk P w K mg base CX0 2 T.d_is_told_word.f T.d_is_told_word.fd ["text"] (spTold) := by
  refine T.d_is_told_word.F.ok sc_is_told_word (fun vs H Q E h => ?_) (fun cdv A outer s H vs Q E hr h => ?_)
  · obtain ⟨z, rfl, _⟩ := h
    rfl
  · obtain ⟨z, rfl, hz, k⟩ := h
    have hz2 : z.length ≤ sizeLine := Nat.le_trans hz (by decide)
    refine ⟨_, (pss_one (ps_ret (pe_and (pe_bm PySem.F.plainAttrs_str PySem.F.slot_str_startswith PySem.F.type_str_startswith mt_startswith (pv 0) (pa_cons pe_str pa_nil)) (pe_one (pe_call G_is_letters (hr.mono (by omega)) rfl T.d_is_letters.hm T.d_is_letters.F.kp T.d_is_letters.b .nil pass0 (pa_cons (pe_slice sl_str (pv 0) (po_some pe_int) po_none) pa_nil)))))), ?_⟩
    walk_at "sx"
    by_cases hl : Txt.startswith z ":" = true
    · rw [if_pos hl]
      refine ⟨hz2, _, rfl, Nat.le_trans (cut_le z _ _) hz, fun H' s' => ?_⟩
      have e : isLet (cutS z (some 1) none) = isTold z := by unfold isTold; rw [hl, Bool.true_and]
      rw [e]
      exact k H' s'
    · rw [if_neg hl]
      have e : false = isTold z := by unfold isTold; rw [show Txt.startswith z ":" = false by simpa using hl, Bool.false_and]
      rw [e]
      exact k H (Same.refl H)
theorem sc_is_value : FnScope ["thing"] ["thing"] (defScope (top 15)) := ⟨rfl, rfl, rfl, by decide +kernel, rfl, by decide +kernel, by decide +kernel⟩
theorem ok_is_value (T : Tx P w K mg)
    (G_is_name : FnOk P w K mg base CX0 2 T.d_is_name.f T.d_is_name.fd ["thing"] (spName))
    (G_is_told_word : FnOk P w K mg base CX0 2 T.d_is_told_word.f T.d_is_told_word.fd ["text"] (spTold)) : FnOk P w K mg base CX0 4 T.d_is_value.f T.d_is_value.fd ["thing"] (spVal) := by
  refine T.d_is_value.F.ok sc_is_value (fun vs H Q E h => ?_) (fun cdv A outer s H vs Q E hr h => ?_)
  · obtain ⟨v, rfl, _⟩ := h
    rfl
  · obtain ⟨v, rfl, th, k⟩ := h
    obtain ⟨u, hu1, hS, hB, hI⟩ := th.ty (K := K)
    refine ⟨_, (pss_cons (ps_if (pt_val (pe_callB call_isinst (by rfl) T.n_isinstance bt_isinstance (pa_cons (pv 0) (pa_cons (pe_bltn (v := .ty "bool") rfl T.n_bool bt_bool rfl) pa_nil))))
    (pss_one (ps_ret pe_bl))
    pss_nil)
    (pss_cons (ps_if (pt_val (pe_callB call_isinst (by rfl) T.n_isinstance bt_isinstance (pa_cons (pv 0) (pa_cons (pe_bltn (v := .ty "int") rfl T.n_int bt_int rfl) pa_nil))))
    (pss_one (ps_ret (pe_chain op_le op_le pe_int (pv 0) (pe_glob (v := .int 999999) rfl T.mvm ⟨_, rfl⟩))))
    pss_nil)
    (pss_one (ps_ret (pe_or (pe_call G_is_name (hr.mono (by omega)) rfl T.d_is_name.hm T.d_is_name.F.kp T.d_is_name.b .nil pass0 (pa_cons (pv 0) pa_nil)) (pe_one (pe_and (pe_callB call_isinst (by rfl) T.n_isinstance bt_isinstance (pa_cons (pv 0) (pa_cons (pe_bltn (v := .ty "str") rfl T.n_str bt_str rfl) pa_nil))) (pe_one (pe_call G_is_told_word (hr.mono (by omega)) rfl T.d_is_told_word.hm T.d_is_told_word.F.kp T.d_is_told_word.b .nil pass0 (pa_cons (pv 0) pa_nil)))))))))), ?_⟩
    walk_at "sx"
    refine ⟨u, hu1, _, hB, ?_⟩
    have rest : isB v = false → isI v = false → (isS v = false → mVal v = false) → (mName v = false → isS v = false → mVal v = false) → spName [v] H (fun x H1 => ∃ c, x = V.bl c ∧ if c = true then Q (V.bl true) H1 else ∃ x_5, TyOf K H1 v x_5 ∧ ∃ x_6, PySem.W.kitOne K x_5 (Value.type "str") = some x_6 ∧ if x_6 = true then spTold [v] H1 Q E0 else Q (V.bl false) H1) E0 := by
      intro _ _ h3 h4
      refine ⟨v, rfl, th, fun H' s' => ⟨_, rfl, ?_⟩⟩
      obtain ⟨u', hu1', hS', _, _⟩ := (th.same s').ty (K := K)
      cases th with
      | str z hz =>
        by_cases hn : mName (.str z) = true
        · rw [if_pos hn]
          have e : true = mVal (.str z) := by
            show _ = (isName z || isTold z)
            rw [show isName z = true from hn, Bool.true_or]
          rw [e]
          exact k H' s'
        · rw [if_neg hn]
          refine ⟨u', hu1', _, hS', L2.iteT ⟨z, rfl, hz, fun H2 s2 => ?_⟩⟩
          have e : isTold z = mVal (.str z) := by
            show _ = (isName z || isTold z)
            rw [show isName z = false by simpa [mName] using hn, Bool.false_or]
          rw [e]
          exact k H2 (s'.trans s2)
      | int i => exact L2.iteF ⟨u', hu1', _, hS', L2.iteF (by have e := h3 rfl; rw [← e]; exact k H' s')⟩
      | bl b => exact L2.iteF ⟨u', hu1', _, hS', L2.iteF (k H' s')⟩
      | non => exact L2.iteF ⟨u', hu1', _, hS', L2.iteF (k H' s')⟩
      | lst _ => exact L2.iteF ⟨u', hu1', _, hS', L2.iteF (k H' s')⟩
      | tup _ => exact L2.iteF ⟨u', hu1', _, hS', L2.iteF (k H' s')⟩
      | dic _ => exact L2.iteF ⟨u', hu1', _, hS', L2.iteF (k H' s')⟩
    cases th with
    | bl b => exact L2.iteT (k H (Same.refl H))
    | int i =>
      refine L2.iteF ⟨u, hu1, _, hI, L2.iteT ⟨i, rfl, ?_⟩⟩
      by_cases h0 : 0 ≤ i
      · refine ifT h0 ⟨i, rfl, ?_⟩
        have e : decide (i ≤ 999999) = mVal (.int i) := by
          show _ = (decide (0 ≤ i) && decide (i ≤ 999999))
          rw [decide_eq_true h0, Bool.true_and]
        rw [e]
        exact k H (Same.refl H)
      · refine ifF h0 ?_
        have e : false = mVal (.int i) := by
          show _ = (decide (0 ≤ i) && decide (i ≤ 999999))
          rw [decide_eq_false h0, Bool.false_and]
        rw [e]
        exact k H (Same.refl H)
    | str z hz => exact L2.iteF ⟨u, hu1, _, hI, L2.iteF (rest rfl rfl (fun z => nomatch z) (fun _ z => nomatch z))⟩
    | non => exact L2.iteF ⟨u, hu1, _, hI, L2.iteF (rest rfl rfl (fun _ => rfl) (fun _ _ => rfl))⟩
    | lst _ => exact L2.iteF ⟨u, hu1, _, hI, L2.iteF (rest rfl rfl (fun _ => rfl) (fun _ _ => rfl))⟩
    | tup _ => exact L2.iteF ⟨u, hu1, _, hI, L2.iteF (rest rfl rfl (fun _ => rfl) (fun _ _ => rfl))⟩
    | dic _ => exact L2.iteF ⟨u, hu1, _, hI, L2.iteF (rest rfl rfl (fun _ => rfl) (fun _ _ => rfl))⟩
theorem sc_number_of : FnScope ["word"] ["word"] (defScope (top 18)) := ⟨rfl, rfl, rfl, by decide +kernel, rfl, by decide +kernel, by decide +kernel⟩
theorem ok_number_of (T : Tx P w K mg) : FnOk P w K mg base CX0 1 T.d_number_of.f T.d_number_of.fd ["word"] (spNumber) := by
  refine T.d_number_of.F.ok sc_number_of (fun vs H Q E h => ?_) (fun cdv A outer s H vs Q E hr h => ?_)
  · obtain ⟨z, rfl, _⟩ := h
    rfl
  · obtain ⟨z, rfl, hz, k⟩ := h
    have hz2 : z.length ≤ sizeLine := Nat.le_trans hz (by decide)
    refine ⟨_, (pss_cons (ps_if (PW.pt (pw_or (pt_not (pt_chain op_le op_le pe_int (pe_callB call_len (by rfl) T.n_len bt_len (pa_cons (pv 0) pa_nil)) (pe_glob (v := .int 6) rfl T.mfm ⟨_, rfl⟩))) (pw_or1 (pt_not (pt_val (pe_callB (call_all rfl) (by rfl) T.n_all bt_all (pa_cons (pe_lc (N' := ["sign"]) (sel := [none]) rfl rfl rfl (pi_str (pv 0)) (gk_name rfl) (fun _ _ _ _ _ => ⟨(pg_name (i := 0) (show (["sign"] : List Str).Nodup by decide +kernel) rfl (Or.inl rfl)), pts_nil, (pe_chain op_le_str op_le_str pe_str (pv 0) pe_str)⟩)) pa_nil)))))))
    (pss_one (ps_ret pe_non))
    pss_nil)
    (pss_cons (ps_if (PW.pt (pw_and (pt_val (pe_bm PySem.F.plainAttrs_str PySem.F.slot_str_startswith PySem.F.type_str_startswith mt_startswith (pv 0) (pa_cons pe_str pa_nil))) (pw_and1 (pt_cmpR op_ne (pv 0) pe_str (nomark _)))))
    (pss_one (ps_ret pe_non))
    pss_nil)
    (pss_one (ps_ret (pe_callTy call_intT (by rfl) T.n_int bt_int (pa_cons (pv 0) pa_nil)))))), ?_⟩
    walk_at "sx"
    refine ⟨hz2, ?_⟩
    have hF : figs z = false → ∀ H', Same H H' → Q V.non H' := fun e H' s => by
      have e2 : numW z = none := by unfold numW; rw [e]; rfl
      have := k H' s
      rw [e2] at this
      exact this
    by_cases h1 : 1 ≤ z.length
    · by_cases h2 : z.length ≤ 6
      · refine ifT (by omega) (ifNF (by omega) ?_)
        refine ⟨_, rfl, z, rfl, ?_⟩
        refine lc_str (fun i ys H' => H' = H ∧ ys = (z.cps.toList.take i).map fun c => V.bl (isD c)) ⟨rfl, rfl⟩ ?_ hz2 ?_ ?_
        · rintro i ys H' hi ⟨rfl, rfl⟩
          rw [List.length_map, List.length_take]
          omega
        · rintro i c ys H' hc ⟨rfl, rfl⟩
          walk_at "sx"
          have e := chain_dig c
          have e2 := take_snoc (f := fun c => V.bl (isD c)) hc
          split <;> rename_i hb
          · rw [if_pos hb] at e
            rw [e]
            exact e2
          · rw [if_neg hb] at e
            rw [e]
            exact e2
        · rintro ys H' ⟨rfl, rfl⟩ D hD
          have s1 := Same.upd (o := .lst ((z.cps.toList.take z.length).map fun c => V.bl (isD c))) hD
          refine ⟨D, rfl, z.cps.toList.map isD, ?_, ?_⟩
          · refine SqL.of ?_
            rw [upd_same, List.map_map]
            have : z.cps.toList.take z.length = z.cps.toList := List.take_length
            rw [this]
            rfl
          · have e : (z.cps.toList.map isD).all id = figs z := by
              unfold figs
              rw [decide_eq_true h1, decide_eq_true h2, List.all_map]
              rfl
            rw [e]
            cases hg : figs z with
            | false => exact hF hg _ s1
            | true =>
              have hI := fig_text hg
              have k1 := k _ s1
              unfold numW at k1
              rw [if_pos hg] at k1
              rw [if_neg (by decide)]
              by_cases h0 : Txt.startswith z "0" = true
              · rw [if_pos h0]
                refine ⟨rfl, ?_⟩
                by_cases hzz : z = "0"
                · rw [if_neg (fun q => q.2 hzz)] at k1
                  exact ifNF hzz ⟨_, hI, Nat.le_trans h2 (by decide), k1⟩
                · rw [if_pos ⟨h0, hzz⟩] at k1
                  exact ifNT hzz k1
              · rw [if_neg (fun q => h0 q.1)] at k1
                rw [if_neg h0, if_neg Bool.false_ne_true]
                exact ⟨_, hI, Nat.le_trans h2 (by decide), k1⟩
      · refine ifT (by omega) (ifNT (by omega) (hF ?_ H (Same.refl H)))
        unfold figs
        rw [decide_eq_false h2, Bool.and_false, Bool.false_and]
    · refine ifF (by omega) (L2.iteT (hF ?_ H (Same.refl H)))
      unfold figs
      rw [decide_eq_false h1, Bool.false_and, Bool.false_and]
theorem sc_bounded : FnScope ["word", "least", "greatest", "number"] ["word", "least", "greatest"] (defScope (top 19)) := ⟨rfl, rfl, rfl, by decide +kernel, rfl, by decide +kernel, by decide +kernel⟩
theorem ok_bounded (T : Tx P w K mg)
    (G_number_of : FnOk P w K mg base CX0 1 T.d_number_of.f T.d_number_of.fd ["word"] (spNumber)) : FnOk P w K mg base CX0 2 T.d_bounded.f T.d_bounded.fd ["word", "least", "greatest"] (spBounded) := by
  refine T.d_bounded.F.ok sc_bounded (fun vs H Q E h => ?_) (fun cdv A outer s H vs Q E hr h => ?_)
  · obtain ⟨z, lo, hi, rfl, _⟩ := h
    rfl
  · obtain ⟨z, lo, hi, rfl, hz, k⟩ := h
    refine ⟨_, (pss_cons (ps_set (i := 3) sc_bounded.nd rfl (Or.inl rfl) (pe_call G_number_of (hr.mono (by omega)) rfl T.d_number_of.hm T.d_number_of.F.kp T.d_number_of.b .nil pass0 (pa_cons (pv 0) pa_nil)))
    (pss_cons (ps_if (PW.pt (pw_or (pt_cmpR op_isN (pv 3) pe_non (nomark _)) (pw_or1 (pt_not (pt_chain op_le op_le (pv 1) (pv 3) (pv 2))))))
    (pss_one (ps_ret pe_non))
    pss_nil)
    (pss_one (ps_ret (pv 3))))), ?_⟩
    walk_at "sx"
    refine ⟨z, rfl, hz, fun H1 s1 => ?_⟩
    have k1 := k H1 s1
    unfold bndV at k1
    cases e : numW z with
    | none =>
      rw [e] at k1
      exact ifT rfl k1
    | some n =>
      rw [e] at k1
      refine ifF (fun q => nomatch q) ⟨n, rfl, ?_⟩
      have k2 : Q (if lo ≤ n ∧ n ≤ hi then V.int n else V.non) H1 := k1
      by_cases h1 : lo ≤ n
      · refine ifT h1 ⟨n, rfl, ?_⟩
        by_cases h2 : n ≤ hi
        · rw [if_pos ⟨h1, h2⟩] at k2
          exact ifNF h2 k2
        · rw [if_neg (fun q => h2 q.2)] at k2
          exact ifNT h2 k2
      · rw [if_neg (fun q => h1 q.1)] at k2
        exact ifF h1 (L2.iteT k2)
theorem sc_value_of : FnScope ["word", "number", "value"] ["word"] (defScope (top 20)) := ⟨rfl, rfl, rfl, by decide +kernel, rfl, by decide +kernel, by decide +kernel⟩
theorem ok_value_of (T : Tx P w K mg)
    (G_number_of : FnOk P w K mg base CX0 1 T.d_number_of.f T.d_number_of.fd ["word"] (spNumber))
    (G_is_value : FnOk P w K mg base CX0 4 T.d_is_value.f T.d_is_value.fd ["thing"] (spVal)) : FnOk P w K mg base CX0 6 T.d_value_of.f T.d_value_of.fd ["word"] (spValueOf) := by
  refine T.d_value_of.F.ok sc_value_of (fun vs H Q E h => ?_) (fun cdv A outer s H vs Q E hr h => ?_)
  · obtain ⟨z, rfl, _⟩ := h
    rfl
  · obtain ⟨z, rfl, hz, k⟩ := h
    refine ⟨_, (pss_cons (ps_set (i := 1) sc_value_of.nd rfl (Or.inl rfl) (pe_call G_number_of (hr.mono (by omega)) rfl T.d_number_of.hm T.d_number_of.F.kp T.d_number_of.b .nil pass0 (pa_cons (pv 0) pa_nil)))
    (pss_cons (ps_set (i := 2) sc_value_of.nd rfl (Or.inl rfl) (pe_ifExp (pt_cmpR op_isN (pv 1) pe_non (nomark _)) (pv 0) (pv 1)))
    (pss_one (ps_ret (pe_ifExp (pt_val (pe_call G_is_value (hr.mono (by omega)) rfl T.d_is_value.hm T.d_is_value.F.kp T.d_is_value.b .nil pass0 (pa_cons (pv 2) pa_nil))) (pv 2) pe_non))))), ?_⟩
    walk_at "sx"
    refine ⟨z, rfl, hz, fun H1 s1 => ?_⟩
    cases e : numW z with
    | none =>
      refine ifT rfl ⟨.str z, rfl, .str z hz, fun H2 s2 => ⟨_, rfl, ?_⟩⟩
      have k1 := k H2 (s1.trans s2)
      unfold valueV at k1
      rw [e] at k1
      have k2 : Q (if mVal (.str z) = true then V.str z else V.non) H2 := k1
      cases hm : mVal (.str z) with
      | true => rw [hm] at k2; exact k2
      | false => rw [hm] at k2; exact k2
    | some n =>
      refine ifF (fun q => nomatch q) ⟨.int n, rfl, .int n, fun H2 s2 => ⟨_, rfl, ?_⟩⟩
      have k1 := k H2 (s1.trans s2)
      unfold valueV at k1
      rw [e] at k1
      have k2 : Q (if mVal (.int n) = true then V.int n else V.non) H2 := k1
      cases hm : mVal (.int n) with
      | true => rw [hm] at k2; exact k2
      | false => rw [hm] at k2; exact k2
theorem sc_told_value_of : FnScope ["word", "value"] ["word"] (defScope (top 40)) := ⟨rfl, rfl, rfl, by decide +kernel, rfl, by decide +kernel, by decide +kernel⟩
theorem ok_told_value_of (T : Tx P w K mg)
    (G_value_of : FnOk P w K mg base CX0 6 T.d_value_of.f T.d_value_of.fd ["word"] (spValueOf))
    (G_is_name : FnOk P w K mg base CX0 2 T.d_is_name.f T.d_is_name.fd ["thing"] (spName)) : FnOk P w K mg base CX0 8 T.d_told_value_of.f T.d_told_value_of.fd ["word"] (spToldOf) := by
  refine T.d_told_value_of.F.ok sc_told_value_of (fun vs H Q E h => ?_) (fun cdv A outer s H vs Q E hr h => ?_)
  · obtain ⟨z, rfl, _⟩ := h
    rfl
  · obtain ⟨z, rfl, hz, k⟩ := h
    refine ⟨_, (pss_cons (ps_set (i := 1) sc_told_value_of.nd rfl (Or.inl rfl) (pe_call G_value_of (hr.mono (by omega)) rfl T.d_value_of.hm T.d_value_of.F.kp T.d_value_of.b .nil pass0 (pa_cons (pv 0) pa_nil)))
    (pss_one (ps_ret (pe_ifExp (pt_val (pe_call G_is_name (hr.mono (by omega)) rfl T.d_is_name.hm T.d_is_name.F.kp T.d_is_name.b .nil pass0 (pa_cons (pv 1) pa_nil))) pe_non (pv 1))))), ?_⟩
    walk_at "sx"
    refine ⟨z, rfl, hz, fun H1 s1 => ⟨valueV z, rfl, value_th hz, fun H2 s2 => ⟨_, rfl, ?_⟩⟩⟩
    have s := s1.trans s2
    cases e : numW z with
    | some n =>
      have ev : valueV z = if 0 ≤ n ∧ n ≤ 999999 then .int n else .non := by
        unfold valueV
        rw [e]
        show (if mVal (.int n) = true then _ else _) = _
        by_cases h : 0 ≤ n ∧ n ≤ 999999
        · rw [if_pos h, if_pos (by show (decide (0 ≤ n) && decide (n ≤ 999999)) = true; rw [decide_eq_true h.1, decide_eq_true h.2]; rfl)]
        · rw [if_neg h, if_neg (by show ¬ (decide (0 ≤ n) && decide (n ≤ 999999)) = true; rw [Bool.and_eq_true, decide_eq_true_eq, decide_eq_true_eq]; exact h)]
      have et : toldT z = if 0 ≤ n ∧ n ≤ 999999 then some (.i n) else none := by unfold toldT; rw [e]
      rw [ev]
      by_cases h : 0 ≤ n ∧ n ≤ 999999
      · rw [if_pos h]
        rw [if_pos h] at et
        exact iteF' rfl (k _ H2 (by rw [et]; exact .i n) s)
      · rw [if_neg h]
        rw [if_neg h] at et
        exact iteF' rfl (k _ H2 (by rw [et]; rfl) s)
    | none =>
      have et : toldT z = if isTold z = true ∧ isName z = false then some (.s z) else none := by unfold toldT; rw [e]
      have ev : valueV z = if (isName z || isTold z) = true then .str z else .non := by
        unfold valueV
        rw [e]
        rfl
      cases hn : isName z with
      | true =>
        have e1 : valueV z = .str z := by rw [ev, hn]; rfl
        rw [e1]
        exact iteT' (show isName z = true from hn) (k _ H2 (by rw [et, if_neg (fun q => by rw [hn] at q; exact nomatch q.2)]; rfl) s)
      | false =>
        cases ht : isTold z with
        | true =>
          have e1 : valueV z = .str z := by rw [ev, hn, ht]; rfl
          rw [e1]
          exact iteF' (show isName z = false from hn) (k _ H2 (by rw [et, if_pos ⟨ht, hn⟩]; exact .s z) s)
        | false =>
          have e1 : valueV z = .non := by rw [ev, hn, ht]; rfl
          rw [e1]
          exact iteF' rfl (k _ H2 (by rw [et, if_neg (fun q => by rw [ht] at q; exact nomatch q.1)]; rfl) s)
theorem sc_faults_of_word : FnScope ["word", "faults"] ["word"] (defScope (top 41)) := ⟨rfl, rfl, rfl, by decide +kernel, rfl, by decide +kernel, by decide +kernel⟩
theorem ok_faults_of_word (T : Tx P w K mg)
    (G_is_name : FnOk P w K mg base CX0 2 T.d_is_name.f T.d_is_name.fd ["thing"] (spName)) : FnOk P w K mg base CX0 4 T.d_faults_of_word.f T.d_faults_of_word.fd ["word"] (spFaultsOf) := by
  refine T.d_faults_of_word.F.ok sc_faults_of_word (fun vs H Q E h => ?_) (fun cdv A outer s H vs Q E hr h => ?_)
  · obtain ⟨z, rfl, _⟩ := h
    rfl
  · obtain ⟨z, rfl, hz, k⟩ := h
    refine ⟨_, (pss_cons (ps_set (i := 1) sc_faults_of_word.nd rfl (Or.inl rfl) (pe_bm PySem.F.plainAttrs_str PySem.F.slot_str_split PySem.F.type_str_split mt_split (pv 0) (pa_cons pe_str pa_nil)))
    (pss_one (ps_ret (pe_ifExp (pt_val (pe_callB (call_all rfl) (by rfl) T.n_all bt_all (pa_cons (pe_lc (N' := ["fault"]) (sel := [none]) rfl rfl rfl (pi_list (pv 1)) (gk_name rfl) (fun _ _ _ _ _ => ⟨(pg_name (i := 0) (show (["fault"] : List Str).Nodup by decide +kernel) rfl (Or.inl rfl)), pts_nil, (pe_call G_is_name (hr.mono (by omega)) rfl T.d_is_name.hm T.d_is_name.F.kp T.d_is_name.b .nil pass0 (pa_cons (pv 0) pa_nil))⟩)) pa_nil))) (pe_callTy call_tuple_of (by rfl) T.n_tuple bt_tuple (pa_cons (pv 1) pa_nil)) pe_non)))), ?_⟩
    walk_at "sw"
    refine ⟨z, 44, rfl, rfl, Nat.le_trans hz (by decide), fun a ha => ?_⟩
    have hl := split_len z 44
    have hm : ∀ x ∈ Txt.split z ⟨#[44]⟩, x.length ≤ 1000 := fun x hx => Nat.le_trans (split_mem_le hx) hz
    have fT : fltT z = if (Txt.split z ⟨#[44]⟩).all isName = true then some (.t ((Txt.split z ⟨#[44]⟩).map .s)) else none := rfl
    generalize Txt.split z ⟨#[44]⟩ = ps at hl hm fT
    have s1 := Same.upd (o := .lst (ps.map V.str)) ha
    have h1 : upd H a (.lst (ps.map V.str)) a = _ := upd_same
    generalize upd H a (.lst (ps.map V.str)) = H1 at s1 h1
    refine ⟨a, rfl, ⟨_, SqL.of h1⟩, lc_list (K := K) (a := a) (xs := ps.map V.str) (fun i ys G => Same H1 G ∧ ys = ((ps.take i).map isName).map V.bl) ⟨Same.refl _, rfl⟩ ?_ ?_ ?_ ?_⟩
    · rintro i ys G hi ⟨s2, rfl⟩
      exact ⟨SqL.of (s2 _ _ h1), by rw [List.length_map, List.length_map, List.length_take]; omega⟩
    · rw [List.length_map]; exact Nat.le_trans (show ps.length ≤ 1001 by omega) (by decide)
    · rintro i x ys G hx ⟨s2, rfl⟩
      rw [List.getElem?_map] at hx
      obtain ⟨p, hp, rfl⟩ := Option.map_eq_some_iff.mp hx
      walk_at "sx"
      refine ⟨.str p, rfl, .str p (hm p (List.mem_of_getElem? hp)), fun H2 s3 => ⟨s2.trans s3, ?_⟩⟩
      rw [take_snoc' hp, List.map_append, List.map_append]
      rfl
    · rintro ys G ⟨s2, rfl⟩ D hD
      rw [List.length_map, List.take_length]
      have s3 := (s1.trans s2).trans (Same.upd (o := .lst ((ps.map isName).map V.bl)) hD)
      refine ⟨ps.map isName, SqL.of upd_same, ?_⟩
      have ea : (ps.map isName).all id = ps.all isName := by rw [List.all_map]; rfl
      rw [ea]
      by_cases h : ps.all isName = true
      · rw [if_pos h] at fT ⊢
        refine ⟨a, rfl, _, .inl ⟨SqL.of ((Same.upd hD) _ _ (s2 _ _ h1)), fun t ht => k _ _ ?_ (s3.trans (Same.upd ht))⟩⟩
        rw [fT]
        refine Rep.tup upd_same ⟨by rw [List.length_map, List.length_map], fun i x u hx hu => ?_⟩
        rw [List.getElem?_map] at hx hu
        obtain ⟨p, hp, rfl⟩ := Option.map_eq_some_iff.mp hx
        rw [hp] at hu
        cases hu
        exact .s p
      · rw [if_neg h] at fT ⊢
        exact k _ _ (by rw [fT]; rfl) s3
theorem sc_field_at : FnScope ["slot", "word"] ["slot", "word"] (defScope (top 42)) := ⟨rfl, rfl, rfl, by decide +kernel, rfl, by decide +kernel, by decide +kernel⟩
theorem ok_field_at (T : Tx P w K mg)
    (G_bounded : FnOk P w K mg base CX0 2 T.d_bounded.f T.d_bounded.fd ["word", "least", "greatest"] (spBounded))
    (G_is_name : FnOk P w K mg base CX0 2 T.d_is_name.f T.d_is_name.fd ["thing"] (spName))
    (G_told_value_of : FnOk P w K mg base CX0 8 T.d_told_value_of.f T.d_told_value_of.fd ["word"] (spToldOf))
    (G_faults_of_word : FnOk P w K mg base CX0 4 T.d_faults_of_word.f T.d_faults_of_word.fd ["word"] (spFaultsOf)) : FnOk P w K mg base CX0 10 T.d_field_at.f T.d_field_at.fd ["slot", "word"] (spFieldAt) := by
  refine T.d_field_at.F.ok sc_field_at (fun vs H Q E h => ?_) (fun cdv A outer s H vs Q E hr h => ?_)
  · obtain ⟨y, z, rfl, _⟩ := h
    rfl
  · obtain ⟨y, z, rfl, hy, hz, k⟩ := h
    refine ⟨_, (pss_cons (ps_if (pt_cmp (pc_dinK (pv 0) (pe_glob (v := .ref T.bda) rfl T.bdm rfl)))
    (pss_one (ps_ret (pe_call G_bounded (hr.mono (by omega)) rfl T.d_bounded.hm T.d_bounded.F.kp T.d_bounded.b .nil pass0 (pa_cons (pv 1) (pa_cons (pe_ix ix_tup (pe_dixK (pe_glob (v := .ref T.bda) rfl T.bdm rfl) (pv 0) (fun _ _ => rfl)) pe_int (fun _ _ => rfl)) (pa_cons (pe_ix ix_tup (pe_dixK (pe_glob (v := .ref T.bda) rfl T.bdm rfl) (pv 0) (fun _ _ => rfl)) pe_int (fun _ _ => rfl)) pa_nil))))))
    pss_nil)
    (pss_cons (ps_if (pt_cmpR op_eq (pv 0) pe_str (nomark _))
    (pss_one (ps_ret (pe_ifExp (pt_val (pe_call G_is_name (hr.mono (by omega)) rfl T.d_is_name.hm T.d_is_name.F.kp T.d_is_name.b .nil pass0 (pa_cons (pv 1) pa_nil))) (pv 1) pe_non)))
    pss_nil)
    (pss_cons (ps_if (pt_cmpR op_eq (pv 0) pe_str (nomark _))
    (pss_one (ps_ret (pe_call G_told_value_of (hr.mono (by omega)) rfl T.d_told_value_of.hm T.d_told_value_of.F.kp T.d_told_value_of.b .nil pass0 (pa_cons (pv 1) pa_nil))))
    pss_nil)
    (pss_cons (ps_if (PW.pt (pw_and (pt_cmpR op_eq (pv 0) pe_str (nomark _)) (pw_and1 (pt_cmpR op_eq (pv 1) (pe_glob (v := .str "-") rfl T.nom ⟨_, rfl⟩) (nomark _)))))
    (pss_one (ps_ret (pe_tup pa_nil)))
    pss_nil)
    (pss_cons (ps_if (pt_cmpR op_in_seq (pv 0) (pe_tup (pa_cons pe_str (pa_cons pe_str pa_nil))) (by with_unfolding_all rfl))
    (pss_one (ps_ret (pe_call G_faults_of_word (hr.mono (by omega)) rfl T.d_faults_of_word.hm T.d_faults_of_word.F.kp T.d_faults_of_word.b .nil pass0 (pa_cons (pv 1) pa_nil))))
    pss_nil)
    (pss_one (ps_ret (pe_ifExp (pt_cmpR op_eq (pv 1) (pv 0) (nomark _)) (pv 1) pe_non)))))))), ?_⟩
    walk_at "sy"
    have bv := T.bv y
    refine dinK (P := P) (w := w) rfl T.bd ⟨_, rfl, ?_⟩
    rw [Bool.false_xor]
    have fT : fieldT y z = match bndsOf y with
      | some b => bndT z b.1 b.2
      | none => if y = "NAME" then (if isName z = true then some (.s z) else none) else if y = "TOLD" then toldT z else if y = "NOTED" ∧ z = dsh then some (.t []) else if y = "NOTED" ∨ y = "FAULTS" then fltT z else if z = y then some (.s z) else none := rfl
    cases e : bndsOf y with
    | some b =>
      rw [e] at bv fT
      obtain ⟨c, ec, hc⟩ := bv
      rw [ec]
      refine iteT' rfl (dixK (P := P) (w := w) rfl T.bd ec ⟨c, _, 0, .int b.1, rfl, rfl, hc _, atI_nat (j := 0) rfl, dixK (P := P) (w := w) rfl T.bd ec ⟨c, _, 1, .int b.2, rfl, rfl, hc _, atI_nat (j := 1) rfl, z, b.1, b.2, rfl, hz, fun H1 s1 => k _ H1 ?_ s1⟩⟩)
      rw [fT]
      exact bnd_OT
    | none =>
      rw [e] at bv fT
      have bv' : L2.valV T.bkv (.inr y) = none := bv
      have fT' : fieldT y z = if y = "NAME" then (if isName z = true then some (.s z) else none) else if y = "TOLD" then toldT z else if y = "NOTED" ∧ z = dsh then some (.t []) else if y = "NOTED" ∨ y = "FAULTS" then fltT z else if z = y then some (.s z) else none := fT
      rw [bv']
      refine iteF' rfl ⟨rfl, ?_⟩
      by_cases h1 : y = "NAME"
      · rw [if_pos h1] at fT'
        refine ifT h1 ⟨.str z, rfl, .str z hz, fun H1 s1 => ⟨_, rfl, ?_⟩⟩
        show if isName z = true then _ else _
        by_cases h : isName z = true
        · rw [if_pos h] at fT' ⊢
          exact k _ H1 (by rw [fT']; exact .s z) s1
        · rw [if_neg h] at fT' ⊢
          exact k _ H1 (by rw [fT']; rfl) s1
      rw [if_neg h1] at fT'
      refine ifF h1 ⟨rfl, ?_⟩
      by_cases h2 : y = "TOLD"
      · rw [if_pos h2] at fT'
        exact ifT h2 ⟨z, rfl, hz, fun v H1 o s1 => k v H1 (by rw [fT']; exact o) s1⟩
      rw [if_neg h2] at fT'
      refine ifF h2 ⟨rfl, ?_⟩
      have rest : ¬ (y = "NOTED" ∧ z = dsh) → 2 ≤ sizeLine ∧ ∀ p : Addr, H p = none → rIn K false (.str y) (.ref p) (upd H p (.tup [.str "NOTED", .str "FAULTS"])) fun x H' => ∃ k : Bool, x = .bl k ∧ if k = true then spFaultsOf [.str z] H' Q E0 else scal (.str z) (.str y) = true ∧ if decide (z = y) = true then Q (.str z) H' else Q .non H' := fun h3 => by
        rw [if_neg h3] at fT'
        refine ⟨by decide, fun p hp => ⟨p, _, rfl, .inr (SqT.of upd_same), rfl, rfl, ?_⟩⟩
        rw [if_neg Bool.false_ne_true, show ([V.str "NOTED", V.str "FAULTS"] : List V) = (["NOTED", "FAULTS"] : List Str).map V.str from rfl, inV_strs]
        have s1 := Same.upd (o := .tup ((["NOTED", "FAULTS"] : List Str).map V.str)) hp
        refine ⟨_, rfl, ?_⟩
        by_cases h4 : y = "NOTED" ∨ y = "FAULTS"
        · rw [if_pos h4] at fT'
          refine ifT (by rcases h4 with q | q <;> rw [q] <;> simp) ⟨z, rfl, hz, fun v H1 o s2 => k v H1 (by rw [fT']; exact o) (s1.trans s2)⟩
        · rw [if_neg h4] at fT'
          refine ifF (by simpa using h4) ⟨rfl, ?_⟩
          by_cases h5 : z = y
          · rw [if_pos h5] at fT'
            exact ifT h5 (k _ _ (by rw [fT']; exact .s z) s1)
          · rw [if_neg h5] at fT'
            exact ifF h5 (k _ _ (by rw [fT']; rfl) s1)
      by_cases h3 : y = "NOTED"
      · refine ifT h3 ⟨rfl, ?_⟩
        by_cases h4 : z = "-"
        · refine ifT h4 ⟨by decide, fun p hp => k _ _ ?_ (Same.upd hp)⟩
          rw [fT', if_pos ⟨h3, h4⟩]
          exact Rep.tup upd_same (Reps.nil _)
        · exact ifF h4 (rest fun q => h4 q.2)
      · exact ifF h3 (L2.iteF (rest fun q => h3 q.1))
theorem sc_fitted : FnScope ["slots", "words", "field_at", "fields"] ["slots", "words", "field_at"] (defScope (top 21)) := ⟨rfl, rfl, rfl, by decide +kernel, rfl, by decide +kernel, by decide +kernel⟩
theorem ok_fitted (T : Tx P w K mg)
    (G_field_at : FnOk P w K mg base CX0 10 T.d_field_at.f T.d_field_at.fd ["slot", "word"] (spFieldAt)) : FnOk P w K mg base CX0 12 T.d_fitted.f T.d_fitted.fd ["slots", "words", "field_at"] (spFitted T.d_field_at.f) := by
  refine T.d_fitted.F.ok sc_fitted (fun vs H Q E h => ?_) (fun cdv A outer s H vs Q E hr h => ?_)
  · obtain ⟨a, b, slots, ws, rfl, _⟩ := h
    rfl
  · obtain ⟨a, b, slots, ws, rfl, ha, hb, ws1, ws2, k0, k1⟩ := h
    have hu := hu100 hr
    have G_own := G_field_at
    have kp_own := T.d_field_at.F.kp
    have b_own := T.d_field_at.b
    refine ⟨_, (pss_cons (ps_if (pt_cmpR op_ne (pe_callB call_len (by rfl) T.n_len bt_len (pa_cons (pv 0) pa_nil)) (pe_callB call_len (by rfl) T.n_len bt_len (pa_cons (pv 1) pa_nil)) (nomark _))
    (pss_one (ps_ret pe_non))
    pss_nil)
    (pss_cons (ps_setLc (i := 3) sc_fitted.nd rfl (Or.inl rfl) (N' := ["slot", "word", "field_at"]) (sel := [none, none, some 2]) rfl rfl rfl (pi_zip rfl T.n_zip (pa_cons (pv 0) (pa_cons (pv 1) pa_nil))) (gk_two rfl rfl) (fun _ _ _ _ _ => ⟨(pg_tup rfl (pgs_cons (pg_name (i := 0) (show (["slot", "word", "field_at"] : List Str).Nodup by decide +kernel) rfl (Or.inl rfl)) (pgs_cons (pg_name (i := 1) (show (["slot", "word", "field_at"] : List Str).Nodup by decide +kernel) rfl (Or.inl rfl)) pgs_nil))), pts_nil, (pe_callV (pv 2) G_own (hr.mono (by omega)) kp_own b_own .nil pass0 (pa_cons (pv 0) (pa_cons (pv 1) pa_nil)))⟩) rfl)
    (pss_one (ps_ret (pe_ifExp (pt_cmpR (op_inD hu) pe_non (pv 3) (by with_unfolding_all rfl)) pe_non (pv 3)))))), ?_⟩
    walk_at "sx"
    refine ⟨slots.length, lenV_ref.mpr (.inl ⟨_, SqL.of ha, by rw [List.length_map]⟩), ws.length, lenV_ref.mpr (.inl ⟨_, SqL.of hb, by rw [List.length_map]⟩), rfl, ?_⟩
    by_cases hl : slots.length = ws.length
    · refine ifNF (by rw [hl]) ?_
      simp only [tSetLc, iZip]
      walk_at "sx"
      refine ⟨⟨_, SqL.of ha⟩, ⟨_, SqL.of hb⟩, ?_⟩
      refine lc_zip (K := K) (xs := slots.map V.str) (ys := ws.map V.str) (by rw [List.length_map, List.length_map, hl]) (fun i zs G => Same H G ∧ OTs G zs ((List.zipWith fieldT slots ws).take i)) ⟨Same.refl H, OTs.nil _⟩ ?_ ?_ ?_ ?_
      · rintro i zs G hi ⟨s1, o1⟩
        exact ⟨SqL.of (s1 _ _ ha), SqL.of (s1 _ _ hb), by rw [o1.1, List.length_take]; omega⟩
      · rw [List.length_map]; exact Nat.le_trans ws1.1 (by decide)
      · rintro i x y p zs G hx hy ⟨s1, o1⟩ hp
        rw [List.getElem?_map] at hx hy
        obtain ⟨sl, hsl, rfl⟩ := Option.map_eq_some_iff.mp hx
        obtain ⟨wd, hwd, rfl⟩ := Option.map_eq_some_iff.mp hy
        simp only [gTup, gCons, gNil, tCallV]
        walk_at "sx"
        have e1 : (List.zipWith fieldT slots ws)[i]? = some (fieldT sl wd) := by rw [List.getElem?_zipWith, hsl, hwd]
        refine ⟨_, SqT.of upd_same, rfl, _, _, rfl, _, _, rfl, rfl, sl, wd, rfl, ws1.2 _ (List.mem_of_getElem? hsl), ws2.2 _ (List.mem_of_getElem? hwd), fun v H4 o4 s4 => ⟨(s1.trans (Same.upd hp)).trans s4, ?_⟩⟩
        rw [take_snoc' e1]
        exact (o1.same ((Same.upd hp).trans s4)).snoc o4
      · rintro zs G ⟨s1, o1⟩ D hD
        rw [List.length_map, List.take_of_length_le (by rw [List.length_zipWith]; omega)] at o1
        have s2 : Same H (upd G D (.lst zs)) := s1.trans (Same.upd hD)
        have o2 := o1.same (Same.upd (o := .lst zs) hD)
        obtain ⟨e, he, hany⟩ := none_in (K := K) o2
        refine ⟨D, zs, 1, e, rfl, SqL.of upd_same, by decide, he, _, rfl, ?_⟩
        rw [Bool.false_xor, hany]
        cases hi : (List.zipWith fieldT slots ws).any Option.isNone with
        | true =>
          refine k0 ?_ _ s2
          unfold fitT
          rw [if_pos hl]
          exact allO_any.1 hi
        | false =>
          obtain ⟨ts, e1, e2⟩ := allO_any.2 hi
          rw [e2] at o2
          refine k1 ts ?_ D zs _ (s1.free hD) upd_same o2.reps s2
          unfold fitT
          rw [if_pos hl]
          exact e1
    · refine ifNT (fun q => hl (Int.ofNat.inj q)) (k0 ?_ H (Same.refl H))
      unfold fitT
      rw [if_neg hl]
theorem sc_first_fit : FnScope ["forms", "words", "field_at", "form", "fields"] ["forms", "words", "field_at"] (defScope (top 22)) := ⟨rfl, rfl, rfl, by decide +kernel, rfl, by decide +kernel, by decide +kernel⟩
theorem ok_first_fit (T : Tx P w K mg)
    (G_fitted : FnOk P w K mg base CX0 12 T.d_fitted.f T.d_fitted.fd ["slots", "words", "field_at"] (spFitted T.d_field_at.f)) : FnOk P w K mg base CX0 14 T.d_first_fit.f T.d_first_fit.fd ["forms", "words", "field_at"] (spFirst T) := by
  refine T.d_first_fit.F.ok sc_first_fit (fun vs H Q E h => ?_) (fun cdv A outer s H vs Q E hr h => ?_)
  · obtain ⟨a, b, F, ws, rfl, _⟩ := h
    rfl
  · obtain ⟨a, b, F, ws, rfl, hF, hb, hw, k0, k1⟩ := h
    obtain ⟨hF1, hF2, hF3, hF4⟩ := hF
    refine ⟨_, (pss_cons (ps_for PassesOwn.never rfl (pi_tup (pv 0)) (pg_name (i := 3) sc_first_fit.nd rfl (Or.inl rfl))
    (pss_cons (ps_set (i := 4) sc_first_fit.nd rfl (Or.inl rfl) (pe_call G_fitted (hr.mono (by omega)) rfl T.d_fitted.hm T.d_fitted.F.kp T.d_fitted.b .nil pass0 (pa_cons (pe_bm PySem.F.plainAttrs_str PySem.F.slot_str_split PySem.F.type_str_split mt_split (pv 3) (pa_cons pe_str pa_nil)) (pa_cons (pv 1) (pa_cons (pv 2) pa_nil)))))
    (pss_one (ps_if (pt_cmpR op_notN (pv 4) pe_non (nomark _))
    (pss_one (ps_ret (pv 4)))
    pss_nil))))
    (pss_one (ps_ret pe_non))), ?_⟩
    walk_at "sx"
    simp only [tFor, iTup, tVar, List.getElem?_cons_zero, Option.some.injEq, exists_eq_left', V.ref.injEq]
    refine ⟨⟨_, hF1 H⟩, ?_⟩
    refine for_tup (K := K) (a := a) (xs := F.map V.str) (D := { nx := tRet (tC V.non) { nx := fun x H' => Q V.non H', rt := Q }, rt := Q }) (fun i σ G => Same H G ∧ (∃ x y, σ = [some (V.ref a), some (V.ref b), some (V.ref T.d_field_at.f), x, y]) ∧ firstT ((F.map fun f => Txt.split f ⟨#[32]⟩).drop i) ws = firstT (F.map fun f => Txt.split f ⟨#[32]⟩) ws) ⟨Same.refl H, ⟨_, _, rfl⟩, rfl⟩ ?_ ?_ ?_
    · rintro i σ G hi ⟨s1, _, _⟩
      exact hF1 G
    · rintro i x σ G hx ⟨s1, ⟨x1, y1, rfl⟩, e⟩
      rw [List.getElem?_map] at hx
      obtain ⟨fm, hfm, rfl⟩ := Option.map_eq_some_iff.mp hx
      have hS : (F.map fun f => Txt.split f ⟨#[32]⟩)[i]? = some (Txt.split fm ⟨#[32]⟩) := by rw [List.getElem?_map, hfm]; rfl
      have hd := firstT_drop (ws := ws) hS
      rw [e] at hd
      have hfi := List.mem_of_getElem? hfm
      walk_at "sx"
      refine ⟨fm, 32, rfl, by rw [sp1], Nat.le_trans (hF3 fm hfi) (by decide), fun q hq => ?_⟩
      have sq := s1.trans (Same.upd (o := .lst ((Txt.split fm ⟨#[32]⟩).map V.str)) hq)
      refine ⟨q, b, _, ws, rfl, upd_same, sq _ _ hb, hF4 fm hfi, hw, fun e2 H1 sm => ?_, fun ts e2 l us H1 hl0 hl1 r sm => ?_⟩
      · rw [e2] at hd
        exact ifNF rfl ⟨sq.trans sm, ⟨_, rfl⟩, hd.symm⟩
      · rw [e2] at hd
        exact ifNT (fun z => nomatch z) (k1 ts hd l us H1 (sq.free hl0) hl1 r (sq.trans sm))
    · rintro σ G ⟨s1, _, e⟩
      rw [List.length_map] at e
      rw [List.drop_of_length_le (by rw [List.length_map]; exact Nat.le_refl _)] at e
      walk_at "sx"
      exact k0 e.symm G s1
theorem sc_tuple_of : FnScope ["forms", "words", "fields"] ["forms", "words"] (defScope (top 43)) := ⟨rfl, rfl, rfl, by decide +kernel, rfl, by decide +kernel, by decide +kernel⟩
theorem ok_tuple_of (T : Tx P w K mg)
    (G_first_fit : FnOk P w K mg base CX0 14 T.d_first_fit.f T.d_first_fit.fd ["forms", "words", "field_at"] (spFirst T)) : FnOk P w K mg base CX0 16 T.d_tuple_of.f T.d_tuple_of.fd ["forms", "words"] (spTupleOf T) := by
  refine T.d_tuple_of.F.ok sc_tuple_of (fun vs H Q E h => ?_) (fun cdv A outer s H vs Q E hr h => ?_)
  · obtain ⟨a, b, F, ws, rfl, _⟩ := h
    rfl
  · obtain ⟨a, b, F, ws, rfl, hF, hb, hw, k⟩ := h
    refine ⟨_, (pss_cons (ps_set (i := 2) sc_tuple_of.nd rfl (Or.inl rfl) (pe_call G_first_fit (hr.mono (by omega)) rfl T.d_first_fit.hm T.d_first_fit.F.kp T.d_first_fit.b .nil pass0 (pa_cons (pv 0) (pa_cons (pv 1) (pa_cons (pe_glob (v := .ref T.d_field_at.f) rfl T.d_field_at.hm rfl) pa_nil)))))
    (pss_one (ps_ret (pe_ifExp (pt_cmpR op_isN (pv 2) pe_non (nomark _)) pe_non (pe_callTy call_tuple_of (by rfl) T.n_tuple bt_tuple (pa_cons (pv 2) pa_nil)))))), ?_⟩
    walk_at "sx"
    refine ⟨a, b, F, ws, rfl, hF, hb, hw, fun e H1 s1 => ifT rfl (k _ H1 (by rw [e]; rfl) s1), fun ts e l us H1 hl0 hl r s1 => ifF (fun z => nomatch z) ⟨l, rfl, us, .inl ⟨SqL.of hl, fun t ht => k _ _ ?_ (s1.trans (Same.upd ht))⟩⟩⟩
    rw [e]
    exact Rep.tup upd_same (r.sameT (sameT_of (Same.upd ht)))
theorem sc_faults_text : FnScope ["faults"] ["faults"] (defScope (top 32)) := ⟨rfl, rfl, rfl, by decide +kernel, rfl, by decide +kernel, by decide +kernel⟩
theorem ok_faults_text (T : Tx P w K mg) : FnOk P w K mg base CX0 1 T.d_faults_text.f T.d_faults_text.fd ["faults"] (spFaultsText) := by
  refine T.d_faults_text.F.ok sc_faults_text (fun vs H Q E h => ?_) (fun cdv A outer s H vs Q E hr h => ?_)
  · obtain ⟨v, fs, rfl, _⟩ := h
    rfl
  · obtain ⟨v, fs, rfl, hv, hf, k⟩ := h
    have hu := hu100 hr
    refine ⟨_, (pss_one (ps_ret (pe_ifExp (pt_cmpR (op_eqT hu) (pv 0) (pe_tup pa_nil) (nomark _)) (pe_glob (v := .str "-") rfl T.nom ⟨_, rfl⟩) (pe_bm PySem.F.plainAttrs_str PySem.F.slot_str_join PySem.F.type_str_join mt_joinT pe_str (pa_cons (pv 0) pa_nil))))), ?_⟩
    walk_at "sy"
    obtain ⟨a, xs, rfl, ha, hR⟩ := hv.tupI
    have ex := Reps.flatI hR fun f hf' => (hf.1 f hf').flat
    rw [nm_vT hf.1] at ex
    refine eqNilT (K := K) ha fun G' s' => ⟨_, rfl, ?_⟩
    cases fs with
    | nil =>
      subst ex
      exact ifT rfl (k G' s')
    | cons f r =>
      refine ifF (by rw [ex]; exact fun z => nomatch z) ⟨",", a, _, rfl, rfl, SqT.of (by rw [s' _ _ ha, ex]), ?_, ?_⟩
      · have h2 := sum_lens (L := (f :: r).map sT) (c := 40) fun l hl => by
          obtain ⟨g, hg, rfl⟩ := List.mem_map.mp hl
          exact (wd_nm (hf.1 g hg)).le
        rw [List.length_map] at h2 ⊢
        have h3 := hf.2.2
        have h4 : ("," : Str).length = 1 := by decide +kernel
        rw [h4]
        omega
      · rw [glue_join, cm_is]
        exact k G' s'
theorem sc_outcome_text : FnScope ["outcome"] ["outcome"] (defScope (top 33)) := ⟨rfl, rfl, rfl, by decide +kernel, rfl, by decide +kernel, by decide +kernel⟩
theorem ok_outcome_text (T : Tx P w K mg)
    (G_faults_text : FnOk P w K mg base CX0 1 T.d_faults_text.f T.d_faults_text.fd ["faults"] (spFaultsText)) : FnOk P w K mg base CX0 2 T.d_outcome_text.f T.d_outcome_text.fd ["outcome"] (spOutText) := by
  refine T.d_outcome_text.F.ok sc_outcome_text (fun vs H Q E h => ?_) (fun cdv A outer s H vs Q E hr h => ?_)
  · obtain ⟨v, os, rfl, _⟩ := h
    rfl
  · obtain ⟨v, os, rfl, hv, ho, k⟩ := h
    refine ⟨_, (pss_cons (ps_if (pt_cmpR op_eq (pe_ix ix_tup (pv 0) pe_int (fun _ _ => rfl)) pe_str (nomark _))
    (pss_one (ps_ret (pe_op op_add_str pe_str (pe_callTy call_strV (by rfl) T.n_str bt_str (pa_cons (pe_ix ix_tup (pv 0) pe_int (fun _ _ => rfl)) pa_nil)))))
    pss_nil)
    (pss_cons (ps_if (pt_cmpR op_eq (pe_ix ix_tup (pv 0) pe_int (fun _ _ => rfl)) pe_str (nomark _))
    (pss_one (ps_ret (pe_op op_add_str pe_str (pe_call G_faults_text (hr.mono (by omega)) rfl T.d_faults_text.hm T.d_faults_text.F.kp T.d_faults_text.b .nil pass0 (pa_cons (pe_ix ix_tup (pv 0) pe_int (fun _ _ => rfl)) pa_nil)))))
    pss_nil)
    (pss_one (ps_ret (pe_ix ix_tup (pv 0) pe_int (fun _ _ => rfl)))))), ?_⟩
    walk_at "sy"
    obtain ⟨a, xs, rfl, ha, hR⟩ := hv.tupI
    have l1 : ("value " : Str).length = 6 := by decide +kernel
    have l2 : ("faults " : Str).length = 7 := by decide +kernel
    cases ho with
    | @value t ht =>
      obtain ⟨x0, r, rfl, r0, hR⟩ := Reps.consI hR
      obtain ⟨x1, r, rfl, r1, hR⟩ := Reps.consI hR
      cases r0
      have e1 := r1.flatI ht.flat
      subst e1
      have le := (wd_told ht).le
      refine ixT ha 0 rfl ⟨rfl, ifT rfl (ixT ha 1 rfl ?_)⟩
      rcases ht with ⟨n, rfl, h0, h1⟩ | ⟨z, rfl, hz⟩
      · refine .inl ⟨n, rfl, log_lt h0 (by omega), ?_, ?_⟩
        · rw [l1]; exact big (by show 6 + (sT (.i n)).length ≤ _; omega)
        · rw [val_j]; exact k H (Same.refl H)
      · refine .inr ⟨z, rfl, ?_, ?_⟩
        · rw [l1]; exact big (by show 6 + (sT (.s z)).length ≤ _; omega)
        · rw [val_j]; exact k H (Same.refl H)
    | @faults fs hf =>
      obtain ⟨x0, r, rfl, r0, hR⟩ := Reps.consI hR
      obtain ⟨x1, r, rfl, r1, hR⟩ := Reps.consI hR
      cases r0
      have le := (wd_flt (fs := fs) ⟨hf.1, Nat.zero_le _, hf.2.2⟩).le
      refine ixT ha 0 rfl ⟨rfl, ifF (by decide +kernel) (ixT ha 0 rfl ⟨rfl, ifT rfl (ixT ha 1 rfl ⟨x1, fs, rfl, r1, ⟨hf.1, Nat.zero_le _, hf.2.2⟩, fun H' s' => ⟨_, rfl, ?_, ?_⟩⟩)⟩)⟩
      · rw [l2]; exact big (by omega)
      · rw [flt_j]; exact k H' s'
    | @bare z hz =>
      obtain ⟨x0, r, rfl, r0, hR⟩ := Reps.consI hR
      cases r0
      refine ixT ha 0 rfl ⟨rfl, ifF ?_ (ixT ha 0 rfl ⟨rfl, ifF ?_ (ixT ha 0 rfl (k H (Same.refl H)))⟩)⟩
      · rcases hz with rfl | rfl <;> decide +kernel
      · rcases hz with rfl | rfl <;> decide +kernel
theorem sc_part_text : FnScope ["word", "part"] ["word", "part"] (defScope (top 34)) := ⟨rfl, rfl, rfl, by decide +kernel, rfl, by decide +kernel, by decide +kernel⟩
theorem ok_part_text (T : Tx P w K mg)
    (G_outcome_text : FnOk P w K mg base CX0 2 T.d_outcome_text.f T.d_outcome_text.fd ["outcome"] (spOutText))
    (G_faults_text : FnOk P w K mg base CX0 1 T.d_faults_text.f T.d_faults_text.fd ["faults"] (spFaultsText)) : FnOk P w K mg base CX0 4 T.d_part_text.f T.d_part_text.fd ["word", "part"] (spPartText) := by
  refine T.d_part_text.F.ok sc_part_text (fun vs H Q E h => ?_) (fun cdv A outer s H vs Q E hr h => ?_)
  · obtain ⟨w, v, t, rfl, _⟩ := h
    rfl
  · obtain ⟨wd, v, t, rfl, hv, ho, k⟩ := h
    refine ⟨_, (pss_cons (ps_if (pt_not (pt_val (pe_callB call_isinst (by rfl) T.n_isinstance bt_isinstance (pa_cons (pv 1) (pa_cons (pe_bltn (v := .ty "tuple") rfl T.n_tuple bt_tuple rfl) pa_nil)))))
    (pss_one (ps_ret (pe_callTy call_strV (by rfl) T.n_str bt_str (pa_cons (pv 1) pa_nil))))
    pss_nil)
    (pss_one (ps_ret (pe_ifExp (pt_cmpR op_eq (pv 0) pe_str (nomark _)) (pe_call G_outcome_text (hr.mono (by omega)) rfl T.d_outcome_text.hm T.d_outcome_text.F.kp T.d_outcome_text.b .nil pass0 (pa_cons (pv 1) pa_nil)) (pe_call G_faults_text (hr.mono (by omega)) rfl T.d_faults_text.hm T.d_faults_text.F.kp T.d_faults_text.b .nil pass0 (pa_cons (pv 1) pa_nil)))))), ?_⟩
    walk_at "sy"
    rcases ho with ⟨n, rfl, a, b⟩ | ⟨z, rfl, hz⟩ | ⟨fs, rfl, hw, hf⟩ | ⟨os, rfl, hw, ho⟩
    · cases hv
      exact ⟨_, .int n, false, rfl, iteT rfl (.inl ⟨n, rfl, log_lt a (by omega), k H (Same.refl H)⟩)⟩
    · cases hv
      exact ⟨_, .str z, false, rfl, iteT rfl (.inr ⟨z, rfl, k H (Same.refl H)⟩)⟩
    · obtain ⟨a, xs, rfl, ha, hR⟩ := hv.tupI
      refine ⟨_, .tup ha, true, rfl, iteF (by decide) ⟨rfl, ifF hw ⟨_, fs, rfl, hv, hf, fun H' s' => ?_⟩⟩⟩
      have := k H' s'
      rw [pw_flt hw] at this
      exact this
    · obtain ⟨a, xs, rfl, ha, hR⟩ := hv.tupI
      refine ⟨_, .tup ha, true, rfl, iteF (by decide) ⟨rfl, ifT hw ⟨_, os, rfl, hv, ho, fun H' s' => ?_⟩⟩⟩
      have := k H' s'
      rw [hw, show partW "ended" (.t os) = outW os from pw_end os] at this
      exact this
theorem sc_deed_text : FnScope ["deed"] ["deed"] (defScope (top 35)) := ⟨rfl, rfl, rfl, by decide +kernel, rfl, by decide +kernel, by decide +kernel⟩
theorem ok_deed_text (T : Tx P w K mg)
    (G_part_text : FnOk P w K mg base CX0 4 T.d_part_text.f T.d_part_text.fd ["word", "part"] (spPartText)) : FnOk P w K mg base CX0 6 T.d_deed_text.f T.d_deed_text.fd ["deed"] (spDeedText) := by
  refine T.d_deed_text.F.ok sc_deed_text (fun vs H Q E h => ?_) (fun cdv A outer s H vs Q E hr h => ?_)
  · obtain ⟨v, d, rfl, _⟩ := h
    rfl
  · obtain ⟨v, d, rfl, hv, ho, k⟩ := h
    refine ⟨_, (pss_one (ps_ret (pe_bm PySem.F.plainAttrs_str PySem.F.slot_str_join PySem.F.type_str_join mt_join pe_str (pa_cons (pe_lc (N' := ["part", "deed"]) (sel := [none, some 0]) rfl rfl rfl (pi_tup (pv 0)) (gk_name rfl) (fun _ _ _ _ _ => ⟨(pg_name (i := 0) (show (["part", "deed"] : List Str).Nodup by decide +kernel) rfl (Or.inl rfl)), pts_nil, (pe_call G_part_text (hr.mono (by omega)) rfl T.d_part_text.hm T.d_part_text.F.kp T.d_part_text.b .nil pass0 (pa_cons (pe_ix (ix_tupK (K := K) rfl) (pv 1) pe_int (fun _ _ => rfl)) (pa_cons (pv 0) pa_nil)))⟩)) pa_nil)))), ?_⟩
    walk_at "sw"
    obtain ⟨a, xs, rfl, ha, hR⟩ := hv.tupI
    obtain ⟨wd, ts, rfl, hw, hl, hp⟩ := ho
    obtain ⟨x0, r, rfl, r0, hR'⟩ := Reps.consI hR
    cases r0
    have all : ∀ t ∈ Tr.s wd :: ts, PartOk wd t := fun t ht => by
      rcases List.mem_cons.mp ht with rfl | ht
      · exact .inr (.inl ⟨wd, rfl, hw⟩)
      · exact hp t ht
    have hxl : (V.str wd :: r).length = ts.length + 1 := hR.1
    refine ⟨a, rfl, ⟨_, SqT.of ha⟩, lc_tup (K := K) (a := a) (xs := .str wd :: r) (fun i ys G => Same H G ∧ ys = (((Tr.s wd :: ts).take i).map fun t => J (partW wd t)).map V.str) ⟨Same.refl H, rfl⟩ ?_ ?_ ?_ ?_⟩
    · rintro i ys G hi ⟨s1, rfl⟩
      exact ⟨SqT.of (s1 _ _ ha), by rw [List.length_map, List.length_map, List.length_take]; omega⟩
    · rw [hxl]; exact big (by omega)
    · rintro i x ys G hx ⟨s1, rfl⟩
      have lt : i < (Tr.s wd :: ts).length := by
        have := (List.getElem?_eq_some_iff.mp hx).1
        rw [hxl] at this
        exact this
      have ht : (Tr.s wd :: ts)[i]? = some (Tr.s wd :: ts)[i] := List.getElem?_eq_getElem lt
      have hr' := hR.2 i x _ hx ht
      walk_at "sx"
      refine ixT (s1 _ _ ha) 0 rfl ⟨wd, x, _, rfl, hr'.sameT (sameT_of s1), all _ (List.mem_of_getElem? ht), fun H' s' => ⟨s1.trans s', ?_⟩⟩
      rw [take_snoc' ht, List.map_append, List.map_append]
      rfl
    · rintro ys G ⟨s1, rfl⟩ D hD
      rw [hxl, List.take_of_length_le (show (Tr.s wd :: ts).length ≤ ts.length + 1 from Nat.le_refl _)]
      have hs := sum_lens (L := (Tr.s wd :: ts).map fun t => J (partW wd t)) (c := 200) fun l hl => by
        obtain ⟨t, ht, rfl⟩ := List.mem_map.mp hl
        exact part_len (all t ht)
      refine ⟨" ", D, _, rfl, rfl, SqL.of upd_same, ?_, ?_⟩
      · rw [List.length_map, List.length_cons] at hs ⊢
        have h4 : (" " : Str).length = 1 := by decide +kernel
        rw [h4]
        omega
      · have e : Txt.join " " ((Tr.s wd :: ts).map fun t => J (partW wd t)) = J (deedW (.s wd :: ts)) := by
          rw [glue_join, sp_is]
          show J _ = J (wd :: ts.flatMap (partW wd))
          have := j_flat (xss := (Tr.s wd :: ts).map (partW wd)) fun xs hx => by
            obtain ⟨t, ht, rfl⟩ := List.mem_map.mp hx
            exact part_ne wd t (all t ht)
          rw [List.map_map] at this
          rw [show ((Tr.s wd :: ts).map fun t => J (partW wd t)) = (Tr.s wd :: ts).map (J ∘ partW wd) from rfl, this]
          rfl
        rw [e]
        exact k _ (s1.trans (Same.upd hD))
theorem sc_words_text : FnScope ["words"] ["words"] (defScope (top 36)) := ⟨rfl, rfl, rfl, by decide +kernel, rfl, by decide +kernel, by decide +kernel⟩
theorem ok_words_text (T : Tx P w K mg) : FnOk P w K mg base CX0 1 T.d_words_text.f T.d_words_text.fd ["words"] (spWordsText K) := by
  refine T.d_words_text.F.ok sc_words_text (fun vs H Q E h => ?_) (fun cdv A outer s H vs Q E hr h => ?_)
  · obtain ⟨tp, a, xs, rfl, _⟩ := h
    rfl
  · obtain ⟨tp, a, xs, rfl, hS, hl, hx, k⟩ := h
    refine ⟨_, (pss_one (ps_ret (pe_ifExp (pt_cmpR op_eq (pe_callB call_len (by rfl) T.n_len bt_len (pa_cons (pv 0) pa_nil)) pe_int (nomark _)) (pe_glob (v := .str "-") rfl T.nom ⟨_, rfl⟩) (pe_bm PySem.F.plainAttrs_str PySem.F.slot_str_join PySem.F.type_str_join mt_join pe_str (pa_cons (pe_lc (N' := ["word"]) (sel := [none]) rfl rfl rfl (pi_sq (pv 0)) (gk_name rfl) (fun _ _ _ _ _ => ⟨(pg_name (i := 0) (show (["word"] : List Str).Nodup by decide +kernel) rfl (Or.inl rfl)), pts_nil, (pe_callTy call_strV (by rfl) T.n_str bt_str (pa_cons (pv 0) pa_nil))⟩)) pa_nil))))), ?_⟩
    walk_at "sw"
    have hlen : LenV K (.ref a) H xs.length := by
      unfold SqE at hS
      split at hS
      · exact lenV_ref.mpr (.inr ⟨_, hS, rfl⟩)
      · exact lenV_ref.mpr (.inl ⟨_, hS, rfl⟩)
    refine ⟨_, hlen, rfl, ?_⟩
    cases hxs : xs with
    | nil =>
      subst hxs
      exact ifT rfl (k H (Same.refl H))
    | cons y ys =>
      refine ifF (by show ¬ (((y :: ys).length : Nat) : Int) = 0; rw [List.length_cons]; omega) ?_
      simp only [iSq, tVar, List.getElem?_cons_zero, Option.some.injEq, exists_eq_left', V.ref.injEq]
      refine lc_sq (K := K) (a := a) (xs := xs) tp (fun i zs G => G = H ∧ zs = ((xs.take i).map txt).map V.str) ⟨rfl, rfl⟩ ?_ ?_ ?_ ?_
      · rintro i zs G hi ⟨rfl, rfl⟩
        exact ⟨hS, by rw [List.length_map, List.length_map, List.length_take]; omega⟩
      · exact big (by omega)
      · rintro i x zs G hi ⟨rfl, rfl⟩
        walk_at "sx"
        refine (hx x (List.mem_of_getElem? hi)).t (R := fun z => ((xs.take i).map txt).map V.str ++ [V.str z] = ((xs.take (i + 1)).map txt).map V.str) ?_
        rw [take_snoc' hi, List.map_append, List.map_append]
        rfl
      · rintro zs G ⟨rfl, rfl⟩ D hD
        rw [List.take_length]
        have hs := sum_lens (L := xs.map txt) (c := 60) fun l hl => by
          obtain ⟨t, ht, rfl⟩ := List.mem_map.mp hl
          exact txt_le (hx t ht)
        refine ⟨" ", D, _, rfl, rfl, SqL.of upd_same, ?_, ?_⟩
        · rw [List.length_map] at hs ⊢
          have h4 : (" " : Str).length = 1 := by decide +kernel
          rw [h4]
          omega
        · rw [glue_join, sp_is]
          have := k _ (Same.upd (o := .lst ((xs.map txt).map V.str)) hD)
          rw [hxs] at this ⊢
          exact this
theorem sc_marked_text : FnScope ["marks", "words", "mark"] ["marks"] (defScope (top 37)) := ⟨rfl, rfl, rfl, by decide +kernel, rfl, by decide +kernel, by decide +kernel⟩
theorem ok_marked_text (T : Tx P w K mg)
    (G_words_text : FnOk P w K mg base CX0 1 T.d_words_text.f T.d_words_text.fd ["words"] (spWordsText K)) : FnOk P w K mg base CX0 3 T.d_marked_text.f T.d_marked_text.fd ["marks"] (spMarkedText) := by
  refine T.d_marked_text.F.ok sc_marked_text (fun vs H Q E h => ?_) (fun cdv A outer s H vs Q E hr h => ?_)
  · obtain ⟨v, ms, rfl, _⟩ := h
    rfl
  · obtain ⟨v, ms, rfl, hv, hm, hl, k⟩ := h
    refine ⟨_, (pss_cons (ps_set (i := 1) sc_marked_text.nd rfl (Or.inl rfl) (pe_lst pa_nil))
    (pss_cons (ps_for PassesOwn.never rfl (pi_tup (pv 0)) (pg_name (i := 2) sc_marked_text.nd rfl (Or.inl rfl))
    (pss_one (ps_expr (pe_bm PySem.F.plainAttrs_list PySem.F.slot_list_extend PySem.F.type_list_extend mt_extendT (pv 1) (pa_cons (pv 2) pa_nil)))))
    (pss_one (ps_ret (pe_call G_words_text (hr.mono (by omega)) rfl T.d_words_text.hm T.d_words_text.F.kp T.d_words_text.b .nil pass0 (pa_cons (pv 1) pa_nil)))))), ?_⟩
    walk_at "sy"
    obtain ⟨a, xs, rfl, ha, hR⟩ := hv.tupI
    have hxl : xs.length = ms.length := hR.1
    refine ⟨by decide, fun p hp => ⟨_, rfl, a, rfl, ⟨_, SqT.of ((Same.upd hp) _ _ ha)⟩, ?_⟩⟩
    refine for_tup (K := K) (a := a) (xs := xs) (fun i σ H2 => ∃ o : Option V, σ = [some (.ref a), some (.ref p), o] ∧ H2 p = some (.lst ((ms.take i).flatMap markV)) ∧ Same H H2) ⟨none, rfl, upd_same, Same.upd hp⟩ (fun i σ H2 _ ⟨_, _, _, s2⟩ => SqT.of (s2 a _ ha)) ?_ ?_
    · rintro i x σ H2 hi ⟨o, rfl, h2, s2⟩
      have lt : i < ms.length := by
        have := (List.getElem?_eq_some_iff.mp hi).1
        omega
      have ht : ms[i]? = some ms[i] := List.getElem?_eq_getElem lt
      have hr' := hR.2 i x _ hi ht
      have hmk := hm _ (List.mem_of_getElem? ht)
      have hv3 := mark_rep hmk hr'
      obtain ⟨b, ys, rfl, hb, ey, h3⟩ := hv3
      have hle := marks_len (ms := ms.take i) fun m hm' => hm m (List.mem_of_mem_take hm')
      rw [List.length_take] at hle
      walk_at "sx"
      refine ⟨.inl ⟨_, SqL.of h2⟩, p, b, _, ys, rfl, rfl, h2, s2 _ _ hb, big (by omega), ?_, ?_⟩
      · rw [upd_same, take_snoc' ht, List.flatMap_append, ← ey]
        simp
      · exact same_set s2 hp
    · rintro σ H2 ⟨o, rfl, h2, s2⟩
      rw [hxl, List.take_length] at h2
      have hle := marks_len hm
      walk_at "sy"
      refine ⟨false, p, _, rfl, SqL.of h2, by omega, marks_tv hm, fun H' s' => ?_⟩
      rw [marks_txt hm]
      exact k H' (s2.trans s')
theorem sc_row_text : FnScope ["row", "words"] ["row"] (defScope (top 38)) := ⟨rfl, rfl, rfl, by decide +kernel, rfl, by decide +kernel, by decide +kernel⟩
theorem ok_row_text (T : Tx P w K mg)
    (G_deed_text : FnOk P w K mg base CX0 6 T.d_deed_text.f T.d_deed_text.fd ["deed"] (spDeedText))
    (G_marked_text : FnOk P w K mg base CX0 3 T.d_marked_text.f T.d_marked_text.fd ["marks"] (spMarkedText))
    (G_words_text : FnOk P w K mg base CX0 1 T.d_words_text.f T.d_words_text.fd ["words"] (spWordsText K)) : FnOk P w K mg base CX0 8 T.d_row_text.f T.d_row_text.fd ["row"] (spRowText) := by
  refine T.d_row_text.F.ok sc_row_text (fun vs H Q E h => ?_) (fun cdv A outer s H vs Q E hr h => ?_)
  · obtain ⟨v, r, rfl, _⟩ := h
    rfl
  · obtain ⟨v, r, rfl, hv, hok, k⟩ := h
    refine ⟨_, (pss_cons (ps_set (i := 1) sc_row_text.nd rfl (Or.inl rfl) (pe_lst (pa_cons (pe_callTy call_strV (by rfl) T.n_str bt_str (pa_cons (pe_ix ix_tup (pv 0) pe_int (fun _ _ => rfl)) pa_nil)) (pa_cons (pe_callTy call_strV (by rfl) T.n_str bt_str (pa_cons (pe_ix ix_tup (pv 0) pe_int (fun _ _ => rfl)) pa_nil)) (pa_cons (pe_call G_deed_text (hr.mono (by omega)) rfl T.d_deed_text.hm T.d_deed_text.F.kp T.d_deed_text.b .nil pass0 (pa_cons (pe_ix ix_tup (pv 0) pe_int (fun _ _ => rfl)) pa_nil)) (pa_cons (pe_glob (v := .str "/") rfl T.skm ⟨_, rfl⟩) (pa_cons (pe_call G_marked_text (hr.mono (by omega)) rfl T.d_marked_text.hm T.d_marked_text.F.kp T.d_marked_text.b .nil pass0 (pa_cons (pe_ix ix_tup (pv 0) pe_int (fun _ _ => rfl)) pa_nil)) (pa_cons (pe_glob (v := .str "/") rfl T.skm ⟨_, rfl⟩) (pa_cons (pe_call G_words_text (hr.mono (by omega)) rfl T.d_words_text.hm T.d_words_text.F.kp T.d_words_text.b .nil pass0 (pa_cons (pe_ix ix_tup (pv 0) pe_int (fun _ _ => rfl)) pa_nil)) pa_nil)))))))))
    (pss_one (ps_ret (pe_bm PySem.F.plainAttrs_str PySem.F.slot_str_join PySem.F.type_str_join mt_join pe_str (pa_cons (pv 1) pa_nil))))), ?_⟩
    walk_at "sy"
    obtain ⟨a, xs, rfl, ha, hR⟩ := Rep.tupI hv
    obtain ⟨x0, r1, rfl, r0, hR⟩ := Reps.consI hR
    obtain ⟨x1, r2, rfl, rw', hR⟩ := Reps.consI hR
    obtain ⟨x2, r3, rfl, rd, hR⟩ := Reps.consI hR
    obtain ⟨x3, r4, rfl, rm, hR⟩ := Reps.consI hR
    obtain ⟨x4, r5, rfl, rk, hR⟩ := Reps.consI hR
    cases Reps.nilI hR
    cases r0
    have ew := rw'.flatI (who_flat hok)
    subst ew
    obtain ⟨ka, ks, rfl, hk, hkR⟩ := rk.tupI
    have ek := Reps.flatI hkR fun t ht => (hok.woken.1 t ht).flat
    have fin : ∀ {G : Hp}, Same H G → rIxT K (.ref a) (.int 2) G fun x H1 => spDeedText [x] H1 (fun x H1 => rIxT K (.ref a) (.int 3) H1 fun x_1 H1 => spMarkedText [x_1] H1 (fun x_2 H1 => rIxT K (.ref a) (.int 4) H1 fun x_3 H1 => spWordsText K [x_3] H1 (fun x_4 H1 =>
        7 ≤ sizeLine ∧ ∀ p : Addr, H1 p = none → rJoin K (.str " ") [.ref p] (upd H1 p (.lst [.str (sT (.i r.tick)), .str (sT r.who), x, .str "/", x_2, .str "/", x_4])) Q) E0) E0) E0 := fun {G} sG => by
      refine ixT (sG _ _ ha) 2 rfl ⟨x2, r.deed, rfl, rd.sameT (sameT_of sG), deed_ok hok, fun H1 s1 => ixT (s1 _ _ (sG _ _ ha)) 3 rfl ⟨x3, r.marks, rfl, rm.sameT (sameT_of (sG.trans s1)), hok.marks.1, hok.marks.2, fun H2 s2 => ?_⟩⟩
      have sH := (sG.trans s1).trans s2
      refine ixT (sH _ _ ha) 4 rfl ⟨true, ka, ks, rfl, SqT.of (sH _ _ hk), by rw [ek, List.length_map]; have := hok.woken.2; omega, fun x hx => ?_, fun H3 s3 => ⟨by decide, fun p hp => ?_⟩⟩
      · rw [ek] at hx
        obtain ⟨t, ht, rfl⟩ := List.mem_map.mp hx
        exact (num_tv (hok.woken.1 t ht)).1
      · have ewk : wordsS ks = J (wokenW r.woken) := by rw [ek]; exact woken_txt hok.woken.1
        rw [ewk]
        refine ⟨" ", p, [sT (.i r.tick), sT r.who, J (deedW r.deed), "/", J (marksW r.marks), "/", J (wokenW r.woken)], rfl, rfl, SqL.of upd_same, row_sum hok, ?_⟩
        rw [glue_join, sp_is]
        rw [row_line hok]
        exact k _ ((sH.trans s3).trans (Same.upd hp))
    refine ixT ha 0 rfl (.inl ⟨r.tick, rfl, log_lt hok.tick.1 (by have := hok.tick.2; omega), ixT ha 1 rfl ?_⟩)
    rcases hok.deed with ⟨e, _⟩ | ⟨e, _⟩ | ⟨⟨n, e, h0, h1⟩, _⟩
    · rw [e]
      rw [e] at fin
      exact .inr ⟨_, rfl, fin (Same.refl H)⟩
    · rw [e]
      rw [e] at fin
      exact .inr ⟨_, rfl, fin (Same.refl H)⟩
    · rw [e]
      rw [e] at fin
      exact .inl ⟨n, rfl, log_lt h0 (by omega), fin (Same.refl H)⟩
theorem sc_booktext : FnScope ["rows"] ["rows"] (defScope (top 39)) := ⟨rfl, rfl, rfl, by decide +kernel, rfl, by decide +kernel, by decide +kernel⟩
theorem ok_booktext (T : Tx P w K mg)
    (G_row_text : FnOk P w K mg base CX0 8 T.d_row_text.f T.d_row_text.fd ["row"] (spRowText)) : FnOk P w K mg base CX0 10 T.d_booktext.f T.d_booktext.fd ["rows"] (spBookText K) := by
  refine T.d_booktext.F.ok sc_booktext (fun vs H Q E h => ?_) (fun cdv A outer s H vs Q E hr h => ?_)
  · obtain ⟨tp, a, us, rs, rfl, _⟩ := h
    rfl
  · obtain ⟨tp, a, us, rs, rfl, hS, hR, hok, hl, k⟩ := h
    refine ⟨_, (pss_one (ps_ret (pe_bm PySem.F.plainAttrs_str PySem.F.slot_str_join PySem.F.type_str_join mt_join pe_str (pa_cons (pe_lc (N' := ["row"]) (sel := [none]) rfl rfl rfl (pi_sq (pv 0)) (gk_name rfl) (fun _ _ _ _ _ => ⟨(pg_name (i := 0) (show (["row"] : List Str).Nodup by decide +kernel) rfl (Or.inl rfl)), pts_nil, (pe_op op_add_str (pe_call G_row_text (hr.mono (by omega)) rfl T.d_row_text.hm T.d_row_text.F.kp T.d_row_text.b .nil pass0 (pa_cons (pv 0) pa_nil)) pe_str)⟩)) pa_nil)))), ?_⟩
    walk_at "sw"
    have hul : us.length = rs.length := by rw [hR.1, List.length_map]
    have nl : ("\n" : Str).length = 1 := by decide +kernel
    simp only [iSq, tVar, List.getElem?_cons_zero, Option.some.injEq, exists_eq_left', V.ref.injEq]
    refine lc_sq (K := K) (a := a) (xs := us) tp (fun i zs G => Same H G ∧ zs = ((rs.take i).map fun r => r.line ++ ("\n" : Str)).map V.str) ⟨Same.refl H, rfl⟩ ?_ ?_ ?_ ?_
    · rintro i zs G hi ⟨s1, rfl⟩
      exact ⟨sqE_same s1 hS, by rw [List.length_map, List.length_map, List.length_take]; omega⟩
    · exact big (by omega)
    · rintro i x zs G hi ⟨s1, rfl⟩
      have lt : i < rs.length := by
        have := (List.getElem?_eq_some_iff.mp hi).1
        omega
      have ht : rs[i]? = some rs[i] := List.getElem?_eq_getElem lt
      have hr' := hR.2 i x _ hi (by rw [List.getElem?_map, ht]; rfl)
      have ho := hok _ (List.mem_of_getElem? ht)
      have hle := line_len ho
      walk_at "sx"
      refine ⟨x, _, rfl, hr'.sameT (sameT_of s1), ho, fun H' s' => ⟨_, rfl, by rw [nl]; exact big (by omega), s1.trans s', ?_⟩⟩
      rw [take_snoc' ht, List.map_append, List.map_append]
      rfl
    · rintro zs G ⟨s1, rfl⟩ D hD
      rw [hul, List.take_length]
      refine ⟨"", D, _, rfl, rfl, SqL.of upd_same, ?_, k _ (s1.trans (Same.upd hD))⟩
      have hs := sum_lens (L := rs.map fun r => r.line ++ ("\n" : Str)) (c := 1300) fun l hl => by
        obtain ⟨r, hr', rfl⟩ := List.mem_map.mp hl
        have := line_len (hok r hr')
        rw [app_len, nl]
        omega
      rw [List.length_map] at hs ⊢
      have h4 : ("" : Str).length = 0 := by decide +kernel
      rw [h4]
      omega
theorem sc_who_of : FnScope ["word"] ["word"] (defScope (top 44)) := ⟨rfl, rfl, rfl, by decide +kernel, rfl, by decide +kernel, by decide +kernel⟩
theorem ok_who_of (T : Tx P w K mg)
    (G_field_at : FnOk P w K mg base CX0 10 T.d_field_at.f T.d_field_at.fd ["slot", "word"] (spFieldAt)) : FnOk P w K mg base CX0 12 T.d_who_of.f T.d_who_of.fd ["word"] (spWhoOf) := by
  refine T.d_who_of.F.ok sc_who_of (fun vs H Q E h => ?_) (fun cdv A outer s H vs Q E hr h => ?_)
  · obtain ⟨z, rfl, _⟩ := h
    rfl
  · obtain ⟨z, rfl, hz, k⟩ := h
    refine ⟨_, (pss_one (ps_ret (pe_ifExp (pt_cmpR op_in_seq (pv 0) (pe_tup (pa_cons pe_str (pa_cons pe_str pa_nil))) (by with_unfolding_all rfl)) (pv 0) (pe_call G_field_at (hr.mono (by omega)) rfl T.d_field_at.hm T.d_field_at.F.kp T.d_field_at.b .nil pass0 (pa_cons pe_str (pa_cons (pv 0) pa_nil)))))), ?_⟩
    walk_at "sw"
    refine ⟨by decide, fun p hp => ⟨p, _, rfl, .inr (SqT.of upd_same), rfl, rfl, ?_⟩⟩
    rw [if_neg Bool.false_ne_true, show ([V.str "clock", V.str "outside"] : List V) = (["clock", "outside"] : List Str).map V.str from rfl, inV_strs]
    have s1 := Same.upd (o := .tup ((["clock", "outside"] : List Str).map V.str)) hp
    refine ⟨_, rfl, ?_⟩
    by_cases h : z = "clock" ∨ z = "outside"
    · exact ifT (by simpa using h) (k _ _ (by unfold whoT; rw [if_pos h]; exact .s z) s1)
    · exact ifF (by simpa using h) ⟨_, z, rfl, by decide +kernel, hz, fun v H' o s2 => k v H' (by unfold whoT; rw [if_neg h]; exact o) (s1.trans s2)⟩
theorem sc_ended_of : FnScope ["words", "line", "outcome"] ["words"] (defScope (top 45)) := ⟨rfl, rfl, rfl, by decide +kernel, rfl, by decide +kernel, by decide +kernel⟩
theorem ok_ended_of (T : Tx P w K mg)
    (G_field_at : FnOk P w K mg base CX0 10 T.d_field_at.f T.d_field_at.fd ["slot", "word"] (spFieldAt))
    (G_tuple_of : FnOk P w K mg base CX0 16 T.d_tuple_of.f T.d_tuple_of.fd ["forms", "words"] (spTupleOf T)) : FnOk P w K mg base CX0 18 T.d_ended_of.f T.d_ended_of.fd ["words"] (spEndedOf) := by
  refine T.d_ended_of.F.ok sc_ended_of (fun vs H Q E h => ?_) (fun cdv A outer s H vs Q E hr h => ?_)
  · obtain ⟨a, ws, rfl, _⟩ := h
    rfl
  · obtain ⟨a, ws, rfl, ha, hw, k⟩ := h
    have hu := hu100 hr
    refine ⟨_, (pss_cons (ps_if (pt_cmpR op_lt (pe_callB call_len (by rfl) T.n_len bt_len (pa_cons (pv 0) pa_nil)) pe_int (nomark _))
    (pss_one (ps_ret pe_non))
    pss_nil)
    (pss_cons (ps_set (i := 1) sc_ended_of.nd rfl (Or.inl rfl) (pe_call G_field_at (hr.mono (by omega)) rfl T.d_field_at.hm T.d_field_at.F.kp T.d_field_at.b .nil pass0 (pa_cons pe_str (pa_cons (pe_ix ix_list (pv 0) pe_int (fun _ _ => rfl)) pa_nil))))
    (pss_cons (ps_set (i := 2) sc_ended_of.nd rfl (Or.inl rfl) (pe_call G_tuple_of (hr.mono (by omega)) rfl T.d_tuple_of.hm T.d_tuple_of.F.kp T.d_tuple_of.b .nil pass0 (pa_cons (pe_glob (v := .ref T.oca) rfl T.ocm rfl) (pa_cons (pe_slice sl_list (pv 0) (po_some pe_int) po_none) pa_nil))))
    (pss_one (ps_ret (pe_ifExp (pt_cmpR (op_inDT hu) pe_non (pe_tup (pa_cons (pv 1) (pa_cons (pv 2) pa_nil))) (by with_unfolding_all rfl)) pe_non (pe_tup (pa_cons pe_str (pa_cons (pv 1) (pa_cons (pv 2) pa_nil)))))))))), ?_⟩
    walk_at "sw"
    refine ⟨_, lenV_ref.mpr (.inl ⟨_, SqL.of ha, rfl⟩), ?_⟩
    rw [List.length_map]
    match ws, ha, hw, k with
    | [], ha, hw, k => exact ifT (by decide) (k _ H rfl (Same.refl H))
    | [_], ha, hw, k => exact ifT (show ((1 : Nat) : Int) < 2 by decide) (k _ H rfl (Same.refl H))
    | e :: l :: r, ha, hw, k =>
      refine ifF (by simp only [List.length_cons]; omega) ⟨a, _, 1, .str l, rfl, rfl, SqL.of ha, atI_nat (j := 1) rfl, _, l, rfl, by decide +kernel, hw.2 l (by simp), fun v1 H1 o1 s1 => ⟨a, _, rfl, SqL.of (s1 _ _ ha), fun q hq => ?_⟩⟩
      have ec : cutV ((e :: l :: r).map V.str) (some 2) none = r.map V.str := cut_from _ 2
      rw [ec]
      have s2 := Same.upd (o := .lst (r.map V.str)) hq
      refine ⟨T.oca, q, OCS, r, rfl, fms_of T.oct ocs_ok, upd_same, WsOk.drop hw 2, fun v2 H2 o2 s3 => ⟨by decide, fun p hp => ?_⟩⟩
      rw [ocs_split] at o2
      have s4 := Same.upd (o := .tup [v1, v2]) hp
      have o3 : OTs (upd H2 p (.tup [v1, v2])) [v1, v2] [fieldT "LINE" l, (firstT OCF r).map .t] := ((OTs.nil _).snoc (o1.same ((s2.trans s3).trans s4))).snoc (o2.same s4)
      obtain ⟨e', he, hany⟩ := none_in (K := K) o3
      refine ⟨p, _, 1, e', rfl, SqT.of upd_same, by decide, he, _, rfl, ?_⟩
      rw [Bool.false_xor, hany]
      have sA := ((s1.trans s2).trans s3).trans s4
      have eT : endT (e :: l :: r) = match fieldT "LINE" l, firstT OCF r with | some l, some o => some (.t [.s "ended", l, .t o]) | _, _ => none := rfl
      cases h1 : fieldT "LINE" l with
      | none => exact iteT' rfl (k _ _ (by rw [eT, h1]; rfl) sA)
      | some t1 =>
        cases h2 : firstT OCF r with
        | none => exact iteT' rfl (k _ _ (by rw [eT, h1, h2]; rfl) sA)
        | some o =>
          rw [h1] at o1
          rw [h2] at o2
          refine iteF' rfl ⟨by decide, fun p2 hp2 => k _ _ ?_ (sA.trans (Same.upd hp2))⟩
          rw [eT, h1, h2]
          have r1 : Rep H1 v1 t1 := o1
          have r2 : Rep H2 v2 (.t o) := o2
          exact Rep.tup upd_same ((((Reps.nil _).snoc (.s "ended")).snoc (r1.sameT (sameT_of (((s2.trans s3).trans s4).trans (Same.upd hp2))))).snoc (r2.sameT (sameT_of (s4.trans (Same.upd hp2)))))
theorem sc_deed_of : FnScope ["who", "words"] ["who", "words"] (defScope (top 46)) := ⟨rfl, rfl, rfl, by decide +kernel, rfl, by decide +kernel, by decide +kernel⟩
theorem ok_deed_of (T : Tx P w K mg)
    (G_tuple_of : FnOk P w K mg base CX0 16 T.d_tuple_of.f T.d_tuple_of.fd ["forms", "words"] (spTupleOf T))
    (G_ended_of : FnOk P w K mg base CX0 18 T.d_ended_of.f T.d_ended_of.fd ["words"] (spEndedOf)) : FnOk P w K mg base CX0 20 T.d_deed_of.f T.d_deed_of.fd ["who", "words"] (spDeedOf) := by
  refine T.d_deed_of.F.ok sc_deed_of (fun vs H Q E h => ?_) (fun cdv A outer s H vs Q E hr h => ?_)
  · obtain ⟨v, who, a, ws, rfl, _⟩ := h
    rfl
  · obtain ⟨v, who, a, ws, rfl, ho, hf, ha, hne, hw, k⟩ := h
    refine ⟨_, (pss_cons (ps_if (pt_cmpR op_eq (pv 0) pe_str (nomark _))
    (pss_one (ps_ret (pe_call G_tuple_of (hr.mono (by omega)) rfl T.d_tuple_of.hm T.d_tuple_of.F.kp T.d_tuple_of.b .nil pass0 (pa_cons (pe_glob (v := .ref T.cla) rfl T.clm rfl) (pa_cons (pv 1) pa_nil)))))
    pss_nil)
    (pss_cons (ps_if (pt_cmpR op_eq (pv 0) pe_str (nomark _))
    (pss_one (ps_ret (pe_call G_tuple_of (hr.mono (by omega)) rfl T.d_tuple_of.hm T.d_tuple_of.F.kp T.d_tuple_of.b .nil pass0 (pa_cons (pe_glob (v := .ref T.oua) rfl T.oum rfl) (pa_cons (pv 1) pa_nil)))))
    pss_nil)
    (pss_cons (ps_if (pt_cmpR op_eq (pe_ix ix_list (pv 1) pe_int (fun _ _ => rfl)) pe_str (nomark _))
    (pss_one (ps_ret (pe_call G_ended_of (hr.mono (by omega)) rfl T.d_ended_of.hm T.d_ended_of.F.kp T.d_ended_of.b .nil pass0 (pa_cons (pv 1) pa_nil))))
    pss_nil)
    (pss_one (ps_ret (pe_call G_tuple_of (hr.mono (by omega)) rfl T.d_tuple_of.hm T.d_tuple_of.F.kp T.d_tuple_of.b .nil pass0 (pa_cons (pe_glob (v := .ref T.era) rfl T.erm rfl) (pa_cons (pv 1) pa_nil)))))))), ?_⟩
    walk_at "sw"
    have dT : deedT who ws = if whoIs who "clock" = true then (firstT CLF ws).map .t else if whoIs who "outside" = true then (firstT OUF ws).map .t else if ws.head? = some endW then endT ws else (firstT ERF ws).map .t := rfl
    have key : (∀ z : Str, scal v (.str z) = true) ∧ ∀ z : Str, decide (v = .str z) = whoIs who z := by
      cases who with
      | none =>
        have e : v = .non := ho
        subst e
        exact ⟨fun z => rfl, fun z => rfl⟩
      | some t =>
        have r : Rep H v t := ho
        cases r with
        | i n => exact ⟨fun z => rfl, fun z => rfl⟩
        | s y => exact ⟨fun z => rfl, fun z => by show _ = decide (y = z); by_cases h : y = z <;> simp [h]⟩
        | t _ _ _ => exact nomatch hf _ rfl
    refine ⟨key.1 _, ?_⟩
    rw [key.2]
    by_cases h1 : whoIs who "clock" = true
    · rw [if_pos h1] at dT ⊢
      refine ⟨T.cla, a, CLS, ws, rfl, fms_of T.clt cls_ok, ha, hw, fun u H' o s' => k u H' ?_ s'⟩
      rw [dT, ← cls_split]
      exact o
    rw [if_neg h1] at dT ⊢
    refine ⟨key.1 _, ?_⟩
    rw [key.2]
    by_cases h2 : whoIs who "outside" = true
    · rw [if_pos h2] at dT ⊢
      refine ⟨T.oua, a, OUS, ws, rfl, fms_of T.out ous_ok, ha, hw, fun u H' o s' => k u H' ?_ s'⟩
      rw [dT, ← ous_split]
      exact o
    rw [if_neg h2] at dT ⊢
    cases ws with
    | nil => exact absurd rfl hne
    | cons z r =>
      refine ⟨a, _, 0, .str z, rfl, rfl, SqL.of ha, atI_nat (j := 0) rfl, rfl, ?_⟩
      by_cases h3 : z = endW
      · rw [if_pos (by rw [h3]; rfl)] at dT
        exact ifT (by rw [h3]; rfl) ⟨a, _, rfl, ha, hw, fun u H' o s' => k u H' (by rw [dT]; exact o) s'⟩
      · rw [if_neg (show ¬ ((z :: r).head? = some endW) from fun q => h3 (Option.some.inj q))] at dT
        refine ifF (fun q => h3 (V.str.inj q)) ⟨T.era, a, ERS, _, rfl, fms_of T.ert ers_ok, ha, hw, fun u H' o s' => k u H' ?_ s'⟩
        rw [dT, ← ers_split]
        exact o
theorem sc_all_or_none : FnScope ["fields"] ["fields"] (defScope (top 47)) := ⟨rfl, rfl, rfl, by decide +kernel, rfl, by decide +kernel, by decide +kernel⟩
theorem ok_all_or_none (T : Tx P w K mg) : FnOk P w K mg base CX0 1 T.d_all_or_none.f T.d_all_or_none.fd ["fields"] (spAllOr) := by
  refine T.d_all_or_none.F.ok sc_all_or_none (fun vs H Q E h => ?_) (fun cdv A outer s H vs Q E hr h => ?_)
  · obtain ⟨a, us, os, rfl, _⟩ := h
    rfl
  · obtain ⟨a, us, os, rfl, ha, ho, k⟩ := h
    have hu := hu100 hr
    refine ⟨_, (pss_one (ps_ret (pe_ifExp (PW.pt (pw_or (pt_cmpR (op_eqL hu) (pv 0) (pe_lst pa_nil) (nomark _)) (pw_or1 (pt_cmpR (op_inD hu) pe_non (pv 0) (by with_unfolding_all rfl))))) pe_non (pe_callTy call_tuple_of (by rfl) T.n_tuple bt_tuple (pa_cons (pv 0) pa_nil))))), ?_⟩
    walk_at "sw"
    refine eqNilL (K := K) ha fun G s1 => ⟨_, rfl, ?_⟩
    by_cases hn : us = []
    · have e : os = [] := List.eq_nil_of_length_eq_zero (by rw [← ho.1, hn]; rfl)
      exact ifT hn (k _ G (by rw [e]; rfl) s1)
    · have ne : os ≠ [] := fun e => hn (List.eq_nil_of_length_eq_zero (by rw [ho.1, e]; rfl))
      have o1 := ho.same s1
      obtain ⟨e, he, hany⟩ := none_in (K := K) o1
      refine ifF hn ⟨a, us, 1, e, rfl, SqL.of (s1 _ _ ha), by decide, he, _, rfl, ?_⟩
      rw [Bool.false_xor, hany]
      have eT : allT os = (allO os).map .t := by
        cases os with
        | nil => exact absurd rfl ne
        | cons _ _ => rfl
      cases hi : os.any Option.isNone with
      | true => exact iteT' rfl (k _ G (by rw [eT, allO_any.1 hi]; rfl) s1)
      | false =>
        obtain ⟨ts, e1, e2⟩ := allO_any.2 hi
        rw [e2] at o1
        refine iteF' rfl ⟨us, .inl ⟨SqL.of (s1 _ _ ha), fun l hl => k _ _ ?_ (s1.trans (Same.upd hl))⟩⟩
        rw [eT, e1]
        exact Rep.tup upd_same (o1.reps.sameT (sameT_of (Same.upd hl)))
theorem sc_marked_of : FnScope ["words"] ["words"] (defScope (top 48)) := ⟨rfl, rfl, rfl, by decide +kernel, rfl, by decide +kernel, by decide +kernel⟩
theorem ok_marked_of (T : Tx P w K mg)
    (G_tuple_of : FnOk P w K mg base CX0 16 T.d_tuple_of.f T.d_tuple_of.fd ["forms", "words"] (spTupleOf T))
    (G_all_or_none : FnOk P w K mg base CX0 1 T.d_all_or_none.f T.d_all_or_none.fd ["fields"] (spAllOr)) : FnOk P w K mg base CX0 18 T.d_marked_of.f T.d_marked_of.fd ["words"] (spMarkedOf) := by
  refine T.d_marked_of.F.ok sc_marked_of (fun vs H Q E h => ?_) (fun cdv A outer s H vs Q E hr h => ?_)
  · obtain ⟨a, ws, rfl, _⟩ := h
    rfl
  · obtain ⟨a, ws, rfl, ha, hw, k⟩ := h
    have hu := hu100 hr
    refine ⟨_, (pss_cons (ps_if (pt_cmpR (op_eqL hu) (pv 0) (pe_lst (pa_cons (pe_glob (v := .str "-") rfl T.nom ⟨_, rfl⟩) pa_nil)) (nomark _))
    (pss_one (ps_ret (pe_tup pa_nil)))
    pss_nil)
    (pss_one (ps_ret (pe_call G_all_or_none (hr.mono (by omega)) rfl T.d_all_or_none.hm T.d_all_or_none.F.kp T.d_all_or_none.b .nil pass0 (pa_cons (pe_lc (N' := ["place", "words"]) (sel := [none, some 0]) rfl rfl rfl (pi_range3 rfl T.n_range (pa_cons pe_int (pa_cons (pe_callB call_len (by rfl) T.n_len bt_len (pa_cons (pv 0) pa_nil)) (pa_cons pe_int pa_nil)))) (gk_name rfl) (fun _ _ _ _ _ => ⟨(pg_name (i := 0) (show (["place", "words"] : List Str).Nodup by decide +kernel) rfl (Or.inl rfl)), pts_nil, (pe_call G_tuple_of (hr.mono (by omega)) rfl T.d_tuple_of.hm T.d_tuple_of.F.kp T.d_tuple_of.b .nil pass0 (pa_cons (pe_glob (v := .ref T.mka) rfl T.mkm rfl) (pa_cons (pe_slice (sl_listK (K := K) rfl) (pv 1) (po_some (pv 0)) (po_some (pe_op op_add (pv 0) pe_int))) pa_nil)))⟩)) pa_nil))))), ?_⟩
    walk_at "sw"
    refine eq_dsh (K := K) ha fun G s1 => ⟨_, rfl, ?_⟩
    have mT : marksT ws = if ws = [dsh] then some (.t []) else allT ((chunks ((ws.length + 2) / 3) ws).map fun c => (firstT MKF c).map .t) := rfl
    by_cases h : ws = [dsh]
    · rw [if_pos h] at mT
      exact ifT h ⟨by decide, fun p hp => k _ _ (by rw [mT]; exact Rep.tup upd_same (Reps.nil _)) (s1.trans (Same.upd hp))⟩
    · rw [if_neg h] at mT
      refine ifF h ?_
      have ga := s1 _ _ ha
      simp only [iRng3]
      walk_at "sw"
      have hl := hw.1
      refine ⟨_, lenV_ref.mpr (.inl ⟨_, SqL.of ga, rfl⟩), Int.natCast_nonneg _, by rw [List.length_map]; omega, (ws.length + 2) / 3, by rw [List.length_map]; omega, ?_⟩
      have hn : (ws.length + 2) / 3 ≤ 5000 := by omega
      generalize (ws.length + 2) / 3 = n at mT hn
      refine lc_rangeS (lo := 0) (c := 3) (n := n) (fun i ys G2 => Same G G2 ∧ OTs G2 ys (((chunks n ws).take i).map fun c => (firstT MKF c).map .t)) ⟨Same.refl _, OTs.nil _⟩ ?_ ?_ ?_ ?_
      · rintro i ys G2 hi ⟨s2, o2⟩
        rw [o2.1, List.length_map, List.length_take, chunks_n]
        omega
      · exact Nat.le_trans hn (by decide)
      · rintro i ys G2 hi ⟨s2, o2⟩
        walk_at "sx"
        refine ⟨a, _, rfl, SqL.of (s2 _ _ ga), fun q hq => ?_⟩
        have ec : cutV (ws.map V.str) (some (0 + (i : Int) * 3)) (some (0 + (i : Int) * 3 + 3)) = ((ws.drop (3 * i)).take 3).map V.str := by
          have := cut_nat (ws.map V.str) (3 * i) (3 * i + 3)
          rw [show (((3 * i : Nat)) : Int) = 0 + (i : Int) * 3 by omega, show (((3 * i + 3 : Nat)) : Int) = 0 + (i : Int) * 3 + 3 by omega] at this
          rw [this, List.drop_take, ← List.map_drop, ← List.map_take, show 3 * i + 3 - 3 * i = 3 by omega]
        rw [ec]
        have s3 := Same.upd (o := .lst (((ws.drop (3 * i)).take 3).map V.str)) hq
        refine ⟨T.mka, q, MKS, _, rfl, fms_of T.mkt mks_ok, upd_same, (WsOk.drop hw _).take _, fun v H' o s' => ⟨(s2.trans s3).trans s', ?_⟩⟩
        rw [mks_split] at o
        rw [take_snoc' (chunks_at hi), List.map_append]
        exact (o2.same (s3.trans s')).snoc o
      · rintro ys G2 ⟨s2, o2⟩ D hD
        rw [List.take_of_length_le (by rw [chunks_n]; exact Nat.le_refl _)] at o2
        have s3 := (s1.trans s2).trans (Same.upd (o := .lst ys) hD)
        exact ⟨D, ys, _, rfl, upd_same, o2.same (Same.upd hD), fun v H' o s' => k v H' (by rw [mT]; exact o) (s3.trans s')⟩
theorem sc_woken_of : FnScope ["words"] ["words"] (defScope (top 49)) := ⟨rfl, rfl, rfl, by decide +kernel, rfl, by decide +kernel, by decide +kernel⟩
theorem ok_woken_of (T : Tx P w K mg)
    (G_field_at : FnOk P w K mg base CX0 10 T.d_field_at.f T.d_field_at.fd ["slot", "word"] (spFieldAt))
    (G_all_or_none : FnOk P w K mg base CX0 1 T.d_all_or_none.f T.d_all_or_none.fd ["fields"] (spAllOr)) : FnOk P w K mg base CX0 12 T.d_woken_of.f T.d_woken_of.fd ["words"] (spWokenOf) := by
  refine T.d_woken_of.F.ok sc_woken_of (fun vs H Q E h => ?_) (fun cdv A outer s H vs Q E hr h => ?_)
  · obtain ⟨a, ws, rfl, _⟩ := h
    rfl
  · obtain ⟨a, ws, rfl, ha, hw, k⟩ := h
    have hu := hu100 hr
    refine ⟨_, (pss_cons (ps_if (pt_cmpR (op_eqL hu) (pv 0) (pe_lst (pa_cons (pe_glob (v := .str "-") rfl T.nom ⟨_, rfl⟩) pa_nil)) (nomark _))
    (pss_one (ps_ret (pe_tup pa_nil)))
    pss_nil)
    (pss_one (ps_ret (pe_call G_all_or_none (hr.mono (by omega)) rfl T.d_all_or_none.hm T.d_all_or_none.F.kp T.d_all_or_none.b .nil pass0 (pa_cons (pe_lc (N' := ["word"]) (sel := [none]) rfl rfl rfl (pi_list (pv 0)) (gk_name rfl) (fun _ _ _ _ _ => ⟨(pg_name (i := 0) (show (["word"] : List Str).Nodup by decide +kernel) rfl (Or.inl rfl)), pts_nil, (pe_call G_field_at (hr.mono (by omega)) rfl T.d_field_at.hm T.d_field_at.F.kp T.d_field_at.b .nil pass0 (pa_cons pe_str (pa_cons (pv 0) pa_nil)))⟩)) pa_nil))))), ?_⟩
    walk_at "sw"
    refine eq_dsh (K := K) ha fun G s1 => ⟨_, rfl, ?_⟩
    have mT : wokenT ws = if ws = [dsh] then some (.t []) else allT (ws.map (fieldT "ERRAND")) := rfl
    by_cases h : ws = [dsh]
    · rw [if_pos h] at mT
      exact ifT h ⟨by decide, fun p hp => k _ _ (by rw [mT]; exact Rep.tup upd_same (Reps.nil _)) (s1.trans (Same.upd hp))⟩
    · rw [if_neg h] at mT
      have ga := s1 _ _ ha
      refine ifF h ⟨⟨_, SqL.of ga⟩, lc_list (K := K) (a := a) (xs := ws.map V.str) (fun i ys G2 => Same G G2 ∧ OTs G2 ys ((ws.take i).map (fieldT "ERRAND"))) ⟨Same.refl _, OTs.nil _⟩ ?_ ?_ ?_ ?_⟩
      · rintro i ys G2 hi ⟨s2, o2⟩
        exact ⟨SqL.of (s2 _ _ ga), by rw [o2.1, List.length_map, List.length_take]; omega⟩
      · rw [List.length_map]; exact Nat.le_trans hw.1 (by decide)
      · rintro i x ys G2 hx ⟨s2, o2⟩
        rw [List.getElem?_map] at hx
        obtain ⟨z, hz, rfl⟩ := Option.map_eq_some_iff.mp hx
        walk_at "sx"
        refine ⟨_, z, rfl, by decide +kernel, hw.2 z (List.mem_of_getElem? hz), fun v H' o s' => ⟨s2.trans s', ?_⟩⟩
        rw [take_snoc' hz, List.map_append]
        exact (o2.same s').snoc o
      · rintro ys G2 ⟨s2, o2⟩ D hD
        rw [List.length_map, List.take_length] at o2
        have s3 := (s1.trans s2).trans (Same.upd (o := .lst ys) hD)
        exact ⟨D, ys, _, rfl, upd_same, o2.same (Same.upd hD), fun v H' o s' => k v H' (by rw [mT]; exact o) (s3.trans s')⟩
theorem sc_row_of_line : FnScope ["line", "words", "first", "second", "who", "row"] ["line"] (defScope (top 50)) := ⟨rfl, rfl, rfl, by decide +kernel, rfl, by decide +kernel, by decide +kernel⟩
theorem ok_row_of_line (T : Tx P w K mg)
    (G_who_of : FnOk P w K mg base CX0 12 T.d_who_of.f T.d_who_of.fd ["word"] (spWhoOf))
    (G_field_at : FnOk P w K mg base CX0 10 T.d_field_at.f T.d_field_at.fd ["slot", "word"] (spFieldAt))
    (G_deed_of : FnOk P w K mg base CX0 20 T.d_deed_of.f T.d_deed_of.fd ["who", "words"] (spDeedOf))
    (G_marked_of : FnOk P w K mg base CX0 18 T.d_marked_of.f T.d_marked_of.fd ["words"] (spMarkedOf))
    (G_woken_of : FnOk P w K mg base CX0 12 T.d_woken_of.f T.d_woken_of.fd ["words"] (spWokenOf)) : FnOk P w K mg base CX0 22 T.d_row_of_line.f T.d_row_of_line.fd ["line"] (spRowOf) := by
  refine T.d_row_of_line.F.ok sc_row_of_line (fun vs H Q E h => ?_) (fun cdv A outer s H vs Q E hr h => ?_)
  · obtain ⟨z, rfl, _⟩ := h
    rfl
  · obtain ⟨z, rfl, hz, hzw, k⟩ := h
    have hu := hu100 hr
    refine ⟨_, (pss_cons (ps_set (i := 1) sc_row_of_line.nd rfl (Or.inl rfl) (pe_bm PySem.F.plainAttrs_str PySem.F.slot_str_split PySem.F.type_str_split mt_split (pv 0) (pa_cons pe_str pa_nil)))
    (pss_cons (ps_if (PW.pt (pw_or (pt_cmpR op_ne (pe_bm PySem.F.plainAttrs_list PySem.F.slot_list_count PySem.F.type_list_count mt_countS (pv 1) (pa_cons (pe_glob (v := .str "/") rfl T.skm ⟨_, rfl⟩) pa_nil)) pe_int (nomark _)) (pw_or1 (pt_cmpR op_lt (pe_bm PySem.F.plainAttrs_list PySem.F.slot_list_index PySem.F.type_list_index mt_indexS (pv 1) (pa_cons (pe_glob (v := .str "/") rfl T.skm ⟨_, rfl⟩) pa_nil)) pe_int (nomark _)))))
    (pss_one (ps_ret pe_non))
    pss_nil)
    (pss_cons (ps_set (i := 2) sc_row_of_line.nd rfl (Or.inl rfl) (pe_bm PySem.F.plainAttrs_list PySem.F.slot_list_index PySem.F.type_list_index mt_indexS (pv 1) (pa_cons (pe_glob (v := .str "/") rfl T.skm ⟨_, rfl⟩) pa_nil)))
    (pss_cons (ps_set (i := 3) sc_row_of_line.nd rfl (Or.inl rfl) (pe_bm PySem.F.plainAttrs_list PySem.F.slot_list_index PySem.F.type_list_index mt_indexS2 (pv 1) (pa_cons (pe_glob (v := .str "/") rfl T.skm ⟨_, rfl⟩) (pa_cons (pe_op op_add (pv 2) pe_int) pa_nil))))
    (pss_cons (ps_set (i := 4) sc_row_of_line.nd rfl (Or.inl rfl) (pe_call G_who_of (hr.mono (by omega)) rfl T.d_who_of.hm T.d_who_of.F.kp T.d_who_of.b .nil pass0 (pa_cons (pe_ix ix_list (pv 1) pe_int (fun _ _ => rfl)) pa_nil)))
    (pss_cons (ps_set (i := 5) sc_row_of_line.nd rfl (Or.inl rfl) (pe_tup (pa_cons (pe_call G_field_at (hr.mono (by omega)) rfl T.d_field_at.hm T.d_field_at.F.kp T.d_field_at.b .nil pass0 (pa_cons pe_str (pa_cons (pe_ix ix_list (pv 1) pe_int (fun _ _ => rfl)) pa_nil))) (pa_cons (pv 4) (pa_cons (pe_call G_deed_of (hr.mono (by omega)) rfl T.d_deed_of.hm T.d_deed_of.F.kp T.d_deed_of.b .nil pass0 (pa_cons (pv 4) (pa_cons (pe_slice sl_list (pv 1) (po_some pe_int) (po_some (pv 2))) pa_nil))) (pa_cons (pe_call G_marked_of (hr.mono (by omega)) rfl T.d_marked_of.hm T.d_marked_of.F.kp T.d_marked_of.b .nil pass0 (pa_cons (pe_slice sl_list (pv 1) (po_some (pe_op op_add (pv 2) pe_int)) (po_some (pv 3))) pa_nil)) (pa_cons (pe_call G_woken_of (hr.mono (by omega)) rfl T.d_woken_of.hm T.d_woken_of.F.kp T.d_woken_of.b .nil pass0 (pa_cons (pe_slice sl_list (pv 1) (po_some (pe_op op_add (pv 3) pe_int)) po_none) pa_nil)) pa_nil)))))))
    (pss_one (ps_ret (pe_ifExp (pt_cmpR (op_inDT hu) pe_non (pv 5) (by with_unfolding_all rfl)) pe_non (pv 5)))))))))), ?_⟩
    walk_at "sw"
    refine ⟨z, 32, rfl, by rw [sp1], Nat.le_trans hz (by decide), fun a ha => ?_⟩
    have hw : WsOk (Txt.split z ⟨#[32]⟩) := ⟨Nat.le_trans (split_len z 32) (by omega), hzw⟩
    generalize Txt.split z ⟨#[32]⟩ = ws at hw k hzw
    have s1 := Same.upd (o := .lst (ws.map V.str)) ha
    have h1 : upd H a (.lst (ws.map V.str)) a = _ := upd_same
    generalize upd H a (.lst (ws.map V.str)) = H1 at s1 h1
    refine ⟨.inl ⟨_, SqL.of h1⟩, a, rfl, ws, h1, rfl, ?_⟩
    by_cases hc : ws.countP (· == stk) = 2
    · obtain ⟨A, B, C, rfl, hA, hB⟩ := two_stk hc
      have rT := rowT_two hc hA hB
      have g1 : (A ++ stk :: (B ++ stk :: C))[A.length]? = some stk := by rw [List.getElem?_append_right (Nat.le_refl _), Nat.sub_self]; rfl
      have n1 : ∀ m, m < A.length → (A ++ stk :: (B ++ stk :: C))[m]? ≠ some stk := fun m hm e => by
        rw [List.getElem?_append_left hm] at e
        exact hA _ (List.mem_of_getElem? e) rfl
      have eA : A ++ stk :: (B ++ stk :: C) = (A ++ stk :: B) ++ stk :: C := by simp
      have lAB : (A ++ stk :: B).length = A.length + 1 + B.length := by rw [List.length_append, List.length_cons]; omega
      have g2 : (A ++ stk :: (B ++ stk :: C))[A.length + 1 + B.length]? = some stk := by rw [eA, List.getElem?_append_right (by omega), lAB, Nat.sub_self]; rfl
      have n2 : ∀ m, A.length + 1 ≤ m → m < A.length + 1 + B.length → (A ++ stk :: (B ++ stk :: C))[m]? ≠ some stk := fun m h1 h2 e => by
        rw [eA, List.getElem?_append_left (by omega), List.getElem?_append_right (by omega), show m - A.length = (m - A.length - 1) + 1 by omega, List.getElem?_cons_succ] at e
        exact hB _ (List.mem_of_getElem? e) rfl
      refine ifNF (by show ((List.countP (· == stk) _ : Nat) : Int) = 2; rw [hc]; rfl) ⟨.inl ⟨_, SqL.of h1⟩, a, rfl, _, h1, A.length, g1, n1, ?_⟩
      by_cases h3 : 3 ≤ A.length
      · rw [if_pos h3] at rT
        refine ifF (by omega) ⟨.inl ⟨_, SqL.of h1⟩, a, rfl, _, h1, A.length, g1, n1, .inl ⟨_, SqL.of h1⟩, a, rfl, _, A.length + 1, by omega, h1, A.length + 1 + B.length, by omega, g2, n2, ?_⟩
        clear g1 n1 g2 n2 eA lAB hc
        obtain ⟨w0, w1, A', eA, hne⟩ : ∃ w0 w1 A', A = w0 :: w1 :: A' ∧ A' ≠ [] := by
          match A, h3 with
          | w0 :: w1 :: w2 :: A', _ => exact ⟨w0, w1, w2 :: A', rfl, fun z => nomatch z⟩
        have i0 : ((A ++ stk :: (B ++ stk :: C)).map V.str)[0]? = some (.str w0) := by rw [eA]; rfl
        have i1 : ((A ++ stk :: (B ++ stk :: C)).map V.str)[1]? = some (.str w1) := by rw [eA]; rfl
        have m0 : w0 ∈ A ++ stk :: (B ++ stk :: C) := by rw [eA]; simp
        have m1 : w1 ∈ A ++ stk :: (B ++ stk :: C) := by rw [eA]; simp
        have d2 : A.drop 2 = A' := by rw [eA]; rfl
        have q0 : A.getD 0 "" = w0 := by rw [eA]; rfl
        have q1 : A.getD 1 "" = w1 := by rw [eA]; rfl
        rw [q0, q1, d2] at rT
        have wA : WsOk A' := hw.sub (fun w hm => by rw [eA]; simp [hm]) (by rw [eA]; simp; omega)
        have wB : WsOk B := hw.sub (fun w hm => by simp [hm]) (by simp; omega)
        have wC : WsOk C := hw.sub (fun w hm => by simp [hm]) (by simp; omega)
        have cA := cutA (A := A) (D := stk :: (B ++ stk :: C))
        rw [d2] at cA
        refine ⟨a, _, 1, .str w1, rfl, rfl, SqL.of h1, atI_nat (j := 1) i1, w1, rfl, hw.2 w1 m1, fun vw H2 ow s2 => ⟨a, _, 0, .str w0, rfl, rfl, SqL.of (s2 _ _ h1), atI_nat (j := 0) i0, _, w0, rfl, by decide +kernel, hw.2 w0 m0, fun vt H3 ot s3 => ?_⟩⟩
        have s23 := s2.trans s3
        refine ⟨a, _, rfl, SqL.of (s23 _ _ h1), fun qa hqa => ?_⟩
        rw [cA]
        have x1 := Same.upd (o := .lst (A'.map V.str)) hqa
        refine ⟨vw, _, qa, A', rfl, ow.same (s3.trans x1), fun t ht => who_fl ht, upd_same, hne, wA, fun vd H4 od s4 => ?_⟩
        have s24 := (s23.trans x1).trans s4
        refine ⟨a, _, rfl, SqL.of (s24 _ _ h1), fun qb hqb => ?_⟩
        rw [cutB]
        have x2 := Same.upd (o := .lst (B.map V.str)) hqb
        refine ⟨qb, B, rfl, upd_same, wB, fun vm H5 om s5 => ?_⟩
        have s25 := (s24.trans x2).trans s5
        refine ⟨a, _, rfl, SqL.of (s25 _ _ h1), fun qc hqc => ?_⟩
        rw [cutC]
        have x3 := Same.upd (o := .lst (C.map V.str)) hqc
        refine ⟨qc, C, rfl, upd_same, wC, fun vk H6 ok s6 => ⟨by decide, fun p hp => ?_⟩⟩
        have x4 := Same.upd (o := .tup [vt, vw, vd, vm, vk]) hp
        have y6 := s6.trans x4
        have y5 := (s5.trans x3).trans y6
        have y4 := (s4.trans x2).trans y5
        have y3 := (s3.trans x1).trans y4
        have o3 : OTs (upd H6 p (.tup [vt, vw, vd, vm, vk])) [vt, vw, vd, vm, vk] [fieldT "TICK" w0, whoT w1, deedT (whoT w1) A', marksT B, wokenT C] :=
          (((((OTs.nil _).snoc (ot.same (x1.trans y4))).snoc (ow.same y3)).snoc (od.same (x2.trans y5))).snoc (om.same (x3.trans y6))).snoc (ok.same x4)
        have sA := s1.trans (s2.trans y3)
        generalize [fieldT "TICK" w0, whoT w1, deedT (whoT w1) A', marksT B, wokenT C] = os at rT o3
        obtain ⟨e', he, hany⟩ := none_in (K := K) o3
        refine ⟨p, _, 1, e', rfl, SqT.of upd_same, by decide, he, _, rfl, ?_⟩
        rw [Bool.false_xor, hany]
        cases hi : os.any Option.isNone with
        | true => exact iteT' rfl (k _ _ (by rw [rT, allO_any.1 hi]; rfl) sA)
        | false =>
          obtain ⟨ts, e1, e2⟩ := allO_any.2 hi
          rw [e2] at o3
          refine iteF' rfl (k _ _ ?_ sA)
          rw [rT, e1]
          exact Rep.tup upd_same o3.reps
      · rw [if_neg h3] at rT
        exact ifT (by omega) (k _ H1 (by rw [rT]; rfl) s1)
    · exact ifNT (fun q => hc (by exact_mod_cast q)) (k _ H1 (by rw [rowT_no hc]; rfl) s1)
theorem sc_BadBook___init__ : FnScope ["self", "place"] ["self", "place"] (defScope (inClass (top 7) 0)) := ⟨rfl, rfl, rfl, by decide +kernel, rfl, by decide +kernel, by decide +kernel⟩
theorem ok_BadBook___init__ (T : Tx P w K mg) : FnOk P w K mg base CX0 1 T.m_BadBook___init__.f T.m_BadBook___init__.fd ["self", "place"] (spBInit T.C_BadBook) := by
  refine T.m_BadBook___init__.F.ok sc_BadBook___init__ (fun vs H Q E h => ?_) (fun cdv A outer s H vs Q E hr h => ?_)
  · obtain ⟨a, v, t, rfl, _⟩ := h
    rfl
  · obtain ⟨a, v, t, rfl, ha, k⟩ := h
    refine ⟨_, (pss_one (ps_fldE (pv 0) (pv 1) rfl)), ?_⟩
    walk_at "sy"
    exact ⟨_, rfl, _, rfl, a, _, _, t, rfl, T.mk_BadBook.ex, T.tk_BadBook, .inl ⟨ha, k⟩⟩
theorem sc_read_book : FnScope ["text", "lines", "behind", "rows", "place", "line", "row"] ["text"] (defScope (top 51)) := ⟨rfl, rfl, rfl, by decide +kernel, rfl, by decide +kernel, by decide +kernel⟩
theorem ok_read_book (T : Tx P w K mg)
    (G_row_of_line : FnOk P w K mg base CX0 22 T.d_row_of_line.f T.d_row_of_line.fd ["line"] (spRowOf))
    (G_BadBook___init__ : FnOk P w K mg base CX0 1 T.m_BadBook___init__.f T.m_BadBook___init__.fd ["self", "place"] (spBInit T.C_BadBook)) : FnOk P w K mg base (CXD P w) 24 T.d_read_book.f T.d_read_book.fd ["text"] (spReadX T.C_BadBook) := by
  refine T.d_read_book.F.okD sc_read_book (fun vs H Q E h => ?_) (fun cdv A outer s H vs Q E hr h => ?_)
  · obtain ⟨z, ls, b, rfl, _⟩ := h
    rfl
  · obtain ⟨z, ls, b, rfl, tx, k⟩ := h
    refine ⟨_, (pss_cons (ps_set (i := 1) sc_read_book.nd rfl (Or.inl rfl) (pe_bm PySem.F.plainAttrs_str PySem.F.slot_str_split PySem.F.type_str_split mt_split (pv 0) (pa_cons pe_str pa_nil)))
    (pss_cons (ps_set (i := 2) sc_read_book.nd rfl (Or.inl rfl) (pe_bm0 PySem.F.plainAttrs_list PySem.F.slot_list_pop PySem.F.type_list_pop mt_pop (pv 1)))
    (pss_cons (ps_set (i := 3) sc_read_book.nd rfl (Or.inl rfl) (pe_lst pa_nil))
    (pss_cons (ps_for PassesOwn.leaving rfl (pi_enum rfl T.n_enumerate (pa_cons (pv 1) pa_nil)) (pg_tup (n := 2) rfl (pgs_cons (pg_name (i := 4) sc_read_book.nd rfl (Or.inl rfl)) (pgs_cons (pg_name (i := 5) sc_read_book.nd rfl (Or.inl rfl)) pgs_nil)))
    (pss_cons (ps_set (i := 6) sc_read_book.nd rfl (Or.inl rfl) (pe_call G_row_of_line (hr.mono (by omega)) rfl T.d_row_of_line.hm T.d_row_of_line.F.kp T.d_row_of_line.b .nil pass0 (pa_cons (pv 5) pa_nil)))
    (pss_cons (ps_if (pt_cmpR op_isN (pv 6) pe_non (nomark _))
    (pss_one (ps_raiseC leavesD rfl T.mk_BadBook G_BadBook___init__ (hr.mono (by omega)) rfl T.h_BadBook T.m_BadBook___init__.b (pa_cons (pv 4) pa_nil)))
    pss_nil)
    (pss_one (ps_expr (pe_bm PySem.F.plainAttrs_list PySem.F.slot_list_append PySem.F.type_list_append mt_append (pv 3) (pa_cons (pv 6) pa_nil)))))))
    (pss_cons (ps_if (pt_cmpR op_ne (pv 2) pe_str (nomark _))
    (pss_one (ps_raiseC leavesD rfl T.mk_BadBook G_BadBook___init__ (hr.mono (by omega)) rfl T.h_BadBook T.m_BadBook___init__.b (pa_cons (pe_callB call_len (by rfl) T.n_len bt_len (pa_cons (pv 1) pa_nil)) pa_nil)))
    pss_nil)
    (pss_one (ps_ret (pe_callTy call_tuple_of (by rfl) T.n_tuple bt_tuple (pa_cons (pv 3) pa_nil))))))))), ?_⟩
    walk_at "sw"
    refine ⟨_, 10, rfl, by rw [nl1], Nat.le_trans tx.le (by decide), fun a ha => ?_⟩
    rw [tx.sp]
    refine ⟨.inl ⟨_, SqL.of upd_same⟩, a, _, .str b, rfl, rfl, upd_same, ?_, ?_⟩
    · rw [List.map_append, show (ls.map V.str ++ ([b].map V.str)).length - 1 = (ls.map V.str).length by rw [List.length_append]; rfl]
      exact get_last
    have s1 : Same H (upd (upd H a (.lst ((ls ++ [b]).map V.str))) a (.lst ((ls ++ [b]).map V.str).dropLast)) := fun c o e => by
      rw [upd_ne (ne_of_none e ha), upd_ne (ne_of_none e ha)]
      exact e
    have h1 : upd (upd H a (.lst ((ls ++ [b]).map V.str))) a (.lst ((ls ++ [b]).map V.str).dropLast) a = some (.lst (ls.map V.str)) := by
      rw [upd_same, List.map_append]
      congr 2
      exact List.dropLast_concat
    generalize upd (upd H a (.lst ((ls ++ [b]).map V.str))) a (.lst ((ls ++ [b]).map V.str).dropLast) = H1 at s1 h1
    refine ⟨by decide, fun p hp => ?_⟩
    have pa : p ≠ a := fun e => by rw [e, h1] at hp; cases hp
    have raise : ∀ (i : Nat) (G : Hp) (v : V), v = .int (i : Nat) → Same H G → Bad ls b i → ∀ e t, G e = none → spBInit T.C_BadBook [.ref e, v] (upd G e (exNew e T.C_BadBook none t)) (fun v H2 => v = .non ∧ ∃ d t, H2 e = some (exNew e T.C_BadBook d t) ∧ E (.ref T.C_BadBook) d (del H2 e)) E0 := fun i G v hv s0 bd e t he => by
      subst hv
      refine ⟨e, _, t, rfl, upd_same, fun dx hx ne => ⟨rfl, some dx, t, ?_, ?_⟩⟩
      · rw [upd_ne ne.symm]; exact upd_same
      · rcases k with ⟨j, bj, kE⟩ | ⟨ts, gd, _⟩
        · have ij : i = j := bad_one bd bj
          subst ij
          refine kE dx _ ?_ ?_
          · rw [del_ne ne]; exact upd_same
          · intro c o hc
            have c1 : c ≠ e := fun q => by rw [q] at hc; rw [s0 _ _ hc] at he; cases he
            have hG := s0 _ _ hc
            have hx' : dx ≠ c := fun q => by
              rw [q, upd_ne c1, hG] at hx
              cases hx
            rw [del_ne c1, upd_ne hx'.symm, upd_ne c1, upd_ne c1]
            exact hG
        · exact (good_bad gd bd).elim
    refine ⟨_, rfl, a, rfl, ⟨_, SqL.of ((Same.upd hp) _ _ h1)⟩, ?_⟩
    refine for_enum (K := K) (a := a) (xs := ls.map V.str) (fun i σ H2 => ∃ (o1 o2 o3 : Option V) (us : List V) (ts : List Tr), σ = [some (.str z), some (.ref a), some (.str b), some (.ref p), o1, o2, o3] ∧ H2 p = some (.lst us) ∧ (ls.take i).map (fun l => rowT (lineW l)) = ts.map some ∧ Reps H2 us ts ∧ Same H1 H2)
      ⟨none, none, none, [], [], rfl, upd_same, rfl, Reps.nil _, Same.upd hp⟩ (fun i σ H2 _ ⟨_, _, _, _, _, _, _, _, _, s2⟩ => SqL.of (s2 _ _ h1)) ?_ ?_
    · rintro i x q σ H2 hi ⟨o1, o2, o3, us, ts, rfl, h2, g2, r2, s2⟩ hq
      rw [List.getElem?_map] at hi
      obtain ⟨ln, hln, rfl⟩ := Option.map_eq_some_iff.mp hi
      have lo := tx.ok ln (List.mem_of_getElem? hln)
      refine ⟨q, _, rfl, SqT.of upd_same, rfl, ?_⟩
      simp only [gCons, gNil]
      walk_at "sx"
      have x1 := Same.upd (o := .tup [.int (i : Nat), .str ln]) hq
      refine ⟨ln, rfl, lo.le, lo.ws, fun v H' o s' => ?_⟩
      have s3 := (s2.trans x1).trans s'
      have h3 := s' _ _ (x1 _ _ h2)
      have o' : OT H' v (rowT (lineW ln)) := o
      cases hrow : rowT (lineW ln) with
      | none =>
        rw [hrow] at o'
        have ev : v = .non := o'
        refine ifT ev ?_
        simp only [tRaiseC]
        walk_at "sx"
        exact ⟨by decide, raise i _ _ rfl (s1.trans s3) ⟨good_to g2, .inl ⟨ln, hln, hrow⟩⟩⟩
      | some t =>
        rw [hrow] at o'
        have rv : Rep H' v t := o'
        refine ifF (fun e => by rw [e] at rv; cases rv) ⟨.inl ⟨_, SqL.of h3⟩, p, us, v, rfl, rfl, h3, ?_, ?_⟩
        · have e1 := r2.1
          have e2 := congrArg List.length g2
          rw [List.length_map, List.length_map, List.length_take] at e2
          have := tx.n
          exact Nat.lt_of_le_of_lt (show us.length ≤ 20 by omega) (by decide)
        · refine ⟨us ++ [v], upd_same, ts ++ [t], ?_, ?_, same_set s3 hp⟩
          · rw [take_snoc' hln, List.map_append, g2, List.map_append]
            show _ ++ [rowT (lineW ln)] = _
            rw [hrow]; rfl
          have sT : SameT H' (upd H' p (.lst (us ++ [v]))) := fun b ys e => by
            rw [upd_ne (fun z => by rw [z, h3] at e; cases e)]
            exact e
          exact (((r2.sameT (sameT_of (x1.trans s'))).snoc rv).sameT sT)
    · rintro σ H2 ⟨o1, o2, o3, us, ts, rfl, h2, g2, r2, s2⟩
      rw [List.length_map, List.take_length] at g2
      walk_at "sy"
      by_cases hb : b = ""
      · refine ⟨rfl, ifNF hb ⟨us, .inl ⟨SqL.of h2, fun l hl' => ?_⟩⟩⟩
        rcases k with ⟨j, bj, _⟩ | ⟨ts', gd, kQ⟩
        · exact (good_bad (ts := ts) ⟨g2, hb⟩ bj).elim
        · have e := good_one (⟨g2, hb⟩ : Good ls b ts) gd
          subst e
          exact kQ _ _ (Rep.tup upd_same (r2.sameT (sameT_of (Same.upd hl')))) ((s1.trans s2).trans (Same.upd hl'))
      · refine ⟨rfl, ifNT hb ?_⟩
        simp only [tRaiseC]
        walk_at "sy"
        exact ⟨_, lenV_ref.mpr (.inl ⟨_, SqL.of (s2 _ _ h1), rfl⟩), by decide, raise _ _ _ (by rw [List.length_map]) (s1.trans s2) ⟨fun j l hj hl => good_to (i := ls.length) (by rw [List.take_length]; exact g2) j l hj hl, .inr ⟨rfl, hb⟩⟩⟩
theorem sc_l_cell_at : FnScope ["_law_script", "_law_k"] ["_law_script", "_law_k"] (defScope (top 53)) := ⟨rfl, rfl, rfl, by decide +kernel, rfl, by decide +kernel, by decide +kernel⟩
theorem ok_l_cell_at (T : Tx P w K mg) : FnOk P w K mg base CX0 1 T.d_l_cell_at.f T.d_l_cell_at.fd ["_law_script", "_law_k"] (spCell K) := by
  refine T.d_l_cell_at.F.ok sc_l_cell_at (fun vs H Q E h => ?_) (fun cdv A outer s H vs Q E hr h => ?_)
  · obtain ⟨a, ns, k, rfl, _⟩ := h
    rfl
  · obtain ⟨a, ns, i, rfl, hS, hl, h0, k⟩ := h
    refine ⟨_, (pss_cons (ps_if (pt_cmpR op_lt (pv 1) (pe_callB call_len (by rfl) T.n_len bt_len (pa_cons (pv 0) pa_nil)) (nomark _))
    (pss_one (ps_ret (pe_ix ix_list (pv 0) (pv 1) (fun _ _ => rfl))))
    pss_nil)
    (pss_one (ps_ret pe_int))), ?_⟩
    walk_at "sx"
    refine ⟨_, .inl ⟨_, hS, rfl⟩, ?_⟩
    rw [List.length_map]
    by_cases hi : i < (ns.length : Int)
    · refine ifT hi ?_
      have hi2 : i.toNat < ns.length := by omega
      refine ⟨a, _, i, .int ns[i.toNat], rfl, rfl, hS, ?_, k _⟩
      have := atI_nat (xs := ns.map V.int) (j := i.toNat) (v := .int ns[i.toNat]) (by rw [List.getElem?_map]; simp [hi2])
      rwa [show ((i.toNat : Nat) : Int) = i by omega] at this
    · exact ifF hi (k _)
theorem sc_l_mixed : FnScope ["_law_cell", "_law_k"] ["_law_cell", "_law_k"] (defScope (top 54)) := ⟨rfl, rfl, rfl, by decide +kernel, rfl, by decide +kernel, by decide +kernel⟩
theorem ok_l_mixed (T : Tx P w K mg) : FnOk P w K mg base CX0 1 T.d_l_mixed.f T.d_l_mixed.fd ["_law_cell", "_law_k"] (spMixed) := by
  refine T.d_l_mixed.F.ok sc_l_mixed (fun vs H Q E h => ?_) (fun cdv A outer s H vs Q E hr h => ?_)
  · obtain ⟨c, k, rfl, _⟩ := h
    rfl
  · obtain ⟨c, k0, rfl, k⟩ := h
    refine ⟨_, (pss_one (ps_ret (pe_op op_mod (pe_op op_pow (pe_op op_mod (pe_op op_add (pe_op op_mul (pv 0) pe_int) (pe_op op_mul (pe_op op_add (pv 1) pe_int) pe_int)) pe_int) pe_int) pe_int))), ?_⟩
    walk_at "sx"
    have md : ∀ y : Int, 0 ≤ y % 2147483647 ∧ y % 2147483647 < 2147483647 := fun y => ⟨Int.emod_nonneg _ (by decide), Int.emod_lt_of_pos _ (by decide)⟩
    have b64 : (2 : Nat) ^ 64 = 18446744073709551616 := by decide
    refine ⟨.inr (by decide), .inr (by decide), by decide, ⟨by decide, by decide, ?_⟩, by decide, k _ (md _).1 (md _).2⟩
    have := md (c * 48271 + (k0 + 1) * 1299721)
    omega
theorem sc_l_stream : FnScope ["_law_cell", "_law_place", "_law_many", "_law_found", "_law_k"] ["_law_cell", "_law_place", "_law_many"] (defScope (top 55)) := ⟨rfl, rfl, rfl, by decide +kernel, rfl, by decide +kernel, by decide +kernel⟩
theorem ok_l_stream (T : Tx P w K mg)
    (G_l_mixed : FnOk P w K mg base CX0 1 T.d_l_mixed.f T.d_l_mixed.fd ["_law_cell", "_law_k"] (spMixed)) : FnOk P w K mg base CX0 2 T.d_l_stream.f T.d_l_stream.fd ["_law_cell", "_law_place", "_law_many"] (spStream) := by
  refine T.d_l_stream.F.ok sc_l_stream (fun vs H Q E h => ?_) (fun cdv A outer s H vs Q E hr h => ?_)
  · obtain ⟨c, p, m, rfl, _⟩ := h
    rfl
  · obtain ⟨c, p, m, rfl, h0, h1, k⟩ := h
    refine ⟨_, (pss_cons (ps_set (i := 3) sc_l_stream.nd rfl (Or.inl rfl) (pe_lst pa_nil))
    (pss_cons (ps_for PassesOwn.never rfl (pi_range1 rfl T.n_range (pa_cons (pv 2) pa_nil)) (pg_name (i := 4) sc_l_stream.nd rfl (Or.inl rfl))
    (pss_one (ps_expr (pe_bm PySem.F.plainAttrs_list PySem.F.slot_list_append PySem.F.type_list_append mt_append (pv 3) (pa_cons (pe_call G_l_mixed (hr.mono (by omega)) rfl T.d_l_mixed.hm T.d_l_mixed.F.kp T.d_l_mixed.b .nil pass0 (pa_cons (pe_op op_add (pe_op op_mod (pv 0) pe_int) (pe_op op_mul pe_int (pv 1))) (pa_cons (pe_op op_add pe_int (pv 4)) pa_nil))) pa_nil)))))
    (pss_one (ps_ret (pv 3))))), ?_⟩
    walk_at "sx"
    refine ⟨by decide, fun l hl => ?_⟩
    have b62 : (2 : Int) ^ 62 = 4611686018427387904 := by decide
    refine ⟨_, rfl, m, rfl, by omega, by omega, ?_⟩
    refine for_range (fun i σ H2 => ∃ (ns : List Int) (kk : Option V), σ = [some (.int c), some (.int p), some (.int m), some (.ref l), kk] ∧ ns.length = i ∧ (∀ n ∈ ns, 0 ≤ n ∧ n < 2147483647) ∧ H2 l = some (.lst (ns.map V.int)) ∧ Same H H2)
      ⟨[], none, rfl, rfl, (fun _ h => nomatch h), upd_same, Same.upd hl⟩ ?_ ?_
    · rintro i σ H2 hi ⟨ns, kk, rfl, hlen, hns, hl2, hs2⟩
      walk_at "sx"
      refine ⟨.inl ⟨_, SqL.of hl2⟩, by decide, .inl (by decide), _, _, rfl, fun r r0 r1 => ?_⟩
      refine ⟨l, _, _, rfl, rfl, hl2, ?_, ?_⟩
      · rw [List.length_map, hlen]
        exact Nat.lt_of_lt_of_le (show i < 1000 by omega) (by decide)
      · refine ⟨ns ++ [r], ?_, ?_, ?_, ?_⟩
        · rw [List.length_append, hlen]; rfl
        · intro n hn
          rcases List.mem_append.mp hn with hn | hn
          · exact hns n hn
          · rw [List.mem_singleton.mp hn]; exact ⟨r0, r1⟩
        · rw [upd_same, List.map_append]; rfl
        · exact same_set hs2 hl
    · rintro σ H2 ⟨ns, kk, rfl, hlen, hns, hl2, hs2⟩
      exact ⟨_, rfl, k l ns H2 hl (by omega) hns hl2 hs2⟩
theorem sc_l_name : FnScope ["_law_x"] ["_law_x"] (defScope (top 56)) := ⟨rfl, rfl, rfl, by decide +kernel, rfl, by decide +kernel, by decide +kernel⟩
theorem ok_l_name (T : Tx P w K mg) : FnOk P w K mg base CX0 1 T.d_l_name.f T.d_l_name.fd ["_law_x"] (spLName) := by
  refine T.d_l_name.F.ok sc_l_name (fun vs H Q E h => ?_) (fun cdv A outer s H vs Q E hr h => ?_)
  · obtain ⟨x, rfl, _⟩ := h
    rfl
  · obtain ⟨x, rfl, k⟩ := h
    refine ⟨_, (pss_one (ps_ret (pe_ix ix_list (pe_lst (pa_strs (zs := ["a", "gate", "torn", "zzzzzzzz", "box", "lostone", "b", "nobody"]) (by decide +kernel))) (pe_op op_mod (pv 0) pe_int) (fun _ _ => rfl)))), ?_⟩
    walk_at "sw"
    refine ⟨by decide, fun p hp => ⟨by decide, ixAny (xs := NAM.map V.str) (SqL.of upd_same) (by omega) (show x % 8 < 8 by omega) fun v hv => ?_⟩⟩
    obtain ⟨z, hz, rfl⟩ := List.mem_map.mp hv
    exact k z _ hz (Same.upd hp)
theorem sc_l_value : FnScope ["_law_x"] ["_law_x"] (defScope (top 57)) := ⟨rfl, rfl, rfl, by decide +kernel, rfl, by decide +kernel, by decide +kernel⟩
theorem ok_l_value (T : Tx P w K mg) : FnOk P w K mg base CX0 1 T.d_l_value.f T.d_l_value.fd ["_law_x"] (spLValue) := by
  refine T.d_l_value.F.ok sc_l_value (fun vs H Q E h => ?_) (fun cdv A outer s H vs Q E hr h => ?_)
  · obtain ⟨x, rfl, _⟩ := h
    rfl
  · obtain ⟨x, rfl, k⟩ := h
    refine ⟨_, (pss_one (ps_ret (pe_ix ix_list (pe_lst (pa_cons pe_int (pa_cons pe_int (pa_cons pe_int (pa_cons (pe_op op_mod (pe_op op_fdiv (pv 0) pe_int) pe_int) (pa_cons pe_str (pa_cons pe_str pa_nil))))))) (pe_op op_mod (pv 0) pe_int) (fun _ _ => rfl)))), ?_⟩
    walk_at "sw"
    refine ⟨⟨by decide, by decide⟩, by decide, by decide, fun p hp => ⟨by decide, ixAny (SqL.of upd_same) (by omega) (by simp only [List.length_cons, List.length_nil]; omega) fun v hv => ?_⟩⟩
    simp only [List.mem_cons, List.not_mem_nil, or_false] at hv
    have s1 := Same.upd (o := .lst [V.int 0, V.int 7, V.int 999999, V.int (x / 6 % 1000000), V.str ":off", V.str ":abc"]) hp
    rcases hv with rfl | rfl | rfl | rfl | rfl | rfl
    · exact k (.i 0) _ (.inl ⟨0, rfl, by decide, by decide⟩) s1
    · exact k (.i 7) _ (.inl ⟨7, rfl, by decide, by decide⟩) s1
    · exact k (.i 999999) _ (.inl ⟨999999, rfl, by decide, by decide⟩) s1
    · exact k (.i (x / 6 % 1000000)) _ (.inl ⟨_, rfl, by omega, by omega⟩) s1
    · exact k (.s ":off") _ (.inr ⟨_, rfl, .inl rfl⟩) s1
    · exact k (.s ":abc") _ (.inr ⟨_, rfl, .inr rfl⟩) s1
theorem sc_l_number : FnScope ["_law_x", "_law_least", "_law_most"] ["_law_x", "_law_least", "_law_most"] (defScope (top 58)) := ⟨rfl, rfl, rfl, by decide +kernel, rfl, by decide +kernel, by decide +kernel⟩
theorem ok_l_number (T : Tx P w K mg) : FnOk P w K mg base CX0 1 T.d_l_number.f T.d_l_number.fd ["_law_x", "_law_least", "_law_most"] (spLNumber) := by
  refine T.d_l_number.F.ok sc_l_number (fun vs H Q E h => ?_) (fun cdv A outer s H vs Q E hr h => ?_)
  · obtain ⟨x, lo, hi, rfl, _⟩ := h
    rfl
  · obtain ⟨x, lo, hi, rfl, hlh, k⟩ := h
    refine ⟨_, (pss_one (ps_ret (pe_ix ix_list (pe_lst (pa_cons (pv 1) (pa_cons (pv 2) (pa_cons (pe_op op_add (pv 1) (pe_op op_mod (pe_op op_fdiv (pv 0) pe_int) pe_int)) (pa_cons (pe_op op_add (pv 1) (pe_op op_mod (pe_op op_fdiv (pv 0) pe_int) (pe_op op_add (pe_op op_sub (pv 2) (pv 1)) pe_int))) pa_nil))))) (pe_op op_mod (pv 0) pe_int) (fun _ _ => rfl)))), ?_⟩
    walk_at "sw"
    refine ⟨⟨by decide, by decide⟩, by decide, ⟨by decide, by decide⟩, by omega, by decide, fun p hp => ⟨by decide, ixAny (SqL.of upd_same) (by omega) (by simp only [List.length_cons, List.length_nil]; omega) fun v hv => ?_⟩⟩
    simp only [List.mem_cons, List.not_mem_nil, or_false] at hv
    have s1 := Same.upd (o := .lst [V.int lo, V.int hi, V.int (lo + x / 4 % 9), V.int (lo + x / 4 % (hi - lo + 1))]) hp
    have m0 := Int.emod_nonneg (x / 4) (show hi - lo + 1 ≠ 0 by omega)
    have m1 := Int.emod_lt_of_pos (x / 4) (show 0 < hi - lo + 1 by omega)
    rcases hv with rfl | rfl | rfl | rfl
    · exact k _ _ (by omega) (by omega) s1
    · exact k _ _ (by omega) (by omega) s1
    · exact k _ _ (by omega) (by omega) s1
    · exact k _ _ (by omega) (by omega) s1
theorem sc_l_faults : FnScope ["_law_x", "_law_least"] ["_law_x", "_law_least"] (defScope (top 59)) := ⟨rfl, rfl, rfl, by decide +kernel, rfl, by decide +kernel, by decide +kernel⟩
theorem ok_l_faults (T : Tx P w K mg)
    (G_l_name : FnOk P w K mg base CX0 1 T.d_l_name.f T.d_l_name.fd ["_law_x"] (spLName)) : FnOk P w K mg base CX0 2 T.d_l_faults.f T.d_l_faults.fd ["_law_x", "_law_least"] (spLFaults) := by
  refine T.d_l_faults.F.ok sc_l_faults (fun vs H Q E h => ?_) (fun cdv A outer s H vs Q E hr h => ?_)
  · obtain ⟨x, k, rfl, _⟩ := h
    rfl
  · obtain ⟨x, kk, rfl, hk, k⟩ := h
    refine ⟨_, (pss_one (ps_ret (pe_callTy call_tuple_of (by rfl) T.n_tuple bt_tuple (pa_cons (pe_lc (N' := ["_law_k", "_law_x"]) (sel := [none, some 0]) rfl rfl rfl (pi_range1 rfl T.n_range (pa_cons (pe_op op_add (pv 1) (pe_op op_mod (pv 0) (pe_op op_sub pe_int (pv 1)))) pa_nil)) (gk_name rfl) (fun _ _ _ _ _ => ⟨(pg_name (i := 0) (show (["_law_k", "_law_x"] : List Str).Nodup by decide +kernel) rfl (Or.inl rfl)), pts_nil, (pe_call G_l_name (hr.mono (by omega)) rfl T.d_l_name.hm T.d_l_name.F.kp T.d_l_name.b .nil pass0 (pa_cons (pe_op op_fdiv (pv 1) (pe_ix (ix_listK (K := K) rfl) (pe_lst (pa_cons pe_int (pa_cons pe_int (pa_cons pe_int (pa_cons pe_int pa_nil))))) (pv 0) (fun _ _ => rfl))) pa_nil))⟩)) pa_nil)))), ?_⟩
    walk_at "sw"
    simp only [iRng1]
    walk_at "sw"
    have b62 : (2 : Int) ^ 62 = 4611686018427387904 := by decide
    have m0 := Int.emod_nonneg x (show (5 : Int) - kk ≠ 0 by omega)
    have m1 := Int.emod_lt_of_pos x (show (0 : Int) < 5 - kk by omega)
    refine ⟨by omega, by omega, by omega, ?_⟩
    obtain ⟨n, hn⟩ := Int.eq_ofNat_of_zero_le (show 0 ≤ (kk : Int) + x % (5 - kk) by omega)
    rw [hn, Int.toNat_natCast]
    have hn4 : n ≤ 4 := by omega
    have hnk : kk ≤ n := by omega
    refine lc_range (lo := 0) (n := n) (fun i ys G => Same H G ∧ ∃ zs : List Str, zs.length = i ∧ (∀ z ∈ zs, z ∈ NAM) ∧ ys = zs.map V.str) ⟨Same.refl _, [], rfl, (fun _ h => nomatch h), rfl⟩ ?_ ?_ ?_ ?_
    · rintro i ys G hi ⟨s1, zs, hz, _, rfl⟩
      rw [List.length_map, hz]; exact Nat.le_refl _
    · exact Nat.le_trans hn4 (by decide)
    · rintro i ys G hi ⟨s1, zs, hz, hzn, rfl⟩
      walk_at "sy"
      refine ⟨by decide, fun p hp => ixAny (SqL.of upd_same) (by omega) (by simp only [List.length_cons, List.length_nil]; omega) fun v hv => ?_⟩
      obtain ⟨d, rfl, hd⟩ : ∃ d : Int, v = .int d ∧ CDiv x d := by
        simp only [List.mem_cons, List.not_mem_nil, or_false] at hv
        rcases hv with rfl | rfl | rfl | rfl
        · exact ⟨5, rfl, by decide, by decide⟩
        · exact ⟨40, rfl, by decide, by decide⟩
        · exact ⟨320, rfl, by decide, by decide⟩
        · exact ⟨2560, rfl, by decide, by decide⟩
      refine ⟨d, rfl, hd, _, rfl, fun z H' hzm s' => ⟨(s1.trans (Same.upd hp)).trans s', zs ++ [z], by rw [List.length_append, hz]; rfl, fun y hy => ?_, by rw [List.map_append]; rfl⟩⟩
      rcases List.mem_append.mp hy with q | q
      · exact hzn y q
      · rw [List.mem_singleton.mp q]; exact hzm
    · rintro ys G ⟨s1, zs, hz, hzn, rfl⟩ D hD
      refine ⟨_, .inl ⟨SqL.of upd_same, fun l hl => k _ (zs.map .s) _ ?_ ?_ ((s1.trans (Same.upd hD)).trans (Same.upd hl))⟩⟩
      · refine Rep.tup upd_same ⟨by rw [List.length_map, List.length_map], fun i x u hx hu => ?_⟩
        rw [List.getElem?_map] at hx hu
        obtain ⟨p, hp, rfl⟩ := Option.map_eq_some_iff.mp hx
        rw [hp] at hu
        cases hu
        exact .s p
      · refine ⟨fun f hf => ?_, by rw [List.length_map, hz]; exact hnk, by rw [List.length_map, hz]; exact hn4⟩
        obtain ⟨z, hz', rfl⟩ := List.mem_map.mp hf
        exact ⟨z, rfl, hzn z hz'⟩
theorem sc_l_errand_deed : FnScope ["_law_xs", "_law_line_here", "_law_scope", "_law_one", "_law_other", "_law_n", "_law_kind", "_law_ends"] ["_law_xs"] (defScope (top 60)) := ⟨rfl, rfl, rfl, by decide +kernel, rfl, by decide +kernel, by decide +kernel⟩
theorem ok_l_errand_deed (T : Tx P w K mg)
    (G_l_number : FnOk P w K mg base CX0 1 T.d_l_number.f T.d_l_number.fd ["_law_x", "_law_least", "_law_most"] (spLNumber))
    (G_l_name : FnOk P w K mg base CX0 1 T.d_l_name.f T.d_l_name.fd ["_law_x"] (spLName))
    (G_l_value : FnOk P w K mg base CX0 1 T.d_l_value.f T.d_l_value.fd ["_law_x"] (spLValue))
    (G_l_faults : FnOk P w K mg base CX0 2 T.d_l_faults.f T.d_l_faults.fd ["_law_x", "_law_least"] (spLFaults)) : FnOk P w K mg base CX0 4 T.d_l_errand_deed.f T.d_l_errand_deed.fd ["_law_xs"] (spLErrand) := by
  refine T.d_l_errand_deed.F.ok sc_l_errand_deed (fun vs H Q E h => ?_) (fun cdv A outer s H vs Q E hr h => ?_)
  · obtain ⟨a, ns, rfl, _⟩ := h
    rfl
  · obtain ⟨a, ns, rfl, ha, hn, k⟩ := h
    refine ⟨_, (pss_cons (ps_set (i := 1) sc_l_errand_deed.nd rfl (Or.inl rfl) (pe_call G_l_number (hr.mono (by omega)) rfl T.d_l_number.hm T.d_l_number.F.kp T.d_l_number.b .nil pass0 (pa_cons (pe_ix ix_list (pv 0) pe_int (fun _ _ => rfl)) (pa_cons pe_int (pa_cons pe_int pa_nil)))))
    (pss_cons (ps_set (i := 2) sc_l_errand_deed.nd rfl (Or.inl rfl) (pe_call G_l_number (hr.mono (by omega)) rfl T.d_l_number.hm T.d_l_number.F.kp T.d_l_number.b .nil pass0 (pa_cons (pe_ix ix_list (pv 0) pe_int (fun _ _ => rfl)) (pa_cons pe_int (pa_cons pe_int pa_nil)))))
    (pss_cons (ps_set (i := 3) sc_l_errand_deed.nd rfl (Or.inl rfl) (pe_call G_l_name (hr.mono (by omega)) rfl T.d_l_name.hm T.d_l_name.F.kp T.d_l_name.b .nil pass0 (pa_cons (pe_ix ix_list (pv 0) pe_int (fun _ _ => rfl)) pa_nil)))
    (pss_cons (ps_set (i := 4) sc_l_errand_deed.nd rfl (Or.inl rfl) (pe_call G_l_name (hr.mono (by omega)) rfl T.d_l_name.hm T.d_l_name.F.kp T.d_l_name.b .nil pass0 (pa_cons (pe_ix ix_list (pv 0) pe_int (fun _ _ => rfl)) pa_nil)))
    (pss_cons (ps_set (i := 5) sc_l_errand_deed.nd rfl (Or.inl rfl) (pe_call G_l_number (hr.mono (by omega)) rfl T.d_l_number.hm T.d_l_number.F.kp T.d_l_number.b .nil pass0 (pa_cons (pe_ix ix_list (pv 0) pe_int (fun _ _ => rfl)) (pa_cons pe_int (pa_cons pe_int pa_nil)))))
    (pss_cons (ps_set (i := 6) sc_l_errand_deed.nd rfl (Or.inl rfl) (pe_op op_mod (pe_ix ix_list (pv 0) pe_int (fun _ _ => rfl)) pe_int))
    (pss_cons (ps_if (pt_cmpR op_lt (pv 6) pe_int (nomark _))
    (pss_one (ps_ret (pe_ix ix_list (pe_lst (pa_cons (pe_tup (pa_cons pe_str (pa_cons (pv 1) pa_nil))) (pa_cons (pe_tup (pa_cons pe_str (pa_cons (pv 1) pa_nil))) (pa_cons (pe_tup (pa_cons pe_str (pa_cons (pv 1) (pa_cons (pv 3) pa_nil)))) (pa_cons (pe_tup (pa_cons pe_str (pa_cons (pv 1) (pa_cons (pv 3) pa_nil)))) (pa_cons (pe_tup (pa_cons pe_str (pa_cons (pv 1) (pa_cons (pv 3) pa_nil)))) pa_nil)))))) (pv 6) (fun _ _ => rfl))))
    pss_nil)
    (pss_cons (ps_if (pt_cmpR op_lt (pv 6) pe_int (nomark _))
    (pss_one (ps_ret (pe_tup (pa_cons (pe_ix ix_list (pe_lst (pa_strs (zs := ["group", "join", "left", "late"]) (by decide +kernel))) (pe_op op_sub (pv 6) pe_int) (fun _ _ => rfl)) (pa_cons (pv 1) (pa_cons (pv 2) pa_nil))))))
    pss_nil)
    (pss_cons (ps_if (pt_cmpR op_lt (pv 6) pe_int (nomark _))
    (pss_one (ps_ret (pe_ix ix_list (pe_lst (pa_cons (pe_tup (pa_cons pe_str (pa_cons (pv 1) (pa_cons (pv 3) (pa_cons (pe_call G_l_value (hr.mono (by omega)) rfl T.d_l_value.hm T.d_l_value.F.kp T.d_l_value.b .nil pass0 (pa_cons (pe_ix ix_list (pv 0) pe_int (fun _ _ => rfl)) pa_nil)) pa_nil))))) (pa_cons (pe_tup (pa_cons pe_str (pa_cons (pv 1) (pa_cons (pv 3) pa_nil)))) (pa_cons (pe_tup (pa_cons pe_str (pa_cons (pv 1) (pa_cons (pv 2) pa_nil)))) pa_nil)))) (pe_op op_sub (pv 6) pe_int) (fun _ _ => rfl))))
    pss_nil)
    (pss_cons (ps_if (pt_cmpR op_lt (pv 6) pe_int (nomark _))
    (pss_one (ps_ret (pe_ix ix_list (pe_lst (pa_cons (pe_tup (pa_cons pe_str (pa_cons (pv 1) (pa_cons (pv 3) (pa_cons (pv 4) pa_nil))))) (pa_cons (pe_tup (pa_cons pe_str (pa_cons (pv 1) (pa_cons (pv 3) (pa_cons (pv 4) pa_nil))))) (pa_cons (pe_tup (pa_cons pe_str (pa_cons (pv 1) (pa_cons (pv 3) (pa_cons (pv 4) (pa_cons (pv 2) (pa_cons (pv 5) pa_nil))))))) pa_nil)))) (pe_op op_sub (pv 6) pe_int) (fun _ _ => rfl))))
    pss_nil)
    (pss_cons (ps_if (pt_cmpR op_lt (pv 6) pe_int (nomark _))
    (pss_one (ps_ret (pe_ix ix_list (pe_lst (pa_cons (pe_tup (pa_cons pe_str (pa_cons (pv 1) (pa_cons (pv 2) (pa_cons (pv 5) pa_nil))))) (pa_cons (pe_tup (pa_cons pe_str (pa_cons (pv 1) (pa_cons (pv 5) pa_nil)))) (pa_cons (pe_tup (pa_cons pe_str (pa_cons (pv 1) (pa_cons (pv 3) (pa_cons (pv 4) (pa_cons (pv 2) (pa_cons pe_int pa_nil))))))) pa_nil)))) (pe_op op_sub (pv 6) pe_int) (fun _ _ => rfl))))
    pss_nil)
    (pss_cons (ps_if (pt_cmpR op_lt (pv 6) pe_int (nomark _))
    (pss_one (ps_ret (pe_ix ix_list (pe_lst (pa_cons (pe_tup (pa_cons pe_str (pa_cons (pv 1) (pa_cons (pv 2) (pa_cons (pe_call G_l_faults (hr.mono (by omega)) rfl T.d_l_faults.hm T.d_l_faults.F.kp T.d_l_faults.b .nil pass0 (pa_cons (pe_ix ix_list (pv 0) pe_int (fun _ _ => rfl)) (pa_cons pe_int pa_nil))) pa_nil))))) (pa_cons (pe_tup (pa_cons pe_str (pa_cons (pv 1) (pa_cons (pe_call G_l_faults (hr.mono (by omega)) rfl T.d_l_faults.hm T.d_l_faults.F.kp T.d_l_faults.b .nil pass0 (pa_cons (pe_ix ix_list (pv 0) pe_int (fun _ _ => rfl)) (pa_cons pe_int pa_nil))) pa_nil)))) pa_nil))) (pe_op op_sub (pv 6) pe_int) (fun _ _ => rfl))))
    pss_nil)
    (pss_cons (ps_set (i := 7) sc_l_errand_deed.nd rfl (Or.inl rfl) (pe_lst (pa_cons (pe_tup (pa_cons pe_str (pa_cons (pe_call G_l_value (hr.mono (by omega)) rfl T.d_l_value.hm T.d_l_value.F.kp T.d_l_value.b .nil pass0 (pa_cons (pe_ix ix_list (pv 0) pe_int (fun _ _ => rfl)) pa_nil)) pa_nil))) (pa_cons (pe_tup (pa_cons pe_str (pa_cons (pe_call G_l_faults (hr.mono (by omega)) rfl T.d_l_faults.hm T.d_l_faults.F.kp T.d_l_faults.b .nil pass0 (pa_cons (pe_ix ix_list (pv 0) pe_int (fun _ _ => rfl)) (pa_cons pe_int pa_nil))) pa_nil))) (pa_cons (pe_tup (pa_cons pe_str pa_nil)) (pa_cons (pe_tup (pa_cons pe_str pa_nil)) pa_nil))))))
    (pss_one (ps_ret (pe_tup (pa_cons pe_str (pa_cons (pv 1) (pa_cons (pe_ix ix_list (pv 7) (pe_op op_sub (pv 6) pe_int) (fun _ _ => rfl)) pa_nil))))))))))))))))))), ?_⟩
    walk_at "sw"
    obtain ⟨x0, x1, x2, x3, x4, x5, x6, r, rfl⟩ : ∃ x0 x1 x2 x3 x4 x5 x6 r, ns = x0 :: x1 :: x2 :: x3 :: x4 :: x5 :: x6 :: r := by
      match ns, hn with
      | x0 :: x1 :: x2 :: x3 :: x4 :: x5 :: x6 :: r, _ => exact ⟨x0, x1, x2, x3, x4, x5, x6, r, rfl⟩
    have rd : ∀ {G : Hp} {R : VK} (i : Nat) (x : Int), Same H G → ((x0 :: x1 :: x2 :: x3 :: x4 :: x5 :: x6 :: r).map V.int)[i]? = some (.int x) → R (.int x) G → rIxL K (.ref a) (.int (i : Nat)) G R := fun {G R} i x s e q => ⟨a, _, _, _, rfl, rfl, SqL.of (s _ _ ha), atI_nat e, q⟩
    refine rd 0 x0 (Same.refl H) rfl ⟨x0, _, _, rfl, by decide, fun ln H1 l0 l1 s1 => rd 1 x1 s1 rfl ⟨x1, _, _, rfl, by decide, fun sc H2 c0 c1 s2 => ?_⟩⟩
    have s12 := s1.trans s2
    refine rd 2 x2 s12 rfl ⟨x2, rfl, fun z1 H3 m1 s3 => rd 3 x3 (s12.trans s3) rfl ⟨x3, rfl, fun z2 H4 m2 s4 => ?_⟩⟩
    have s14 := (s12.trans s3).trans s4
    refine rd 4 x4 s14 rfl ⟨x4, _, _, rfl, by decide, fun nn H5 n0 n1 s5 => ?_⟩
    have s15 := s14.trans s5
    clear s1 s2 s12 s3 s4 s14 s5
    refine rd 5 x5 s15 rfl ⟨x5, rfl, by decide, ?_⟩
    have hL : Num 0 99999 (.i ln) := ⟨ln, rfl, l0, l1⟩
    have hS : Num 0 999 (.i sc) := ⟨sc, rfl, c0, c1⟩
    have hA : Nm (.s z1) := ⟨z1, rfl, m1⟩
    have hB : Nm (.s z2) := ⟨z2, rfl, m2⟩
    have hN : Num 1 99 (.i nn) := ⟨nn, rfl, n0, n1⟩
    have hm := Int.emod_nonneg x5 (show (24 : Int) ≠ 0 by decide)
    have hm' := Int.emod_lt_of_pos x5 (show (0 : Int) < 24 by decide)
    generalize x5 % 24 = kd at hm hm'
    by_cases b1 : kd < 5
    · refine ifT b1 ⟨by decide, fun p0 h0 => ⟨by decide, fun p1 h1 => ⟨by decide, fun p2 h2 => ⟨by decide, fun p3 h3 => ⟨by decide, fun p4 h4 => ⟨by decide, fun q hq => ixAny (SqL.of upd_same) (by omega) (by simp only [List.length_cons, List.length_nil]; omega) fun v hv => ?_⟩⟩⟩⟩⟩⟩
      simp only [List.mem_cons, List.not_mem_nil, or_false] at hv
      rcases hv with rfl | rfl | rfl | rfl | rfl
      · exact k _ [.s "did", .i ln] _ (Rep.tup (kp (kp (kp (kp (kp upd_same h1) h2) h3) h4) hq) (rp2 (.s _) (.i _))) (.line (.inl rfl) hL) (sk (sk (sk (sk (sk (sk s15 h0) h1) h2) h3) h4) hq)
      · exact k _ [.s "clean", .i ln] _ (Rep.tup (kp (kp (kp (kp upd_same h2) h3) h4) hq) (rp2 (.s _) (.i _))) (.line (.inr rfl) hL) (sk (sk (sk (sk (sk (sk s15 h0) h1) h2) h3) h4) hq)
      · exact k _ [.s "ring", .i ln, .s z1] _ (Rep.tup (kp (kp (kp upd_same h3) h4) hq) (rp3 (.s _) (.i _) (.s _))) (.name (.inl rfl) hL hA) (sk (sk (sk (sk (sk (sk s15 h0) h1) h2) h3) h4) hq)
      · exact k _ [.s "hear", .i ln, .s z1] _ (Rep.tup (kp (kp upd_same h4) hq) (rp3 (.s _) (.i _) (.s _))) (.name (.inr (.inl rfl)) hL hA) (sk (sk (sk (sk (sk (sk s15 h0) h1) h2) h3) h4) hq)
      · exact k _ [.s "raise", .i ln, .s z1] _ (Rep.tup (kp upd_same hq) (rp3 (.s _) (.i _) (.s _))) (.name (.inr (.inr (.inl rfl))) hL hA) (sk (sk (sk (sk (sk (sk s15 h0) h1) h2) h3) h4) hq)
    refine ifF b1 ?_
    by_cases b2 : kd < 9
    · refine ifT b2 ⟨by decide, fun p0 h0 => ixAny (SqL.of upd_same) (by omega) (by simp only [List.length_cons, List.length_nil]; omega) fun v hv => ?_⟩
      simp only [List.mem_cons, List.not_mem_nil, or_false] at hv
      refine ⟨by decide, fun p1 h1 => ?_⟩
      rcases hv with rfl | rfl | rfl | rfl
      · exact k _ [.s "group", .i ln, .i sc] _ (Rep.tup upd_same (rp3 (.s _) (.i _) (.i _))) (.scope (.inl rfl) hL hS) (sk (sk s15 h0) h1)
      · exact k _ [.s "join", .i ln, .i sc] _ (Rep.tup upd_same (rp3 (.s _) (.i _) (.i _))) (.scope (.inr (.inl rfl)) hL hS) (sk (sk s15 h0) h1)
      · exact k _ [.s "left", .i ln, .i sc] _ (Rep.tup upd_same (rp3 (.s _) (.i _) (.i _))) (.scope (.inr (.inr (.inl rfl))) hL hS) (sk (sk s15 h0) h1)
      · exact k _ [.s "late", .i ln, .i sc] _ (Rep.tup upd_same (rp3 (.s _) (.i _) (.i _))) (.scope (.inr (.inr (.inr (.inl rfl)))) hL hS) (sk (sk s15 h0) h1)
    refine ifF b2 ?_
    by_cases b3 : kd < 12
    · refine ifT b3 (rd 6 x6 s15 rfl ⟨x6, rfl, fun tv H6 htv s6 => ⟨by decide, fun p0 h0 => ⟨by decide, fun p1 h1 => ⟨by decide, fun p2 h2 => ⟨by decide, fun q hq => ixAny (SqL.of upd_same) (by omega) (by simp only [List.length_cons, List.length_nil]; omega) fun v hv => ?_⟩⟩⟩⟩⟩)
      simp only [List.mem_cons, List.not_mem_nil, or_false] at hv
      have s16 := s15.trans s6
      rcases hv with rfl | rfl | rfl
      · exact k _ [.s "send", .i ln, .s z1, tv] _ (Rep.tup (kp (kp (kp upd_same h1) h2) hq) (rp4 (.s _) (.i _) (.s _) (told_rep htv))) (.send hL hA htv) (sk (sk (sk (sk s16 h0) h1) h2) hq)
      · exact k _ [.s "off", .i ln, .s z1] _ (Rep.tup (kp (kp upd_same h2) hq) (rp3 (.s _) (.i _) (.s _))) (.name (.inr (.inr (.inr rfl))) hL hA) (sk (sk (sk (sk s16 h0) h1) h2) hq)
      · exact k _ [.s "off", .i ln, .i sc] _ (Rep.tup (kp upd_same hq) (rp3 (.s _) (.i _) (.i _))) (.scope (.inr (.inr (.inr (.inr rfl)))) hL hS) (sk (sk (sk (sk s16 h0) h1) h2) hq)
    refine ifF b3 ?_
    by_cases b4 : kd < 15
    · refine ifT b4 ⟨by decide, fun p0 h0 => ⟨by decide, fun p1 h1 => ⟨by decide, fun p2 h2 => ⟨by decide, fun q hq => ixAny (SqL.of upd_same) (by omega) (by simp only [List.length_cons, List.length_nil]; omega) fun v hv => ?_⟩⟩⟩⟩
      simp only [List.mem_cons, List.not_mem_nil, or_false] at hv
      rcases hv with rfl | rfl | rfl
      · exact k _ [.s "take", .i ln, .s z1, .s z2] _ (Rep.tup (kp (kp (kp upd_same h1) h2) hq) (rp4 (.s _) (.i _) (.s _) (.s _))) (.two (.inl rfl) hL hA hB) (sk (sk (sk (sk s15 h0) h1) h2) hq)
      · exact k _ [.s "ask", .i ln, .s z1, .s z2] _ (Rep.tup (kp (kp upd_same h2) hq) (rp4 (.s _) (.i _) (.s _) (.s _))) (.two (.inr rfl) hL hA hB) (sk (sk (sk (sk s15 h0) h1) h2) hq)
      · exact k _ [.s "begin", .i ln, .s z1, .s z2, .i sc, .i nn] _ (Rep.tup (kp upd_same hq) (rp6 (.s _) (.i _) (.s _) (.s _) (.i _) (.i _))) (.begin hL hA hB hS ⟨nn, rfl, by omega, n1⟩) (sk (sk (sk (sk s15 h0) h1) h2) hq)
    refine ifF b4 ?_
    by_cases b5 : kd < 18
    · refine ifT b5 ⟨by decide, fun p0 h0 => ⟨by decide, fun p1 h1 => ⟨by decide, fun p2 h2 => ⟨by decide, fun q hq => ixAny (SqL.of upd_same) (by omega) (by simp only [List.length_cons, List.length_nil]; omega) fun v hv => ?_⟩⟩⟩⟩
      simp only [List.mem_cons, List.not_mem_nil, or_false] at hv
      rcases hv with rfl | rfl | rfl
      · exact k _ [.s "limit", .i ln, .i sc, .i nn] _ (Rep.tup (kp (kp (kp upd_same h1) h2) hq) (rp4 (.s _) (.i _) (.i _) (.i _))) (.limit hL hS hN) (sk (sk (sk (sk s15 h0) h1) h2) hq)
      · exact k _ [.s "wait", .i ln, .i nn] _ (Rep.tup (kp (kp upd_same h2) hq) (rp3 (.s _) (.i _) (.i _))) (.wait hL hN) (sk (sk (sk (sk s15 h0) h1) h2) hq)
      · exact k _ [.s "begin", .i ln, .s z1, .s z2, .i sc, .i 0] _ (Rep.tup (kp upd_same hq) (rp6 (.s _) (.i _) (.s _) (.s _) (.i _) (.i _))) (.begin hL hA hB hS ⟨0, rfl, by decide, by decide⟩) (sk (sk (sk (sk s15 h0) h1) h2) hq)
    refine ifF b5 ?_
    by_cases b6 : kd < 20
    · refine ifT b6 (rd 6 x6 s15 rfl ⟨x6, 0, rfl, by decide, fun v1 f1 H6 r1 hf1 s6 => ⟨by decide, fun p0 h0 => ?_⟩⟩)
      refine rd 6 x6 (sk (s15.trans s6) h0) rfl ⟨x6, 1, rfl, by decide, fun v2 f2 H7 r2 hf2 s7 => ⟨by decide, fun p1 h1 => ⟨by decide, fun q hq => ixAny (SqL.of upd_same) (by omega) (by simp only [List.length_cons, List.length_nil]; omega) fun v hv => ?_⟩⟩⟩
      simp only [List.mem_cons, List.not_mem_nil, or_false] at hv
      have s17 := (sk (o := .tup [.str "halt", .int ln, .int sc, v1]) (s15.trans s6) h0).trans s7
      have e0 : H7 p0 = some (.tup [.str "halt", .int ln, .int sc, v1]) := s7 _ _ upd_same
      have r1' : Rep H7 v1 (.t f1) := (rk r1 h0).sameT (sameT_of s7)
      rcases hv with rfl | rfl
      · exact k _ [.s "halt", .i ln, .i sc, .t f1] _ (Rep.tup (kp (kp e0 h1) hq) (rp4 (.s _) (.i _) (.i _) (rk (rk r1' h1) hq))) (.halt hL hS hf1) (sk (sk s17 h1) hq)
      · exact k _ [.s "caught", .i ln, .t f2] _ (Rep.tup (kp upd_same hq) (rp3 (.s _) (.i _) (rk (rk r2 h1) hq))) (.caught hL hf2) (sk (sk s17 h1) hq)
    refine ifF b6 ?_
    refine rd 6 x6 s15 rfl ⟨x6, rfl, fun tv H6 htv s6 => ⟨by decide, fun p0 h0 => ?_⟩⟩
    refine rd 6 x6 (sk (s15.trans s6) h0) rfl ⟨x6, 1, rfl, by decide, fun v2 f2 H7 r2 hf2 s7 => ⟨by decide, fun p1 h1 => ⟨by decide, fun p2 h2 => ⟨by decide, fun p3 h3 => ⟨by decide, fun q hq => ixAny (SqL.of upd_same) (by omega) (by simp only [List.length_cons, List.length_nil]; omega) fun v hv => ?_⟩⟩⟩⟩⟩
    simp only [List.mem_cons, List.not_mem_nil, or_false] at hv
    have s17 := (sk (o := .tup [.str "value", vT tv]) (s15.trans s6) h0).trans s7
    have e0 : H7 p0 = some (.tup [.str "value", vT tv]) := s7 _ _ upd_same
    refine ⟨by decide, fun pe he => ?_⟩
    rcases hv with rfl | rfl | rfl | rfl
    · exact k _ [.s "ended", .i ln, .t [.s "value", tv]] _ (Rep.tup upd_same (rp3 (.s _) (.i _) (Rep.tup (kp (kp (kp (kp (kp e0 h1) h2) h3) hq) he) (rp2 (.s _) (told_rep htv))))) (.ended hL (.value htv)) (sk (sk (sk (sk (sk s17 h1) h2) h3) hq) he)
    · exact k _ [.s "ended", .i ln, .t [.s "faults", .t f2]] _ (Rep.tup upd_same (rp3 (.s _) (.i _) (Rep.tup (kp (kp (kp (kp upd_same h2) h3) hq) he) (rp2 (.s _) (rk (rk (rk (rk (rk r2 h1) h2) h3) hq) he))))) (.ended hL (.faults hf2)) (sk (sk (sk (sk (sk s17 h1) h2) h3) hq) he)
    · exact k _ [.s "ended", .i ln, .t [.s "off"]] _ (Rep.tup upd_same (rp3 (.s _) (.i _) (Rep.tup (kp (kp (kp upd_same h3) hq) he) (Reps.one (.s _))))) (.ended hL (.bare (.inl rfl))) (sk (sk (sk (sk (sk s17 h1) h2) h3) hq) he)
    · exact k _ [.s "ended", .i ln, .t [.s "late"]] _ (Rep.tup upd_same (rp3 (.s _) (.i _) (Rep.tup (kp (kp upd_same hq) he) (Reps.one (.s _))))) (.ended hL (.bare (.inr rfl))) (sk (sk (sk (sk (sk s17 h1) h2) h3) hq) he)
theorem sc_l_row : FnScope ["_law_cell", "_law_place", "_law_xs", "_law_tick", "_law_number_here", "_law_marked", "_law_woken", "_law_k", "_law_word_here", "_law_rest", "_law_due", "_law_deeds"] ["_law_cell", "_law_place"] (defScope (top 61)) := ⟨rfl, rfl, rfl, by decide +kernel, rfl, by decide +kernel, by decide +kernel⟩
theorem ok_l_row (T : Tx P w K mg)
    (G_l_stream : FnOk P w K mg base CX0 2 T.d_l_stream.f T.d_l_stream.fd ["_law_cell", "_law_place", "_law_many"] (spStream))
    (G_l_number : FnOk P w K mg base CX0 1 T.d_l_number.f T.d_l_number.fd ["_law_x", "_law_least", "_law_most"] (spLNumber))
    (G_l_name : FnOk P w K mg base CX0 1 T.d_l_name.f T.d_l_name.fd ["_law_x"] (spLName))
    (G_l_value : FnOk P w K mg base CX0 1 T.d_l_value.f T.d_l_value.fd ["_law_x"] (spLValue))
    (G_l_errand_deed : FnOk P w K mg base CX0 4 T.d_l_errand_deed.f T.d_l_errand_deed.fd ["_law_xs"] (spLErrand)) : FnOk P w K mg base CX0 6 T.d_l_row.f T.d_l_row.fd ["_law_cell", "_law_place"] (spLRow) := by
  refine T.d_l_row.F.ok sc_l_row (fun vs H Q E h => ?_) (fun cdv A outer s H vs Q E hr h => ?_)
  · obtain ⟨c, p, rfl, _⟩ := h
    rfl
  · obtain ⟨c, p, rfl, k⟩ := h
    refine ⟨_, (pss_cons (ps_set (i := 2) sc_l_row.nd rfl (Or.inl rfl) (pe_call G_l_stream (hr.mono (by omega)) rfl T.d_l_stream.hm T.d_l_stream.F.kp T.d_l_stream.b .nil pass0 (pa_cons (pv 0) (pa_cons (pv 1) (pa_cons pe_int pa_nil)))))
    (pss_cons (ps_set (i := 3) sc_l_row.nd rfl (Or.inl rfl) (pe_call G_l_number (hr.mono (by omega)) rfl T.d_l_number.hm T.d_l_number.F.kp T.d_l_number.b .nil pass0 (pa_cons (pe_ix ix_list (pv 2) pe_int (fun _ _ => rfl)) (pa_cons pe_int (pa_cons pe_int pa_nil)))))
    (pss_cons (ps_set (i := 4) sc_l_row.nd rfl (Or.inl rfl) (pe_call G_l_number (hr.mono (by omega)) rfl T.d_l_number.hm T.d_l_number.F.kp T.d_l_number.b .nil pass0 (pa_cons (pe_ix ix_list (pv 2) pe_int (fun _ _ => rfl)) (pa_cons pe_int (pa_cons pe_int pa_nil)))))
    (pss_cons (ps_set (i := 5) sc_l_row.nd rfl (Or.inl rfl) (pe_lst pa_nil))
    (pss_cons (ps_set (i := 6) sc_l_row.nd rfl (Or.inl rfl) (pe_lst pa_nil))
    (pss_cons (ps_for PassesOwn.never rfl (pi_range1 rfl T.n_range (pa_cons (pe_op op_mod (pe_ix ix_list (pv 2) pe_int (fun _ _ => rfl)) pe_int) pa_nil)) (pg_name (i := 7) sc_l_row.nd rfl (Or.inl rfl))
    (pss_cons (ps_set (i := 8) sc_l_row.nd rfl (Or.inl rfl) (pe_ix ix_list (pe_lst (pa_cons pe_str (pa_cons pe_str pa_nil))) (pe_op op_mod (pe_op op_fdiv (pe_ix ix_list (pv 2) pe_int (fun _ _ => rfl)) pe_int) pe_int) (fun _ _ => rfl)))
    (pss_one (ps_expr (pe_bm PySem.F.plainAttrs_list PySem.F.slot_list_append PySem.F.type_list_append mt_append (pv 5) (pa_cons (pe_tup (pa_cons (pe_call G_l_number (hr.mono (by omega)) rfl T.d_l_number.hm T.d_l_number.F.kp T.d_l_number.b .nil pass0 (pa_cons (pe_op op_add (pe_ix ix_list (pv 2) pe_int (fun _ _ => rfl)) (pv 7)) (pa_cons pe_int (pa_cons pe_int pa_nil)))) (pa_cons (pe_call G_l_number (hr.mono (by omega)) rfl T.d_l_number.hm T.d_l_number.F.kp T.d_l_number.b .nil pass0 (pa_cons (pe_op op_add (pe_ix ix_list (pv 2) pe_int (fun _ _ => rfl)) (pv 7)) (pa_cons pe_int (pa_cons pe_int pa_nil)))) (pa_cons (pv 8) pa_nil)))) pa_nil))))))
    (pss_cons (ps_for PassesOwn.never rfl (pi_range1 rfl T.n_range (pa_cons (pe_op op_mod (pe_op op_fdiv (pe_ix ix_list (pv 2) pe_int (fun _ _ => rfl)) pe_int) pe_int) pa_nil)) (pg_name (i := 7) sc_l_row.nd rfl (Or.inl rfl))
    (pss_one (ps_expr (pe_bm PySem.F.plainAttrs_list PySem.F.slot_list_append PySem.F.type_list_append mt_append (pv 6) (pa_cons (pe_call G_l_number (hr.mono (by omega)) rfl T.d_l_number.hm T.d_l_number.F.kp T.d_l_number.b .nil pass0 (pa_cons (pe_op op_add (pe_op op_fdiv (pe_ix ix_list (pv 2) pe_int (fun _ _ => rfl)) pe_int) (pv 7)) (pa_cons pe_int (pa_cons pe_int pa_nil)))) pa_nil)))))
    (pss_cons (ps_set (i := 9) sc_l_row.nd rfl (Or.inl rfl) (pe_tup (pa_cons (pe_callTy call_tuple_of (by rfl) T.n_tuple bt_tuple (pa_cons (pv 5) pa_nil)) (pa_cons (pe_callTy call_tuple_of (by rfl) T.n_tuple bt_tuple (pa_cons (pv 6) pa_nil)) pa_nil))))
    (pss_cons (ps_if (pt_cmpR op_eq (pe_op op_mod (pe_op op_fdiv (pe_ix ix_list (pv 2) pe_int (fun _ _ => rfl)) pe_int) pe_int) pe_int (nomark _))
    (pss_cons (ps_set (i := 10) sc_l_row.nd rfl (Or.inl rfl) (pe_ix ix_list (pe_lst (pa_cons (pe_tup (pa_cons pe_str (pa_cons (pv 4) pa_nil))) (pa_cons (pe_tup (pa_cons pe_str (pa_cons (pv 4) (pa_cons (pe_call G_l_number (hr.mono (by omega)) rfl T.d_l_number.hm T.d_l_number.F.kp T.d_l_number.b .nil pass0 (pa_cons (pe_ix ix_list (pv 2) pe_int (fun _ _ => rfl)) (pa_cons pe_int (pa_cons pe_int pa_nil)))) pa_nil)))) pa_nil))) (pe_op op_mod (pe_ix ix_list (pv 2) pe_int (fun _ _ => rfl)) pe_int) (fun _ _ => rfl)))
    (pss_one (ps_ret (pe_op op_catT0 (pe_tup (pa_cons (pv 3) (pa_cons pe_str (pa_cons (pv 10) pa_nil)))) (pv 9)))))
    pss_nil)
    (pss_cons (ps_if (pt_cmpR op_eq (pe_op op_mod (pe_op op_fdiv (pe_ix ix_list (pv 2) pe_int (fun _ _ => rfl)) pe_int) pe_int) pe_int (nomark _))
    (pss_cons (ps_set (i := 11) sc_l_row.nd rfl (Or.inl rfl) (pe_lst (pa_cons (pe_tup (pa_cons pe_str (pa_cons (pe_call G_l_name (hr.mono (by omega)) rfl T.d_l_name.hm T.d_l_name.F.kp T.d_l_name.b .nil pass0 (pa_cons (pe_ix ix_list (pv 2) pe_int (fun _ _ => rfl)) pa_nil)) pa_nil))) (pa_cons (pe_tup (pa_cons pe_str (pa_cons (pe_call G_l_name (hr.mono (by omega)) rfl T.d_l_name.hm T.d_l_name.F.kp T.d_l_name.b .nil pass0 (pa_cons (pe_ix ix_list (pv 2) pe_int (fun _ _ => rfl)) pa_nil)) (pa_cons (pe_call G_l_value (hr.mono (by omega)) rfl T.d_l_value.hm T.d_l_value.F.kp T.d_l_value.b .nil pass0 (pa_cons (pe_ix ix_list (pv 2) pe_int (fun _ _ => rfl)) pa_nil)) pa_nil)))) pa_nil))))
    (pss_cons (ps_expr (pe_bm PySem.F.plainAttrs_list PySem.F.slot_list_append PySem.F.type_list_append mt_append (pv 11) (pa_cons (pe_tup (pa_cons pe_str (pa_cons (pe_call G_l_number (hr.mono (by omega)) rfl T.d_l_number.hm T.d_l_number.F.kp T.d_l_number.b .nil pass0 (pa_cons (pe_ix ix_list (pv 2) pe_int (fun _ _ => rfl)) (pa_cons pe_int (pa_cons pe_int pa_nil)))) pa_nil))) pa_nil)))
    (pss_one (ps_ret (pe_op op_catT0 (pe_tup (pa_cons (pv 3) (pa_cons pe_str (pa_cons (pe_ix ix_list (pv 11) (pe_op op_mod (pe_ix ix_list (pv 2) pe_int (fun _ _ => rfl)) pe_int) (fun _ _ => rfl)) pa_nil)))) (pv 9))))))
    pss_nil)
    (pss_one (ps_ret (pe_op op_catT0 (pe_tup (pa_cons (pv 3) (pa_cons (pv 4) (pa_cons (pe_call G_l_errand_deed (hr.mono (by omega)) rfl T.d_l_errand_deed.hm T.d_l_errand_deed.F.kp T.d_l_errand_deed.b .nil pass0 (pa_cons (pv 2) pa_nil)) pa_nil)))) (pv 9)))))))))))))), ?_⟩
    walk_at "sy"
    refine ⟨c, p, 12, rfl, by decide, by decide, fun a ns H1 ha0 hlen hns ha s1 => ?_⟩
    obtain ⟨x0, x1, x2, x3, x4, x5, x6, x7, x8, x9, x10, x11, rfl⟩ : ∃ x0 x1 x2 x3 x4 x5 x6 x7 x8 x9 x10 x11, ns = [x0, x1, x2, x3, x4, x5, x6, x7, x8, x9, x10, x11] := by
      have hl : ns.length = 12 := by omega
      match ns, hl with
      | [x0, x1, x2, x3, x4, x5, x6, x7, x8, x9, x10, x11], _ => exact ⟨x0, x1, x2, x3, x4, x5, x6, x7, x8, x9, x10, x11, rfl⟩
    have rd : ∀ {G : Hp} {R : VK} (i : Nat) (x : Int), Same H1 G → ([x0, x1, x2, x3, x4, x5, x6, x7, x8, x9, x10, x11].map V.int)[i]? = some (.int x) → R (.int x) G → rIxL K (.ref a) (.int (i : Nat)) G R := fun {G R} i x s e q => ⟨a, _, _, _, rfl, rfl, SqL.of (s _ _ ha), atI_nat e, q⟩
    refine rd 7 x7 (Same.refl H1) rfl ⟨x7, _, _, rfl, by decide, fun tk H2 t0 t1 s2 => rd 8 x8 s2 rfl ⟨x8, _, _, rfl, by decide, fun nh H3 h0 h1 s3 => ⟨by decide, fun pm hpm => ⟨by decide, fun pk hpk => ?_⟩⟩⟩⟩
    have s13 := s2.trans s3
    have ne : pk ≠ pm := fun e => by rw [e, upd_same] at hpk; cases hpk
    have hpk3 : H3 pk = none := by rw [upd_ne ne] at hpk; exact hpk
    have m4 := Int.emod_nonneg x9 (show (4 : Int) ≠ 0 by decide)
    have m4' := Int.emod_lt_of_pos x9 (show (0 : Int) < 4 by decide)
    have b62 : (2 : Int) ^ 62 = 4611686018427387904 := by decide
    refine ⟨_, rfl, a, _, _, .int x9, rfl, rfl, SqL.of (((s13.trans (Same.upd hpm)).trans (Same.upd hpk)) _ _ ha), atI_nat (j := 9) rfl, x9, 4, rfl, rfl, (show (0 : Int) < 4 by decide), _, rfl, by omega, by omega, ?_⟩
    refine for_range (fun i σ G => ∃ (o7 o8 : Option V) (us : List V) (ms : List Tr), σ = [some (.int c), some (.int p), some (.ref a), some (.int tk), some (.int nh), some (.ref pm), some (.ref pk), o7, o8, none, none, none] ∧ G pm = some (.lst us) ∧ Reps G us ms ∧ ms.length = i ∧ (∀ m ∈ ms, MarkOk m) ∧ G pk = some (.lst []) ∧ Same H3 G)
      ⟨none, none, [], [], rfl, kp upd_same hpk, Reps.nil _, rfl, (fun _ h => nomatch h), upd_same, sk (Same.upd hpm) hpk⟩ ?_ ?_
    · rintro i σ G hi ⟨o7, o8, us, ms, rfl, hm, hR, hlen, hok, hk, sG⟩
      walk_at "sy"
      refine ⟨by decide, fun q hq => rd 10 x10 (sk (s13.trans sG) hq) rfl ⟨x10, rfl, ⟨by decide, by decide⟩, by decide, ixAny (SqL.of upd_same) (by omega) (by simp only [List.length_cons, List.length_nil]; omega) fun v hv => ⟨.inl ⟨_, SqL.of (kp hm hq)⟩, ?_⟩⟩⟩
      obtain ⟨zw, rfl, hzw⟩ : ∃ z : Str, v = .str z ∧ (z = "off" ∨ z = "late") := by
        simp only [List.mem_cons, List.not_mem_nil, or_false] at hv
        rcases hv with rfl | rfl
        · exact ⟨_, rfl, .inl rfl⟩
        · exact ⟨_, rfl, .inr rfl⟩
      have y1 := Same.upd (o := .lst [V.str "off", V.str "late"]) hq
      refine rd 10 x10 (sk (s13.trans sG) hq) rfl ⟨x10, rfl, _, _, _, rfl, by decide, fun n1 G1 a0 a1 z1 => ?_⟩
      have w1 := (sG.trans y1).trans z1
      refine rd 11 x11 (s13.trans w1) rfl ⟨x11, rfl, _, _, _, rfl, by decide, fun n2 G2 b0 b1 z2 => ⟨by decide, fun pt hpt => ?_⟩⟩
      have gm := kp (o' := .tup [.int n1, .int n2, .str zw]) ((z1.trans z2) _ _ (y1 _ _ hm)) hpt
      have gk := kp (o' := .tup [.int n1, .int n2, .str zw]) ((z1.trans z2) _ _ (y1 _ _ hk)) hpt
      have sA := sk (o := .tup [.int n1, .int n2, .str zw]) (w1.trans z2) hpt
      have hR' := hR.sameT (sameT_of (((y1.trans z1).trans z2).trans (Same.upd (o := .tup [.int n1, .int n2, .str zw]) hpt)))
      have mk : Rep (upd G2 pt (.tup [.int n1, .int n2, .str zw])) (.ref pt) (.t [.i n1, .i n2, .s zw]) := Rep.tup upd_same (rp3 (.i _) (.i _) (.s _))
      refine ⟨pm, us, .ref pt, rfl, rfl, gm, ?_, us ++ [.ref pt], upd_same, ms ++ [.t [.i n1, .i n2, .s zw]], ?_, by rw [List.length_append, hlen]; rfl, fun m hm' => ?_, ?_, same_set sA hpm⟩
      · have := hR.1
        exact Nat.lt_of_lt_of_le (show us.length < 10 by omega) (by decide)
      · have sT : SameT (upd G2 pt (.tup [.int n1, .int n2, .str zw])) (upd (upd G2 pt (.tup [.int n1, .int n2, .str zw])) pm (.lst (us ++ [.ref pt]))) := fun b ys e => by
          rw [upd_ne (fun z => by rw [z, gm] at e; cases e)]
          exact e
        exact (hR'.snoc mk).sameT sT
      · rcases List.mem_append.mp hm' with q | q
        · exact hok m q
        · rw [List.mem_singleton.mp q]
          exact .mk ⟨n1, rfl, a0, a1⟩ ⟨n2, rfl, b0, b1⟩ hzw
      · rw [upd_ne ne]; exact gk
    · rintro σ G ⟨o7, o8, us, ms, rfl, hm, hR, hlen, hok, hk, sG⟩
      have m5 := Int.emod_nonneg (x9 / 4) (show (4 : Int) ≠ 0 by decide)
      have m5' := Int.emod_lt_of_pos (x9 / 4) (show (0 : Int) < 4 by decide)
      refine ⟨_, rfl, a, _, _, .int x9, rfl, rfl, SqL.of (sG _ _ (s13 _ _ ha)), atI_nat (j := 9) rfl, x9, 4, rfl, rfl, ⟨by decide, by decide⟩, _, 4, rfl, rfl, (show (0 : Int) < 4 by decide), _, rfl, by omega, by omega, ?_⟩
      refine for_range (fun i σ G2 => ∃ (o7 : Option V) (vs : List Tr), σ = [some (.int c), some (.int p), some (.ref a), some (.int tk), some (.int nh), some (.ref pm), some (.ref pk), o7, o8, none, none, none] ∧ G2 pm = some (.lst us) ∧ Reps G2 us ms ∧ G2 pk = some (.lst (vs.map vT)) ∧ vs.length = i ∧ (∀ m ∈ vs, Num 0 99 m) ∧ Same H3 G2)
        ⟨o7, [], rfl, hm, hR, hk, rfl, (fun _ h => nomatch h), sG⟩ ?_ ?_
      · rintro i σ G2 hi ⟨o7, vs, rfl, hm, hR, hk, hvl, hvo, sG⟩
        walk_at "sy"
        refine ⟨.inl ⟨_, SqL.of hk⟩, rd 11 x11 (s13.trans sG) rfl ⟨x11, rfl, ⟨by decide, by decide⟩, _, _, _, rfl, by decide, fun n1 G1 a0 a1 z1 => ⟨pk, _, .int n1, rfl, rfl, z1 _ _ hk, ?_, ?_⟩⟩⟩
        · rw [List.length_map, hvl]
          exact Nat.lt_of_lt_of_le (show i < 10 by omega) (by decide)
        · have sT : SameT G1 (upd G1 pk (.lst (vs.map vT ++ [.int n1]))) := fun b ys e => by
            rw [upd_ne (fun z => by rw [z, z1 _ _ hk] at e; cases e)]
            exact e
          refine ⟨by rw [upd_ne (Ne.symm ne)]; exact z1 _ _ hm, (hR.sameT (sameT_of z1)).sameT sT, vs ++ [.i n1], by rw [upd_same, List.map_append]; rfl, by rw [List.length_append, hvl]; rfl, fun m hm' => ?_, same_set (sG.trans z1) hpk3⟩
          rcases List.mem_append.mp hm' with q | q
          · exact hvo m q
          · rw [List.mem_singleton.mp q]
            exact ⟨n1, rfl, a0, a1⟩
      · rintro σ G2 ⟨o7, vs, rfl, hm, hR, hk, hvl, hvo, sG⟩
        walk_at "sy"
        refine ⟨us, .inl ⟨SqL.of hm, fun l hl => ⟨vs.map vT, .inl ⟨SqL.of (kp hk hl), fun l1 hl1 => ⟨by decide, fun pr hpr => ?_⟩⟩⟩⟩⟩
        have e_r : upd (upd (upd G2 l (.tup us)) l1 (.tup (vs.map vT))) pr (.tup [.ref l, .ref l1]) pr = some (.tup [.ref l, .ref l1]) := upd_same
        have RM : Rep (upd (upd (upd G2 l (.tup us)) l1 (.tup (vs.map vT))) pr (.tup [.ref l, .ref l1])) (.ref l) (.t ms) := Rep.tup (kp (kp upd_same hl1) hpr) (((hR.sameT (sameT_of (Same.upd hl))).sameT (sameT_of (Same.upd hl1))).sameT (sameT_of (Same.upd hpr)))
        have RK : Rep (upd (upd (upd G2 l (.tup us)) l1 (.tup (vs.map vT))) pr (.tup [.ref l, .ref l1])) (.ref l1) (.t vs) := Rep.tup (kp upd_same hpr) (nums_reps hvo)
        have s5 : Same H3 (upd (upd (upd G2 l (.tup us)) l1 (.tup (vs.map vT))) pr (.tup [.ref l, .ref l1])) := sk (sk (sk sG hl) hl1) hpr
        generalize upd (upd (upd G2 l (.tup us)) l1 (.tup (vs.map vT))) pr (.tup [.ref l, .ref l1]) = G5 at e_r RM RK s5
        have s15 := s13.trans s5
        have fin : ∀ {G6 : Hp} {vw vd : V} {who : Tr} {d : List Tr}, Same G5 G6 → Rep G6 vw who → Rep G6 vd (.t d) → ((who = .s "clock" ∧ DeedC d) ∨ (who = .s "outside" ∧ DeedO d) ∨ (Num 0 99 who ∧ DeedE d)) → 3 ≤ sizeLine ∧ ∀ q : Addr, G6 q = none → rCatT0 K (.ref q) (.ref pr) (upd G6 q (.tup [.int tk, vw, vd])) Q := fun {G6 vw vd who d} s6 rw' rd' hd => by
          refine ⟨by decide, fun q hq => catT0_any upd_same (kp (s6 _ _ e_r) hq) (fun z => nomatch z) (show 3 + 2 ≤ sizeLine by decide) fun q2 H' hq2 s' => ?_⟩
          have y := (Same.upd (o := .tup [.int tk, vw, vd]) hq).trans s'
          refine k _ ⟨tk, who, d, ms, vs⟩ H' (Rep.tup hq2 ((rp3 (.i _) (rw'.sameT (sameT_of y)) (rd'.sameT (sameT_of y))).app (rp2 (RM.sameT (sameT_of (s6.trans y))) (RK.sameT (sameT_of (s6.trans y)))))) ⟨⟨t0, t1⟩, hd, ⟨hok, by show ms.length ≤ 3; omega⟩, ⟨hvo, by show vs.length ≤ 3; omega⟩⟩ ((s1.trans s15).trans (s6.trans y))
        have hN : Num 0 99 (.i nh) := ⟨nh, rfl, h0, h1⟩
        refine rd 9 x9 s15 rfl ⟨x9, rfl, ⟨by decide, by decide⟩, by decide, rfl, ?_⟩
        by_cases c1 : x9 / 16 % 5 = 0
        · refine ifT c1 ⟨by decide, fun p1 g1 => rd 1 x1 (sk s15 g1) rfl ⟨x1, _, _, rfl, by decide, fun sc G6 c0 c1' s6 => ⟨by decide, fun p2 g2 => ⟨by decide, fun p3 g3 => ?_⟩⟩⟩⟩
          have y6 := (Same.upd (o := .tup [.str "woke", .int nh]) g1).trans s6
          refine rd 5 x5 (sk (sk (s15.trans y6) g2) g3) rfl ⟨x5, rfl, by decide, ixAny (SqL.of upd_same) (by omega) (by simp only [List.length_cons, List.length_nil]; omega) fun v hv => ?_⟩
          simp only [List.mem_cons, List.not_mem_nil, or_false] at hv
          rcases hv with rfl | rfl
          · exact fin (sk (sk y6 g2) g3) (.s _) (Rep.tup (kp (kp (s6 _ _ upd_same) g2) g3) (rp2 (.s _) (.i _))) (.inl ⟨rfl, .woke hN⟩)
          · exact fin (sk (sk y6 g2) g3) (.s _) (Rep.tup (kp upd_same g3) (rp3 (.s _) (.i _) (.i _))) (.inl ⟨rfl, .late hN ⟨sc, rfl, c0, c1'⟩⟩)
        refine ifF c1 (rd 9 x9 s15 rfl ⟨x9, rfl, ⟨by decide, by decide⟩, by decide, rfl, ?_⟩)
        by_cases c2 : x9 / 16 % 5 = 1
        · refine ifT c2 (rd 2 x2 s15 rfl ⟨x2, rfl, fun z1 G6 m1 s6 => ⟨by decide, fun p0 g0 => rd 2 x2 (sk (s15.trans s6) g0) rfl ⟨x2, rfl, fun z2 G7 m2 s7 => ?_⟩⟩⟩)
          have y7 := (sk (o := .tup [.str "ring", .str z1]) s6 g0).trans s7
          have e7 : G7 p0 = some (.tup [.str "ring", .str z1]) := s7 _ _ upd_same
          refine rd 6 x6 (s15.trans y7) rfl ⟨x6, rfl, fun tv G8 htv s8 => ⟨by decide, fun p1 g1 => ⟨by decide, fun p2 g2 => ⟨.inl ⟨_, SqL.of upd_same⟩, ?_⟩⟩⟩⟩
          have y8 := y7.trans s8
          have f2 : G5 p2 = none := (sk y8 g1).free g2
          have y9 := sk (o := .lst [.ref p0, .ref p1]) (sk (o := .tup [.str "send", .str z2, vT tv]) y8 g1) g2
          have e8 : upd (upd G8 p1 (.tup [.str "send", .str z2, vT tv])) p2 (.lst [.ref p0, .ref p1]) p0 = some (.tup [.str "ring", .str z1]) := kp (kp (s8 _ _ e7) g1) g2
          have e8' : upd (upd G8 p1 (.tup [.str "send", .str z2, vT tv])) p2 (.lst [.ref p0, .ref p1]) p1 = some (.tup [.str "send", .str z2, vT tv]) := kp upd_same g2
          have e8'' : upd (upd G8 p1 (.tup [.str "send", .str z2, vT tv])) p2 (.lst [.ref p0, .ref p1]) p2 = some (.lst [.ref p0, .ref p1]) := upd_same
          generalize upd (upd G8 p1 (.tup [.str "send", .str z2, vT tv])) p2 (.lst [.ref p0, .ref p1]) = G9 at y9 e8 e8' e8''
          refine rd 8 x8 (s15.trans y9) rfl ⟨x8, _, _, rfl, by decide, fun n1 GA a0 a1 sA => ⟨by decide, fun p3 g3 => ?_⟩⟩
          have yA := sk (o := .tup [.str "off", .int n1]) (y9.trans sA) g3
          have r0 : Rep (upd GA p3 (.tup [.str "off", .int n1])) (.ref p0) (.t [.s "ring", .s z1]) := Rep.tup (kp (sA _ _ e8) g3) (rp2 (.s _) (.s _))
          have r1 : Rep (upd GA p3 (.tup [.str "off", .int n1])) (.ref p1) (.t [.s "send", .s z2, tv]) := Rep.tup (kp (sA _ _ e8') g3) (rp3 (.s _) (.s _) (told_rep htv))
          have r3 : Rep (upd GA p3 (.tup [.str "off", .int n1])) (.ref p3) (.t [.s "off", .i n1]) := Rep.tup upd_same (rp2 (.s _) (.i _))
          have eA : upd GA p3 (.tup [.str "off", .int n1]) p2 = some (.lst [.ref p0, .ref p1]) := kp (sA _ _ e8'') g3
          generalize upd GA p3 (.tup [.str "off", .int n1]) = GB at yA r0 r1 r3 eA
          refine ⟨p2, [.ref p0, .ref p1], .ref p3, rfl, rfl, eA, (show 2 < sizeLine by decide), ?_⟩
          have sT : SameT GB (upd GB p2 (.lst ([.ref p0, .ref p1] ++ [.ref p3]))) := fun b ys e => by
            rw [upd_ne (fun z => by rw [z, eA] at e; cases e)]
            exact e
          have yB := same_set (o := .lst ([.ref p0, .ref p1] ++ [.ref p3])) yA f2
          refine rd 5 x5 (s15.trans yB) rfl ⟨x5, rfl, by decide, ixAny (SqL.of upd_same) (by omega) (by simp only [List.length_append, List.length_cons, List.length_nil]; omega) fun v hv => ?_⟩
          simp only [List.cons_append, List.nil_append, List.mem_cons, List.not_mem_nil, or_false] at hv
          rcases hv with rfl | rfl | rfl
          · exact fin yB (.s _) (r0.sameT sT) (.inr (.inl ⟨rfl, .ring ⟨z1, rfl, m1⟩⟩))
          · exact fin yB (.s _) (r1.sameT sT) (.inr (.inl ⟨rfl, .send ⟨z2, rfl, m2⟩ htv⟩))
          · exact fin yB (.s _) (r3.sameT sT) (.inr (.inl ⟨rfl, .off ⟨n1, rfl, a0, a1⟩⟩))
        · exact ifF c2 ⟨a, _, rfl, s15 _ _ ha, rfl, fun vd d G6 rd' hd s6 => fin s6 (.i _) rd' (.inr (.inr ⟨hN, hd⟩))⟩
theorem sc_l_word : FnScope ["_law_part"] ["_law_part"] (defScope (top 62)) := ⟨rfl, rfl, rfl, by decide +kernel, rfl, by decide +kernel, by decide +kernel⟩
theorem word_step (T : Tx P w K mg) (n : Nat) (G_l_word : FnOk P w K mg base CX0 (n + 1) T.d_l_word.f T.d_l_word.fd ["_law_part"] (spLWordD n)) : FnOk P w K mg base CX0 (n + 2) T.d_l_word.f T.d_l_word.fd ["_law_part"] (spLWord n) := by
  refine T.d_l_word.F.ok (k := n + 1) sc_l_word (fun vs H Q E h => ?_) (fun cdv A outer s H vs Q E hr h => ?_)
  · obtain ⟨v, t, z, rfl, _⟩ := h
    rfl
  · obtain ⟨v, t, z, rfl, hv, hk, k⟩ := h
    have hu := hu100 hr
    refine ⟨_, (pss_cons (ps_if (pt_cmpR (op_eqX hu) (pv 0) (pe_tup pa_nil) (nomark _))
    (pss_one (ps_ret pe_str))
    pss_nil)
    (pss_cons (ps_if (PW.pt (pw_and (pt_val (pe_callB call_isinst (by rfl) T.n_isinstance bt_isinstance (pa_cons (pv 0) (pa_cons (pe_bltn (v := .ty "tuple") rfl T.n_tuple bt_tuple rfl) pa_nil)))) (pw_and1 (pt_cmpR op_in_seq (pe_ix ix_tup (pv 0) pe_int (fun _ _ => rfl)) (pe_tup (pa_cons pe_str (pa_cons pe_str (pa_cons pe_str pa_nil)))) (by with_unfolding_all rfl)))))
    (pss_one (ps_ret (pe_bm PySem.F.plainAttrs_str PySem.F.slot_str_join PySem.F.type_str_join mt_join pe_str (pa_cons (pe_lc (N' := ["_law_one"]) (sel := [none]) rfl rfl rfl (pi_tup (pv 0)) (gk_name rfl) (fun _ _ _ _ _ => ⟨(pg_name (i := 0) (show (["_law_one"] : List Str).Nodup by decide +kernel) rfl (Or.inl rfl)), pts_nil, (pe_callTy call_strV (by rfl) T.n_str bt_str (pa_cons (pv 0) pa_nil))⟩)) pa_nil))))
    pss_nil)
    (pss_cons (ps_if (PW.pt (pw_and (pt_val (pe_callB call_isinst (by rfl) T.n_isinstance bt_isinstance (pa_cons (pv 0) (pa_cons (pe_bltn (v := .ty "tuple") rfl T.n_tuple bt_tuple rfl) pa_nil)))) (pw_and1 (pt_cmpR op_eq (pe_ix ix_tup (pv 0) pe_int (fun _ _ => rfl)) pe_str (nomark _)))))
    (pss_one (ps_ret (pe_op op_add_str pe_str (pe_call G_l_word (hr.mono (by omega)) rfl T.d_l_word.hm T.d_l_word.F.kp T.d_l_word.b .nil pass0 (pa_cons (pe_ix ix_tup (pv 0) pe_int (fun _ _ => rfl)) pa_nil)))))
    pss_nil)
    (pss_cons (ps_if (pt_val (pe_callB call_isinst (by rfl) T.n_isinstance bt_isinstance (pa_cons (pv 0) (pa_cons (pe_bltn (v := .ty "tuple") rfl T.n_tuple bt_tuple rfl) pa_nil))))
    (pss_one (ps_ret (pe_bm PySem.F.plainAttrs_str PySem.F.slot_str_join PySem.F.type_str_join mt_joinT pe_str (pa_cons (pv 0) pa_nil))))
    pss_nil)
    (pss_one (ps_ret (pe_callTy call_strV (by rfl) T.n_str bt_str (pa_cons (pv 0) pa_nil)))))))), ?_⟩
    walk_at "sw"
    refine ⟨by decide, fun p hp => ?_⟩
    have s1 := Same.upd (o := .tup []) hp
    cases hk with
    | int h0 h1 =>
      cases hv
      exact .inr (.inr ⟨[], SqT.of upd_same, .inl ⟨_, rfl⟩, L2.iteF ⟨_, .int _, false, rfl, L2.iteF (L2.iteF ⟨_, .int _, false, rfl, L2.iteF (L2.iteF ⟨_, .int _, false, rfl, L2.iteF (.inl ⟨_, rfl, log_lt h0 (by omega), k _ s1⟩)⟩)⟩)⟩⟩)
    | str hz =>
      cases hv
      exact .inr (.inr ⟨[], SqT.of upd_same, .inr ⟨_, rfl⟩, L2.iteF ⟨_, .str _, false, rfl, L2.iteF (L2.iteF ⟨_, .str _, false, rfl, L2.iteF (L2.iteF ⟨_, .str _, false, rfl, L2.iteF (.inr ⟨_, rfl, k _ s1⟩)⟩)⟩)⟩⟩)
    | @flt _ fs hf =>
      obtain ⟨a, xs, rfl, ha, hR⟩ := hv.tupI
      have ex := Reps.flatI hR fun f hf' => (hf.1 f hf').flat
      rw [nm_vT hf.1] at ex
      refine .inr (.inl ((eqNilT (K := K) ha fun G' s' => ⟨_, rfl, ?_⟩).2 p hp))
      cases fs with
      | nil =>
        subst ex
        exact ifT rfl (k G' s')
      | cons f r =>
        obtain ⟨y, rfl, hy⟩ := hf.1 f List.mem_cons_self
        obtain ⟨n1, n2⟩ := nam_vol y hy
        have ha' : G' a = some (.tup (V.str y :: (r.map sT).map V.str)) := by rw [s' _ _ ha, ex]; rfl
        refine ifF (by rw [ex]; exact fun z => nomatch z) ⟨_, .tup ha', true, rfl, L2.iteT (ixT ha' 0 rfl (in_vol fun G2 s2 => ⟨_, rfl, ifF n1 ⟨_, .tup (s2 _ _ ha'), true, rfl, L2.iteT (ixT (s2 _ _ ha') 0 rfl ⟨rfl, ifF (fun e => n2 (V.str.inj e)) ⟨_, .tup (s2 _ _ ha'), true, rfl, L2.iteT ⟨",", a, (Tr.s y :: r).map sT, rfl, rfl, SqT.of (s2 _ _ ha'), ?_, ?_⟩⟩⟩)⟩⟩))⟩
        · have h2 := sum_lens (L := (Tr.s y :: r).map sT) (c := 40) fun l hl => by
            obtain ⟨g, hg, rfl⟩ := List.mem_map.mp hl
            exact (wd_nm (hf.1 g hg)).le
          rw [List.length_map] at h2 ⊢
          have h3 := hf.2.2
          have h4 : ("," : Str).length = 1 := by decide +kernel
          rw [h4]
          omega
        · rw [glue_join, cm_is]
          exact k G2 (s'.trans s2)
    | @out m os ho =>
      obtain ⟨a, xs, rfl, ha, hR⟩ := hv.tupI
      have ne : xs ≠ [] := by
        intro e
        have := hR.1
        rw [e] at this
        cases ho <;> cases this
      refine .inr (.inl ((eqNilT (K := K) ha fun G' s' => ⟨_, rfl, ifF ne ⟨_, .tup (s' _ _ ha), true, rfl, L2.iteT ?_⟩⟩).2 p hp))
      rcases out_two ho with ⟨z, r, rfl, hz, hf, hw, hl, ew⟩ | ⟨fs, rfl, hf⟩
      · obtain ⟨x0, r', rfl, r0, hR'⟩ := Reps.consI hR
        cases r0
        have hxl : (V.str z :: r').length = (Tr.s z :: r).length := hR.1
        refine ixT (s' _ _ ha) 0 rfl (in_vol fun G2 s2 => ⟨_, rfl, ifT hz ⟨a, rfl, ⟨_, SqT.of (s2 _ _ (s' _ _ ha))⟩, lc_tup (K := K) (a := a) (xs := .str z :: r') (fun i ys G => Same H G ∧ ys = (((Tr.s z :: r).take i).map sT).map V.str) ⟨s'.trans s2, rfl⟩ ?_ ?_ ?_ ?_⟩⟩)
        · rintro i ys G hi ⟨s1, rfl⟩
          exact ⟨SqT.of (s1 _ _ ha), by rw [List.length_map, List.length_map, List.length_take]; omega⟩
        · rw [hxl]; exact big (by omega)
        · rintro i x ys G hx ⟨s1, rfl⟩
          have lt : i < (Tr.s z :: r).length := by
            have := (List.getElem?_eq_some_iff.mp hx).1
            rw [hxl] at this
            exact this
          have ht : (Tr.s z :: r)[i]? = some (Tr.s z :: r)[i] := List.getElem?_eq_getElem lt
          have hr' := hR.2 i x _ hx ht
          have hq := hf _ (List.mem_of_getElem? ht)
          walk_at "sx"
          rw [take_snoc' ht, List.map_append, List.map_append]
          rcases hq with ⟨n, e, h0, h1⟩ | ⟨y, e⟩
          · rw [e] at hr' ⊢
            cases hr'
            exact .inl ⟨_, rfl, log_lt h0 (by omega), s1, rfl⟩
          · rw [e] at hr' ⊢
            cases hr'
            exact .inr ⟨_, rfl, s1, rfl⟩
        · rintro ys G ⟨s1, rfl⟩ D hD
          rw [hxl, List.take_of_length_le (Nat.le_refl _)]
          have hs := sum_lens (L := (Tr.s z :: r).map sT) (c := 40) fun l hl => by
            obtain ⟨t, ht, rfl⟩ := List.mem_map.mp hl
            exact hw t ht
          refine ⟨" ", D, _, rfl, rfl, SqL.of upd_same, ?_, ?_⟩
          · rw [List.length_map] at hs ⊢
            have h4 : (" " : Str).length = 1 := by decide +kernel
            rw [h4]
            omega
          · rw [glue_join, sp_is, ← ew]
            exact k _ (s1.trans (Same.upd hD))
      · obtain ⟨x0, r', rfl, r0, hR'⟩ := Reps.consI hR
        obtain ⟨x1, r', rfl, r1, hR'⟩ := Reps.consI hR'
        cases r0
        have l2 : ("faults " : Str).length = 7 := by decide +kernel
        have hf0 : Flts 0 fs := ⟨hf.1, Nat.zero_le _, hf.2.2⟩
        refine ixT (s' _ _ ha) 0 rfl (in_vol fun G2 s2 => ⟨_, rfl, ifF (by decide +kernel) ⟨_, .tup (s2 _ _ (s' _ _ ha)), true, rfl, L2.iteT (ixT (s2 _ _ (s' _ _ ha)) 0 rfl ⟨rfl, ifT rfl (ixT (s2 _ _ (s' _ _ ha)) 1 rfl ⟨x1, .t fs, _, rfl, r1.sameT (sameT_of (s'.trans s2)), .flt hf0, fun G3 s3 => ⟨_, rfl, ?_, ?_⟩⟩)⟩)⟩⟩)
        · rw [l2]; exact big (by have := (wd_flt hf0).le; omega)
        · rw [flt_j]; exact k G3 ((s'.trans s2).trans s3)
theorem ok_l_word (T : Tx P w K mg) : ∀ n : Nat, FnOk P w K mg base CX0 (n + 2) T.d_l_word.f T.d_l_word.fd ["_law_part"] (spLWord n)
  | 0 => word_step T 0 fn_no
  | n + 1 => word_step T (n + 1) (ok_l_word T n)

theorem sc_l_line : FnScope ["_law_row_here", "_law_words", "_law_part", "_law_mark", "_law_number_here"] ["_law_row_here"] (defScope (top 63)) := ⟨rfl, rfl, rfl, by decide +kernel, rfl, by decide +kernel, by decide +kernel⟩
theorem ok_l_line (T : Tx P w K mg)
    (G_l_word : FnOk P w K mg base CX0 3 T.d_l_word.f T.d_l_word.fd ["_law_part"] (spLWord 1)) : FnOk P w K mg base CX0 5 T.d_l_line.f T.d_l_line.fd ["_law_row_here"] (spLLine) := by
  refine T.d_l_line.F.ok sc_l_line (fun vs H Q E h => ?_) (fun cdv A outer s H vs Q E hr h => ?_)
  · obtain ⟨v, r, rfl, _⟩ := h
    rfl
  · obtain ⟨v, r, rfl, hv, ok, k⟩ := h
    have hu := hu100 hr
    refine ⟨_, (pss_cons (ps_set (i := 1) sc_l_line.nd rfl (Or.inl rfl) (pe_op op_add_str (pe_op op_add_str (pe_callTy call_strV (by rfl) T.n_str bt_str (pa_cons (pe_ix ix_tup (pv 0) pe_int (fun _ _ => rfl)) pa_nil)) pe_str) (pe_callTy call_strV (by rfl) T.n_str bt_str (pa_cons (pe_ix ix_tup (pv 0) pe_int (fun _ _ => rfl)) pa_nil))))
    (pss_cons (ps_for PassesOwn.never rfl (pi_tup (pe_ix ix_tup (pv 0) pe_int (fun _ _ => rfl))) (pg_name (i := 2) sc_l_line.nd rfl (Or.inl rfl))
    (pss_one (ps_set (i := 1) sc_l_line.nd rfl (Or.inl rfl) (pe_op op_add_str (pe_op op_add_str (pv 1) pe_str) (pe_call G_l_word (hr.mono (by omega)) rfl T.d_l_word.hm T.d_l_word.F.kp T.d_l_word.b .nil pass0 (pa_cons (pv 2) pa_nil))))))
    (pss_cons (ps_set (i := 1) sc_l_line.nd rfl (Or.inl rfl) (pe_op op_add_str (pv 1) pe_str))
    (pss_cons (ps_for PassesOwn.never rfl (pi_tup (pe_ix ix_tup (pv 0) pe_int (fun _ _ => rfl))) (pg_name (i := 3) sc_l_line.nd rfl (Or.inl rfl))
    (pss_one (ps_set (i := 1) sc_l_line.nd rfl (Or.inl rfl) (pe_op op_add_str (pe_op op_add_str (pe_op op_add_str (pe_op op_add_str (pe_op op_add_str (pe_op op_add_str (pv 1) pe_str) (pe_callTy call_strV (by rfl) T.n_str bt_str (pa_cons (pe_ix ix_tup (pv 3) pe_int (fun _ _ => rfl)) pa_nil))) pe_str) (pe_callTy call_strV (by rfl) T.n_str bt_str (pa_cons (pe_ix ix_tup (pv 3) pe_int (fun _ _ => rfl)) pa_nil))) pe_str) (pe_ix ix_tup (pv 3) pe_int (fun _ _ => rfl))))))
    (pss_cons (ps_if (pt_cmpR (op_eqT hu) (pe_ix ix_tup (pv 0) pe_int (fun _ _ => rfl)) (pe_tup pa_nil) (nomark _))
    (pss_one (ps_set (i := 1) sc_l_line.nd rfl (Or.inl rfl) (pe_op op_add_str (pv 1) pe_str)))
    pss_nil)
    (pss_cons (ps_set (i := 1) sc_l_line.nd rfl (Or.inl rfl) (pe_op op_add_str (pv 1) pe_str))
    (pss_cons (ps_for PassesOwn.never rfl (pi_tup (pe_ix ix_tup (pv 0) pe_int (fun _ _ => rfl))) (pg_name (i := 4) sc_l_line.nd rfl (Or.inl rfl))
    (pss_one (ps_set (i := 1) sc_l_line.nd rfl (Or.inl rfl) (pe_op op_add_str (pe_op op_add_str (pv 1) pe_str) (pe_callTy call_strV (by rfl) T.n_str bt_str (pa_cons (pv 4) pa_nil))))))
    (pss_cons (ps_if (pt_cmpR (op_eqT hu) (pe_ix ix_tup (pv 0) pe_int (fun _ _ => rfl)) (pe_tup pa_nil) (nomark _))
    (pss_one (ps_set (i := 1) sc_l_line.nd rfl (Or.inl rfl) (pe_op op_add_str (pv 1) pe_str)))
    pss_nil)
    (pss_one (ps_ret (pv 1))))))))))), ?_⟩
    walk_at "sy"
    obtain ⟨a, xs, rfl, ha, hR⟩ := hv.tupI
    obtain ⟨x0, r1, rfl, q0, hR⟩ := Reps.consI hR
    obtain ⟨x1, r2, rfl, q1, hR⟩ := Reps.consI hR
    obtain ⟨x2, r3, rfl, q2, hR⟩ := Reps.consI hR
    obtain ⟨x3, r4, rfl, q3, hR⟩ := Reps.consI hR
    obtain ⟨x4, r5, rfl, q4, hR⟩ := Reps.consI hR
    have e5 := Reps.nilI hR
    subst e5
    cases q0
    have e1 := q1.flatI (who_flat ok)
    subst e1
    obtain ⟨a2, ys2, rfl, ha2, hR2⟩ := q2.tupI
    obtain ⟨a3, ys3, rfl, ha3, hR3⟩ := q3.tupI
    obtain ⟨a4, ys4, rfl, ha4, hR4⟩ := q4.tupI
    obtain ⟨wd, ts, ed, hw, hl, hp⟩ := deed_ok ok
    have all : ∀ t ∈ r.deed, PartOk wd t := fun t ht => by
      rw [ed] at ht
      rcases List.mem_cons.mp ht with rfl | ht
      · exact .inr (.inl ⟨wd, rfl, hw⟩)
      · exact hp t ht
    have dW : deedW r.deed = r.deed.flatMap (partW wd) := by rw [ed]; rfl
    have l1 : (" " : Str).length = 1 := by decide +kernel
    have l2 : (" /" : Str).length = 2 := by decide +kernel
    have l3 : (" -" : Str).length = 2 := by decide +kernel
    have W0 := pre_len ok (A := [sT (.i r.tick)]) (B := sT r.who :: (deedW r.deed ++ [stk] ++ marksW r.marks ++ [stk] ++ wokenW r.woken)) (by unfold Row.words; simp only [List.cons_append, List.nil_append])
    have W1 := pre_len ok (A := [sT (.i r.tick), sT r.who]) (B := deedW r.deed ++ [stk] ++ marksW r.marks ++ [stk] ++ wokenW r.woken) (by unfold Row.words; simp only [List.append_assoc])
    have s0 : (J [sT (.i r.tick)]).length = (sT (.i r.tick)).length := rfl
    have ewho : sT (.i r.tick) ++ (" " : Str) ++ sT r.who = J r.hd := jS1 (A := [sT (.i r.tick)]) (List.cons_ne_nil _ _) (sT r.who)
    have w1 := (wd_who ok).le
    refine ixT ha 0 rfl (.inl ⟨_, rfl, log_lt ok.tick.1 (by have := ok.tick.2; omega), ?_, ixT ha 1 rfl (Or.symm (str_alt (who_flat ok) ?_ ?_))⟩)
    · rw [l1]; exact big (by show (sT (.i r.tick)).length + 1 ≤ _; omega)
    · intro n e
      rcases ok.deed with ⟨q, _⟩ | ⟨q, _⟩ | ⟨⟨m, q, a, b⟩, _⟩
      · rw [q] at e; cases e
      · rw [q] at e; cases e
      · rw [q] at e; cases e; exact ⟨a, by omega⟩
    · refine ⟨?_, ?_⟩
      · rw [app_len, l1]; exact big (by show (sT (.i r.tick)).length + 1 + _ ≤ _; omega)
      · rw [show Str.ofString (toString r.tick) = sT (.i r.tick) from rfl, ewho]
        have hxl : ys2.length = r.deed.length := hR2.1
        refine for_ixT (K := K) 2 ha rfl ha2 (fun i σ G => ∃ o, σ = [some (.ref a), some (.str (J (r.hd ++ (r.deed.take i).flatMap (partW wd)))), o, none, none] ∧ Same H G) ⟨none, by rw [List.take_zero]; simp only [List.flatMap_nil, List.append_nil], Same.refl H⟩ ?_ ?_ ?_
        · rintro i σ G hi ⟨_, _, s1⟩
          exact SqT.of (s1 _ _ ha2)
        · rintro i x σ G hx ⟨o, rfl, s1⟩
          have lt : i < r.deed.length := by
            have := (List.getElem?_eq_some_iff.mp hx).1
            omega
          have ht : r.deed[i]? = some r.deed[i] := List.getElem?_eq_getElem lt
          have hr' := (hR2.2 i x _ hx ht).sameT (sameT_of s1)
          have hpo := all _ (List.mem_of_getElem? ht)
          have L1 := pre_len ok (A := r.hd ++ (r.deed.take i).flatMap (partW wd)) (B := (r.deed.drop i).flatMap (partW wd) ++ [stk] ++ marksW r.marks ++ [stk] ++ wokenW r.woken) (by rw [Row.words_hd]; rw [dW, fm_cut i]; simp only [List.append_assoc])
          have Lp := part_len hpo
          walk_at "sx"
          refine ⟨big (by rw [l1]; omega), x, _, _, rfl, hr', part_k hpo, fun G2 s2 => ⟨_, rfl, ?_, ?_, s1.trans s2⟩⟩
          · rw [app_len, l1]
            exact big (by omega)
          · rw [jS (app_ne (r.hd_ne)) (part_ne wd _ hpo), fm_snoc ht, List.append_assoc]
        · rintro σ G ⟨o, rfl, s1⟩
          rw [hxl, List.take_length, ← dW]
          have L1 := pre_len ok (A := r.hd ++ deedW r.deed) (B := [stk] ++ marksW r.marks ++ [stk] ++ wokenW r.woken) (by rw [Row.words_hd]; simp only [List.append_assoc])
          walk_at "sy"
          refine ⟨big (by rw [l2]; omega), ?_⟩
          rw [j_stk (app_ne r.hd_ne)]
          have hx3 : ys3.length = r.marks.length := hR3.1
          have ha' := s1 _ _ ha
          have ha3' := s1 _ _ ha3
          refine for_ixT (K := K) 3 ha' rfl ha3' (fun i σ G => ∃ o3, σ = [some (.ref a), some (.str (J (r.hd ++ deedW r.deed ++ [stk] ++ (r.marks.take i).flatMap markW))), o, o3, none] ∧ Same H G) ⟨none, by rw [List.take_zero]; simp only [List.flatMap_nil, List.append_nil], s1⟩ ?_ ?_ ?_
          · rintro i σ G hi ⟨_, _, s1⟩
            exact SqT.of (s1 _ _ ha3)
          · rintro i x σ G hx ⟨o3, rfl, s1⟩
            have lt : i < r.marks.length := by
              have := (List.getElem?_eq_some_iff.mp hx).1
              omega
            have ht : r.marks[i]? = some r.marks[i] := List.getElem?_eq_getElem lt
            have hr' := (hR3.2 i x _ hx ht).sameT (sameT_of s1)
            have mW : marksW r.marks = r.marks.flatMap markW := by
              have lt' := lt
              generalize r.marks = ms at lt'
              cases ms with
              | nil => cases lt'
              | cons m ms => rfl
            have hmk := ok.marks.1 _ (List.mem_of_getElem? ht)
            have L1 := pre_len ok (A := r.hd ++ deedW r.deed ++ [stk] ++ (r.marks.take i).flatMap markW) (B := (r.marks.drop i).flatMap markW ++ [stk] ++ wokenW r.woken) (by rw [Row.words_hd]; rw [mW, fm_cut i]; simp only [List.append_assoc])
            have ne : r.hd ++ deedW r.deed ++ [stk] ++ (r.marks.take i).flatMap markW ≠ [] := app_ne (app_ne (app_ne (r.hd_ne)))
            rw [fm_snoc ht, ← List.append_assoc]
            generalize r.marks[i] = m at hmk hr'
            generalize r.hd ++ deedW r.deed ++ [stk] ++ (r.marks.take i).flatMap markW = L at L1 ne
            cases hmk with
            | @mk ma mb z na nb hz =>
              obtain ⟨b, us, rfl, hb, hRb⟩ := hr'.tupI
              obtain ⟨u0, us, rfl, g0, hRb⟩ := Reps.consI hRb
              obtain ⟨u1, us, rfl, g1, hRb⟩ := Reps.consI hRb
              obtain ⟨u2, us, rfl, g2, hRb⟩ := Reps.consI hRb
              have na' := (wd_num na).le
              have nb' := (wd_num nb).le
              obtain ⟨n1, rfl, n10, n11⟩ := na
              obtain ⟨n2, rfl, n20, n21⟩ := nb
              cases g0
              cases g1
              cases g2
              walk_at "sx"
              have e1 : (Str.ofString (toString n1)).length ≤ 40 := na'
              have e2 : (Str.ofString (toString n2)).length ≤ 40 := nb'
              have e3 : z.length ≤ 40 := by rcases hz with rfl | rfl <;> decide +kernel
              refine ⟨big (by rw [l1]; omega), ixT hb 0 rfl (.inl ⟨n1, rfl, log_lt n10 (by omega), ?_, ?_, ixT hb 1 rfl (.inl ⟨n2, rfl, log_lt n20 (by omega), ?_, ?_, ixT hb 2 rfl ⟨z, rfl, ?_, ?_, s1⟩⟩)⟩)⟩
              · simp only [app_len, l1]; exact big (by omega)
              · simp only [app_len, l1]; exact big (by omega)
              · simp only [app_len, l1]; exact big (by omega)
              · simp only [app_len, l1]; exact big (by omega)
              · simp only [app_len, l1]; exact big (by omega)
              · rw [jS1 ne, jS1 (app_ne ne), jS1 (app_ne (app_ne ne)), List.append_assoc, List.append_assoc]
                rfl
          · rintro σ G ⟨o3, rfl, s3⟩
            rw [hx3, List.take_length]
            generalize hX : tSeq (tAsg _ _) (tSeq (tFor _ _ _) _) = X
            have rest : ∀ G, Same H G → X { nx := fun _ H' => Q V.non H', rt := Q } [some (.ref a), some (.str (J (r.hd ++ deedW r.deed ++ [stk] ++ marksW r.marks))), o, o3, none] G := by
              subst hX
              intro G s1
              have L1 := pre_len ok (A := r.hd ++ deedW r.deed ++ [stk] ++ marksW r.marks) (B := [stk] ++ wokenW r.woken) (by rw [Row.words_hd]; simp only [List.append_assoc])
              walk_at "sy"
              refine ⟨big (by rw [l2]; omega), ?_⟩
              rw [j_stk (app_ne (app_ne (app_ne r.hd_ne)))]
              have hx4 : ys4.length = r.woken.length := hR4.1
              refine for_ixT (K := K) 4 (s1 _ _ ha) rfl (s1 _ _ ha4) (fun i σ G => ∃ o4, σ = [some (.ref a), some (.str (J (r.hd ++ deedW r.deed ++ [stk] ++ marksW r.marks ++ [stk] ++ (r.woken.take i).map sT))), o, o3, o4] ∧ Same H G) ⟨none, by rw [List.take_zero]; simp only [List.map_nil, List.append_nil], s1⟩ ?_ ?_ ?_
              · rintro i σ G hi ⟨_, _, s1⟩
                exact SqT.of (s1 _ _ ha4)
              · rintro i x σ G hx ⟨o4, rfl, s1⟩
                have lt : i < r.woken.length := by
                  have := (List.getElem?_eq_some_iff.mp hx).1
                  omega
                have ht : r.woken[i]? = some r.woken[i] := List.getElem?_eq_getElem lt
                have hr' := (hR4.2 i x _ hx ht).sameT (sameT_of s1)
                have wne : r.woken ≠ [] := fun e => by rw [e] at lt; cases lt
                have L1 := pre_len ok (A := r.hd ++ deedW r.deed ++ [stk] ++ marksW r.marks ++ [stk] ++ (r.woken.take i).map sT) (B := (r.woken.drop i).map sT) (by rw [Row.words_hd, wokenW_ne wne]; simp only [List.append_assoc, ← List.map_append, List.take_append_drop])
                have hn := ok.woken.1 _ (List.mem_of_getElem? ht)
                have ne : r.hd ++ deedW r.deed ++ [stk] ++ marksW r.marks ++ [stk] ++ (r.woken.take i).map sT ≠ [] := app_ne (app_ne (app_ne (app_ne (app_ne r.hd_ne))))
                rw [take_snoc' ht, List.map_append, ← List.append_assoc]
                generalize r.woken[i] = m at hn hr'
                generalize r.hd ++ deedW r.deed ++ [stk] ++ marksW r.marks ++ [stk] ++ (r.woken.take i).map sT = L at L1 ne
                have hn' := (wd_num hn).le
                obtain ⟨n1, rfl, n10, n11⟩ := hn
                cases hr'
                walk_at "sx"
                have e1 : (Str.ofString (toString n1)).length ≤ 40 := hn'
                refine ⟨big (by rw [l1]; omega), .inl ⟨log_lt n10 (by omega), ?_, ?_, s1⟩⟩
                · simp only [app_len, l1]; exact big (by omega)
                · rw [jS1 ne]; rfl
              · rintro σ G ⟨o4, rfl, s4⟩
                rw [hx4, List.take_length]
                walk_at "sy"
                refine ixT (s4 _ _ ha) 4 rfl (eqNilT (K := K) (s4 _ _ ha4) fun G' s' => ⟨_, rfl, ?_⟩)
                have fin : Q (.str (J (r.hd ++ deedW r.deed ++ [stk] ++ marksW r.marks ++ [stk] ++ wokenW r.woken))) G' := k G' (s4.trans s')
                have L1 := pre_len ok (A := r.hd ++ deedW r.deed ++ [stk] ++ marksW r.marks ++ [stk]) (B := wokenW r.woken) (by rw [Row.words_hd])
                by_cases hm : r.woken = []
                · refine ifT (hR4.nil_iff.mpr hm) ?_
                  rw [hm] at fin
                  rw [hm, List.map_nil, List.append_nil]
                  refine ⟨big (by rw [l3]; omega), ?_⟩
                  rw [j_dsh (app_ne (app_ne (app_ne (app_ne r.hd_ne))))]
                  exact fin
                · refine ifF (fun e => hm (hR4.nil_iff.mp e)) ?_
                  rw [← wokenW_ne hm]
                  exact fin
            walk_at "sy"
            refine ixT (s3 _ _ ha) 3 rfl (eqNilT (K := K) (s3 _ _ ha3) fun G' s' => ⟨_, rfl, ?_⟩)
            have fin := rest G' (s3.trans s')
            have L1 := pre_len ok (A := r.hd ++ deedW r.deed ++ [stk]) (B := marksW r.marks ++ [stk] ++ wokenW r.woken) (by rw [Row.words_hd]; simp only [List.append_assoc])
            by_cases hm : r.marks = []
            · refine ifT (hR3.nil_iff.mpr hm) ?_
              rw [hm] at fin
              rw [hm, List.flatMap_nil, List.append_nil]
              refine ⟨big (by rw [l3]; omega), ?_⟩
              rw [j_dsh (app_ne (app_ne r.hd_ne))]
              exact fin
            · refine ifF (fun e => hm (hR3.nil_iff.mp e)) ?_
              rw [← marksW_ne hm]
              exact fin
theorem sc_l_none : FnScope ["_law_x", "_law_some"] ["_law_x"] (defScope (top 64)) := ⟨rfl, rfl, rfl, by decide +kernel, rfl, by decide +kernel, by decide +kernel⟩
theorem ok_l_none (T : Tx P w K mg) : FnOk P w K mg base CX0 1 T.d_l_none.f T.d_l_none.fd ["_law_x"] (spNone) := by
  refine T.d_l_none.F.ok sc_l_none (fun vs H Q E h => ?_) (fun cdv A outer s H vs Q E hr h => ?_)
  · obtain ⟨x, rfl, _⟩ := h
    rfl
  · obtain ⟨x, rfl, hx, k⟩ := h
    refine ⟨_, (pss_cons (ps_set (i := 1) sc_l_none.nd rfl (Or.inl rfl) (pe_lst (pa_strs (zs := ["3 4 did 5 / -", "3 4 did 5 / - / - /", "3 4 did / - / -", "3 4 did 5 6 / - / -", "3 100 did 5 / - / -", "100000 4 did 5 / - / -", "3 4 did 100000 / - / -", "3 4 wait 5 0 / - / -", "3 4 wait 5 100 / - / -", "3 4 limit 5 1 0 / - / -", "3 4 begin 5 a b 1 100 / - / -", "3 4 ring 5 end / - / -", "3 4 ring 5 :a / - / -", "3 4 send 5 a b / - / -", "3 4 send 5 a 1000000 / - / -", "3 4 send 5 a : / - / -", "3 clock did 5 / - / -", "3 4 woke 5 / - / -", "3 outside wait 5 / - / -", "3 watch did 5 / - / -", "3 4 caught 5 - / - / -", "3 4 halt 5 1 a,,b / - / -", "3 4 halt 5 1 / - / -", "3 4 ended 5 / - / -", "3 4 ended 5 value / - / -", "3 4 ended 5 off 1 / - / -", "3 4 ended 5 faults - / - / -", "3 4 did 5 / 1 2 / -", "3 4 did 5 / 1 2 gone / -", "3 4 did 5 / - / 100", "3 4 did 5 / 1 1000 off / -", "3 4 ring 5 abcdefghi / - / -"]) (by decide +kernel))))
    (pss_cons (ps_set (i := 1) sc_l_none.nd rfl (Or.inl rfl) (pe_op op_cat (pv 1) (pe_lst (pa_strs (zs := ["3 outside off 10000 / - / -", "3 4 join 5 1000 / - / -", "3 4 off 5 1000 / - / -", "3 4 limit 5 1 100 / - / -", "3 4 did 5 / 100 1 off / -", "3 clock woke 100 / - / -", "3 clock late 1 1000 / - / -", "3 4 begin 5 late a 1 0 / - / -", "3 4 caught 5 any / - / -", "3 4 send 5 end 1 / - / -", "3 4 halt 5 1000 - / - / -", "3 outside send a b / - / -", "3 4 join 5 1 1 / - / -", "3 4 wait 5 5 5 / - / -", "3 outside ring gate gate / - / -", "3 clock woke 4 4 / - / -", "3 4 clean 5 - / - / -", "3 4 take 5 a b c / - / -", "3 4 did +5 / - / -", "3 4 did 1_0 / - / -", "3 4 did 05 / - / -", "3 4 did 5 / 01 1 off / -", "3 4 did 5 / - / 03", "3 4 send 5 box :abcdefghi / - / -", "3 4 send 5 box :Off / - / -", "3 4 ended 5 value :a1 / - / -", "3 outside send box : / - / -", "+3 4 did 5 / - / -"]) (by decide +kernel)))))
    (pss_one (ps_ret (pe_ix ix_list (pv 1) (pe_op op_mod (pv 0) pe_int) (fun _ _ => rfl)))))), ?_⟩
    walk_at "sy"
    show 32 ≤ sizeLine ∧ ∀ p, H p = none → 28 ≤ sizeLine ∧ ∀ q, upd H p (.lst (NL1.map V.str)) q = none → rCat (.ref p) (.ref q) (upd (upd H p (.lst (NL1.map V.str))) q (.lst (NL2.map V.str))) _
    refine ⟨by decide, fun p hp => ⟨by decide, fun q hq => ?_⟩⟩
    have s1 := Same.upd (o := .lst (NL1.map V.str)) hp
    have s2 := s1.trans (Same.upd (o := .lst (NL2.map V.str)) hq)
    refine ⟨p, q, _, _, rfl, rfl, (Same.upd hq) _ _ upd_same, upd_same, by decide, fun l hl => ⟨by decide, ixAny (xs := NL1.map V.str ++ NL2.map V.str) (SqL.of upd_same) (by omega) (show x % 60 < 60 by omega) fun v hv => ?_⟩⟩
    rw [← List.map_append] at hv
    obtain ⟨z, hz, rfl⟩ := List.mem_map.mp hv
    exact k z _ (non_is (nl_all z hz)) (s2.trans (Same.upd hl))
theorem sc_l_spoilt : FnScope ["_law_line_here", "_law_x"] ["_law_line_here", "_law_x"] (defScope (top 65)) := ⟨rfl, rfl, rfl, by decide +kernel, rfl, by decide +kernel, by decide +kernel⟩
theorem ok_l_spoilt (T : Tx P w K mg)
    (G_l_none : FnOk P w K mg base CX0 1 T.d_l_none.f T.d_l_none.fd ["_law_x"] (spNone)) : FnOk P w K mg base CX0 2 T.d_l_spoilt.f T.d_l_spoilt.fd ["_law_line_here", "_law_x"] (spSpoilt) := by
  refine T.d_l_spoilt.F.ok sc_l_spoilt (fun vs H Q E h => ?_) (fun cdv A outer s H vs Q E hr h => ?_)
  · obtain ⟨r, x, rfl, _⟩ := h
    rfl
  · obtain ⟨r, x, rfl, hr', hx, k⟩ := h
    refine ⟨_, (pss_cons (ps_if (pt_cmpR op_lt (pe_op op_mod (pv 1) pe_int) pe_int (nomark _))
    (pss_one (ps_ret (pe_ix ix_list (pe_lst (pa_cons (pe_op op_add_str pe_str (pv 0)) (pa_addRepl (i := 0) rfl (by first | exact Or.inl rfl | exact Or.inr (Or.inl rfl) | exact Or.inr (Or.inr rfl)) (pa_cons (pe_op op_add_str pe_str (pv 0)) (pa_cons (pe_op op_add_str pe_str (pv 0)) (pa_cons (pe_op op_add_str pe_str (pv 0)) pa_nil)))))) (pe_op op_mod (pv 1) pe_int) (fun _ _ => rfl))))
    pss_nil)
    (pss_cons (ps_if (pt_cmpR op_lt (pe_op op_mod (pv 1) pe_int) pe_int (nomark _))
    (pss_one (ps_ret (pe_ix ix_list (pe_lst (pa_cons pe_str (pa_addRepl (i := 0) rfl (by first | exact Or.inl rfl | exact Or.inr (Or.inl rfl) | exact Or.inr (Or.inr rfl)) pa_nil))) (pe_op op_sub (pe_op op_mod (pv 1) pe_int) pe_int) (fun _ _ => rfl))))
    pss_nil)
    (pss_one (ps_ret (pe_call G_l_none (hr.mono (by omega)) rfl T.d_l_none.hm T.d_l_none.F.kp T.d_l_none.b .nil pass0 (pa_cons (pe_op op_fdiv (pv 1) pe_int) pa_nil)))))), ?_⟩
    walk_at "sy"
    have ll := line_len hr'
    have l1 : (" " : Str).length = 1 := by decide +kernel
    have l2 : ("0" : Str).length = 1 := by decide +kernel
    have l3 : ("-" : Str).length = 1 := by decide +kernel
    have l4 : ("\t" : Str).length = 1 := by decide +kernel
    have l5 : (" -" : Str).length = 2 := by decide +kernel
    have l6 : ("  " : Str).length = 2 := by decide +kernel
    have zl : (2000 : Nat) ≤ sizeLine := by decide
    have tk : Wd (sT (.i r.tick)) := wd_num ⟨_, rfl, hr'.tick.1, hr'.tick.2⟩
    have tl : 1 ≤ (sT (.i r.tick)).length := by
      obtain ⟨A, e, hA, hl⟩ := row_runs hr'
      cases q : (sT (.i r.tick)).length with
      | zero =>
        have e0 : sT (.i r.tick) = "" := str_eq (by
          have : (sT (.i r.tick)).cps.toList = [] := List.eq_nil_of_length_eq_zero (by rw [← len_cps]; exact q)
          rw [this]; decide +kernel)
        have := num_txt (n := r.tick) hr'.tick.1 (by have := hr'.tick.2; omega)
        rw [show txt (.int r.tick) = "" from e0, show numW "" = none by decide +kernel] at this
        cases this
      | succ n => omega
    refine ⟨by decide, ?_⟩
    by_cases b1 : x % 16 < 6
    · refine ifT b1 ⟨by rw [l1]; omega, by rw [l1]; omega, _, rfl, r.line, rfl, by decide +kernel, by rw [l6]; omega, by rw [l2]; omega, by rw [l3]; omega, by rw [l4]; omega, by decide, fun p hp => ⟨by decide, ixAny (SqL.of upd_same) (by omega) (by simp only [List.length_cons, List.length_nil]; omega) fun v hv => ?_⟩⟩
      have s1 := Same.upd (o := .lst [.str (" " ++ r.line), .str (r.line ++ " "), .str (Txt.replace r.line " " "  "), .str ("0" ++ r.line), .str ("-" ++ r.line), .str ("\t" ++ r.line)]) hp
      simp only [List.mem_cons, List.not_mem_nil, or_false] at hv
      rcases hv with rfl | rfl | rfl | rfl | rfl | rfl
      · refine k _ _ (Spo.ln ?_) s1
        have e : (" " : Str) ++ r.line = ("" : Str) ++ ⟨#[32]⟩ ++ r.line := by rw [nil_appS, sp_is]
        rw [e, split_two, split_e, (line_split hr').1]
        refine ⟨fun w hw => ?_, by have := words_len hr'; simp only [List.length_append, List.length_cons, List.length_nil]; omega, rowT_tick (show fieldT "TICK" "" = none by decide +kernel)⟩
        rcases List.mem_append.mp hw with q | q
        · rw [List.mem_singleton.mp q]; exact ⟨by decide +kernel, by decide +kernel⟩
        · exact ⟨Nat.le_trans ((row_back hr').2.1 w q).2.2 (by decide), ((row_back hr').2.1 w q).2.1⟩
      · refine k _ _ (Spo.ln ?_) s1
        have e : r.line ++ (" " : Str) = r.line ++ (⟨#[32]⟩ ++ ("" : Str)) := by rw [app_nilS, sp_is]
        rw [e]
        exact spoil_last hr' (by decide +kernel) (by decide +kernel) (by decide +kernel) (by decide +kernel) (by decide +kernel)
      · refine k _ _ (Spo.ln ?_) s1
        rw [sp_is, show ("  " : Str) = ⟨#[32, 32]⟩ by decide +kernel]
        exact spoil_blanks hr'
      · exact k _ _ (Spo.ln (spoil_first hr' (by decide +kernel) (by decide +kernel) (by decide +kernel) (num_zero tl))) s1
      · exact k _ _ (Spo.ln (spoil_first hr' (by decide +kernel) (by decide +kernel) (by decide +kernel) (num_sign (c := 45) (by decide +kernel) (by decide)))) s1
      · exact k _ _ (Spo.ln (spoil_first hr' (by decide +kernel) (by decide +kernel) (by decide +kernel) (num_sign (c := 9) (by decide +kernel) (by decide)))) s1
    · refine ifF b1 ⟨by decide, ?_⟩
      by_cases b2 : x % 16 < 9
      · refine ifT b2 ⟨by rw [l5]; omega, _, rfl, r.line, rfl, by decide +kernel, by rw [l1]; omega, by decide, fun p hp => ⟨by decide, ixAny (SqL.of upd_same) (by omega) (by simp only [List.length_cons, List.length_nil]; omega) fun v hv => ?_⟩⟩
        have s1 := Same.upd (o := .lst [.str "", .str (r.line ++ " -"), .str (Txt.replace r.line " / " " ")]) hp
        simp only [List.mem_cons, List.not_mem_nil, or_false] at hv
        rcases hv with rfl | rfl | rfl
        · exact k _ _ (non_is (by decide +kernel)) s1
        · refine k _ _ (Spo.ln ?_) s1
          rw [show (" -" : Str) = ⟨#[32]⟩ ++ ("-" : Str) by decide +kernel]
          exact spoil_last hr' (by decide +kernel) (by decide +kernel) (by decide +kernel) (by decide +kernel) (by decide +kernel)
        · refine k _ _ (Spo.ln ?_) s1
          rw [sp_is]
          exact spoil_strokes hr'
      · exact ifF b2 ⟨⟨by decide, by decide⟩, x / 16, rfl, by omega, k⟩
theorem sc_l_refused : FnScope ["_law_text", "e"] ["_law_text"] (defScope (top 66)) := ⟨rfl, rfl, rfl, by decide +kernel, rfl, by decide +kernel, by decide +kernel⟩
theorem ok_l_refused (T : Tx P w K mg)
    (G_read_book : FnOk P w K mg base (CXD P w) 24 T.d_read_book.f T.d_read_book.fd ["text"] (spReadX T.C_BadBook)) : FnOk P w K mg base CX0 26 T.d_l_refused.f T.d_l_refused.fd ["_law_text"] (spRefused) := by
  refine T.d_l_refused.F.okAsE (i := 1) sc_l_refused T.x_WatchError rfl rfl rfl (fun vs H Q E h => ?_) (fun _ _ => rfl) (by decide) (fun cdv A outer s H vs Q E hr h => ?_)
  · obtain ⟨z, ls, b, i, rfl, _⟩ := h
    rfl
  · obtain ⟨z, ls, b, i, rfl, tx, bd, k⟩ := h
    refine ⟨_, _, _, (fun E' => (pss_one (ps_expr (pe_callS G_read_book (hr.mono (by omega)) rfl T.d_read_book.hm T.d_read_book.F.kp T.d_read_book.b .nil passS (pa_cons (pv 0) pa_nil))))), (fun u => (pss_cons (ps_if (PW.pt (pw_or (pt_not (pt_val (pe_callB (call_isDK (K := K) rfl) (by rfl) T.n_isinstance bt_isinstance (pa_cons (pv 1) (pa_cons (pe_gl rfl T.h_BadBook) pa_nil))))) (pw_or (pt_not (pt_val (pe_callB (call_isDK (K := K) rfl) (by rfl) T.n_isinstance bt_isinstance (pa_cons (pv 1) (pa_cons (pe_bltn (v := .ty "ValueError") rfl T.n_ValueError bt_ValueError rfl) pa_nil))))) (pw_or1 (pt_val (pe_callB (call_isDK (K := K) rfl) (by rfl) T.n_isinstance bt_isinstance (pa_cons (pv 1) (pa_cons (pe_gl rfl T.h_BadClock) pa_nil))))))))
    (pss_one (ps_ret pe_str))
    pss_nil)
    (pss_cons (ps_if (PW.pt (pw_or (pt_val (pe_callB (call_isDK (K := K) rfl) (by rfl) T.n_isinstance bt_isinstance (pa_cons (pv 1) (pa_cons (pe_gl rfl T.h_BadDesk) pa_nil)))) (pw_or (pt_val (pe_callB (call_isDK (K := K) rfl) (by rfl) T.n_isinstance bt_isinstance (pa_cons (pv 1) (pa_cons (pe_gl rfl T.h_BadProgram) pa_nil)))) (pw_or (pt_val (pe_callB (call_isDK (K := K) rfl) (by rfl) T.n_isinstance bt_isinstance (pa_cons (pv 1) (pa_cons (pe_gl rfl T.h_BadRow) pa_nil)))) (pw_or1 (pt_val (pe_callB (call_isDK (K := K) rfl) (by rfl) T.n_isinstance bt_isinstance (pa_cons (pv 1) (pa_cons (pe_gl rfl T.h_NotWaiting) pa_nil)))))))))
    (pss_one (ps_ret pe_str))
    pss_nil)
    (pss_one (ps_ret (pe_fldXK (K := K) rfl (pv 1) rfl)))))), (pss_one (ps_ret pe_str)), ?_⟩
    walk_at "sw"
    refine ⟨_, rfl, z, ls, b, rfl, tx, .inl ⟨i, bd, fun d H' hd s1 => ⟨T.C_BadBook, rfl, .inr T.bb.ei, T.bb.up, fun x hx => ?_⟩⟩⟩
    have hx2 := (Same.upd (o := exHOd x T.C_BadBook (some d)) hx) _ _ hd
    have hD : HasD (upd H' x (exHOd x T.C_BadBook (some d))) (some d) := fun dx e => by cases e; exact ⟨_, hx2⟩
    have is : ∀ {c : V} {cv : Value} {bb : Bool} {R : VK}, ((∃ D, c = .ref D ∧ cv = .ref D) ∨ ∃ n, c = .ty n ∧ cv = .type n) → PySem.W.kitOne K (.ref T.C_BadBook) cv = some bb → R (.bl bb) (upd H' x (exHOd x T.C_BadBook (some d))) → rIsD K [.ref x, c] (upd H' x (exHOd x T.C_BadBook (some d))) R := fun hc hk q => ⟨x, _, _, _, _, _, rfl, upd_same, hD, hc, T.bb.ec, T.bb.fc, hk, q⟩
    walk_at "sy"
    refine is (.inl ⟨_, rfl, rfl⟩) T.bb.k6 ⟨_, rfl, ?_⟩
    rw [if_neg (by decide)]
    refine is (.inr ⟨_, rfl, rfl⟩) T.bb.kv ⟨_, rfl, ?_⟩
    rw [if_neg (by decide)]
    refine is (.inl ⟨_, rfl, rfl⟩) T.bb.k1 ⟨_, rfl, ?_⟩
    rw [if_neg (by decide)]
    refine is (.inl ⟨_, rfl, rfl⟩) T.bb.k3 ⟨_, rfl, ?_⟩
    rw [if_neg (by decide)]
    refine is (.inl ⟨_, rfl, rfl⟩) T.bb.k5 ⟨_, rfl, ?_⟩
    rw [if_neg (by decide)]
    refine is (.inl ⟨_, rfl, rfl⟩) T.bb.k4 ⟨_, rfl, ?_⟩
    rw [if_neg (by decide)]
    refine is (.inl ⟨_, rfl, rfl⟩) T.bb.k2 ⟨_, rfl, ?_⟩
    rw [if_neg (by decide)]
    exact ⟨_, rfl, x, _, d, _, _, rfl, upd_same, hx2, T.bb.ec, T.bb.hd, T.bb.fp, rfl, k _ (s1.trans (Same.upd hx))⟩
theorem sc_l_right : FnScope ["_law_lines", "_law_good", "_law_xs", "_law_many", "_law_at", "_law_due", "_law_wrong", "_law_other", "_law_text", "_law_found"] ["_law_lines", "_law_good", "_law_xs"] (defScope (top 67)) := ⟨rfl, rfl, rfl, by decide +kernel, rfl, by decide +kernel, by decide +kernel⟩
theorem ok_l_right (T : Tx P w K mg)
    (G_l_spoilt : FnOk P w K mg base CX0 2 T.d_l_spoilt.f T.d_l_spoilt.fd ["_law_line_here", "_law_x"] (spSpoilt))
    (G_l_none : FnOk P w K mg base CX0 1 T.d_l_none.f T.d_l_none.fd ["_law_x"] (spNone))
    (G_l_refused : FnOk P w K mg base CX0 26 T.d_l_refused.f T.d_l_refused.fd ["_law_text"] (spRefused)) : FnOk P w K mg base CX0 28 T.d_l_right.f T.d_l_right.fd ["_law_lines", "_law_good", "_law_xs"] (spRight) := by
  refine T.d_l_right.F.ok sc_l_right (fun vs H Q E h => ?_) (fun cdv A outer s H vs Q E hr h => ?_)
  · obtain ⟨a, b, rs, ns, rfl, _⟩ := h
    rfl
  · obtain ⟨a, b, rs, ns, rfl, ha, hb, ok, l1, l9, n4, nb, k⟩ := h
    have hu := hu100 hr
    refine ⟨_, (pss_cons (ps_set (i := 3) sc_l_right.nd rfl (Or.inl rfl) (pe_callB call_len (by rfl) T.n_len bt_len (pa_cons (pv 0) pa_nil)))
    (pss_cons (ps_set (i := 4) sc_l_right.nd rfl (Or.inl rfl) (pe_op op_mod (pe_ix ix_list (pv 2) pe_int (fun _ _ => rfl)) (pv 3)))
    (pss_cons (ps_set (i := 5) sc_l_right.nd rfl (Or.inl rfl) (pv 4))
    (pss_cons (ps_set (i := 6) sc_l_right.nd rfl (Or.inl rfl) (pe_callTy call_list_of (by rfl) T.n_list bt_list (pa_cons (pv 0) pa_nil)))
    (pss_cons (ps_asg (pe_call G_l_spoilt (hr.mono (by omega)) rfl T.d_l_spoilt.hm T.d_l_spoilt.F.kp T.d_l_spoilt.b .nil pass0 (pa_cons (pe_ix ix_list (pv 0) (pv 4) (fun _ _ => rfl)) (pa_cons (pe_ix ix_list (pv 2) pe_int (fun _ _ => rfl)) pa_nil))) (pg_sub (pv 6) (pv 4) set_list))
    (pss_cons (ps_if (pt_cmpR op_eq (pe_op op_mod (pe_ix ix_list (pv 2) pe_int (fun _ _ => rfl)) pe_int) pe_int (nomark _))
    (pss_cons (ps_set (i := 7) sc_l_right.nd rfl (Or.inl rfl) (pe_op op_mod (pe_op op_fdiv (pe_ix ix_list (pv 2) pe_int (fun _ _ => rfl)) pe_int) (pv 3)))
    (pss_cons (ps_asg (pe_call G_l_none (hr.mono (by omega)) rfl T.d_l_none.hm T.d_l_none.F.kp T.d_l_none.b .nil pass0 (pa_cons (pe_ix ix_list (pv 2) pe_int (fun _ _ => rfl)) pa_nil)) (pg_sub (pv 6) (pv 7) set_list))
    (pss_one (ps_set (i := 5) sc_l_right.nd rfl (Or.inl rfl) (pe_callB (call_min2 rfl) (by rfl) T.n_min bt_min (pa_cons (pv 4) (pa_cons (pv 7) pa_nil)))))))
    pss_nil)
    (pss_cons (ps_set (i := 8) sc_l_right.nd rfl (Or.inl rfl) (pe_bm PySem.F.plainAttrs_str PySem.F.slot_str_join PySem.F.type_str_join mt_join pe_str (pa_cons (pe_lc (N' := ["_law_line_here"]) (sel := [none]) rfl rfl rfl (pi_list (pv 6)) (gk_name rfl) (fun _ _ _ _ _ => ⟨(pg_name (i := 0) (show (["_law_line_here"] : List Str).Nodup by decide +kernel) rfl (Or.inl rfl)), pts_nil, (pe_op op_add_str (pv 0) pe_str)⟩)) pa_nil)))
    (pss_cons (ps_if (pt_cmpR op_eq (pe_op op_mod (pe_op op_fdiv (pe_ix ix_list (pv 2) pe_int (fun _ _ => rfl)) pe_int) pe_int) pe_int (nomark _))
    (pss_cons (ps_set (i := 8) sc_l_right.nd rfl (Or.inl rfl) (pe_slice sl_str (pv 1) po_none (po_some (pe_un un_neg pe_int))))
    (pss_one (ps_set (i := 5) sc_l_right.nd rfl (Or.inl rfl) (pe_op op_sub (pv 3) pe_int))))
    pss_nil)
    (pss_cons (ps_set (i := 9) sc_l_right.nd rfl (Or.inl rfl) (pe_call G_l_refused (hr.mono (by omega)) rfl T.d_l_refused.hm T.d_l_refused.F.kp T.d_l_refused.b .nil pass0 (pa_cons (pv 8) pa_nil)))
    (pss_one (ps_ret (pe_and (pe_not (pe_callB call_isinst (by rfl) T.n_isinstance bt_isinstance (pa_cons (pv 9) (pa_cons (pe_bltn (v := .ty "str") rfl T.n_str bt_str rfl) pa_nil)))) (pe_and (pe_not (pe_callB call_isinst (by rfl) T.n_isinstance bt_isinstance (pa_cons (pv 9) (pa_cons (pe_bltn (v := .ty "bool") rfl T.n_bool bt_bool rfl) pa_nil)))) (pe_and (pe_cmpR op_eq (pv 9) (pv 5) (nomark _)) (pe_one (pe_cmpR op_eq (pe_call G_l_refused (hr.mono (by omega)) rfl T.d_l_refused.hm T.d_l_refused.F.kp T.d_l_refused.b .nil pass0 (pa_cons (pv 8) pa_nil)) (pv 5) (nomark _))))))))))))))))), ?_⟩
    generalize hD1 : (tSeq (tIfS (tTest (tOp rEq (tOp _ (tOp (rI CDiv _) _ _) _) _)) _ _) _) = D1
    generalize hD0 : tSeq (tAsg (tBM _ "str" (rJoin _) _ _) _) D1 = D0
    obtain ⟨x0, x1, x2, x3, rfl⟩ : ∃ x0 x1 x2 x3, ns = [x0, x1, x2, x3] := by
      match ns, n4 with
      | [x0, x1, x2, x3], _ => exact ⟨x0, x1, x2, x3, rfl⟩
    have p0 := nb x0 (by simp)
    have p1 := nb x1 (by simp)
    have p2 := nb x2 (by simp)
    have p3 := nb x3 (by simp)
    have rd : ∀ {G : Hp} {R : VK} (i : Nat) (x : Int), Same H G → (([x0, x1, x2, x3] : List Int).map V.int)[i]? = some (.int x) → R (.int x) G → rIxL K (.ref b) (.int (i : Nat)) G R := fun {G R} i x s e q => ⟨b, _, _, _, rfl, rfl, SqL.of (s _ _ hb), atI_nat e, q⟩
    have md : ∀ x : Int, ∃ m : Nat, m < rs.length ∧ x % (rs.length : Int) = (m : Int) := fun x => by
      have h0 := Int.emod_nonneg x (show (rs.length : Int) ≠ 0 by omega)
      have h1 := Int.emod_lt_of_pos x (show (0 : Int) < (rs.length : Int) by omega)
      obtain ⟨m, hm⟩ := Int.eq_ofNat_of_zero_le h0
      exact ⟨m, by omega, hm⟩
    obtain ⟨at0, hat, eat⟩ := md x0
    have zl : (2000000 : Nat) ≤ sizeLine := by decide
    -- the end
    have ask : ∀ (z : Str) (ls : List Str) (e : Str) (d : Nat) (n : Int) (G : Hp), Same H G → TxOk z ls e → Bad ls e d → n = (d : Nat) → spRefused [V.str z] G (fun x H1 => ∃ x_1, TyOf K H1 x x_1 ∧ ∃ x_2, PySem.W.kitOne K x_1 (Value.type "str") = some x_2 ∧ if (!x_2) = true then ∃ x_3, TyOf K H1 x x_3 ∧ ∃ x_4, PySem.W.kitOne K x_3 (Value.type "bool") = some x_4 ∧ if (!x_4) = true then scal x (V.int n) = true ∧ if decide (x = V.int n) = true then spRefused [V.str z] H1 (fun x H1 => scal x (V.int n) = true ∧ Q (V.bl (decide (x = V.int n))) H1) E0 else Q (V.bl false) H1 else Q (V.bl false) H1 else Q (V.bl false) H1) E0 := by
      intro z ls e d n G sG tx bd hn
      subst hn
      refine ⟨z, ls, e, d, rfl, tx, bd, fun G1 s1 => ?_⟩
      obtain ⟨u, t1, t2, t3, _⟩ := Th.ty (K := K) (H := G1) (Th.int ((d : Nat) : Int))
      refine ⟨u, t1, _, t2, ?_⟩
      rw [if_pos (by rfl)]
      refine ⟨u, t1, _, t3, ?_⟩
      rw [if_pos (by rfl)]
      refine ⟨rfl, ?_⟩
      rw [if_pos (decide_eq_true rfl)]
      refine ⟨z, ls, e, d, rfl, tx, bd, fun G2 s2 => ⟨rfl, ?_⟩⟩
      rw [decide_eq_true rfl]
      exact k _ ((sG.trans s1).trans s2)
    have fin : ∀ (o7 : Option V) (l : Addr) (z : Str) (ls : List Str) (e : Str) (d : Nat) (G : Hp), Same H G → TxOk z ls e → Bad ls e d → D1 { nx := fun _ H' => Q .non H', rt := Q } [some (.ref a), some (.str (bookS rs)), some (.ref b), some (.int (rs.length : Nat)), some (.int (at0 : Nat)), some (.int (d : Nat)), some (.ref l), o7, some (.str z), none] G := by
      intro o7 l z ls e d G sG tx bd
      subst hD1
      clear hD0
      walk_at "sw"
      refine rd 2 x2 sG rfl ⟨x2, rfl, ⟨by decide, by decide⟩, by decide, rfl, ?_⟩
      by_cases b5 : x2 / 30 % 5 = 0
      · refine ifT b5 ⟨Nat.le_trans (book_len ok (by omega)) (by omega), ?_⟩
        obtain ⟨tx', bd'⟩ := cut_bad ok l1 l9
        exact ask _ _ _ _ _ _ sG tx' bd' (by omega)
      · exact ifF b5 (ask _ _ _ _ _ _ sG tx bd rfl)
    have mid : ∀ (o7 : Option V) (l : Addr) (ws : List Str) (d : Nat) (G : Hp), Same H G → G l = some (.lst (ws.map V.str)) → ws.length ≤ 9 → (∀ y ∈ ws, LnOk y ∧ (10 : Nat) ∉ y.cps.toList) → Bad ws "" d → D0 { nx := fun _ H' => Q .non H', rt := Q } [some (.ref a), some (.str (bookS rs)), some (.ref b), some (.int (rs.length : Nat)), some (.int (at0 : Nat)), some (.int (d : Nat)), some (.ref l), o7, none, none] G := by
      intro o7 l ws d G sG hl hw9 hw bd
      have nl : ("\n" : Str).length = 1 := by decide +kernel
      subst hD0
      walk_at "sw"
      refine ⟨⟨_, SqL.of hl⟩, lc_list (K := K) (a := l) (xs := ws.map V.str) (fun i zs G' => Same G G' ∧ zs = ((ws.take i).map fun y => y ++ ("\n" : Str)).map V.str) ⟨Same.refl _, rfl⟩ ?_ ?_ ?_ ?_⟩
      · rintro i zs G' hi ⟨s1, rfl⟩
        exact ⟨SqL.of (s1 _ _ hl), by rw [List.length_map] at hi; rw [List.length_map, List.length_map, List.length_take]; omega⟩
      · rw [List.length_map]; exact big (by omega)
      · rintro i x zs G' hi ⟨s1, rfl⟩
        rw [List.getElem?_map] at hi
        obtain ⟨y, hy, rfl⟩ := Option.map_eq_some_iff.mp hi
        have hle := (hw y (List.mem_of_getElem? hy)).1.le
        walk_at "sx"
        refine ⟨by rw [nl]; exact big (by omega), s1, ?_⟩
        rw [take_snoc' hy, List.map_append, List.map_append]
        rfl
      · rintro zs G' ⟨s1, rfl⟩ D hD0
        rw [List.length_map, List.take_length]
        refine ⟨"", D, _, rfl, rfl, SqL.of upd_same, ?_, ?_⟩
        · have hs := sum_lens (L := ws.map fun y => y ++ ("\n" : Str)) (c := 4001) fun y hy => by
            obtain ⟨r, hr', rfl⟩ := List.mem_map.mp hy
            have := (hw r hr').1.le
            rw [app_len, nl]
            omega
          rw [List.length_map] at hs ⊢
          have h4 : ("" : Str).length = 0 := by decide +kernel
          rw [h4]
          omega
        · exact fin o7 l (textS ws) ws "" d _ (sG.trans (s1.trans (Same.upd hD0))) (TxOk.of hw (by omega)) bd
    clear hD0 hD1
    clear fin
    walk_at "sw"
    have hlen : ((rs.map Row.line).map V.str).length = rs.length := by rw [List.length_map, List.length_map]
    have hgd : ∀ y ∈ rs.map Row.line, (LnOk y ∧ (10 : Nat) ∉ y.cps.toList) ∧ ∃ t, rowT (lineW y) = some t := fun y hm => by
      obtain ⟨r, hr, rfl⟩ := List.mem_map.mp hm
      exact ⟨(row_ln (ok r hr)).1, _, (row_ln (ok r hr)).2⟩
    refine ⟨rs.length, lenV_ref.mpr (.inl ⟨_, SqL.of ha, hlen.symm⟩), rd 0 x0 (Same.refl H) rfl ⟨x0, rfl, by omega, _, .inl (SqL.of ha), fun l hl => ?_⟩⟩
    have s1 := Same.upd (o := .lst ((rs.map Row.line).map V.str)) hl
    rw [eat]
    have hr' : rs[at0]? = some rs[at0] := List.getElem?_eq_getElem hat
    refine ⟨a, _, _, _, rfl, rfl, SqL.of (s1 _ _ ha), atI_nat (v := V.str rs[at0].line) (by rw [List.getElem?_map, List.getElem?_map, hr']; rfl), ?_⟩
    refine rd 1 x1 s1 rfl ⟨rs[at0], x1, rfl, ok _ (List.mem_of_getElem? hr'), p1.1, fun z G nz s2 => ?_⟩
    have hl1 : G l = some (.lst ((rs.map Row.line).map V.str)) := s2 _ _ upd_same
    have ix : ∀ (i : Nat), i < rs.length → ixN ((rs.map Row.line).map V.str).length (i : Int) = some i := fun i hi => by
      rw [hlen]
      unfold ixN
      rw [if_pos (by omega), if_pos (by omega)]; simp
    refine ⟨_, rfl, _, rfl, l, _, _, at0, rfl, rfl, hl1, ix at0 hat, ?_⟩
    have e1 : ((rs.map Row.line).map V.str).set at0 (.str z) = ((rs.map Row.line).set at0 z).map V.str := by rw [List.map_set]
    rw [e1]
    have sG := same_set (o := .lst (((rs.map Row.line).set at0 z).map V.str)) (s1.trans s2) hl
    have hl2 : upd G l (.lst (((rs.map Row.line).set at0 z).map V.str)) l = some (.lst (((rs.map Row.line).set at0 z).map V.str)) := upd_same
    generalize upd G l (.lst (((rs.map Row.line).set at0 z).map V.str)) = G1 at sG hl2
    have bd1 := bad_set1 (L := rs.map Row.line) (z := z) (i := at0) (fun y hy => (hgd y hy).2) (by rw [List.length_map]; exact hat) nz
    have ok1 := set_ok (i := at0) (fun y hy => (hgd y hy).1) nz
    have ln1 : ((rs.map Row.line).set at0 z).length = rs.length := by rw [List.length_set, List.length_map]
    generalize (rs.map Row.line).set at0 z = L1 at hl2 bd1 ok1 ln1
    walk_at "sw"
    refine rd 2 x2 sG rfl ⟨x2, rfl, by decide, rfl, ?_⟩
    by_cases b3 : x2 % 3 = 0
    · obtain ⟨ot, hot, eot⟩ := md (x2 / 3)
      refine ifT b3 (rd 2 x2 sG rfl ⟨x2, rfl, ⟨by decide, by decide⟩, by omega, rd 3 x3 sG rfl ⟨x3, rfl, p3.1, fun z2 G2 nz2 s3 => ?_⟩⟩)
      rw [eot]
      refine ⟨_, rfl, _, rfl, l, _, _, ot, rfl, rfl, s3 _ _ hl2, ?_, ?_⟩
      · rw [List.length_map, ln1]
        unfold ixN
        rw [if_pos (by omega), if_pos (by omega)]; simp
      have e2 : (L1.map V.str).set ot (.str z2) = (L1.set ot z2).map V.str := by rw [List.map_set]
      rw [e2]
      walk_at "sw"
      have e3 : (if (ot : Int) < (at0 : Int) then (ot : Int) else (at0 : Int)) = ((if ot < at0 then ot else at0 : Nat) : Int) := by
        by_cases q : ot < at0
        · rw [if_pos q, if_pos (by omega)]
        · rw [if_neg q, if_neg (by omega)]
      rw [e3]
      have hHl : H l = none := hl
      exact mid _ _ (L1.set ot z2) _ _ (same_set (sG.trans s3) hHl) upd_same (by rw [List.length_set]; omega) (set_ok ok1 nz2) (bad_set2 bd1 (by omega) nz2)
    · exact ifF b3 (mid _ _ L1 _ _ sG hl2 (by omega) ok1 bd1)
theorem sc_law : FnScope ["_law_script", "_law_many", "_law_lines", "_law_good", "_law_turn"] ["_law_script"] (defScope (top 68)) := ⟨rfl, rfl, rfl, by decide +kernel, rfl, by decide +kernel, by decide +kernel⟩
theorem ok_law (T : Tx P w K mg) {f : Addr} {fd : FuncData} (F : Fun K "law" "law" (top 68) f fd)
    (G_l_cell_at : FnOk P w K mg base CX0 1 T.d_l_cell_at.f T.d_l_cell_at.fd ["_law_script", "_law_k"] (spCell K))
    (G_l_row : FnOk P w K mg base CX0 6 T.d_l_row.f T.d_l_row.fd ["_law_cell", "_law_place"] (spLRow))
    (G_l_line : FnOk P w K mg base CX0 5 T.d_l_line.f T.d_l_line.fd ["_law_row_here"] (spLLine))
    (G_l_stream : FnOk P w K mg base CX0 2 T.d_l_stream.f T.d_l_stream.fd ["_law_cell", "_law_place", "_law_many"] (spStream))
    (G_l_right : FnOk P w K mg base CX0 28 T.d_l_right.f T.d_l_right.fd ["_law_lines", "_law_good", "_law_xs"] (spRight))
    (G_read_book : FnOk P w K mg base (CXD P w) 24 T.d_read_book.f T.d_read_book.fd ["text"] (spReadX T.C_BadBook))
    (G_booktext : FnOk P w K mg base CX0 10 T.d_booktext.f T.d_booktext.fd ["rows"] (spBookText K)) : FnOk P w K mg base CX0 31 f fd ["_law_script"] (spLaw K) := by
  refine F.ok sc_law (fun vs H Q E h => ?_) (fun cdv A outer s H vs Q E hr h => ?_)
  · obtain ⟨a, ns, rfl, _⟩ := h
    rfl
  · obtain ⟨a, ns, rfl, hS, hn, k⟩ := h
    have hu := hu100 hr
    refine ⟨_, (pss_cons (ps_set (i := 1) sc_law.nd rfl (Or.inl rfl) (pe_op op_add pe_int (pe_op op_mod (pe_call G_l_cell_at (hr.mono (by omega)) rfl T.d_l_cell_at.hm T.d_l_cell_at.F.kp T.d_l_cell_at.b .nil pass0 (pa_cons (pv 0) (pa_cons pe_int pa_nil))) pe_int)))
    (pss_cons (ps_setLc (i := 2) sc_law.nd rfl (Or.inl rfl) (N' := ["_law_k", "_law_script"]) (sel := [none, some 0]) rfl rfl rfl (pi_range1 rfl T.n_range (pa_cons (pv 1) pa_nil)) (gk_name rfl) (fun _ _ _ _ _ => ⟨(pg_name (i := 0) (show (["_law_k", "_law_script"] : List Str).Nodup by decide +kernel) rfl (Or.inl rfl)), pts_nil, (pe_call G_l_line (hr.mono (by omega)) rfl T.d_l_line.hm T.d_l_line.F.kp T.d_l_line.b .nil pass0 (pa_cons (pe_call G_l_row (hr.mono (by omega)) rfl T.d_l_row.hm T.d_l_row.F.kp T.d_l_row.b .nil pass0 (pa_cons (pe_call G_l_cell_at (hr.mono (by omega)) rfl T.d_l_cell_at.hm T.d_l_cell_at.F.kp T.d_l_cell_at.b .nil pass0 (pa_cons (pv 1) (pa_cons (pe_op op_add pe_int (pe_op op_mod (pv 0) pe_int)) pa_nil))) (pa_cons (pv 0) pa_nil))) pa_nil))⟩) rfl)
    (pss_cons (ps_set (i := 3) sc_law.nd rfl (Or.inl rfl) (pe_bm PySem.F.plainAttrs_str PySem.F.slot_str_join PySem.F.type_str_join mt_join pe_str (pa_cons (pe_lc (N' := ["_law_line_here"]) (sel := [none]) rfl rfl rfl (pi_list (pv 2)) (gk_name rfl) (fun _ _ _ _ _ => ⟨(pg_name (i := 0) (show (["_law_line_here"] : List Str).Nodup by decide +kernel) rfl (Or.inl rfl)), pts_nil, (pe_op op_add_str (pv 0) pe_str)⟩)) pa_nil)))
    (pss_cons (ps_for PassesOwn.never rfl (pi_range1 rfl T.n_range (pa_cons pe_int pa_nil)) (pg_name (i := 4) sc_law.nd rfl (Or.inl rfl))
    (pss_one (ps_if (pt_not (pt_val (pe_call G_l_right (hr.mono (by omega)) rfl T.d_l_right.hm T.d_l_right.F.kp T.d_l_right.b .nil pass0 (pa_cons (pv 2) (pa_cons (pv 3) (pa_cons (pe_call G_l_stream (hr.mono (by omega)) rfl T.d_l_stream.hm T.d_l_stream.F.kp T.d_l_stream.b .nil pass0 (pa_cons (pe_call G_l_cell_at (hr.mono (by omega)) rfl T.d_l_cell_at.hm T.d_l_cell_at.F.kp T.d_l_cell_at.b .nil pass0 (pa_cons (pv 0) (pa_cons (pe_op op_add pe_int (pv 4)) pa_nil))) (pa_cons (pe_op op_add pe_int (pv 4)) (pa_cons pe_int pa_nil)))) pa_nil))))))
    (pss_one (ps_ret pe_bl))
    pss_nil)))
    (pss_one (ps_ret (pe_and (pe_cmpR op_eq (pe_callB call_len (by rfl) T.n_len bt_len (pa_cons (pe_call G_read_book (hr.mono (by omega)) rfl T.d_read_book.hm T.d_read_book.F.kp T.d_read_book.b .nil (passDN (E := fun _ _ _ => False) (fun _ _ _ z => z)) (pa_cons (pv 3) pa_nil)) pa_nil)) (pv 1) (nomark _)) (pe_one (pe_cmpR op_eq (pe_call G_booktext (hr.mono (by omega)) rfl T.d_booktext.hm T.d_booktext.F.kp T.d_booktext.b .nil pass0 (pa_cons (pe_call G_read_book (hr.mono (by omega)) rfl T.d_read_book.hm T.d_read_book.F.kp T.d_read_book.b .nil (passDN (E := fun _ _ _ => False) (fun _ _ _ z => z)) (pa_cons (pv 3) pa_nil)) pa_nil)) (pv 3) (nomark _)))))))))), ?_⟩
    walk_at "sy"
    refine ⟨a, ns, 0, rfl, hS, hn, by decide, fun c0 => ⟨c0, rfl, by decide, ?_⟩⟩
    generalize hD : tSeq _ _ _ = D1
    have m0 := Int.emod_nonneg c0 (show (9 : Int) ≠ 0 by decide)
    have m1 := Int.emod_lt_of_pos c0 (show (0 : Int) < 9 by decide)
    obtain ⟨n, hn9⟩ := Int.eq_ofNat_of_zero_le (show 0 ≤ 1 + c0 % 9 by omega)
    have hn1 : 1 ≤ n := by omega
    have hn2 : n ≤ 9 := by omega
    rw [hn9]
    simp only [tSetLc, iRng1]
    walk_at "sy"
    have b62 : (2 : Int) ^ 62 = 4611686018427387904 := by decide
    refine ⟨by omega, by omega, ?_⟩
    rw [Int.toNat_natCast]
    refine lc_range (lo := 0) (n := n) (fun i us G => Same H G ∧ ∃ rs : List Row, rs.length = i ∧ (∀ r ∈ rs, RowOk r) ∧ us = (rs.map Row.line).map V.str) ⟨Same.refl _, [], rfl, (fun _ h => nomatch h), rfl⟩ ?_ ?_ ?_ ?_
    · rintro i us G hi ⟨s1, rs, hz, _, rfl⟩
      rw [List.length_map, List.length_map, hz]; exact Nat.le_refl _
    · exact big (by omega)
    · rintro i us G hi ⟨s1, rs, hz, hok, rfl⟩
      walk_at "sy"
      have m0 := Int.emod_nonneg ((i : Nat) : Int) (show (5 : Int) ≠ 0 by decide)
      refine ⟨by decide, a, ns, _, rfl, s1.seq hS, hn, by omega, fun c => ⟨c, _, rfl, fun v r G2 hr2 ok2 s2 => ⟨v, r, rfl, hr2, ok2, fun G3 s3 => ⟨(s1.trans s2).trans s3, rs ++ [r], by rw [List.length_append, hz]; rfl, fun x hx => ?_, ?_⟩⟩⟩⟩
      · rcases List.mem_append.mp hx with q | q
        · exact hok x q
        · rw [List.mem_singleton.mp q]; exact ok2
      · rw [List.map_append, List.map_append]
        rfl
    · rintro us G ⟨s1, rs, hz, hok, rfl⟩ l hl
      have sA := s1.trans (Same.upd (o := .lst ((rs.map Row.line).map V.str)) hl)
      have hl1 : upd G l (.lst ((rs.map Row.line).map V.str)) l = some (.lst ((rs.map Row.line).map V.str)) := upd_same
      generalize upd G l (.lst ((rs.map Row.line).map V.str)) = G1 at sA hl1
      clear hl s1 G
      have hrl : rs.length ≤ 20 := by omega
      have nl : ("\n" : Str).length = 1 := by decide +kernel
      subst hD
      generalize hD : tSeq (tFor _ _ _) _ = D2
      walk_at "sw"
      refine ⟨⟨_, SqL.of hl1⟩, lc_list (K := K) (a := l) (xs := (rs.map Row.line).map V.str) (fun i zs G => Same G1 G ∧ zs = ((rs.take i).map fun r => r.line ++ ("\n" : Str)).map V.str) ⟨Same.refl _, rfl⟩ ?_ ?_ ?_ ?_⟩
      · rintro i zs G hi ⟨s1, rfl⟩
        rw [List.length_map, List.length_map] at hi
        exact ⟨SqL.of (s1 _ _ hl1), by rw [List.length_map, List.length_map, List.length_take]; omega⟩
      · rw [List.length_map, List.length_map]; exact big (by omega)
      · rintro i x zs G hi ⟨s1, rfl⟩
        rw [List.getElem?_map, List.getElem?_map] at hi
        obtain ⟨y, hy, rfl⟩ := Option.map_eq_some_iff.mp hi
        obtain ⟨r, hr', rfl⟩ := Option.map_eq_some_iff.mp hy
        have hle := line_len (hok r (List.mem_of_getElem? hr'))
        walk_at "sx"
        refine ⟨by rw [nl]; exact big (by omega), s1, ?_⟩
        rw [take_snoc' hr', List.map_append, List.map_append]
        rfl
      · rintro zs G ⟨s1, rfl⟩ D hD0
        rw [List.length_map, List.length_map, List.take_length]
        refine ⟨"", D, _, rfl, rfl, SqL.of upd_same, ?_, ?_⟩
        · have hs := sum_lens (L := rs.map fun r => r.line ++ ("\n" : Str)) (c := 1300) fun l hl => by
            obtain ⟨r, hr', rfl⟩ := List.mem_map.mp hl
            have := line_len (hok r hr')
            rw [app_len, nl]
            omega
          rw [List.length_map] at hs ⊢
          have h4 : ("" : Str).length = 0 := by decide +kernel
          rw [h4]
          omega
        · show D2 _ [_, _, _, some (.str (bookS rs)), _] _
          have s2 := s1.trans (Same.upd (o := .lst ((rs.map fun r => r.line ++ ("\n" : Str)).map V.str)) hD0)
          have sB := sA.trans s2
          have hl2 := s2 _ _ hl1
          generalize upd G D _ = G2 at sB hl2
          clear s1 s2 hD0 D hl1 sA G G1
          subst hD
          walk_at "sw"
          have tx : TxOk (bookS rs) (rs.map Row.line) "" := by
            rw [book_text]
            exact TxOk.of (fun y hm => by
              obtain ⟨r, hr, rfl⟩ := List.mem_map.mp hm
              exact (row_ln (hok r hr)).1) (by rw [List.length_map]; exact hrl)
          have gd : Good (rs.map Row.line) "" (rs.map Row.tr) := by
            refine ⟨?_, rfl⟩
            rw [List.map_map, List.map_map]
            exact List.map_congr_left fun r hr => (row_ln (hok r hr)).2
          refine ⟨4, rfl, by omega, by omega, ?_⟩
          refine for_range (fun i σ G => ∃ o : Option V, σ = [some (V.ref a), some (V.int ↑n), some (V.ref l), some (V.str (bookS rs)), o] ∧ Same G2 G) ⟨none, rfl, Same.refl _⟩ ?_ ?_
          · rintro i σ G hi ⟨o, rfl, sG⟩
            have hi4 : i < 4 := hi
            walk_at "sw"
            refine ⟨a, ns, _, rfl, (sB.trans sG).seq hS, hn, by omega, fun c => ⟨c, _, 4, rfl, by decide, by decide, fun q ms G3 hq hm hb hq3 s3 => ?_⟩⟩
            refine ⟨l, q, rs, ms, rfl, (sG.trans s3) _ _ hl2, hq3, hok, by omega, by omega, by omega, hb, fun G4 s4 => ⟨true, rfl, ?_⟩⟩
            rw [if_neg (by decide)]
            exact (sG.trans s3).trans s4
          · rintro σ G ⟨o, rfl, sG⟩
            walk_at "sw"
            refine ⟨bookS rs, _, _, rfl, tx, .inr ⟨_, gd, fun v G3 hv s3 => ?_⟩⟩
            obtain ⟨c, vs, rfl, hc, hR⟩ := hv.tupI
            refine ⟨rs.length, lenV_ref.mpr (.inr ⟨_, SqT.of hc, by rw [hR.1, List.length_map]⟩), rfl, ?_⟩
            refine ifT (by omega) ⟨bookS rs, _, _, rfl, tx, .inr ⟨_, gd, fun v2 G4 hv2 s4 => ?_⟩⟩
            obtain ⟨c2, vs2, rfl, hc2, hR2⟩ := hv2.tupI
            refine ⟨true, c2, vs2, rs, rfl, sqE_t hc2, hR2, hok, hrl, fun G5 s5 => ⟨rfl, ?_⟩⟩
            rw [decide_eq_true rfl]
            exact k _
theorem law_fn {l : PySem.W.OpenLaw} {h : Heap} {fa : Addr} (X : K.In h) (G : h.Ns mainGlobals mg) (hfa : mg "law" = some (.ref fa))
    (i12 : InK K "is_letters" (top 12))
    (i13 : InK K "is_name" (top 13))
    (i14 : InK K "is_told_word" (top 14))
    (i15 : InK K "is_value" (top 15))
    (i18 : InK K "number_of" (top 18))
    (i19 : InK K "bounded" (top 19))
    (i20 : InK K "value_of" (top 20))
    (i40 : InK K "told_value_of" (top 40))
    (i41 : InK K "faults_of_word" (top 41))
    (i42 : InK K "field_at" (top 42))
    (i21 : InK K "fitted" (top 21))
    (i22 : InK K "first_fit" (top 22))
    (i43 : InK K "tuple_of" (top 43))
    (i32 : InK K "faults_text" (top 32))
    (i33 : InK K "outcome_text" (top 33))
    (i34 : InK K "part_text" (top 34))
    (i35 : InK K "deed_text" (top 35))
    (i36 : InK K "words_text" (top 36))
    (i37 : InK K "marked_text" (top 37))
    (i38 : InK K "row_text" (top 38))
    (i39 : InK K "booktext" (top 39))
    (i44 : InK K "who_of" (top 44))
    (i45 : InK K "ended_of" (top 45))
    (i46 : InK K "deed_of" (top 46))
    (i47 : InK K "all_or_none" (top 47))
    (i48 : InK K "marked_of" (top 48))
    (i49 : InK K "woken_of" (top 49))
    (i50 : InK K "row_of_line" (top 50))
    (i51 : InK K "read_book" (top 51))
    (i53 : InK K "_law_cell_at" (top 53))
    (i54 : InK K "_law_mixed" (top 54))
    (i55 : InK K "_law_stream" (top 55))
    (i56 : InK K "_law_name" (top 56))
    (i57 : InK K "_law_value" (top 57))
    (i58 : InK K "_law_number" (top 58))
    (i59 : InK K "_law_faults" (top 59))
    (i60 : InK K "_law_errand_deed" (top 60))
    (i61 : InK K "_law_row" (top 61))
    (i62 : InK K "_law_word" (top 62))
    (i63 : InK K "_law_line" (top 63))
    (i64 : InK K "_law_none" (top 64))
    (i65 : InK K "_law_spoilt" (top 65))
    (i66 : InK K "_law_refused" (top 66))
    (i67 : InK K "_law_right" (top 67))
    (i68 : InK K "law" (top 68))
    (ikwa : InT K "KEY_WORDS" KEYS)
    
    
    (iera : InT K "ERRAND_FORMS" ERS)
    
    
    (icla : InT K "CLOCK_FORMS" CLS)
    
    
    (ioua : InT K "OUTSIDE_FORMS" OUS)
    
    
    (ioca : InT K "OUTCOME_FORMS" OCS)
    
    
    (imka : InT K "MARK_FORMS" MKS)
    
    
    {mlt : Tok} (imlt : PySem.W.nsIn K mainGlobals "MOST_LETTERS" = some (some (.int 8 mlt)))
    
    {mvt : Tok} (imvt : PySem.W.nsIn K mainGlobals "MOST_VALUE" = some (some (.int 999999 mvt)))
    
    {mft : Tok} (imft : PySem.W.nsIn K mainGlobals "MOST_FIGURES" = some (some (.int 6 mft)))
    
    {nto : Tok} (into : PySem.W.nsIn K mainGlobals "NONE" = some (some (.str "-" nto)))
    
    {skt : Tok} (iskt : PySem.W.nsIn K mainGlobals "STROKE" = some (some (.str "/" skt)))
    
    (ibd : InBD w K)
    
    
    
    
    {C_BadClock : Addr} (cx_BadClock : PySem.W.nsIn K mainGlobals "BadClock" = some (some (.ref C_BadClock)))
    {C_NotWaiting : Addr} (cx_NotWaiting : PySem.W.nsIn K mainGlobals "NotWaiting" = some (some (.ref C_NotWaiting)))
    {C_BadDesk : Addr} (cx_BadDesk : PySem.W.nsIn K mainGlobals "BadDesk" = some (some (.ref C_BadDesk)))
    {C_BadRow : Addr} (cx_BadRow : PySem.W.nsIn K mainGlobals "BadRow" = some (some (.ref C_BadRow)))
    {C_BadProgram : Addr} (cx_BadProgram : PySem.W.nsIn K mainGlobals "BadProgram" = some (some (.ref C_BadProgram)))
    {C_BadBook : Addr} (cx_BadBook : PySem.W.nsIn K mainGlobals "BadBook" = some (some (.ref C_BadBook)))
    {C_WatchError : Addr} (cx_WatchError : PySem.W.nsIn K mainGlobals "WatchError" = some (some (.ref C_WatchError))) (qx_WatchError : PySem.W.excIn K C_WatchError [.type "ValueError", .type "Exception", .type "BaseException", .type "object"] "ValueError.__new__" = true)
    {f_B : Addr} (im_B : InM K C_BadBook "__init__" "BadBook.__init__" (inClass (top 7) 0)) (fi_B : PySem.W.findIn K (.ref C_BadBook) "__init__" = some (some (.ref f_B))) (ei_B : excInI K C_BadBook f_B = true) (so_B : PySem.W.mroIn K C_BadBook (.type "object") = some true) (sa_B : PySem.W.findIn K (.ref C_BadBook) "__setattr__" = some (some (.builtin "object.__setattr__"))) (hd_B : PySem.W.hasDictIn K C_BadBook = true) (kp_B : PySem.W.keepIn K (.ref C_BadBook) = true) (tk_B : PySem.W.takerIn K C_BadBook "place" = some none) (fp_B : PySem.W.findIn K (.ref C_BadBook) "place" = some none) {cdO : ClassData} (o1 : PySem.W.clsIn K C_BadBook = some cdO) (o2 : PySem.W.mroIn K C_BadBook (.type "BaseException") = some true) (o4 : PySem.W.findIn K (.ref C_BadBook) "__getattribute__" = some (some (.builtin L2.gaE))) (o5 : PySem.W.findIn K (.ref C_BadBook) "__getattr__" = some none) (o6 : PySem.W.findIn K (.ref C_BadBook) "__class__" = some (some (.builtin "object.__class__"))) (o7 : PySem.W.specialIn K (.builtin "object.__class__") "__get__" = some (some (.builtin "getset_descriptor.__get__"))) (o8 : PySem.W.takesIn K (.builtin "object.__class__") = some true) (o9 : PySem.W.mroIn K C_BadBook (.ref C_WatchError) = some true) (o_k1 : PySem.W.kitOne K (.ref C_BadBook) (.ref C_BadClock) = some false) (o_k2 : PySem.W.kitOne K (.ref C_BadBook) (.ref C_NotWaiting) = some false) (o_k3 : PySem.W.kitOne K (.ref C_BadBook) (.ref C_BadDesk) = some false) (o_k4 : PySem.W.kitOne K (.ref C_BadBook) (.ref C_BadRow) = some false) (o_k5 : PySem.W.kitOne K (.ref C_BadBook) (.ref C_BadProgram) = some false) (o_k6 : PySem.W.kitOne K (.ref C_BadBook) (.ref C_BadBook) = some true) (o_kv : PySem.W.kitOne K (.ref C_BadBook) (.type "ValueError") = some true)
    (z_len : PySem.W.nsIn K mainGlobals "len" = some none)
    (z_isinstance : PySem.W.nsIn K mainGlobals "isinstance" = some none)
    (z_list : PySem.W.nsIn K mainGlobals "list" = some none)
    (z_tuple : PySem.W.nsIn K mainGlobals "tuple" = some none)
    (z_int : PySem.W.nsIn K mainGlobals "int" = some none)
    (z_range : PySem.W.nsIn K mainGlobals "range" = some none)
    (z_enumerate : PySem.W.nsIn K mainGlobals "enumerate" = some none)
    (z_str : PySem.W.nsIn K mainGlobals "str" = some none)
    (z_bool : PySem.W.nsIn K mainGlobals "bool" = some none)
    (z_all : PySem.W.nsIn K mainGlobals "all" = some none)
    (z_zip : PySem.W.nsIn K mainGlobals "zip" = some none)
    (z_min : PySem.W.nsIn K mainGlobals "min" = some none)
    (z_ValueError : PySem.W.nsIn K mainGlobals "ValueError" = some none)
    : ∃ fd : FuncData, (∀ (s : Shared) (v : Value), BindsTo s fd ⟨[v], []⟩ [("_law_script", v)]) ∧ ∀ base : Heap, K.In base → base.Ns mainGlobals mg → FnOk l.prog w K mg base CX0 31 fa fd ["_law_script"] (spLaw K) := by
  obtain ⟨d12⟩ := i12.def (ps := ["text"]) X G fun _ _ _ _ _ _ us hl => lx1 hl (fun _ => rfl)
  obtain ⟨d13⟩ := i13.def (ps := ["thing"]) X G fun _ _ _ _ _ _ us hl => lx1 hl (fun _ => rfl)
  obtain ⟨d14⟩ := i14.def (ps := ["text"]) X G fun _ _ _ _ _ _ us hl => lx1 hl (fun _ => rfl)
  obtain ⟨d15⟩ := i15.def (ps := ["thing"]) X G fun _ _ _ _ _ _ us hl => lx1 hl (fun _ => rfl)
  obtain ⟨d18⟩ := i18.def (ps := ["word"]) X G fun _ _ _ _ _ _ us hl => lx1 hl (fun _ => rfl)
  obtain ⟨d19⟩ := i19.def (ps := ["word", "least", "greatest"]) X G fun _ _ _ _ _ _ us hl => lx3 hl (fun _ _ _ => rfl)
  obtain ⟨d20⟩ := i20.def (ps := ["word"]) X G fun _ _ _ _ _ _ us hl => lx1 hl (fun _ => rfl)
  obtain ⟨d40⟩ := i40.def (ps := ["word"]) X G fun _ _ _ _ _ _ us hl => lx1 hl (fun _ => rfl)
  obtain ⟨d41⟩ := i41.def (ps := ["word"]) X G fun _ _ _ _ _ _ us hl => lx1 hl (fun _ => rfl)
  obtain ⟨d42⟩ := i42.def (ps := ["slot", "word"]) X G fun _ _ _ _ _ _ us hl => lx2 hl (fun _ _ => rfl)
  obtain ⟨d21⟩ := i21.def (ps := ["slots", "words", "field_at"]) X G fun _ _ _ _ _ _ us hl => lx3 hl (fun _ _ _ => rfl)
  obtain ⟨d22⟩ := i22.def (ps := ["forms", "words", "field_at"]) X G fun _ _ _ _ _ _ us hl => lx3 hl (fun _ _ _ => rfl)
  obtain ⟨d43⟩ := i43.def (ps := ["forms", "words"]) X G fun _ _ _ _ _ _ us hl => lx2 hl (fun _ _ => rfl)
  obtain ⟨d32⟩ := i32.def (ps := ["faults"]) X G fun _ _ _ _ _ _ us hl => lx1 hl (fun _ => rfl)
  obtain ⟨d33⟩ := i33.def (ps := ["outcome"]) X G fun _ _ _ _ _ _ us hl => lx1 hl (fun _ => rfl)
  obtain ⟨d34⟩ := i34.def (ps := ["word", "part"]) X G fun _ _ _ _ _ _ us hl => lx2 hl (fun _ _ => rfl)
  obtain ⟨d35⟩ := i35.def (ps := ["deed"]) X G fun _ _ _ _ _ _ us hl => lx1 hl (fun _ => rfl)
  obtain ⟨d36⟩ := i36.def (ps := ["words"]) X G fun _ _ _ _ _ _ us hl => lx1 hl (fun _ => rfl)
  obtain ⟨d37⟩ := i37.def (ps := ["marks"]) X G fun _ _ _ _ _ _ us hl => lx1 hl (fun _ => rfl)
  obtain ⟨d38⟩ := i38.def (ps := ["row"]) X G fun _ _ _ _ _ _ us hl => lx1 hl (fun _ => rfl)
  obtain ⟨d39⟩ := i39.def (ps := ["rows"]) X G fun _ _ _ _ _ _ us hl => lx1 hl (fun _ => rfl)
  obtain ⟨d44⟩ := i44.def (ps := ["word"]) X G fun _ _ _ _ _ _ us hl => lx1 hl (fun _ => rfl)
  obtain ⟨d45⟩ := i45.def (ps := ["words"]) X G fun _ _ _ _ _ _ us hl => lx1 hl (fun _ => rfl)
  obtain ⟨d46⟩ := i46.def (ps := ["who", "words"]) X G fun _ _ _ _ _ _ us hl => lx2 hl (fun _ _ => rfl)
  obtain ⟨d47⟩ := i47.def (ps := ["fields"]) X G fun _ _ _ _ _ _ us hl => lx1 hl (fun _ => rfl)
  obtain ⟨d48⟩ := i48.def (ps := ["words"]) X G fun _ _ _ _ _ _ us hl => lx1 hl (fun _ => rfl)
  obtain ⟨d49⟩ := i49.def (ps := ["words"]) X G fun _ _ _ _ _ _ us hl => lx1 hl (fun _ => rfl)
  obtain ⟨d50⟩ := i50.def (ps := ["line"]) X G fun _ _ _ _ _ _ us hl => lx1 hl (fun _ => rfl)
  obtain ⟨d51⟩ := i51.def (ps := ["text"]) X G fun _ _ _ _ _ _ us hl => lx1 hl (fun _ => rfl)
  obtain ⟨d53⟩ := i53.def (ps := ["_law_script", "_law_k"]) X G fun _ _ _ _ _ _ us hl => lx2 hl (fun _ _ => rfl)
  obtain ⟨d54⟩ := i54.def (ps := ["_law_cell", "_law_k"]) X G fun _ _ _ _ _ _ us hl => lx2 hl (fun _ _ => rfl)
  obtain ⟨d55⟩ := i55.def (ps := ["_law_cell", "_law_place", "_law_many"]) X G fun _ _ _ _ _ _ us hl => lx3 hl (fun _ _ _ => rfl)
  obtain ⟨d56⟩ := i56.def (ps := ["_law_x"]) X G fun _ _ _ _ _ _ us hl => lx1 hl (fun _ => rfl)
  obtain ⟨d57⟩ := i57.def (ps := ["_law_x"]) X G fun _ _ _ _ _ _ us hl => lx1 hl (fun _ => rfl)
  obtain ⟨d58⟩ := i58.def (ps := ["_law_x", "_law_least", "_law_most"]) X G fun _ _ _ _ _ _ us hl => lx3 hl (fun _ _ _ => rfl)
  obtain ⟨d59⟩ := i59.def (ps := ["_law_x", "_law_least"]) X G fun _ _ _ _ _ _ us hl => lx2 hl (fun _ _ => rfl)
  obtain ⟨d60⟩ := i60.def (ps := ["_law_xs"]) X G fun _ _ _ _ _ _ us hl => lx1 hl (fun _ => rfl)
  obtain ⟨d61⟩ := i61.def (ps := ["_law_cell", "_law_place"]) X G fun _ _ _ _ _ _ us hl => lx2 hl (fun _ _ => rfl)
  obtain ⟨d62⟩ := i62.def (ps := ["_law_part"]) X G fun _ _ _ _ _ _ us hl => lx1 hl (fun _ => rfl)
  obtain ⟨d63⟩ := i63.def (ps := ["_law_row_here"]) X G fun _ _ _ _ _ _ us hl => lx1 hl (fun _ => rfl)
  obtain ⟨d64⟩ := i64.def (ps := ["_law_x"]) X G fun _ _ _ _ _ _ us hl => lx1 hl (fun _ => rfl)
  obtain ⟨d65⟩ := i65.def (ps := ["_law_line_here", "_law_x"]) X G fun _ _ _ _ _ _ us hl => lx2 hl (fun _ _ => rfl)
  obtain ⟨d66⟩ := i66.def (ps := ["_law_text"]) X G fun _ _ _ _ _ _ us hl => lx1 hl (fun _ => rfl)
  obtain ⟨d67⟩ := i67.def (ps := ["_law_lines", "_law_good", "_law_xs"]) X G fun _ _ _ _ _ _ us hl => lx3 hl (fun _ _ _ => rfl)
  obtain ⟨p1, dd1, its1, n1, sl1, aK1, lK1, hsz1, hst1⟩ := ikwa.ex
  obtain ⟨p2, dd2, its2, n2, sl2, aK2, lK2, hsz2, hst2⟩ := iera.ex
  obtain ⟨p3, dd3, its3, n3, sl3, aK3, lK3, hsz3, hst3⟩ := icla.ex
  obtain ⟨p4, dd4, its4, n4, sl4, aK4, lK4, hsz4, hst4⟩ := ioua.ex
  obtain ⟨p5, dd5, its5, n5, sl5, aK5, lK5, hsz5, hst5⟩ := ioca.ex
  obtain ⟨p6, dd6, its6, n6, sl6, aK6, lK6, hsz6, hst6⟩ := imka.ex
  obtain ⟨pa, pkv, pm0, pd, pv⟩ := ibd.get (P := l.prog) X G
  obtain ⟨e_B⟩ := im_B.def (ps := ["self", "place"]) fun _ _ _ _ _ _ us hl => lx2 hl (fun _ _ => rfl)
  have ef_B : e_B.f = f_B := by
    have q := e_B.me.at_.symm.trans fi_B
    cases q
    rfl
  obtain ⟨f, oc, od, kV, doc, pm, an, cdv, ct, osl, a, lk, c, kp⟩ := i68.ex
  have F := fun_mk (x := "law") (qual := "law") (st := top 68) lk c kp
  have e := hfa.symm.trans (PySem.W.mg_of X G a)
  cases e
  have T : Tx l.prog w K mg := ⟨d12, d13, d14, d15, d18, d19, d20, d40, d41, d42, d21, d22, d43, d32, d33, d34, d35, d36, d37, d38, d39, d44, d45, d46, d47, d48, d49, d50, d51, d53, d54, d55, d56, d57, d58, d59, d60, d61, d62, d63, d64, d65, d66, d67, p1, PySem.W.mg_of X G aK1, fun H => .inr ⟨_, its1, n1, lK1, rfl, rfl, hsz1, strsOf_vals hst1⟩, p2, PySem.W.mg_of X G aK2, fun H => .inr ⟨_, its2, n2, lK2, rfl, rfl, hsz2, strsOf_vals hst2⟩, p3, PySem.W.mg_of X G aK3, fun H => .inr ⟨_, its3, n3, lK3, rfl, rfl, hsz3, strsOf_vals hst3⟩, p4, PySem.W.mg_of X G aK4, fun H => .inr ⟨_, its4, n4, lK4, rfl, rfl, hsz4, strsOf_vals hst4⟩, p5, PySem.W.mg_of X G aK5, fun H => .inr ⟨_, its5, n5, lK5, rfl, rfl, hsz5, strsOf_vals hst5⟩, p6, PySem.W.mg_of X G aK6, fun H => .inr ⟨_, its6, n6, lK6, rfl, rfl, hsz6, strsOf_vals hst6⟩, mlt, (PySem.W.mg_of X G imlt), mvt, (PySem.W.mg_of X G imvt), mft, (PySem.W.mg_of X G imft), nto, (PySem.W.mg_of X G into), skt, (PySem.W.mg_of X G iskt), pa, pm0, pkv, pd, pv, C_BadClock, PySem.W.mg_of X G cx_BadClock, C_NotWaiting, PySem.W.mg_of X G cx_NotWaiting, C_BadDesk, PySem.W.mg_of X G cx_BadDesk, C_BadRow, PySem.W.mg_of X G cx_BadRow, C_BadProgram, PySem.W.mg_of X G cx_BadProgram, C_BadBook, PySem.W.mg_of X G cx_BadBook, C_WatchError, ⟨PySem.W.mg_of X G cx_WatchError, qx_WatchError⟩, PySem.W.mg_of X G cx_WatchError, e_B, ⟨⟨by rw [ef_B]; exact ei_B, ⟨so_B, sa_B, hd_B⟩⟩, e_B.me.fn, kp_B⟩, tk_B, ⟨⟨by rw [o1]; rfl, o2, so_B, o4, o5⟩, findOa o1 o6 o7 o8, ⟨f_B, ei_B⟩, o9, hd_B, fp_B, o_k1, o_k2, o_k3, o_k4, o_k5, o_k6, o_kv⟩, PySem.W.mg_none_of X G z_len, PySem.W.mg_none_of X G z_isinstance, PySem.W.mg_none_of X G z_list, PySem.W.mg_none_of X G z_tuple, PySem.W.mg_none_of X G z_int, PySem.W.mg_none_of X G z_range, PySem.W.mg_none_of X G z_enumerate, PySem.W.mg_none_of X G z_str, PySem.W.mg_none_of X G z_bool, PySem.W.mg_none_of X G z_all, PySem.W.mg_none_of X G z_zip, PySem.W.mg_none_of X G z_min, PySem.W.mg_none_of X G z_ValueError⟩
  refine ⟨PySem.W.fnOf "law" "law" (defArgs (top 68)) (defBody (top 68)) (defScope (top 68)) .none kV doc pm an cdv ct, fun s v => .of_eq rfl, fun base _ _ => ?_⟩
  have g_is_letters := ok_is_letters (P := l.prog) (w := w) (base := base) T  
  have g_is_name := ok_is_name (P := l.prog) (w := w) (base := base) T  g_is_letters
  have g_is_told_word := ok_is_told_word (P := l.prog) (w := w) (base := base) T  g_is_letters
  have g_is_value := ok_is_value (P := l.prog) (w := w) (base := base) T  g_is_name g_is_told_word
  have g_number_of := ok_number_of (P := l.prog) (w := w) (base := base) T  
  have g_bounded := ok_bounded (P := l.prog) (w := w) (base := base) T  g_number_of
  have g_value_of := ok_value_of (P := l.prog) (w := w) (base := base) T  g_number_of g_is_value
  have g_told_value_of := ok_told_value_of (P := l.prog) (w := w) (base := base) T  g_value_of g_is_name
  have g_faults_of_word := ok_faults_of_word (P := l.prog) (w := w) (base := base) T  g_is_name
  have g_field_at := ok_field_at (P := l.prog) (w := w) (base := base) T  g_bounded g_is_name g_told_value_of g_faults_of_word
  have g_fitted := ok_fitted (P := l.prog) (w := w) (base := base) T  g_field_at
  have g_first_fit := ok_first_fit (P := l.prog) (w := w) (base := base) T  g_fitted
  have g_tuple_of := ok_tuple_of (P := l.prog) (w := w) (base := base) T  g_first_fit
  have g_faults_text := ok_faults_text (P := l.prog) (w := w) (base := base) T  
  have g_outcome_text := ok_outcome_text (P := l.prog) (w := w) (base := base) T  g_faults_text
  have g_part_text := ok_part_text (P := l.prog) (w := w) (base := base) T  g_outcome_text g_faults_text
  have g_deed_text := ok_deed_text (P := l.prog) (w := w) (base := base) T  g_part_text
  have g_words_text := ok_words_text (P := l.prog) (w := w) (base := base) T  
  have g_marked_text := ok_marked_text (P := l.prog) (w := w) (base := base) T  g_words_text
  have g_row_text := ok_row_text (P := l.prog) (w := w) (base := base) T  g_deed_text g_marked_text g_words_text
  have g_booktext := ok_booktext (P := l.prog) (w := w) (base := base) T  g_row_text
  have g_who_of := ok_who_of (P := l.prog) (w := w) (base := base) T  g_field_at
  have g_ended_of := ok_ended_of (P := l.prog) (w := w) (base := base) T  g_field_at g_tuple_of
  have g_deed_of := ok_deed_of (P := l.prog) (w := w) (base := base) T  g_tuple_of g_ended_of
  have g_all_or_none := ok_all_or_none (P := l.prog) (w := w) (base := base) T  
  have g_marked_of := ok_marked_of (P := l.prog) (w := w) (base := base) T  g_tuple_of g_all_or_none
  have g_woken_of := ok_woken_of (P := l.prog) (w := w) (base := base) T  g_field_at g_all_or_none
  have g_row_of_line := ok_row_of_line (P := l.prog) (w := w) (base := base) T  g_who_of g_field_at g_deed_of g_marked_of g_woken_of
  have g_BadBook___init__ := ok_BadBook___init__ (P := l.prog) (w := w) (base := base) T  
  have g_read_book := ok_read_book (P := l.prog) (w := w) (base := base) T  g_row_of_line g_BadBook___init__
  have g_l_cell_at := ok_l_cell_at (P := l.prog) (w := w) (base := base) T  
  have g_l_mixed := ok_l_mixed (P := l.prog) (w := w) (base := base) T  
  have g_l_stream := ok_l_stream (P := l.prog) (w := w) (base := base) T  g_l_mixed
  have g_l_name := ok_l_name (P := l.prog) (w := w) (base := base) T  
  have g_l_value := ok_l_value (P := l.prog) (w := w) (base := base) T  
  have g_l_number := ok_l_number (P := l.prog) (w := w) (base := base) T  
  have g_l_faults := ok_l_faults (P := l.prog) (w := w) (base := base) T  g_l_name
  have g_l_errand_deed := ok_l_errand_deed (P := l.prog) (w := w) (base := base) T  g_l_number g_l_name g_l_value g_l_faults
  have g_l_row := ok_l_row (P := l.prog) (w := w) (base := base) T  g_l_stream g_l_number g_l_name g_l_value g_l_errand_deed
  have g_l_word := ok_l_word (P := l.prog) (w := w) (base := base) T   1
  have g_l_line := ok_l_line (P := l.prog) (w := w) (base := base) T  g_l_word
  have g_l_none := ok_l_none (P := l.prog) (w := w) (base := base) T  
  have g_l_spoilt := ok_l_spoilt (P := l.prog) (w := w) (base := base) T  g_l_none
  have g_l_refused := ok_l_refused (P := l.prog) (w := w) (base := base) T  g_read_book
  have g_l_right := ok_l_right (P := l.prog) (w := w) (base := base) T  g_l_spoilt g_l_none g_l_refused
  exact ok_law T F  g_l_cell_at g_l_row g_l_line g_l_stream g_l_right g_read_book g_booktext

end
end K81
open PySem PySem.W PyProof.Rows
namespace PySem.W.Fast
def tw7346717921719622816:=()
def tw14382765301429720118:=()
def tw16100764660515884005:=()
def tw8217421450030016884:=()
def tw15518230448899099413:=()
def tw13442850563405678630:=()
def tw7216411047059075259:=()
def tw9593752357592493732:=()
def tw2665883673538386586:=()
def tw13654549691461368649:=()
def tw998949151103186640:=()
def tw6064120411144632178:=()
def tw12056984779591723728:=()
def tw7993605596350818296:=()
def tw14131644947612783006:=()
def tw5830550381823845189:=()
def tw11922413364387934401:=()
def tw11427229150626347115:=()
def tw18350945953438542864:=()
def tw17197963925393628043:=()
def tw1299346762495595993:=()
def tw15248787534432133821:=()
def tw700857362515987715:=()
def tw10089020935677029580:=()
def tw8361200064681028854:=()
def tw18347519324599234594:=()
def tw14955448707319412928:=()
def tw7527408894826882608:=()
def tw12693204166394945210:=()
def tw16555058483395964698:=()
def tw17014015642035830671:=()
def tw11088079503911515485:=()
def tw2822301272297944750:=()
def tw17890395412287238936:=()
def tw12402576816608612724:=()
def tw8915897498052605900:=()
def tw5052402037449220174:=()
def tw10376439924640493939:=()
def tw4900332749994361781:=()
def tw11518924587150736031:=()
def tw3389653922821310464:=()
def tw9338726640270039620:=()
def tw12818772759603731820:=()
def tw16115754426708982173:=()
def tw1390836343412762430:=()
def tw10788743410460945475:=()
def tw8348698231257114608:=()
def tw6849192122363202787:=()
def tw7527622780040788436:=()
def tw4726955397022779683:=()
def tw6845143642711701279:=()
def tw9676182313634755707:=()
def tw3174597372936512879:=()
def tw5742441663434531563:=()
def tw12576000150649323716:=()
def tw12760577315926208902:=()
def tw3044319932831836078:=()
def tw12896406620950528938:=()
def tw18199744904784263887:=()
def tw1012080627123432260:=()
def tw12094389488228158165:=()
def tw1908747960983093911:=()
def tw12887813325997747455:=()
def tw18431936746489666471:=()
def tw9066990449228300832:=()
def tw12627022746494805677:=()
def tw6544896340720316033:=()
def tw1900662261684827468:=()
def tw6232345815960215127:=()
def tw631997088313122859:=()
def tw13477187309189248226:=()
def tw16728629428726249517:=()
def tw12255696686245540809:=()
def tw7729529793243584796:=()
def tw12912099985859508436:=()
def tw11032052340483508264:=()
def tw7059742250145117286:=()
def tw2655833072935865899:=()
def tw13064479673791458909:=()
def tw11347547856420926789:=()
def tw13963972910533504594:=()
def tw11563234633537209514:=()
def tw8048439385121848478:=()
def tw14695171672739065739:=()
def tw15633121669057166403:=()
def tw3544332236274090239:=()
def tw3137516365358586308:=()
def tw3512447554420914230:=()
def tw8019205808923355546:=()
def tw9205675921319832100:=()
def tw11588299929422632387:=()
def tw4749229917107155068:=()
def tw12742909483375207957:=()
def tw15547214788216234902:=()
def tw13841948839058984693:=()
def tw241782912421786434:=()
def tw700088982730088388:=()
def tw7226053646207201506:=()
def tw809283479157128866:=()
def tw16867453509674941181:=()
def tw10741381855343635644:=()
def tw3441162098492335305:=()
def tw10452892755398620553:=()
def tw7955724522877620519:=()
def tw7392436476201511527:=()
def tw16582940599346775586:=()
def tw6327650330603150033:=()
def tw6921718906463882419:=()
def tw14852729484236781621:=()
def tw1417252541117730199:=()
def tw1093887073306834752:=()
def tw14299193134693121280:=()
def tw3468301769323238476:=()
def tw16862236240588205117:=()
def tw13830676233231016056:=()
def tw41618869439162403:=()
def tw7413657612177492483:=()
def tw4395681819919559198:=()
def tw15663069885983748515:=()
def tw9937192928014167280:=()
def tw4173146169477220639:=()
def tw10689091701609231836:=()
def tw5593832819997943774:=()
def tw15716805448634825501:=()
def tw10827710722800625401:=()
def tw7299746536587631349:=()
def tw18403219611572485288:=()
def tw3321704912006517719:=()
def tw17571668458422574037:=()
def tw15256458513680281464:=()
def tw7135255374091652004:=()
def tw11997339250129118446:=()
def tw8644408337289236944:=()
def tw478431905662606002:=()
def tw500930354974888727:=()
def tw3018081836662098333:=()
def tw17435873827344939373:=()
def tw4642428738123838984:=()
def tw12068847338666927220:=()
def tw4432679896048581206:=()
def tw3373185714357863824:=()
def tw12368337652666054941:=()
def tw17118725820096599896:=()
def tw507520583223215667:=()
def tw2350012055143843657:=()
def tw15184437337886158813:=()
def tw9910838949887326019:=()
def tw845493514138278531:=()
def tw13631505018908615708:=()
def tw18266129343589894519:=()
def tw14175692334264847774:=()
def tw14635667144852986310:=()
def tw11824298428818054299:=()
def tw4996938791462411262:=()
def tw17330109620838951251:=()
def tw13211012700482183089:=()
def tw4711534361899606721:=()
def tw6843739929988185436:=()
def tw598649073433727701:=()
def tw8098664503904857989:=()
def tw679816221426939097:=()
def tw11065015800571005296:=()
def tw909818604508619763:=()
def tw13639431232209172498:=()
def tw2399640900704424902:=()
def tw1284498931689853838:=()
def tw11483360579491582347:=()
def tw2988170587793467360:=()
def tw3052406167906221449:=()
def tw14362814569429062312:=()
def tw16752296218220340013:=()
def tw3438818865686095312:=()
def tw6501442546392612481:=()
def tw11835108986993622197:=()
def tw9811287516944232501:=()
def tw16053456223792204221:=()
def tw6211767321309545781:=()
def tw4419266253743134333:=()
def tw246963824731323291:=()
def tw924640321543176033:=()
def tw15738377370376972039:=()
def tw4008229694212912853:=()
def tw9907327470400245221:=()
def tw8291362845336619413:=()
def tw5729521037902407031:=()
def tw16563129032225924534:=()
def tw10494331799010623291:=()
def tw10022974470022673059:=()
def tw18261813116824846748:=()
def tw15560531604164711237:=()
def tw16278368459850475288:=()
def tw11927824829932397936:=()
def tw5605176112259799469:=()
def tw17961535925158348129:=()
def tw13406101635270369274:=()
def tw14399429100742047927:=()
def tw2650456183412288940:=()
def tw16035507626897834750:=()
def tw15282156938089698458:=()
def tw14604584261712295625:=()
def tw14546163030702865497:=()
def tw10532346091321631748:=()
def tw7596404883484825289:=()
def tw3149998100473979827:=()
def tw14410427333101798313:=()
def tw14039966780361590132:=()
def tw13572009449937550198:=()
def tw13142293645664809869:=()
def tw14321348795615237258:=()
def tw261131851673128448:=()
def tw296620291796020307:=()
def tw1103824300380636015:=()
def tw16619889040032740370:=()
def tw10494595625781897543:=()
def tw8823144070409140969:=()
def tw13475246331230967562:=()
def tw1928700037161289239:=()
def tw2962390855285952848:=()
def tw1240313701366161369:=()
def tw13830867186241662738:=()
def tw7827907108147500855:=()
def tw17834634452279523085:=()
def tw1667725359940396924:=()
def tw11737881023499409609:=()
def tw4366165867084223287:=()
def tw12205944986459815207:=()
def tw7000090191935560934:=()
def tw2085832609942733484:=()
def tw325662227951300700:=()
def tw13758212768514743989:=()
end PySem.W.Fast
set_option maxRecDepth 100000 in
set_option maxHeartbeats 0 in
theorem PySem.Challenge.cw_nightwatch_k81_texts_refused_holds : PySem.Challenge.rw_nightwatch_k81_texts_refused.Holds := by
  w_on; o_law; k_head; (case hw => w_witness2)
  k_fill
  refine L2.walk_ofK (l := PySem.Challenge.rw_nightwatch_k81_texts_refused) (n := 63) (k := 31) (x := "_law_script") (CX := L2.CX0) (sp := K81.spLaw) rfl (by decide) rfl ⟨rfl, by decide, by decide⟩ (fun w h Y => PySem.W.kIn_of Y) ?F (fun K H a ns hl _ hS => ⟨a, ns, rfl, hS, hl, fun _ => rfl⟩) (fun _ _ _ _ z => z)
  case F =>
    intro w mg fa h KX G hmg
    refine' K81.law_fn KX G hmg ?i12 ?i13 ?i14 ?i15 ?i18 ?i19 ?i20 ?i40 ?i41 ?i42 ?i21 ?i22 ?i43 ?i32 ?i33 ?i34 ?i35 ?i36 ?i37 ?i38 ?i39 ?i44 ?i45 ?i46 ?i47 ?i48 ?i49 ?i50 ?i51 ?i53 ?i54 ?i55 ?i56 ?i57 ?i58 ?i59 ?i60 ?i61 ?i62 ?i63 ?i64 ?i65 ?i66 ?i67 ?i68 ?ikwa ?iera ?icla ?ioua ?ioca ?imka ?imlt ?imvt ?imft ?into ?iskt ?ibd ?cx_BadClock ?cx_NotWaiting ?cx_BadDesk ?cx_BadRow ?cx_BadProgram ?cx_BadBook ?cx_WatchError ?qx_WatchError ?im_B ?fi_B ?ei_B ?so_B ?sa_B ?hd_B ?kp_B ?tk_B ?fp_B ?o1 ?o2 ?o4 ?o5 ?o6 ?o7 ?o8 ?o9 ?o_k1 ?o_k2 ?o_k3 ?o_k4 ?o_k5 ?o_k6 ?o_kv ?z_len ?z_isinstance ?z_list ?z_tuple ?z_int ?z_range ?z_enumerate ?z_str ?z_bool ?z_all ?z_zip ?z_min ?z_ValueError
    case i12 =>
      refine' L2.InK.of ?a ?l ?c ?k
      (case a => k_is); (case l => k_is); (case c => k_is); (case k => k_is)
    case i13 =>
      refine' L2.InK.of ?a ?l ?c ?k
      (case a => k_is); (case l => k_is); (case c => k_is); (case k => k_is)
    case i14 =>
      refine' L2.InK.of ?a ?l ?c ?k
      (case a => k_is); (case l => k_is); (case c => k_is); (case k => k_is)
    case i15 =>
      refine' L2.InK.of ?a ?l ?c ?k
      (case a => k_is); (case l => k_is); (case c => k_is); (case k => k_is)
    case i18 =>
      refine' L2.InK.of ?a ?l ?c ?k
      (case a => k_is); (case l => k_is); (case c => k_is); (case k => k_is)
    case i19 =>
      refine' L2.InK.of ?a ?l ?c ?k
      (case a => k_is); (case l => k_is); (case c => k_is); (case k => k_is)
    case i20 =>
      refine' L2.InK.of ?a ?l ?c ?k
      (case a => k_is); (case l => k_is); (case c => k_is); (case k => k_is)
    case i40 =>
      refine' L2.InK.of ?a ?l ?c ?k
      (case a => k_is); (case l => k_is); (case c => k_is); (case k => k_is)
    case i41 =>
      refine' L2.InK.of ?a ?l ?c ?k
      (case a => k_is); (case l => k_is); (case c => k_is); (case k => k_is)
    case i42 =>
      refine' L2.InK.of ?a ?l ?c ?k
      (case a => k_is); (case l => k_is); (case c => k_is); (case k => k_is)
    case i21 =>
      refine' L2.InK.of ?a ?l ?c ?k
      (case a => k_is); (case l => k_is); (case c => k_is); (case k => k_is)
    case i22 =>
      refine' L2.InK.of ?a ?l ?c ?k
      (case a => k_is); (case l => k_is); (case c => k_is); (case k => k_is)
    case i43 =>
      refine' L2.InK.of ?a ?l ?c ?k
      (case a => k_is); (case l => k_is); (case c => k_is); (case k => k_is)
    case i32 =>
      refine' L2.InK.of ?a ?l ?c ?k
      (case a => k_is); (case l => k_is); (case c => k_is); (case k => k_is)
    case i33 =>
      refine' L2.InK.of ?a ?l ?c ?k
      (case a => k_is); (case l => k_is); (case c => k_is); (case k => k_is)
    case i34 =>
      refine' L2.InK.of ?a ?l ?c ?k
      (case a => k_is); (case l => k_is); (case c => k_is); (case k => k_is)
    case i35 =>
      refine' L2.InK.of ?a ?l ?c ?k
      (case a => k_is); (case l => k_is); (case c => k_is); (case k => k_is)
    case i36 =>
      refine' L2.InK.of ?a ?l ?c ?k
      (case a => k_is); (case l => k_is); (case c => k_is); (case k => k_is)
    case i37 =>
      refine' L2.InK.of ?a ?l ?c ?k
      (case a => k_is); (case l => k_is); (case c => k_is); (case k => k_is)
    case i38 =>
      refine' L2.InK.of ?a ?l ?c ?k
      (case a => k_is); (case l => k_is); (case c => k_is); (case k => k_is)
    case i39 =>
      refine' L2.InK.of ?a ?l ?c ?k
      (case a => k_is); (case l => k_is); (case c => k_is); (case k => k_is)
    case i44 =>
      refine' L2.InK.of ?a ?l ?c ?k
      (case a => k_is); (case l => k_is); (case c => k_is); (case k => k_is)
    case i45 =>
      refine' L2.InK.of ?a ?l ?c ?k
      (case a => k_is); (case l => k_is); (case c => k_is); (case k => k_is)
    case i46 =>
      refine' L2.InK.of ?a ?l ?c ?k
      (case a => k_is); (case l => k_is); (case c => k_is); (case k => k_is)
    case i47 =>
      refine' L2.InK.of ?a ?l ?c ?k
      (case a => k_is); (case l => k_is); (case c => k_is); (case k => k_is)
    case i48 =>
      refine' L2.InK.of ?a ?l ?c ?k
      (case a => k_is); (case l => k_is); (case c => k_is); (case k => k_is)
    case i49 =>
      refine' L2.InK.of ?a ?l ?c ?k
      (case a => k_is); (case l => k_is); (case c => k_is); (case k => k_is)
    case i50 =>
      refine' L2.InK.of ?a ?l ?c ?k
      (case a => k_is); (case l => k_is); (case c => k_is); (case k => k_is)
    case i51 =>
      refine' L2.InK.of ?a ?l ?c ?k
      (case a => k_is); (case l => k_is); (case c => k_is); (case k => k_is)
    case i53 =>
      refine' L2.InK.of ?a ?l ?c ?k
      (case a => k_is); (case l => k_is); (case c => k_is); (case k => k_is)
    case i54 =>
      refine' L2.InK.of ?a ?l ?c ?k
      (case a => k_is); (case l => k_is); (case c => k_is); (case k => k_is)
    case i55 =>
      refine' L2.InK.of ?a ?l ?c ?k
      (case a => k_is); (case l => k_is); (case c => k_is); (case k => k_is)
    case i56 =>
      refine' L2.InK.of ?a ?l ?c ?k
      (case a => k_is); (case l => k_is); (case c => k_is); (case k => k_is)
    case i57 =>
      refine' L2.InK.of ?a ?l ?c ?k
      (case a => k_is); (case l => k_is); (case c => k_is); (case k => k_is)
    case i58 =>
      refine' L2.InK.of ?a ?l ?c ?k
      (case a => k_is); (case l => k_is); (case c => k_is); (case k => k_is)
    case i59 =>
      refine' L2.InK.of ?a ?l ?c ?k
      (case a => k_is); (case l => k_is); (case c => k_is); (case k => k_is)
    case i60 =>
      refine' L2.InK.of ?a ?l ?c ?k
      (case a => k_is); (case l => k_is); (case c => k_is); (case k => k_is)
    case i61 =>
      refine' L2.InK.of ?a ?l ?c ?k
      (case a => k_is); (case l => k_is); (case c => k_is); (case k => k_is)
    case i62 =>
      refine' L2.InK.of ?a ?l ?c ?k
      (case a => k_is); (case l => k_is); (case c => k_is); (case k => k_is)
    case i63 =>
      refine' L2.InK.of ?a ?l ?c ?k
      (case a => k_is); (case l => k_is); (case c => k_is); (case k => k_is)
    case i64 =>
      refine' L2.InK.of ?a ?l ?c ?k
      (case a => k_is); (case l => k_is); (case c => k_is); (case k => k_is)
    case i65 =>
      refine' L2.InK.of ?a ?l ?c ?k
      (case a => k_is); (case l => k_is); (case c => k_is); (case k => k_is)
    case i66 =>
      refine' L2.InK.of ?a ?l ?c ?k
      (case a => k_is); (case l => k_is); (case c => k_is); (case k => k_is)
    case i67 =>
      refine' L2.InK.of ?a ?l ?c ?k
      (case a => k_is); (case l => k_is); (case c => k_is); (case k => k_is)
    case i68 =>
      refine' L2.InK.of ?a ?l ?c ?k
      (case a => k_is); (case l => k_is); (case c => k_is); (case k => k_is)
    case ikwa =>
      refine' L2.InT.of ?a ?l ?s ?v
      (case a => k_is); (case l => k_is); (case s => decide); (case v => decide +kernel)
    case iera =>
      refine' L2.InT.of ?a ?l ?s ?v
      (case a => k_is); (case l => k_is); (case s => decide); (case v => decide +kernel)
    case icla =>
      refine' L2.InT.of ?a ?l ?s ?v
      (case a => k_is); (case l => k_is); (case s => decide); (case v => decide +kernel)
    case ioua =>
      refine' L2.InT.of ?a ?l ?s ?v
      (case a => k_is); (case l => k_is); (case s => decide); (case v => decide +kernel)
    case ioca =>
      refine' L2.InT.of ?a ?l ?s ?v
      (case a => k_is); (case l => k_is); (case s => decide); (case v => decide +kernel)
    case imka =>
      refine' L2.InT.of ?a ?l ?s ?v
      (case a => k_is); (case l => k_is); (case s => decide); (case v => decide +kernel)
    (case imlt => k_is)
    (case imvt => k_is)
    (case imft => k_is)
    (case into => k_is)
    (case iskt => k_is)
    case ibd =>
      refine' K81.InBD.of ?a ?l ?s ?q1 ?q2 ?q3 ?q4 ?q5 ?q6 ?q7
      (case a => k_is); (case l => k_is); (case s => decide)
      case q1 =>
        refine' K81.InI.of ?l ?s ?v
        (case l => k_is); (case s => decide); (case v => decide +kernel)
      case q2 =>
        refine' K81.InI.of ?l ?s ?v
        (case l => k_is); (case s => decide); (case v => decide +kernel)
      case q3 =>
        refine' K81.InI.of ?l ?s ?v
        (case l => k_is); (case s => decide); (case v => decide +kernel)
      case q4 =>
        refine' K81.InI.of ?l ?s ?v
        (case l => k_is); (case s => decide); (case v => decide +kernel)
      case q5 =>
        refine' K81.InI.of ?l ?s ?v
        (case l => k_is); (case s => decide); (case v => decide +kernel)
      case q6 =>
        refine' K81.InI.of ?l ?s ?v
        (case l => k_is); (case s => decide); (case v => decide +kernel)
      case q7 =>
        refine' K81.InI.of ?l ?s ?v
        (case l => k_is); (case s => decide); (case v => decide +kernel)
    (case cx_BadClock => k_is)
    (case cx_NotWaiting => k_is)
    (case cx_BadDesk => k_is)
    (case cx_BadRow => k_is)
    (case cx_BadProgram => k_is)
    (case cx_BadBook => k_is)
    (case cx_WatchError => k_is)
    (case qx_WatchError => k_exc)
    case im_B =>
      refine' L2.InM.of ?a ?i ?l ?c ?k
      (case a => k_is); (case i => k_is); (case l => k_is); (case c => k_is); (case k => k_is)
    (case fi_B => k_is)
    case ei_B =>
      refine' L2.excInI_of (nid := "ValueError.__new__") ?zz1 ?zz2 ?zz3 ?zz4 ?zz5 ?zz6 ?zz7 ?zz8 ?zz9 ?zz10 ?zz11
      (case zz1 => k_is); (case zz2 => rfl); (case zz3 => rfl); (case zz4 => rfl); (case zz5 => k_is); (case zz6 => rfl); (case zz7 => k_exc); (case zz8 => rfl); (case zz9 => k_is); (case zz10 => rfl); (case zz11 => k_is)
    (case so_B => k_is)
    (case sa_B => k_is)
    (case hd_B => k_is)
    (case kp_B => k_is)
    (case tk_B => k_is)
    (case fp_B => k_is)
    (case o1 => k_is)
    (case o2 => k_is)
    (case o4 => k_is)
    (case o5 => k_is)
    (case o6 => k_is)
    (case o7 => k_is)
    (case o8 => k_is)
    (case o9 => k_is)
    (case o_k1 => kit_is)
    (case o_k2 => kit_is)
    (case o_k3 => kit_is)
    (case o_k4 => kit_is)
    (case o_k5 => kit_is)
    (case o_k6 => kit_is)
    (case o_kv => kit_is)
    (case z_len => k_is)
    (case z_isinstance => k_is)
    (case z_list => k_is)
    (case z_tuple => k_is)
    (case z_int => k_is)
    (case z_range => k_is)
    (case z_enumerate => k_is)
    (case z_str => k_is)
    (case z_bool => k_is)
    (case z_all => k_is)
    (case z_zip => k_is)
    (case z_min => k_is)
    (case z_ValueError => k_is)
#print axioms PySem.Challenge.cw_nightwatch_k81_texts_refused_holds

