import PyProof.Rows.All
import Wide.All
import OpenK.AllK
import Wide.FinOn
import Lean
import PyProof.EqAt
import PyProof.EqKinds
import PyProof.NeKinds
import PyProof.TupleCall
import KE.KPairComp
import PySem.Challenge.RW_nightwatch_k40_boxes
set_option Elab.async false
set_option linter.all false
set_option genSizeOf false
set_option maxRecDepth 100000
namespace L2
open PySem PySem.Spec PyProof.Rows

abbrev Key := Sum Int Str
def keyIs : Key → Value → Bool
  | .inl k, v => Value.isInt k v
  | .inr x, v => Value.isStrOf x v
def keyH (w : World) : Key → Int
  | .inl k => hashInt k
  | .inr x => hashStr w x
theorem keyIs_shape : ∀ {k : Key} {v : Value}, keyIs k v = true → (∃ i t, k = Sum.inl i ∧ v = Value.int i t) ∨ (∃ x t, k = Sum.inr x ∧ v = Value.str x t)
  | .inl i, v, h => by
    obtain ⟨t, e⟩ := Value.isInt_shape (k := i) (v := v) h
    exact .inl ⟨i, t, rfl, e⟩
  | .inr x, v, h => by
    obtain ⟨t, e⟩ := Value.isStrOf_shape (x := x) (v := v) h
    exact .inr ⟨x, t, rfl, e⟩
theorem keyIs_int (i : Int) (t : Tok) : keyIs (.inl i) (.int i t) = true := by simp [keyIs, Value.isInt]
theorem keyIs_str (x : Str) (t : Tok) : keyIs (.inr x) (.str x t) = true := by simp [keyIs, Value.isStrOf]
theorem key_ll (a b : Int) : decide ((Sum.inl a : Key) = Sum.inl b) = (a == b) := by
  by_cases e : a = b
  · subst e; simp
  · have h : ¬ (Sum.inl a : Key) = Sum.inl b := fun q => e (Sum.inl.inj q)
    rw [decide_eq_false h]
    exact (beq_eq_false_iff_ne.mpr e).symm
theorem key_rr (a b : Str) : decide ((Sum.inr a : Key) = Sum.inr b) = decide (a = b) := by
  by_cases e : a = b
  · subst e; simp
  · have h : ¬ (Sum.inr a : Key) = Sum.inr b := fun q => e (Sum.inr.inj q)
    rw [decide_eq_false h, decide_eq_false e]
theorem key_lr (a : Int) (b : Str) : decide ((Sum.inl a : Key) = Sum.inr b) = false := decide_eq_false (fun q => nomatch q)
theorem key_rl (a : Str) (b : Int) : decide ((Sum.inr a : Key) = Sum.inl b) = false := decide_eq_false (fun q => nomatch q)

def mixKind (prog : Program) (w : World) : PySem.KeyKind prog w Key where
  is := keyIs
  hash := keyH w
  inj := fun v a b ha hb => by
    rcases keyIs_shape ha with ⟨i, t, rfl, rfl⟩ | ⟨x, t, rfl, rfl⟩
    · rcases keyIs_shape hb with ⟨j, u, rfl, e⟩ | ⟨y, u, rfl, e⟩
      · injection e with e1 _; rw [e1]
      · exact nomatch e
    · rcases keyIs_shape hb with ⟨j, u, rfl, e⟩ | ⟨y, u, rfl, e⟩
      · exact nomatch e
      · injection e with e1 _; rw [e1]
  byValue := fun k v h => by
    rcases keyIs_shape h with ⟨i, t, rfl, rfl⟩ | ⟨x, t, rfl, rfl⟩ <;> rfl
  pyHash := fun hv h => by
    rcases keyIs_shape hv with ⟨i, t, rfl, rfl⟩ | ⟨x, t, rfl, rfl⟩
    · exact wpAny_pyHash_int h
    · exact wpAny_pyHash_str h
  eqBool := fun hu hv h => by
    rcases keyIs_shape hu with ⟨i, t, rfl, rfl⟩ | ⟨x, t, rfl, rfl⟩
    · rcases keyIs_shape hv with ⟨j, u, rfl, rfl⟩ | ⟨y, u, rfl, rfl⟩
      · rw [key_ll] at h; exact wpAny_eqBool_int h
      · rw [key_lr] at h; exact SeqAt.EqAt.int_str i t y u _ _ _ _ h
    · rcases keyIs_shape hv with ⟨j, u, rfl, rfl⟩ | ⟨y, u, rfl, rfl⟩
      · rw [key_rl] at h; exact SeqAt.EqAt.str_int x t j u _ _ _ _ h
      · rw [key_rr] at h; exact wpAny_eqBool_str h
  «strs» := fun k x t v h => by
    rcases keyIs_shape h with ⟨i, u, rfl, e⟩ | ⟨y, u, rfl, e⟩
    · exact nomatch e
    · injection e with e1 _
      subst e1
      cases v <;> rfl

theorem mixKind_is (prog : Program) (w : World) (k : Key) (v : Value) : (mixKind prog w).is k v = keyIs k v := rfl
theorem mixKind_int (prog : Program) (w : World) (i : Int) (t : Tok) : (mixKind prog w).is (.inl i) (.int i t) = true := keyIs_int i t
theorem mixKind_str (prog : Program) (w : World) (x : Str) (t : Tok) : (mixKind prog w).is (.inr x) (.str x t) = true := keyIs_str x t
end L2

namespace L2
open PySem PySem.Spec PyProof.Rows

inductive V where
  | non | bl (b : Bool) | int (i : Int) | str (x : Str) | byt (b : Array UInt8) | flt (b : UInt64) | ref (a : Addr) | ty (n : String)
  deriving DecidableEq

def RelV : V → Value → Prop
  | .non, u => u = Value.none
  | .bl b, u => u = Value.bool b
  | .int i, u => ∃ t, u = Value.int i t
  | .str x, u => ∃ t, u = Value.str x t
  | .byt b, u => ∃ t, u = Value.bytes b t
  | .flt b, u => ∃ t, u = Value.float b t
  | .ref a, u => u = Value.ref a
  | .ty n, u => u = Value.type n

abbrev Vals : List V → List Value → Prop := Paired RelV
theorem Vals.length {xs : List V} {us : List Value} (r : Vals xs us) : xs.length = us.length := Paired.length r
theorem Vals.get : ∀ {xs : List V} {us : List Value} {i : Nat} {x : V}, Vals xs us → xs[i]? = some x → ∃ u, us[i]? = some u ∧ RelV x u
  | _, _, _, _, .nil, e => by simp at e
  | _, _, 0, _, .cons r _, e => by simp at e; subst e; exact ⟨_, rfl, r⟩
  | _, _, i + 1, x, .cons _ t, e => by
    obtain ⟨u, h1, h2⟩ := Vals.get (i := i) (x := x) t (by simpa using e)
    exact ⟨u, by simpa using h1, h2⟩
theorem Vals.set {x : V} {u : Value} (r : RelV x u) : ∀ {xs : List V} {us : List Value} (i : Nat), Vals xs us → Vals (xs.set i x) (us.set i u)
  | _, _, _, .nil => .nil
  | _, _, 0, .cons _ t => .cons r t
  | _, _, i + 1, .cons q t => .cons q (Vals.set r i t)
theorem Vals.append : ∀ {xs ys : List V} {us ws : List Value}, Vals xs us → Vals ys ws → Vals (xs ++ ys) (us ++ ws)
  | _, _, _, _, .nil, s => s
  | _, _, _, _, .cons r t, s => .cons r (Vals.append t s)
theorem Vals.take : ∀ {xs : List V} {us : List Value} (n : Nat), Vals xs us → Vals (xs.take n) (us.take n)
  | _, _, 0, _ => .nil
  | _, _, _ + 1, .nil => .nil
  | _, _, n + 1, .cons r t => .cons r (Vals.take n t)
theorem Vals.drop : ∀ {xs : List V} {us : List Value} (n : Nat), Vals xs us → Vals (xs.drop n) (us.drop n)
  | _, _, 0, r => r
  | _, _, _ + 1, .nil => .nil
  | _, _, n + 1, .cons _ t => Vals.drop n t
theorem Vals.none_of : ∀ {xs : List V} {us : List Value} {i : Nat}, Vals xs us → xs[i]? = none → us[i]? = none := fun {xs us i} r e => by
  have h1 := r.length
  have h2 : xs.length ≤ i := List.getElem?_eq_none_iff.mp e
  exact List.getElem?_eq_none_iff.mpr (by omega)

def RelO : Option V → Option Value → Prop
  | some v, some u => RelV v u
  | none, none => True
  | _, _ => False
def KV {κ : Type} : List (κ × V) → List (κ × Value) → Prop := Paired fun (p : κ × V) (q : κ × Value) => p.1 = q.1 ∧ RelV p.2 q.2

def kV : Key → V
  | .inl i => .int i
  | .inr x => .str x

inductive HO where
  | lst (xs : List V)
  | tup (xs : List V)
  | dK (kvs : List (Key × V)) | dT (kvs : List (List Key × V))
  | set (S : Int → Bool) (n : Nat)
  | ins (C dx : Addr) (fs : List (Str × V))
  | own (x : Addr)
  | xd (fs : List (Str × V))
  | met (f x : Addr)
  | rng (lo hi : Int)
  | frz (o : Obj) (u : HO)
  | tbl (ps : Array Value)
  | ext (φ : Heap → Prop)

abbrev Hp := Addr → Option HO
def upd (H : Hp) (a : Addr) (o : HO) : Hp := fun b => if b = a then some o else H b
theorem upd_same {H : Hp} {a : Addr} {o : HO} : upd H a o a = some o := by unfold upd; rw [if_pos rfl]
theorem upd_ne {H : Hp} {a b : Addr} {o : HO} (h : b ≠ a) : upd H a o b = H b := by unfold upd; rw [if_neg h]
theorem ne_of {H : Hp} {a b : Addr} {o u : HO} (h : H a = some o) (h' : H b = some u) (d : o ≠ u) : a ≠ b := by
  intro e; subst e; rw [h] at h'; exact d (Option.some.inj h')
theorem ne_of_none {H : Hp} {a b : Addr} {o : HO} (h : H a = some o) (h' : H b = none) : a ≠ b := by
  intro e; subst e; rw [h] at h'; cases h'

section
variable (P : Program) (w : World)
def ObjOk (H : Hp) (h : Heap) (a : Addr) : HO → Prop
  | .lst xs => xs.length ≤ sizeLine ∧ ∃ (its : List Value) (n : Nat), Vals xs its ∧ h.get? a = some { cls := .type "list", data := .seq its.toArray n }
  | .tup xs => xs.length ≤ sizeLine ∧ ∃ its : List Value, Vals xs its ∧ IsTup h a its.toArray
  | .dK kvs => kvs.length ≤ sizeLine ∧ (a == sysModules) = false ∧ ∃ vs, KV kvs vs ∧ h.DictOf (mixKind P w) a vs
  | .dT kvs => kvs.length ≤ sizeLine ∧ (a == sysModules) = false ∧ ∃ xs : List (List Key × Addr × Value),
      Paired (fun (p : List Key × V) (q : List Key × Addr × Value) => p.1 = q.1 ∧ H q.2.1 = some (.tup (p.1.map kV)) ∧ RelV p.2 q.2.2) kvs xs ∧
      ∃ o es ep, h.get? a = some o ∧ o.ExactDict ∧ o.data = .dict es ep ∧ es.toList = xs.map (entryOfKey (tupleKind (mixKind P w))) ∧ (xs.map (·.1)).Nodup
  | .set S n => h.SetOf (intKind P w) a S n
  | .ins C dx fs => H dx = some (.own a) ∧ fs.length ≤ 1000 ∧ dx ≠ a ∧ h.get? a = some (PySem.W.instObj C dx) ∧
      ∃ mA, h.Ns1 dx mA ∧ (∀ f, RelO (fs.lookup f) (mA f)) ∧ PySem.Within mA (fs.map (·.1))
  | .own _ => ∃ o, h.get? a = some o
  | .xd fs => ∃ mA, h.Ns1 a mA ∧ ∀ f, RelO (fs.lookup f) (mA f)
  | .rng lo hi => ∃ t u v, h.get? a = some { cls := .type "range", data := .fields #[.int lo t, .int hi u, .int 1 v] }
  | .frz o u => h.get? a = some o ∧ ObjOk H h a u
  | .tbl ps => h.get? a = some { cls := .none, data := .fields ps }
  | .met f x => h.get? a = some (PySem.W.methodObj (.ref f) (.ref x))
  | .ext φ => φ h ∧ (∃ o, h.get? a = some o) ∧ ∀ h1 h2 : Heap, φ h1 → (∀ o, h1.get? a = some o → h2.get? a = some o) → φ h2
def HOk (H : Hp) (h : Heap) : Prop := ∀ a o, H a = some o → ObjOk P w H h a o
end

section
variable {P : Program} {w : World} {H H' : Hp} {h h' : Heap} {a : Addr} {o : HO}
theorem ObjOk.lt (x : ObjOk P w H h a o) : a < h.objs.size := by
  cases o with
  | lst xs => obtain ⟨_, _, _, _, e⟩ := x; exact Heap.lt_size e
  | tup xs => obtain ⟨_, _, _, p⟩ := x; exact p.lt
  | dK kvs => obtain ⟨_, _, _, _, o, _, _, e, _⟩ := x; exact Heap.lt_size e
  | dT kvs => obtain ⟨_, _, _, _, o, _, _, e, _⟩ := x; exact Heap.lt_size e
  | set S n => obtain ⟨o, _, _, _, e, _⟩ := x; exact Heap.lt_size e
  | ins C dx fs => obtain ⟨_, _, _, e, _⟩ := x; exact Heap.lt_size e
  | own y => obtain ⟨_, e⟩ := x; exact Heap.lt_size e
  | xd fs => obtain ⟨_, ⟨_, _, _, e, _⟩, _⟩ := x; exact Heap.lt_size e
  | rng lo hi => obtain ⟨_, _, _, e⟩ := x; exact Heap.lt_size e
  | frz ob u => obtain ⟨e, _⟩ := x; exact Heap.lt_size e
  | tbl ps => exact Heap.lt_size (show h.get? a = some _ from x)
  | met f y => exact Heap.lt_size (show h.get? a = some _ from x)
  | ext φ => obtain ⟨_, ⟨_, e⟩, _⟩ := x; exact Heap.lt_size e
theorem Paired.mapP {α β : Type} {F G : α → β → Prop} : ∀ {l₁ : List α} {l₂ : List β}, Paired F l₁ l₂ → (∀ a b, F a b → G a b) → Paired G l₁ l₂
  | _, _, .nil, _ => .nil
  | _, _, .cons r t, f => .cons (f _ _ r) (Paired.mapP t f)
theorem ObjOk.stay (x : ObjOk P w H h a o) (k : ∀ b u, (b = a ∨ H b = some (.own a)) → h.get? b = some u → h'.get? b = some u)
    (ho : ∀ b, H b = some (.own a) → H' b = some (.own a)) (ht : ∀ b xs, H b = some (.tup xs) → H' b = some (.tup xs)) : ObjOk P w H' h' a o := by
  induction o with
  | lst xs => obtain ⟨z, its, n, r, e⟩ := x; exact ⟨z, its, n, r, k _ _ (.inl rfl) e⟩
  | tup xs => obtain ⟨z, its, r, ob, e, c⟩ := x; exact ⟨z, its, r, ob, k _ _ (.inl rfl) e, c⟩
  | dK kvs => obtain ⟨z, y, vs, r, ob, es, ep, e, c⟩ := x; exact ⟨z, y, vs, r, ob, es, ep, k _ _ (.inl rfl) e, c⟩
  | dT kvs =>
    obtain ⟨z, y, xs, r, ob, es, ep, e, c⟩ := x
    exact ⟨z, y, xs, Paired.mapP r fun p q z => ⟨z.1, ht _ _ z.2.1, z.2.2⟩, ob, es, ep, k _ _ (.inl rfl) e, c⟩
  | set S n => obtain ⟨ob, es, ep, t, e, c⟩ := x; exact ⟨ob, es, ep, t, k _ _ (.inl rfl) e, c⟩
  | ins C dx fs =>
    obtain ⟨d, z, ne, e, mA, ⟨od, es, ep, e2, c⟩, r⟩ := x
    exact ⟨ho _ d, z, ne, k _ _ (.inl rfl) e, mA, ⟨od, es, ep, k _ _ (.inr d) e2, c⟩, r⟩
  | own y => obtain ⟨ob, e⟩ := x; exact ⟨ob, k _ _ (.inl rfl) e⟩
  | xd fs => obtain ⟨mA, ⟨od, es, ep, e, c⟩, r⟩ := x; exact ⟨mA, ⟨od, es, ep, k _ _ (.inl rfl) e, c⟩, r⟩
  | rng lo hi => obtain ⟨t, u, v, e⟩ := x; exact ⟨t, u, v, k _ _ (.inl rfl) e⟩
  | frz ob u ih => obtain ⟨e, q⟩ := x; exact ⟨k _ _ (.inl rfl) e, ih q⟩
  | tbl ps =>
    have e : h.get? a = some { cls := .none, data := .fields ps } := x
    show h'.get? a = some { cls := .none, data := .fields ps }
    exact k a _ (.inl rfl) e
  | met f y =>
    have e : h.get? a = some (PySem.W.methodObj (.ref f) (.ref y)) := x
    show h'.get? a = some (PySem.W.methodObj (.ref f) (.ref y))
    exact k a _ (.inl rfl) e
  | ext φ => obtain ⟨p, ⟨o, e⟩, st⟩ := x; exact ⟨st _ _ p fun o q => k _ _ (.inl rfl) q, ⟨o, k _ _ (.inl rfl) e⟩, st⟩
theorem HOk.lt (x : HOk P w H h) (e : H a = some o) : a < h.objs.size := (x a o e).lt
theorem HOk.fresh (x : HOk P w H h) (e : h.objs.size ≤ a) : H a = none := by
  cases q : H a with
  | none => rfl
  | some u => exact absurd (Nat.lt_of_lt_of_le (x.lt q) e) (Nat.lt_irrefl _)
theorem HOk.kept (x : HOk P w H h) (k : ∀ b u, h.get? b = some u → h'.get? b = some u) : HOk P w H h' := fun a o e =>
  (x a o e).stay (fun b u _ q => k b u q) (fun _ q => q) fun _ _ q => q
theorem HOk.laid (x : HOk P w H h) (k : ∀ b u, h.get? b = some u → h'.get? b = some u) (hp : h.objs.size ≤ a) (new : ObjOk P w (upd H a o) h' a o) : HOk P w (upd H a o) h' := fun b u e => by
  have hn := x.fresh hp
  by_cases hb : b = a
  · subst hb; rw [upd_same] at e; cases e; exact new
  · rw [upd_ne hb] at e
    exact (x b u e).stay (fun c v _ q => k c v q) (fun c q => by rw [upd_ne (ne_of_none q hn)]; exact q) fun c xs q => by rw [upd_ne (ne_of_none q hn)]; exact q
end

def Rd (H : Hp) (a : Addr) (u : HO) : Prop := H a = some u ∨ ∃ o, H a = some (.frz o u)
theorem Rd.of {H : Hp} {a : Addr} {u : HO} (h : H a = some u) : Rd H a u := .inl h
theorem Rd.ok {P : Program} {w : World} {H : Hp} {h : Heap} {a : Addr} {u : HO} (r : Rd H a u) (x : HOk P w H h) : ObjOk P w H h a u := by
  rcases r with r | ⟨o, r⟩
  · exact x a u r
  · obtain ⟨_, q⟩ := x a _ r
    exact q
def Mut : Option HO → Prop
  | some (.lst _) => True
  | some (.dK _) => True
  | some (.dT _) => True
  | some (.set _ _) => True
  | some (.ins _ _ _) => True
  | some (.ext _) => True
  | _ => False
section
variable {P : Program} {w : World} {H : Hp} {h h' : Heap} {x e : Addr} {o' : HO}
theorem HOk.write (ok : HOk P w H h) (mu : Mut (H x)) (he : e = x ∨ H e = some (.own x)) (k : ∀ b u, b ≠ e → h.get? b = some u → h'.get? b = some u) (heo : ∃ u, h'.get? e = some u)
    (new : ObjOk P w (upd H x o') h' x o') : HOk P w (upd H x o') h' := fun b u q => by
  have nown : ∀ c y, H c = some (.own y) → c ≠ x := fun c y r z => by subst z; rw [r] at mu; exact mu
  have ntup : ∀ c xs, H c = some (.tup xs) → c ≠ x := fun c xs r z => by subst z; rw [r] at mu; exact mu
  by_cases hb : b = x
  · subst hb; rw [upd_same] at q; cases q; exact new
  · rw [upd_ne hb] at q
    by_cases hbe : b = e
    · have q' : H b = some (.own x) := by
        rcases he with z | z
        · exact absurd (hbe.trans z) hb
        · rw [hbe]; exact z
      rw [q] at q'; cases q'
      obtain ⟨v, hv⟩ := heo
      exact ⟨v, by rw [hbe]; exact hv⟩
    · refine (ok b u q).stay (fun c v hc r => k c v ?_ r) (fun c r => by rw [upd_ne (nown c b r)]; exact r) fun c xs r => by rw [upd_ne (ntup c xs r)]; exact r
      rcases hc with rfl | hc
      · exact hbe
      · rintro rfl
        rcases he with z | z
        · exact nown c b hc z
        · rw [hc] at z; cases z; exact hb rfl
end

structure Un (fs ex : List Addr) (H H' : Hp) (h h' : Heap) : Prop where
  keep : ∀ b o, h.get? b = some o → H b = none → b ∉ fs → b ∉ ex → h'.get? b = some o
  slot : ∀ b o, h.get? b = some o → H b = none → b ∈ fs → b ∉ ex → ∃ sl, h'.get? b = some { o with slots := sl }
  free : ∀ b o, h.get? b = some o → H b = none → b ∉ ex → H' b = none
  there : ∀ b o, h.get? b = some o → b ∉ ex → ∃ o', h'.get? b = some o'
  tups : ∀ b xs, H b = some (.tup xs) → H' b = some (.tup xs)
  frzs : ∀ b o u, H b = some (.frz o u) → H' b = some (.frz o u)
  tbls : ∀ b ps, H b = some (.tbl ps) → ∃ more, H' b = some (.tbl (ps ++ more))
section
variable {fs fs' ex ex' : List Addr} {H H1 H2 : Hp} {h h1 h2 h' : Heap} {a x e : Addr} {o : HO}
theorem Un.any (u : Un fs ex H H1 h h1) {b : Addr} {ob : Obj} (q : h.get? b = some ob) (n : H b = none) (hx : b ∉ ex) : ∃ sl, h1.get? b = some { ob with slots := sl } := by
  by_cases hb : b ∈ fs
  · exact u.slot b ob q n hb hx
  · exact ⟨ob.slots, u.keep b ob q n hb hx⟩
theorem Un.trans (a : Un fs ex H H1 h h1) (b : Un fs ex H1 H2 h1 h2) : Un fs ex H H2 h h2 where
  keep := fun c ob q n hc hx => b.keep c ob (a.keep c ob q n hc hx) (a.free c ob q n hx) hc hx
  slot := fun c ob q n hc hx => by
    obtain ⟨sl, e1⟩ := a.slot c ob q n hc hx
    obtain ⟨sl', e2⟩ := b.slot c _ e1 (a.free c ob q n hx) hc hx
    exact ⟨sl', e2⟩
  free := fun c ob q n hx => by
    obtain ⟨o', e1⟩ := a.there c ob q hx
    exact b.free c o' e1 (a.free c ob q n hx) hx
  there := fun c ob q hx => by
    obtain ⟨o', e1⟩ := a.there c ob q hx
    exact b.there c o' e1 hx
  tups := fun c xs q => b.tups c xs (a.tups c xs q)
  frzs := fun c ob xs q => b.frzs c ob xs (a.frzs c ob xs q)
  tbls := fun c ps q => by
    obtain ⟨m1, e1⟩ := a.tbls c ps q
    obtain ⟨m2, e2⟩ := b.tbls c _ e1
    exact ⟨m1 ++ m2, by rw [e2, Array.append_assoc]⟩
theorem Un.kept (k : ∀ b u, h.get? b = some u → h'.get? b = some u) : Un fs ex H H h h' :=
  ⟨fun b ob q _ _ _ => k b ob q, fun b ob q _ _ _ => ⟨ob.slots, k b ob q⟩, fun _ _ _ n _ => n, fun b ob q _ => ⟨ob, k b ob q⟩, fun _ _ q => q, fun _ _ _ q => q, fun _ ps q => ⟨#[], by rw [q]; simp⟩⟩
theorem Un.refl : Un fs ex H H h h := Un.kept fun _ _ q => q
theorem Un.laid (k : ∀ b u, h.get? b = some u → h'.get? b = some u) (hp : h.objs.size ≤ a) (hn : H a = none) : Un fs ex H (upd H a o) h h' where
  keep := fun b u q _ _ _ => k b u q
  slot := fun b u q _ _ _ => ⟨u.slots, k b u q⟩
  free := fun b u q n _ => by rw [upd_ne (Nat.ne_of_lt (Nat.lt_of_lt_of_le (Heap.lt_size q) hp))]; exact n
  there := fun b u q _ => ⟨u, k b u q⟩
  tups := fun b xs q => by rw [upd_ne (ne_of_none q hn)]; exact q
  frzs := fun b u xs q => by rw [upd_ne (ne_of_none q hn)]; exact q
  tbls := fun b ps q => ⟨#[], by rw [upd_ne (ne_of_none q hn), q]; simp⟩
theorem Un.write (mu : Mut (H x)) (he : e = x ∨ H e = some (.own x)) (k : ∀ b u, b ≠ e → h.get? b = some u → h'.get? b = some u) (heo : ∃ u, h'.get? e = some u) : Un fs ex H (upd H x o) h h' := by
  have hx : ∀ b, H b = none → b ≠ x := fun b n z => by subst z; rw [n] at mu; exact mu
  have hb : ∀ b, H b = none → b ≠ e := fun b n z => by
    subst z
    rcases he with r | r
    · exact hx b n r
    · rw [n] at r; cases r
  have hm : ∀ b u, H b = some u → ¬ Mut (some u) → b ≠ x := fun b u q nm z => by subst z; rw [q] at mu; exact nm mu
  refine ⟨fun b u q n _ _ => k b u (hb b n) q, fun b u q n _ _ => ⟨u.slots, k b u (hb b n) q⟩, fun b u q n _ => by rw [upd_ne (hx b n)]; exact n, fun b u q _ => ?_,
    fun b xs q => by rw [upd_ne (hm b _ q fun z => z)]; exact q, fun b u xs q => by rw [upd_ne (hm b _ q fun z => z)]; exact q, fun b ps q => ⟨#[], by rw [upd_ne (hm b _ q fun z => z), q]; simp⟩⟩
  by_cases hbe : b = e
  · subst hbe; exact heo
  · exact ⟨u, k b u hbe q⟩
theorem Un.mono (u : Un fs ex H H1 h h1) (hs : ∀ b ∈ fs, b ∈ fs') (hx : ∀ b ∈ ex, b ∈ ex') : Un fs' ex' H H1 h h1 :=
  ⟨fun b ob q n hb he => u.keep b ob q n (fun z => hb (hs b z)) fun z => he (hx b z), fun _ _ q n _ he => u.any q n fun z => he (hx _ z), fun b ob q n he => u.free b ob q n fun z => he (hx b z), fun b ob q he => u.there b ob q fun z => he (hx b z), u.tups, u.frzs, u.tbls⟩
end

def trk (h : Heap) (H : Hp) : List Addr := (List.range h.objs.size).filter fun a => (H a).isSome
def hidT (h : Heap) (H : Hp) : Heap := PySem.W.hideAll h (trk h H)
theorem hidT_size (h : Heap) (H : Hp) : (hidT h H).objs.size = h.objs.size := PySem.W.hideAll_size _ _
theorem hidT_get {h : Heap} {H : Hp} {b : Addr} {o : Obj} (e : h.get? b = some o) (n : H b = none) : (hidT h H).get? b = some o :=
  PySem.W.hideAll_get _ e fun hm => by
    have q : (H b).isSome = true := (List.mem_filter.mp hm).2
    rw [n] at q; simp at q
theorem of_hidT {h : Heap} {H : Hp} {b : Addr} {o : Obj} (e : (hidT h H).get? b = some o) : h.get? b = some o ∧ H b = none := by
  have e' : h.get? b = some o := PySem.W.of_hideAll (trk h H) e
  refine ⟨e', ?_⟩
  cases q : H b with
  | none => rfl
  | some x =>
    have hm : b ∈ trk h H := List.mem_filter.mpr ⟨List.mem_range.mpr (Heap.lt_size e'), by simp [q]⟩
    have z : (hidT h H).get? b = none := PySem.W.hideAll_none (trk h H) hm
    rw [z] at e; cases e

def allNews (g h : Heap) (L : Addr) : List (Addr × Obj) := (List.range h.objs.size).filterMap fun a => if a = L ∨ (g.get? a).isSome = true then none else (h.get? a).map fun o => (a, o)
def rest (g h : Heap) (L d : Addr) : List (Addr × Obj) := (allNews g h L).filter fun p => decide (p.1 ≠ d)
end L2

namespace L2
open PySem PySem.Spec PyProof.Rows

structure Mod (K : PySem.W.Frag) (mg : Str → Option Value) (base : Heap) : Prop where
  kin : K.In base
  glob : base.Ns mainGlobals mg
  blt : ∃ mb, base.Ns builtinsNs mb ∧ ∀ x : Str, x ≠ "__name__" → mb x = bootBuiltins x
  nolimit : base.NoLimit

set_option genInjectivity false in
structure Cx where
  prog : Program
  w : World
  K : PySem.W.Frag
  mg : Str → Option Value
  base : Heap
  A : Around
  N : List Str
  s₀ : Shared
  H₀ : Hp
  env : Env
  outer : List Env
  stack : List Env
  ex : List Addr
  fn : Str → Bool
  calm : Bool
  pn : List (Addr × Obj)
  xe : Value → Shared → Prop
def frs (l : List Env) : List Addr := l.filterMap (·.frame)
abbrev Cx.fs (X : Cx) : List Addr := frs X.outer

def Vis (sc : Scope) (x : Str) : Prop := sc.names.lookup x = some .local ∨ sc.names.lookup x = some .cell ∨ sc.names.lookup x = some .free
def Loc (sc : Scope) (x : Str) : Prop := sc.names.lookup x = some .local ∨ sc.names.lookup x = some .cell
def Look (env : Env) (h : Heap) (m : Str → Option Value) (x : Str) (u : Value) : Prop :=
  (env.kindOf x = some .local ∧ m x = some u) ∨ ((env.kindOf x = some .cell ∨ env.kindOf x = some .free) ∧ ∃ c, env.cells.lookup x = some c ∧ h.IsCell c (some u))

structure Cx.Ok (X : Cx) : Prop where
  mod : Mod X.K X.mg X.base
  kind : X.env.scope.kind = .function
  glob : X.env.globals = mainGlobals
  blt : X.env.builtins = builtinsNs
  above : X.s₀.heap.objs.size ≤ X.env.locals
  inj : ∀ x y c, X.env.cells.lookup x = some c → X.env.cells.lookup y = some c → x = y
  has : ∀ x, (X.env.kindOf x = some .cell ∨ X.env.kindOf x = some .free) → ∃ c, X.env.cells.lookup x = some c
  cab : ∀ x c, X.fn x = true → X.env.cells.lookup x = some c → X.s₀.heap.objs.size ≤ c
  hd : X.calm = true → X.A.handled = none
  frames : X.A.frames = some X.stack
  stk : X.stack = X.outer ∨ (X.stack = X.env :: X.outer ∧ X.env.frame = some X.env.locals)
  exf : ∀ b ∈ X.ex, b ≠ X.env.locals ∧ ∀ x c, X.env.cells.lookup x = some c → c ≠ b
  bs : ∀ b o, X.base.get? b = some o → X.s₀.heap.get? b = some o ∧ X.H₀ b = none
  bsz : X.base.objs.size ≤ X.s₀.heap.objs.size
  noex : ∀ b o, X.base.get? b = some o → b ∉ X.ex
  exfs : ∀ b ∈ X.ex, b ∉ X.fs
  funs : X.s₀.heap.FunFrames X.base X.outer
  frf : ∀ b ∈ X.fs, X.H₀ b = none

structure Inv (X : Cx) (pins : List (Addr × Obj)) (σ : List (Option V)) (H : Hp) (s : Shared) : Prop where
  ok : X.Ok
  os : s.os = X.s₀.os
  bare : AllBare s.gens
  base : Un X.fs X.ex X.H₀ H X.s₀.heap s.heap
  loc : ∃ m, s.heap.Ns X.env.locals m ∧ ∀ (i : Nat) (x : Str) (v : V), X.N[i]? = some x → σ[i]? = some (some v) → Vis X.env.scope x → ∃ u, RelV v u ∧ Look X.env s.heap m x u
  cell : ∀ x c, X.env.cells.lookup x = some c → ∃ v, s.heap.IsCell c v
  free : H X.env.locals = none
  freeC : ∀ x c, X.env.cells.lookup x = some c → H c = none
  pin : ∀ p ∈ X.pn ++ pins, s.heap.get? p.1 = some p.2 ∧ H p.1 = none ∧ p.1 ≠ X.env.locals ∧ p.1 ∉ X.fs ∧ ∀ v, p.2.data ≠ .cell v
  hok : HOk X.prog X.w H s.heap
  len : σ.length = X.N.length

section
variable {X : Cx} {pins : List (Addr × Obj)} {σ : List (Option V)} {H H' : Hp} {s : Shared} {h' : Heap}

theorem Cx.Ok.nofr (ok : X.Ok) {b : Addr} {o : Obj} (e : X.base.get? b = some o) : b ∉ X.fs := fun hb => by
  have := (ok.funs.mem hb).1
  rw [e] at this; cases this
theorem Inv.bs (I : Inv X pins σ H s) : ∀ b o, X.base.get? b = some o → s.heap.get? b = some o ∧ H b = none := fun b o e =>
  ⟨I.base.keep b o (I.ok.bs b o e).1 (I.ok.bs b o e).2 (I.ok.nofr e) (I.ok.noex b o e), I.base.free b o (I.ok.bs b o e).1 (I.ok.bs b o e).2 (I.ok.noex b o e)⟩
theorem Inv.bk (I : Inv X pins σ H s) : ∀ b o, X.base.get? b = some o → s.heap.get? b = some o := fun b o e => (I.bs b o e).1
theorem Inv.mod (I : Inv X pins σ H s) : Mod X.K X.mg X.base := I.ok.mod
theorem Inv.kIn (I : Inv X pins σ H s) : X.K.In s.heap := I.ok.mod.kin.keeps I.bk
theorem Inv.nolimit (I : Inv X pins σ H s) : s.heap.NoLimit := I.ok.mod.nolimit.keeps I.bk
theorem Inv.fr (I : Inv X pins σ H s) : ∃ m, Fr X.base X.env.locals s.heap m :=
  let ⟨m, hn, _⟩ := I.loc
  ⟨m, hn, I.bk, Nat.le_trans I.ok.bsz I.ok.above⟩
theorem Inv.lt (I : Inv X pins σ H s) : X.env.locals < s.heap.objs.size := let ⟨_, hn, _⟩ := I.loc; hn.lt
theorem Inv.sz (I : Inv X pins σ H s) : X.s₀.heap.objs.size ≤ s.heap.objs.size := Nat.le_trans I.ok.above (Nat.le_of_lt I.lt)
theorem Inv.nofs (I : Inv X pins σ H s) {a : Addr} (h : s.heap.objs.size ≤ a) : a ∉ X.fs := fun hb => by
  obtain ⟨_, o, ho, _⟩ := I.ok.funs.mem hb
  exact absurd (Nat.lt_of_lt_of_le (Heap.lt_size ho) (Nat.le_trans I.sz h)) (Nat.lt_irrefl _)
theorem Inv.cne (I : Inv X pins σ H s) : ∀ x c, X.env.cells.lookup x = some c → c ≠ X.env.locals := fun x c e z => by
  obtain ⟨v, o, ho, hd⟩ := I.cell x c e
  obtain ⟨m, ⟨o', es, ep, ho', hd', _⟩, _⟩ := I.loc
  rw [z, ho'] at ho; cases ho; rw [hd'] at hd; cases hd
theorem Inv.funs (I : Inv X pins σ H s) : s.heap.FunFrames X.base X.outer := by
  have all : ∀ (l : List Env), (∀ b ∈ frs l, b ∈ X.fs) → X.s₀.heap.FunFrames X.base l → s.heap.FunFrames X.base l := by
    intro l
    induction l with
    | nil => intro _ _; trivial
    | cons env r ih =>
      intro hs hl
      obtain ⟨hk, ⟨L, o, hf, hn, ho, hd⟩, hr⟩ := hl
      have hL : L ∈ X.fs := hs L (by unfold frs; rw [List.filterMap_cons, hf]; exact List.mem_cons_self)
      obtain ⟨sl, e⟩ := I.base.slot L o ho (I.ok.frf L hL) hL fun z => I.ok.exfs L z hL
      exact ⟨hk, ⟨L, _, hf, hn, e, hd⟩, ih (fun b hb => hs b (by unfold frs; rw [List.filterMap_cons, hf]; exact List.mem_cons_of_mem _ hb)) hr⟩
  exact all X.outer (fun _ hb => hb) I.ok.funs

theorem Inv.stack (I : Inv X pins σ H s) : s.heap.FunFrames X.base X.stack := by
  rcases I.ok.stk with e | ⟨e, hf⟩
  · rw [e]; exact I.funs
  · rw [e]
    obtain ⟨m, hn, _⟩ := I.loc
    refine .cons (by rw [I.ok.kind]; decide) hf hn ?_ I.funs
    exact Heap.get?_none_of_le (Nat.le_trans I.ok.bsz I.ok.above)
theorem Inv.stkSub (I : Inv X pins σ H s) : ∀ b ∈ frs X.stack, b ∈ X.env.locals :: X.fs := fun b hb => by
  rcases I.ok.stk with e | ⟨e, hf⟩
  · rw [e] at hb; exact List.mem_cons_of_mem _ hb
  · rw [e] at hb
    unfold frs at hb
    rw [List.filterMap_cons, hf] at hb
    exact hb
theorem Inv.stkFree (I : Inv X pins σ H s) : ∀ b ∈ frs X.stack, H b = none := fun b hb => by
  rcases List.mem_cons.mp (I.stkSub b hb) with e | hb
  · rw [e]; exact I.free
  · obtain ⟨_, o, ho, _⟩ := I.ok.funs.mem hb
    exact I.base.free b o ho (I.ok.frf b hb) fun z => I.ok.exfs b z hb

theorem Inv.step {g' : Array GenState} {t' : Nat} {d' : Drawn} {ch : List Addr} (I : Inv X pins σ H s)
    (hch : ∀ b ∈ ch, (b ∈ X.ex ∨ X.s₀.heap.objs.size ≤ b) ∧ b ≠ X.env.locals ∧ (∀ x c, X.env.cells.lookup x = some c → c ≠ b) ∧ ∀ p ∈ X.pn ++ pins, p.1 ≠ b)
    (keep : ∀ b o, b ≠ X.env.locals → b ∉ X.fs → b ∉ ch → s.heap.get? b = some o → H b = none → h'.get? b = some o)
    (slot : ∀ b o, b ≠ X.env.locals → b ∈ X.fs → b ∉ ch → s.heap.get? b = some o → H b = none → ∃ sl, h'.get? b = some { o with slots := sl }) (free : ∀ b o, b ∉ ch → s.heap.get? b = some o → H b = none → H' b = none)
    (there : ∀ b o, b ∉ ch → s.heap.get? b = some o → ∃ o', h'.get? b = some o')
    (tups : ∀ b xs, H b = some (.tup xs) → H' b = some (.tup xs)) (frzs : ∀ b o u, H b = some (.frz o u) → H' b = some (.frz o u)) (tbls : ∀ b ps, H b = some (.tbl ps) → ∃ more, H' b = some (.tbl (ps ++ more)))
    (ns : ∀ m, s.heap.Ns X.env.locals m → h'.Ns X.env.locals m) (hok : HOk X.prog X.w H' h') (hg : AllBare g') :
    Inv X pins σ H' { s with heap := h', gens := g', drawn := d', toks := t' } := by
  have neL : ∀ b o, X.s₀.heap.get? b = some o → b ≠ X.env.locals := fun b o e => Nat.ne_of_lt (Nat.lt_of_lt_of_le (Heap.lt_size e) I.ok.above)
  have neC : ∀ b o, X.s₀.heap.get? b = some o → b ∉ X.ex → b ∉ ch := fun b o e hx hb => by
    rcases (hch b hb).1 with z | z
    · exact hx z
    · exact absurd (Nat.lt_of_lt_of_le (Heap.lt_size e) z) (Nat.lt_irrefl _)
  have cellK : ∀ x c, X.env.cells.lookup x = some c → ∀ v, s.heap.IsCell c v → h'.IsCell c v := fun x c e v ⟨o, ho, hd⟩ => by
    have nch : c ∉ ch := fun z => (hch c z).2.2.1 x c e rfl
    by_cases hc : c ∈ X.fs
    · obtain ⟨sl, q⟩ := slot c o (I.cne x c e) hc nch ho (I.freeC x c e)
      exact ⟨_, q, hd⟩
    · exact ⟨o, keep c o (I.cne x c e) hc nch ho (I.freeC x c e), hd⟩
  refine ⟨I.ok, I.os, hg, ⟨fun b o e n hb hx => ?_, fun b o e n hb hx => ?_, fun b o e n hx => ?_, fun b o e hx => ?_, fun b xs e => tups b xs (I.base.tups b xs e), fun b o xs e => frzs b o xs (I.base.frzs b o xs e), fun b ps e => ?_⟩, ?_, fun x c e => ?_, ?_, fun x c e => ?_, fun p hp => ?_, hok, I.len⟩
  · exact keep b o (neL b o e) hb (neC b o e hx) (I.base.keep b o e n hb hx) (I.base.free b o e n hx)
  · obtain ⟨sl, e1⟩ := I.base.slot b o e n hb hx
    obtain ⟨sl', e2⟩ := slot b _ (neL b o e) hb (neC b o e hx) e1 (I.base.free b o e n hx)
    exact ⟨sl', e2⟩
  · obtain ⟨o', e1⟩ := I.base.there b o e hx
    exact free b o' (neC b o e hx) e1 (I.base.free b o e n hx)
  · obtain ⟨o', e1⟩ := I.base.there b o e hx
    exact there b o' (neC b o e hx) e1
  · obtain ⟨m1, e1⟩ := I.base.tbls b ps e
    obtain ⟨m2, e2⟩ := tbls b _ e1
    exact ⟨m1 ++ m2, by rw [e2, Array.append_assoc]⟩
  · obtain ⟨m, hn, hl⟩ := I.loc
    refine ⟨m, ns m hn, fun i x v e1 e2 e3 => ?_⟩
    obtain ⟨u, r, l⟩ := hl i x v e1 e2 e3
    refine ⟨u, r, ?_⟩
    rcases l with l | ⟨k, c, e, z⟩
    · exact .inl l
    · exact .inr ⟨k, c, e, cellK x c e _ z⟩
  · obtain ⟨v, z⟩ := I.cell x c e
    exact ⟨v, cellK x c e v z⟩
  · obtain ⟨m, ⟨o, _, _, ho, _⟩, _⟩ := I.loc
    exact free _ o (fun z => (hch _ z).2.1 rfl) ho I.free
  · obtain ⟨v, o, ho, hd⟩ := I.cell x c e
    exact free c o (fun z => (hch c z).2.2.1 x c e rfl) ho (I.freeC x c e)
  · obtain ⟨e, n, ne, nf, d⟩ := I.pin p hp
    have nch : p.1 ∉ ch := fun z => (hch p.1 z).2.2.2 p hp rfl
    exact ⟨keep p.1 p.2 ne nf nch e n, free p.1 p.2 nch e n, ne, nf, d⟩
theorem Inv.un {t' : Nat} (I : Inv X pins σ H s) (u : Un X.fs [] H H' s.heap h') (hok : HOk X.prog X.w H' h') : Inv X pins σ H' { s with heap := h', toks := t' } := by
  obtain ⟨m, ⟨o, es, ep, ho, r⟩, _⟩ := id I.loc
  obtain ⟨sl, hL⟩ := u.any ho I.free (by simp)
  exact I.step (g' := s.gens) (d' := s.drawn) (ch := []) (fun _ z => nomatch z) (fun b o _ hb _ e n => u.keep b o e n hb (by simp)) (fun b o _ hb _ e n => u.slot b o e n hb (by simp)) (fun b o _ e n => u.free b o e n (by simp)) (fun b o _ e => u.there b o e (by simp)) u.tups u.frzs u.tbls (fun m' hm => by
    obtain ⟨o', es', ep', ho', r'⟩ := hm
    rw [ho] at ho'; cases ho'
    exact ⟨_, es', ep', hL, r'⟩) hok I.bare
theorem Inv.call {g' : Array GenState} {t' : Nat} {d' : Drawn} {ch : List Addr} (I : Inv X pins σ H s) (u : Un (frs X.stack) ch H H' s.heap h') (hok : HOk X.prog X.w H' h') (hg : AllBare g')
    (hch : ∀ b ∈ ch, (b ∈ X.ex ∨ X.s₀.heap.objs.size ≤ b) ∧ b ≠ X.env.locals ∧ (∀ x c, X.env.cells.lookup x = some c → c ≠ b) ∧ ∀ p ∈ X.pn ++ pins, p.1 ≠ b) :
    Inv X pins σ H' { s with heap := h', gens := g', drawn := d', toks := t' } := by
  obtain ⟨m, ⟨o, es, ep, ho, r⟩, _⟩ := id I.loc
  obtain ⟨sl, hL⟩ := u.any ho I.free fun z => (hch _ z).2.1 rfl
  exact I.step (ch := ch) hch (fun b o hL hb hc e n => u.keep b o e n (fun z => (List.mem_cons.mp (I.stkSub b z)).elim hL hb) hc) (fun b o _ _ hc e n => u.any e n hc) (fun b o hc e n => u.free b o e n hc) (fun b o hc e => u.there b o e hc) u.tups u.frzs u.tbls (fun m' hm => by
    obtain ⟨o', es', ep', ho', r'⟩ := hm
    rw [ho] at ho'; cases ho'
    exact ⟨_, es', ep', hL, r'⟩) hok hg
theorem Inv.turned {t' : Nat} {it : Addr} (I : Inv X pins σ H s) (k : ∀ b o, b ≠ it → s.heap.get? b = some o → h'.get? b = some o) (hn : H it = none) (hL : it ≠ X.env.locals)
    (h1 : it ∈ X.ex ∨ X.s₀.heap.objs.size ≤ it) (h2 : ∀ x c, X.env.cells.lookup x = some c → c ≠ it) (h3 : ∀ p ∈ X.pn ++ pins, p.1 ≠ it) : Inv X pins σ H { s with heap := h', toks := t' } := by
  have nit : ∀ b u, H b = some u → b ≠ it := fun b u e z => by rw [z, hn] at e; cases e
  refine I.step (g' := s.gens) (d' := s.drawn) (ch := [it]) (fun b hb => ?_) (fun b o _ _ hc e _ => k b o (fun z => hc (by simp [z])) e) (fun b o _ _ hc e _ => ⟨o.slots, k b o (fun z => hc (by simp [z])) e⟩) (fun _ _ _ _ n => n)
    (fun b o hc e => ⟨o, k b o (fun z => hc (by simp [z])) e⟩) (fun _ _ e => e) (fun _ _ _ e => e) (fun b ps e => ⟨#[], by rw [e]; simp⟩) (fun m hm => ?_) (fun b u e => ?_) I.bare
  · have e : b = it := by simpa using hb
    subst e
    exact ⟨h1, hL, h2, h3⟩
  · obtain ⟨o, es, ep, ho, r⟩ := hm
    exact ⟨o, es, ep, k _ o (Ne.symm hL) ho, r⟩
  · refine (I.hok b u e).stay (fun c v hc q => k c v ?_ q) (fun _ q => q) fun _ _ q => q
    rcases hc with z | z
    · rw [z]; exact nit b u e
    · exact nit c _ z
theorem Inv.tok (I : Inv X pins σ H s) (t : Nat) : Inv X pins σ H { s with toks := t } := I.un (h' := s.heap) (t' := t) Un.refl I.hok
theorem Inv.kept {t' : Nat} (I : Inv X pins σ H s) (k : ∀ b u, s.heap.get? b = some u → h'.get? b = some u) : Inv X pins σ H { s with heap := h', toks := t' } := I.un (Un.kept k) (I.hok.kept k)
theorem Inv.laid {a : Addr} {o : HO} {t' : Nat} (I : Inv X pins σ H s) (k : ∀ b u, s.heap.get? b = some u → h'.get? b = some u) (hp : s.heap.objs.size ≤ a) (new : ObjOk X.prog X.w (upd H a o) h' a o) :
    Inv X pins σ (upd H a o) { s with heap := h', toks := t' } := I.un (Un.laid k hp (I.hok.fresh hp)) (I.hok.laid k hp new)
theorem Inv.write {x e : Addr} {o : HO} {t' : Nat} (I : Inv X pins σ H s) (mu : Mut (H x)) (he : e = x ∨ H e = some (.own x)) (k : ∀ b u, b ≠ e → s.heap.get? b = some u → h'.get? b = some u) (heo : ∃ u, h'.get? e = some u)
    (new : ObjOk X.prog X.w (upd H x o) h' x o) : Inv X pins σ (upd H x o) { s with heap := h', toks := t' } := I.un (Un.write mu he k heo) (I.hok.write mu he k heo new)
theorem Inv.weak {σ' : List (Option V)} (I : Inv X pins σ H s) (hl : σ'.length = σ.length) (w : ∀ (i : Nat) v, σ'[i]? = some (some v) → σ[i]? = some (some v)) : Inv X pins σ' H s :=
  ⟨I.ok, I.os, I.bare, I.base, let ⟨m, hn, hl'⟩ := I.loc; ⟨m, hn, fun i x v e1 e2 e3 => hl' i x v e1 (w i v e2) e3⟩, I.cell, I.free, I.freeC, I.pin, I.hok, hl.trans I.len⟩
theorem Inv.pins_of {pins' : List (Addr × Obj)} (I : Inv X pins σ H s) (h : ∀ p ∈ pins', s.heap.get? p.1 = some p.2 ∧ H p.1 = none ∧ p.1 ≠ X.env.locals ∧ p.1 ∉ X.fs ∧ ∀ v, p.2.data ≠ .cell v) : Inv X pins' σ H s :=
  ⟨I.ok, I.os, I.bare, I.base, I.loc, I.cell, I.free, I.freeC, fun p hp => (List.mem_append.mp hp).elim (fun z => I.pin p (List.mem_append_left _ z)) (h p), I.hok, I.len⟩

theorem nodup_ix {N : List Str} (hN : N.Nodup) {i j : Nat} {x : Str} (a : N[i]? = some x) (b : N[j]? = some x) : i = j := by
  obtain ⟨h1, e1⟩ := List.getElem?_eq_some_iff.mp a
  obtain ⟨h2, e2⟩ := List.getElem?_eq_some_iff.mp b
  exact (List.getElem_inj hN).mp (e1.trans e2.symm)

theorem store_ok2 {M : Model} {A : Around} {E : Value → Shared → Prop} {i : Nat} {x : Str} {v : V} {u : Value} {Q : Unit → Shared → Prop} (I : Inv X pins σ H s) (hN : X.N.Nodup) (hi : X.N[i]? = some x) (hx : Loc X.env.scope x) (r : RelV v u)
    (h : ∀ s', Inv X pins (σ.set i (some v)) H s' → (∃ a, Heap.SameBut a s.heap s'.heap ∧ (a = X.env.locals ∨ X.env.cells.lookup x = some a)) → Q () s') (hf : X.fn x = true ∨ X.env.scope.names.lookup x = some .local := by first | exact .inl rfl | exact .inr rfl | assumption) : wpAny M A (storeName X.env x u) Q E s := by
  obtain ⟨m, hn, hl⟩ := id I.loc
  have hcls : (X.env.scope.kind == .class || (X.env.scope.kind == .module && X.env.locals != X.env.globals)) = false := by rw [I.ok.kind]; rfl
  have hiσ : i < σ.length := by rw [I.len]; exact (List.getElem?_eq_some_iff.mp hi).1
  have cne := I.cne
  have tracked : ∀ {a : Addr} {h' : Heap}, (∃ o, s.heap.get? a = some o ∧ H a = none) → Heap.SameBut a s.heap h' → HOk X.prog X.w H h' := fun {a h'} ha hs b ob e => by
    obtain ⟨_, _, hfree⟩ := ha
    refine (I.hok b ob e).stay (fun c w' hc q => (hs.2 c ?_).trans q) (fun _ q => q) fun _ _ q => q
    rintro rfl
    rcases hc with rfl | hc
    · rw [hfree] at e; cases e
    · rw [hfree] at hc; cases hc
  rcases hx with hk | hk
  · refine wpAny_storeName_local hk hn (fun h' hn' hs => ?_) hcls
    obtain ⟨oL, _, _, hoL, _⟩ := id hn
    refine h _ ⟨I.ok, I.os, I.bare, ⟨fun b o e n hb hx => ?_, fun b o e n hb hx => ?_, I.base.free, fun b o e hx => ?_, I.base.tups, I.base.frzs, I.base.tbls⟩, ⟨_, hn', fun j y v' e1 e2 e3 => ?_⟩, fun y c e => ?_, I.free, I.freeC, fun p hp => ?_, tracked ⟨oL, hoL, I.free⟩ hs, by simpa using I.len⟩ ⟨_, hs, .inl rfl⟩
    · exact (hs.2 b (Nat.ne_of_lt (Nat.lt_of_lt_of_le (Heap.lt_size e) I.ok.above))).trans (I.base.keep b o e n hb hx)
    · obtain ⟨sl, e1⟩ := I.base.slot b o e n hb hx
      exact ⟨sl, (hs.2 b (Nat.ne_of_lt (Nat.lt_of_lt_of_le (Heap.lt_size e) I.ok.above))).trans e1⟩
    · obtain ⟨o', e1⟩ := I.base.there b o e hx
      exact ⟨o', (hs.2 b (Nat.ne_of_lt (Nat.lt_of_lt_of_le (Heap.lt_size e) I.ok.above))).trans e1⟩
    · by_cases hj : j = i
      · subst hj
        rw [hi] at e1; cases e1
        rw [List.getElem?_set_self hiσ] at e2
        cases e2
        exact ⟨u, r, .inl ⟨hk, by simp⟩⟩
      · rw [List.getElem?_set_ne (Ne.symm hj)] at e2
        obtain ⟨u', r', q⟩ := hl j y v' e1 e2 e3
        refine ⟨u', r', ?_⟩
        rcases q with ⟨k, e⟩ | ⟨k, c, e, z⟩
        · refine .inl ⟨k, ?_⟩
          have : y ≠ x := fun e => hj (nodup_ix hN e1 (e ▸ hi))
          simp [this, e]
        · exact .inr ⟨k, c, e, z.sameBut hs (cne y c e)⟩
    · obtain ⟨w', z⟩ := I.cell y c e
      exact ⟨w', z.sameBut hs (cne y c e)⟩
    · obtain ⟨e, n, ne, nf, d⟩ := I.pin p hp
      exact ⟨(hs.2 p.1 ne).trans e, n, ne, nf, d⟩
  · have hfn : X.fn x = true := by
      rcases hf with z | z
      · exact z
      · rw [z] at hk; cases hk
    obtain ⟨c, hc⟩ := I.ok.has x (.inl hk)
    obtain ⟨w', z⟩ := I.cell x c hc
    refine wpAny_storeName_cell I.ok.kind hk hc z (fun h' hc' hs => ?_)
    obtain ⟨oc, hoc, hocd⟩ := id z
    refine h { s with heap := h' } ⟨I.ok, I.os, I.bare, ⟨fun b o e n hb hx => ?_, fun b o e n hb hx => ?_, I.base.free, fun b o e hx => ?_, I.base.tups, I.base.frzs, I.base.tbls⟩, ⟨m, hn.sameBut hs (Ne.symm (cne x c hc)), fun j y v' e1 e2 e3 => ?_⟩, fun y c' e => ?_, I.free, I.freeC, fun p hp => ?_, tracked ⟨oc, hoc, I.freeC x c hc⟩ hs, by simpa using I.len⟩ ⟨c, hs, .inr hc⟩
    · exact (hs.2 b (Nat.ne_of_lt (Nat.lt_of_lt_of_le (Heap.lt_size e) (I.ok.cab x c hfn hc)))).trans (I.base.keep b o e n hb hx)
    · obtain ⟨sl, e1⟩ := I.base.slot b o e n hb hx
      exact ⟨sl, (hs.2 b (Nat.ne_of_lt (Nat.lt_of_lt_of_le (Heap.lt_size e) (I.ok.cab x c hfn hc)))).trans e1⟩
    · obtain ⟨o', e1⟩ := I.base.there b o e hx
      exact ⟨o', (hs.2 b (Nat.ne_of_lt (Nat.lt_of_lt_of_le (Heap.lt_size e) (I.ok.cab x c hfn hc)))).trans e1⟩
    · by_cases hj : j = i
      · subst hj
        rw [hi] at e1; cases e1
        rw [List.getElem?_set_self hiσ] at e2
        cases e2
        exact ⟨u, r, .inr ⟨.inl hk, c, hc, hc'⟩⟩
      · rw [List.getElem?_set_ne (Ne.symm hj)] at e2
        obtain ⟨u', r', q⟩ := hl j y v' e1 e2 e3
        refine ⟨u', r', ?_⟩
        rcases q with q | ⟨k, c', e, z'⟩
        · exact .inl q
        · refine .inr ⟨k, c', e, z'.sameBut hs ?_⟩
          rintro rfl
          exact hj (nodup_ix hN e1 (I.ok.inj _ _ _ e hc ▸ hi))
    · by_cases hcc : c' = c
      · subst hcc; exact ⟨_, hc'⟩
      · obtain ⟨w2, z2⟩ := I.cell y c' e
        exact ⟨w2, z2.sameBut hs hcc⟩
    · obtain ⟨e, n, ne, nf, d⟩ := I.pin p hp
      refine ⟨(hs.2 p.1 ?_).trans e, n, ne, nf, d⟩
      intro q
      rw [q, hoc] at e
      have q' : oc = p.2 := Option.some.inj e
      exact d w' (by rw [← q']; exact hocd)
theorem store_ok {M : Model} {A : Around} {E : Value → Shared → Prop} {i : Nat} {x : Str} {v : V} {u : Value} {Q : Unit → Shared → Prop} (I : Inv X pins σ H s) (hN : X.N.Nodup) (hi : X.N[i]? = some x) (hx : Loc X.env.scope x) (r : RelV v u)
    (h : ∀ s', Inv X pins (σ.set i (some v)) H s' → Q () s') (hf : X.fn x = true ∨ X.env.scope.names.lookup x = some .local := by first | exact .inl rfl | exact .inr rfl | assumption) : wpAny M A (storeName X.env x u) Q E s :=
  store_ok2 I hN hi hx r (fun s' I' _ => h s' I') hf
theorem Inv.call' {s' : Shared} {ch : List Addr} (I : Inv X pins σ H s) (ho : s'.os = s.os) (u : Un (frs X.stack) ch H H' s.heap s'.heap) (hok : HOk X.prog X.w H' s'.heap) (hg : AllBare s'.gens)
    (hch : ∀ b ∈ ch, (b ∈ X.ex ∨ X.s₀.heap.objs.size ≤ b) ∧ b ≠ X.env.locals ∧ (∀ x c, X.env.cells.lookup x = some c → c ≠ b) ∧ ∀ p ∈ X.pn ++ pins, p.1 ≠ b) : Inv X pins σ H' s' := by
  obtain ⟨h', g', d', t', o'⟩ := s'
  have e : o' = s.os := ho
  subst e
  exact I.call (g' := g') (t' := t') (d' := d') u hok hg hch
end

abbrev XK := Value → Option Addr → Hp → Prop
abbrev St := List (Option V)
abbrev VK := V → Hp → Prop
abbrev TE := St → Hp → VK → Prop
abbrev TT := St → Hp → (Bool → Hp → Prop) → Prop
abbrev TA := St → Hp → (List V → Hp → Prop) → Prop
set_option genInjectivity false in
structure Ends where
  nx : St → Hp → Prop
  rt : VK
  bk : St → Hp → Prop := fun _ _ => False
  ct : St → Hp → Prop := fun _ _ => False
abbrev TS := Ends → St → Hp → Prop

def EP (X : Cx) (pins : List (Addr × Obj)) (σ : St) (Q : VK) (u : Value) (s' : Shared) : Prop := ∃ v H', Inv X pins σ H' s' ∧ RelV v u ∧ Q v H'
def TP (X : Cx) (pins : List (Addr × Obj)) (σ : St) (Q : Bool → Hp → Prop) (b : Bool) (s' : Shared) : Prop := ∃ H', Inv X pins σ H' s' ∧ Q b H'
def AP (X : Cx) (pins : List (Addr × Obj)) (σ : St) (Q : List V → Hp → Prop) (us : List Value) (s' : Shared) : Prop := ∃ vs H', Inv X pins σ H' s' ∧ Vals vs us ∧ Q vs H'
def SP (X : Cx) (pins : List (Addr × Obj)) (D : Ends) (f : Flow) (s' : Shared) : Prop :=
  match f with
  | .next => ∃ σ' H', Inv X pins σ' H' s' ∧ D.nx σ' H'
  | .brk => ∃ σ' H', Inv X pins σ' H' s' ∧ D.bk σ' H'
  | .cont => ∃ σ' H', Inv X pins σ' H' s' ∧ D.ct σ' H'
  | .ret u => ∃ v σ' H', Inv X pins σ' H' s' ∧ RelV v u ∧ D.rt v H'

def PE (X : Cx) (e : Expr) (t : TE) : Prop :=
  ∀ (pins : List (Addr × Obj)) (s : Shared) (σ : St) (H : Hp) (Q : VK), Inv X pins σ H s → t σ H Q → wpAny (model X.prog X.w) X.A (eval e X.env) (EP X pins σ Q) X.xe s
def PT (X : Cx) (e : Expr) (t : TT) : Prop :=
  ∀ (pins : List (Addr × Obj)) (s : Shared) (σ : St) (H : Hp) (Q : Bool → Hp → Prop), Inv X pins σ H s → t σ H Q → wpAny (model X.prog X.w) X.A (isTrue e X.env (eval e X.env)) (TP X pins σ Q) X.xe s
def PW (X : Cx) (e : Expr) (t : TT) : Prop :=
  ∀ (whole : Sem Value) (pins : List (Addr × Obj)) (s : Shared) (σ : St) (H : Hp) (Q : Bool → Hp → Prop), Inv X pins σ H s → t σ H Q → wpAny (model X.prog X.w) X.A (isTrue e X.env whole) (TP X pins σ Q) X.xe s
theorem PW.pt {X : Cx} {e : Expr} {t : TT} (h : PW X e t) : PT X e t := h _
def PA (X : Cx) (es : List Expr) (t : TA) : Prop :=
  ∀ (pos : Pos) (pins : List (Addr × Obj)) (s : Shared) (σ : St) (H : Hp) (Q : List V → Hp → Prop), Inv X pins σ H s → t σ H Q → wpAny (model X.prog X.w) X.A (spliced (backTo pos (starEach es X.env))) (AP X pins σ Q) X.xe s
def PS (X : Cx) (st : Stmt) (t : TS) : Prop :=
  ∀ (pins : List (Addr × Obj)) (s : Shared) (σ : St) (H : Hp) (D : Ends), Inv X pins σ H s → t D σ H → wpAny (model X.prog X.w) X.A (exec st X.env) (SP X pins D) X.xe s
def PSs (X : Cx) (st : List Stmt) (t : TS) : Prop :=
  ∀ (pins : List (Addr × Obj)) (s : Shared) (σ : St) (H : Hp) (D : Ends), Inv X pins σ H s → t D σ H → wpAny (model X.prog X.w) X.A (execs st X.env) (SP X pins D) X.xe s
theorem thn {α : Type} {t : Sem α} {Q Q' : α → Shared → Prop} {M : Model} {A : Around} {E : Value → Shared → Prop} {s : Shared} (h : wpAny M A t Q E s) (hQ : ∀ a s, Q a s → Q' a s) : wpAny M A t Q' E s := wpAny_mono h hQ fun _ _ x => x
end L2

namespace L2
open PySem PySem.Spec PyProof.Rows
section
variable {X : Cx}

def tVar (i : Nat) : TE := fun σ H Q => ∃ v, σ[i]? = some (some v) ∧ Q v H
def tC (v : V) : TE := fun _ H Q => Q v H
theorem pe_var {i : Nat} {x : Str} {pos : Pos} (hN : X.N[i]? = some x) (hv : Vis X.env.scope x) (hd : (x == ("__debug__" : Str)) = false := by decide) (hcd : (x == ("__classdict__" : Str)) = false := by decide) : PE X (.Name x pos) (tVar i) := by
  intro pins s σ H Q I h
  obtain ⟨v, e, h⟩ := h
  obtain ⟨m, hn, hl⟩ := I.loc
  obtain ⟨u, r, l⟩ := hl i x v hN e hv
  have fin : EP X pins σ Q u s := ⟨v, H, I, r, h⟩
  rcases l with ⟨hk, hm⟩ | ⟨hk, c, hc, hcell⟩
  · exact wpAny_Name (wpAny_loadName_local I.ok.kind hk hn hm fin) hd
  · rcases hk with hk | hk
    · exact wpAny_Name (wpAny_loadName_cell I.ok.kind hk hc hcell fin) hd
    · exact wpAny_Name (wpAny_loadName_free I.ok.kind hk hc hcell fin hcd) hd
theorem pe_int {i j pos} : PE X (.Constant (.int i) j pos) (tC (.int i)) := fun _ _ _ H _ I h => wpAny_Constant_int ⟨.int i, H, I.tok _, ⟨_, rfl⟩, h⟩
theorem pe_bl {b j pos} : PE X (.Constant (.bool b) j pos) (tC (.bl b)) := fun _ _ _ H _ I h => Constant_bool ⟨.bl b, H, I, rfl, h⟩
theorem pe_non {j pos} : PE X (.Constant .none j pos) (tC .non) := fun _ _ _ H _ I h => Constant_none ⟨.non, H, I, rfl, h⟩
theorem pe_str {x j pos} : PE X (.Constant (.str x) j pos) (tC (.str x)) := fun _ _ _ H _ I h => Calls.Constant_str ⟨.str x, H, I.tok _, ⟨_, rfl⟩, h⟩

def Gl (X : Cx) (x : Str) : Prop := X.env.kindOf x = some .globalImplicit
theorem ld_glob {E : Value → Shared → Prop} {pins : List (Addr × Obj)} {s : Shared} {σ : St} {H : Hp} {x : Str} {u : Value} {pos : Pos} {Q : Value → Shared → Prop} (I : Inv X pins σ H s) (hg : Gl X x) (hm : X.mg x = some u) (h : Q u s)
    (hd : (x == ("__debug__" : Str)) = false := by decide) : wpAny (model X.prog X.w) X.A (eval (.Name x pos) X.env) Q E s :=
  Calls.Name_function_global I.ok.kind hg (Calls.loadGlobal_global (by rw [I.ok.glob]; exact I.mod.glob.keeps I.bk) hm h) hd
theorem ld_blt {E : Value → Shared → Prop} {pins : List (Addr × Obj)} {s : Shared} {σ : St} {H : Hp} {x : Str} {u : Value} {pos : Pos} {Q : Value → Shared → Prop} (I : Inv X pins σ H s) (hg : Gl X x) (hm : X.mg x = none) (hv : bootBuiltins x = some u) (h : Q u s)
    (hn : x ≠ "__name__" := by decide) (hd : (x == ("__debug__" : Str)) = false := by decide) : wpAny (model X.prog X.w) X.A (eval (.Name x pos) X.env) Q E s := by
  obtain ⟨mb, h1, h2⟩ := I.mod.blt
  exact Calls.Name_function_global I.ok.kind hg (Calls.loadGlobal_builtin (by rw [I.ok.glob]; exact I.mod.glob.keeps I.bk) hm (by rw [I.ok.blt]; exact h1.keeps I.bk) ((h2 x hn).trans hv) h) hd
theorem pe_bltn {x : Str} {v : V} {u : Value} {pos : Pos} (hg : Gl X x) (hm : X.mg x = none) (hv : bootBuiltins x = some u) (r : RelV v u) (hn : x ≠ "__name__" := by decide) (hd : (x == ("__debug__" : Str)) = false := by decide) : PE X (.Name x pos) (tC v) :=
  fun _ _ _ H _ I h => ld_blt I hg hm hv ⟨v, H, I, r, h⟩ hn hd

variable {a b : Expr} {ta tb : TE} {pos : Pos}
def PC (X : Cx) (op : CmpOp) (a b : Expr) (t : TE) : Prop :=
  ∀ (pins : List (Addr × Obj)) (s : Shared) (σ : St) (H : Hp) (Q : VK), Inv X pins σ H s → t σ H Q →
    wpAny (model X.prog X.w) X.A (eval a X.env) (fun v s₁ => wpAny (model X.prog X.w) X.A (eval b X.env) (fun u s₂ => wpAny (model X.prog X.w) X.A (compareOp op v u) (EP X pins σ Q) X.xe s₂) X.xe s₁) X.xe s
theorem nobehind (b : Expr) {op : CmpOp} (h : op ≠ .In) (h2 : op ≠ .NotIn) : behindInMarks op b = false := by
  have e1 : (op == CmpOp.In) = false := by cases op <;> first | rfl | exact absurd rfl h
  have e2 : (op == CmpOp.NotIn) = false := by cases op <;> first | rfl | exact absurd rfl h2
  cases b <;> simp [behindInMarks, e1, e2]
def tB (t : TE) : TT := fun σ H Q => t σ H fun x H1 => ∃ c, x = .bl c ∧ Q c H1
theorem pt_cmp {op : CmpOp} {t : TE} (h : PC X op a b t) (h1 : behindInMarks op b = false := by first | exact nobehind _ (by decide) (by decide) | rfl) : PT X (.Compare a [op] [b] pos) (tB t) := by
  intro pins s σ H Q I hw
  refine wpAny_isTrue_Compare1 (thn (h pins s σ H _ I hw) fun v s1 h1 => thn h1 fun u s2 h2 => thn h2 fun c s3 ⟨x, H1, I1, r1, q1⟩ => ?_) h1
  obtain ⟨d, rfl, q⟩ := q1
  cases r1
  exact wpAny_truthy_bool ⟨H1, I1, q⟩
theorem pt_val {e : Expr} {t : TE} (h : PE X e t) (he : ∀ whole, isTrue e X.env whole = (do let v ← whole; standAt e.pos; holding [v] (truthy v)) := by intro _; rfl) : PT X e (tB t) := by
  intro pins s σ H Q I hw
  refine isTrue_plain (thn (h pins s σ H _ I hw) fun v s1 ⟨x, H1, I1, r1, q1⟩ => ?_) (he _)
  obtain ⟨d, rfl, q⟩ := q1
  cases r1
  exact wpAny_truthy_bool ⟨H1, I1, q⟩

variable {tA tB' : TT} {rest : List Expr}
def tAnd (t u : TT) : TT := fun σ H Q => t σ H fun c H1 => if c = true then u σ H1 Q else Q false H1
def tOr (t u : TT) : TT := fun σ H Q => t σ H fun c H1 => if c = true then Q true H1 else u σ H1 Q
def tNot (t : TT) : TT := fun σ H Q => t σ H fun c H1 => Q (!c) H1
theorem pw_and1 (ha : PT X a tA) : PW X (.BoolOp .And [a] pos) tA := by
  intro wh pins s σ H Q I h
  refine isTrue_and (thn (ha pins s σ H Q I h) fun c s1 e => ?_)
  cases c with
  | true => exact isTrue_and_nil e
  | false => exact e
theorem pw_or1 (ha : PT X a tA) : PW X (.BoolOp .Or [a] pos) tA := by
  intro wh pins s σ H Q I h
  refine isTrue_or (thn (ha pins s σ H Q I h) fun c s1 e => ?_)
  cases c with
  | false => exact isTrue_or_nil e
  | true => exact e
theorem pw_and (ha : PT X a tA) (hb : PW X (.BoolOp .And (b :: rest) pos) tB') : PW X (.BoolOp .And (a :: b :: rest) pos) (tAnd tA tB') := by
  intro wh pins s σ H Q I h
  refine isTrue_and (thn (ha pins s σ H _ I h) fun c s1 ⟨H1, I1, q1⟩ => ?_)
  cases c with
  | true => exact hb wh pins s1 σ H1 Q I1 q1
  | false => exact ⟨H1, I1, q1⟩
theorem pw_or (ha : PT X a tA) (hb : PW X (.BoolOp .Or (b :: rest) pos) tB') : PW X (.BoolOp .Or (a :: b :: rest) pos) (tOr tA tB') := by
  intro wh pins s σ H Q I h
  refine isTrue_or (thn (ha pins s σ H _ I h) fun c s1 ⟨H1, I1, q1⟩ => ?_)
  cases c with
  | true => exact ⟨H1, I1, q1⟩
  | false => exact hb wh pins s1 σ H1 Q I1 q1
theorem pt_not (ha : PT X a tA) : PT X (.UnaryOp .Not a pos) (tNot tA) := by
  intro pins s σ H Q I h
  exact isTrue_not (ha pins s σ H (fun c H1 => Q (!c) H1) I h)
def tAndV (ta tb : TE) : TE := fun σ H Q => ta σ H fun x H1 => ∃ c, x = .bl c ∧ if c = true then tb σ H1 Q else Q (.bl false) H1
def tOrV (ta tb : TE) : TE := fun σ H Q => ta σ H fun x H1 => ∃ c, x = .bl c ∧ if c = true then Q (.bl true) H1 else tb σ H1 Q
def tNotV (ta : TE) : TE := fun σ H Q => ta σ H fun x H1 => ∃ c, x = .bl c ∧ Q (.bl (!c)) H1
theorem pe_one {op} {t : TE} (h : PE X a t) : PE X (.BoolOp op [a] pos) t := fun pins s σ H Q I hw => BoolOp_one (h pins s σ H Q I hw)
theorem pe_and (ha : PE X a ta) (hb : PE X (.BoolOp .And (b :: rest) pos) tb) : PE X (.BoolOp .And (a :: b :: rest) pos) (tAndV ta tb) := by
  intro pins s σ H Q I h
  refine BoolOp_and (thn (ha pins s σ H _ I h) fun v s1 ⟨x, H1, I1, r1, q1⟩ => ?_)
  obtain ⟨c, rfl, q1⟩ := q1
  cases r1
  refine wpAny_truthy_bool ?_
  cases c with
  | true => exact hb pins s1 σ H1 Q I1 q1
  | false => exact ⟨.bl false, H1, I1, rfl, q1⟩
theorem pe_or (ha : PE X a ta) (hb : PE X (.BoolOp .Or (b :: rest) pos) tb) : PE X (.BoolOp .Or (a :: b :: rest) pos) (tOrV ta tb) := by
  intro pins s σ H Q I h
  refine BoolOp_or (thn (ha pins s σ H _ I h) fun v s1 ⟨x, H1, I1, r1, q1⟩ => ?_)
  obtain ⟨c, rfl, q1⟩ := q1
  cases r1
  refine wpAny_truthy_bool ?_
  cases c with
  | false => exact hb pins s1 σ H1 Q I1 q1
  | true => exact ⟨.bl true, H1, I1, rfl, q1⟩
theorem pe_not (ha : PE X a ta) : PE X (.UnaryOp .Not a pos) (tNotV ta) := by
  intro pins s σ H Q I h
  refine UnaryOp_ (thn (ha pins s σ H _ I h) fun v s1 ⟨x, H1, I1, r1, q1⟩ => ?_)
  obtain ⟨c, rfl, q1⟩ := q1
  cases r1
  exact not_of (wpAny_truthy_bool ⟨.bl (!c), H1, I1, rfl, q1⟩)
def tIf (t : TT) (ta tb : TE) : TE := fun σ H Q => t σ H fun c H1 => if c = true then ta σ H1 Q else tb σ H1 Q
end
end L2

namespace L2
open PySem PySem.Spec PyProof.Rows

def SqL (K : PySem.W.Frag) (H : Hp) (a : Addr) (xs : List V) : Prop :=
  Rd H a (.lst xs) ∨
    ∃ (o : Obj) (its : Array Value) (n : Nat), K.lookup a = some o ∧ o.cls = .type "list" ∧ o.dict = none ∧ o.data = .seq its n ∧ its.size ≤ sizeLine ∧ Vals xs its.toList
def SqT (K : PySem.W.Frag) (H : Hp) (a : Addr) (xs : List V) : Prop :=
  Rd H a (.tup xs) ∨
    ∃ (o : Obj) (its : Array Value) (n : Nat), K.lookup a = some o ∧ o.cls = .type "tuple" ∧ o.data = .seq its n ∧ its.size ≤ sizeLine ∧ Vals xs its.toList
def absV : Value → Option V
  | .none => some .non
  | .bool b => some (.bl b)
  | .int i _ => some (.int i)
  | .str x _ => some (.str x)
  | .bytes b _ => some (.byt b)
  | .float b _ => some (.flt b)
  | .ref a => some (.ref a)
  | .type n => some (.ty n)
  | _ => none
theorem RelV.abs {x : V} {u : Value} (r : RelV x u) : absV u = some x := by
  cases x with
  | non => cases r; rfl
  | bl _ => cases r; rfl
  | int _ => obtain ⟨t, rfl⟩ := r; rfl
  | str _ => obtain ⟨t, rfl⟩ := r; rfl
  | byt _ => obtain ⟨t, rfl⟩ := r; rfl
  | flt _ => obtain ⟨t, rfl⟩ := r; rfl
  | ref _ => cases r; rfl
  | ty _ => cases r; rfl
theorem RelV.inj {x y : V} {u : Value} (r : RelV x u) (q : RelV y u) : x = y := Option.some.inj (r.abs.symm.trans q.abs)
theorem Vals.inj : ∀ {xs ys : List V} {us : List Value}, Vals xs us → Vals ys us → xs = ys
  | _, _, _, .nil, .nil => rfl
  | _, _, _, .cons r t, .cons r' t' => by rw [r.inj r', Vals.inj t t']
section
variable {X : Cx} {pins : List (Addr × Obj)} {σ : St} {H : Hp} {s : Shared} {a : Addr} {xs ys : List V}
theorem SqL.of {K : PySem.W.Frag} (h : H a = some (.lst xs)) : SqL K H a xs := .inl (.inl h)
theorem SqT.of {K : PySem.W.Frag} (h : H a = some (.tup xs)) : SqT K H a xs := .inl (.inl h)
theorem Inv.list (I : Inv X pins σ H s) (h : SqL X.K H a xs) : ∃ its : List Value, Vals xs its ∧ PlainL s.heap a its.toArray ∧ xs.length ≤ sizeLine := by
  rcases h with h | ⟨o, its, n, hk, hc, hd, hs, hz, r⟩
  · obtain ⟨z, its, n, r, e⟩ := h.ok I.hok
    exact ⟨its, r, ⟨_, n, e, rfl, rfl, rfl⟩, z⟩
  · refine ⟨its.toList, r, ⟨o, n, I.kIn a o hk, hc, hd, by simpa using hs⟩, ?_⟩
    have e := r.length
    simp only [Array.length_toList] at e
    omega
theorem Inv.tuple (I : Inv X pins σ H s) (h : SqT X.K H a xs) : ∃ its : List Value, Vals xs its ∧ IsTup s.heap a its.toArray ∧ xs.length ≤ sizeLine := by
  rcases h with h | ⟨o, its, n, hk, hc, hs, hz, r⟩
  · obtain ⟨z, its, r, p⟩ := h.ok I.hok
    exact ⟨its, r, p, z⟩
  · refine ⟨its.toList, r, ⟨o, I.kIn a o hk, hc, n, by simpa using hs⟩, ?_⟩
    have e := r.length
    simp only [Array.length_toList] at e
    omega
theorem Inv.list_inj (I : Inv X pins σ H s) (h : SqL X.K H a xs) (h' : SqL X.K H a ys) : xs = ys := by
  obtain ⟨its, r, ⟨o, n, e, _, _, d⟩, _⟩ := I.list h
  obtain ⟨its', r', ⟨o', n', e', _, _, d'⟩, _⟩ := I.list h'
  rw [e] at e'; cases e'
  rw [d] at d'
  injection d' with d1 _
  have : its = its' := by simpa using congrArg Array.toList d1
  subst this
  exact r.inj r'
end

abbrev Cx.wish (X : Cx) (E : Value → Shared → Prop) : Cx := { X with xe := E }
abbrev Cx.nox (X : Cx) : Cx := X.wish fun _ _ => False
theorem Cx.Ok.wish {X : Cx} (ok : X.Ok) (E : Value → Shared → Prop) : (X.wish E).Ok :=
  ⟨ok.mod, ok.kind, ok.glob, ok.blt, ok.above, ok.inj, ok.has, ok.cab, ok.hd, ok.frames, ok.stk, ok.exf, ok.bs, ok.bsz, ok.noex, ok.exfs, ok.funs, ok.frf⟩
theorem Cx.Ok.unwish {X : Cx} {E : Value → Shared → Prop} (ok : (X.wish E).Ok) : X.Ok :=
  ⟨ok.mod, ok.kind, ok.glob, ok.blt, ok.above, ok.inj, ok.has, ok.cab, ok.hd, ok.frames, ok.stk, ok.exf, ok.bs, ok.bsz, ok.noex, ok.exfs, ok.funs, ok.frf⟩
section
variable {X : Cx} {pins : List (Addr × Obj)} {σ : St} {H : Hp} {s : Shared} {E : Value → Shared → Prop}
theorem Inv.wish (I : Inv X pins σ H s) (E : Value → Shared → Prop) : Inv (X.wish E) pins σ H s := ⟨I.ok.wish E, I.os, I.bare, I.base, I.loc, I.cell, I.free, I.freeC, I.pin, I.hok, I.len⟩
theorem Inv.unwish (I : Inv (X.wish E) pins σ H s) : Inv X pins σ H s := ⟨I.ok.unwish, I.os, I.bare, I.base, I.loc, I.cell, I.free, I.freeC, I.pin, I.hok, I.len⟩
theorem SP.unwish {D : Ends} {f : Flow} {s' : Shared} (h : SP (X.wish E) pins D f s') : SP X pins D f s' := by
  cases f with
  | next => obtain ⟨σ', H', I, q⟩ := h; exact ⟨σ', H', I.unwish, q⟩
  | brk => obtain ⟨σ', H', I, q⟩ := h; exact ⟨σ', H', I.unwish, q⟩
  | cont => obtain ⟨σ', H', I, q⟩ := h; exact ⟨σ', H', I.unwish, q⟩
  | ret u => obtain ⟨v, σ', H', I, r, q⟩ := h; exact ⟨v, σ', H', I.unwish, r, q⟩
theorem PE.nox {e : Expr} {t : TE} (h : PE X.nox e t) : PE X e t := fun pins s σ H Q I hw =>
  wpAny_mono (h pins s σ H Q (I.wish _) hw) (fun _ _ ⟨v, H', I', r, q⟩ => ⟨v, H', I'.unwish, r, q⟩) fun _ _ z => False.elim z
theorem PT.nox {e : Expr} {t : TT} (h : PT X.nox e t) : PT X e t := fun pins s σ H Q I hw =>
  wpAny_mono (h pins s σ H Q (I.wish _) hw) (fun _ _ ⟨H', I', q⟩ => ⟨H', I'.unwish, q⟩) fun _ _ z => False.elim z
theorem PSs.nox {st : List Stmt} {t : TS} (h : PSs X.nox st t) : PSs X st t := fun pins s σ H D I hw =>
  wpAny_mono (h pins s σ H D (I.wish _) hw) (fun _ _ q => q.unwish) fun _ _ z => False.elim z
end

section
variable {X : Cx} {st : Stmt} {rest : List Stmt} {t u : TS} {e : Expr} {te : TE} {pos : Pos}
def tNext : TS := fun D σ H => D.nx σ H
def tSeq (t u : TS) : TS := fun D σ H => t { D with nx := u D } σ H
theorem pss_nil : PSs X [] tNext := fun _ _ σ H _ I h => wpAny_execs_nil ⟨σ, H, I, h⟩
theorem pss_cons (h1 : PS X st t) (h2 : PSs X rest u) : PSs X (st :: rest) (tSeq t u) := by
  intro pins s σ H D I h
  refine wpAny_execs_cons (thn (h1 pins s σ H { D with nx := u D } I h) fun f s1 q => ?_)
  cases f with
  | next =>
    obtain ⟨σ', H', I', q⟩ := q
    exact h2 pins s1 σ' H' D I' q
  | ret v => exact q
  | brk => exact q
  | cont => exact q
theorem pss_one (h1 : PS X st t) : PSs X [st] t := by
  intro pins s σ H D I h
  refine wpAny_execs_cons (thn (h1 pins s σ H D I h) fun f s1 q => ?_)
  cases f with
  | next => exact wpAny_execs_nil q
  | ret v => exact q
  | brk => exact q
  | cont => exact q
theorem Inv.quiet {pins : List (Addr × Obj)} {σ : St} {H : Hp} {s : Shared} (I : Inv X pins σ H s) : interactive X.env = false := by simp [interactive, I.ok.kind]
def tDrop (te : TE) : TS := fun D σ H => te σ H fun _ H1 => D.nx σ H1
theorem ps_expr (he : PE X e te) (hs : swapsWith e none pos.line X.env = pure false := by rfl) : PS X (.Expr e pos) (tDrop te) := by
  intro pins s σ H D I h
  exact wpAny_Expr_any (thn (he pins s σ H _ I h) fun v s1 ⟨x, H1, I1, r1, q1⟩ => ⟨σ, H1, I1, q1⟩) I.quiet hs
def tRet (te : TE) : TS := fun D σ H => te σ H D.rt
theorem ps_ret (he : PE X e te) : PS X (.Return (some e) pos) (tRet te) := by
  intro pins s σ H D I h
  exact wpAny_Return_some (thn (he pins s σ H _ I h) fun v s1 ⟨x, H1, I1, r1, q1⟩ => ⟨x, σ, H1, I1, r1, q1⟩)
def tRetN : TS := fun D _ H => D.rt .non H
def tIfS (c : TT) (t u : TS) : TS := fun D σ H => c σ H fun b H1 => if b = true then t D σ H1 else u D σ H1
theorem ps_if {c : Expr} {a b : List Stmt} {tc : TT} (hc : PT X c tc) (ha : PSs X a t) (hb : PSs X b u) : PS X (.If c a b pos) (tIfS tc t u) := by
  intro pins s σ H D I h
  refine wpAny_If (thn (hc pins s σ H _ I h) fun d s1 ⟨H1, I1, q1⟩ => ?_)
  cases d with
  | true => exact ha pins s1 σ H1 D I1 q1
  | false => exact hb pins s1 σ H1 D I1 q1
def tNever : TS := fun _ _ _ => False
end

abbrev TG := V → St → Hp → (St → Hp → Prop) → Prop
abbrev TGs := List V → St → Hp → (St → Hp → Prop) → Prop
def PG (X : Cx) (target : Expr) (t : TG) : Prop :=
  ∀ (pins : List (Addr × Obj)) (s : Shared) (σ : St) (H : Hp) (v : V) (u : Value) (Q : St → Hp → Prop), Inv X pins σ H s → RelV v u → t v σ H Q →
    wpAny (model X.prog X.w) X.A (assign target X.env u) (fun _ s' => ∃ σ' H', Inv X pins σ' H' s' ∧ Q σ' H') X.xe s
def PGs (X : Cx) (ts : List Expr) (t : TGs) : Prop :=
  ∀ (pins : List (Addr × Obj)) (s : Shared) (σ : St) (H : Hp) (vs : List V) (us : List Value) (Q : St → Hp → Prop), Inv X pins σ H s → Vals vs us → t vs σ H Q →
    wpAny (model X.prog X.w) X.A (assignInOrder ((assignEach ts X.env).map (·.2)) us) (fun _ s' => ∃ σ' H', Inv X pins σ' H' s' ∧ Q σ' H') X.xe s
section
variable {X : Cx} {pos : Pos}
def gName (i : Nat) : TG := fun v σ H Q => Q (σ.set i (some v)) H
theorem pg_name {i : Nat} {x : Str} (hN : X.N.Nodup) (hi : X.N[i]? = some x) (hx : Loc X.env.scope x) (hf : X.fn x = true ∨ X.env.scope.names.lookup x = some .local := by first | exact .inl rfl | exact .inr rfl | assumption) : PG X (.Name x pos) (gName i) := by
  intro pins s σ H v u Q I r h
  exact wpAny_assign_Name (store_ok I hN hi hx r (fun s' I' => ⟨_, H, I', h⟩) hf)
def gNil : TGs := fun vs σ H Q => vs = [] ∧ Q σ H
def gCons (t : TG) (u : TGs) : TGs := fun vs σ H Q => ∃ v r, vs = v :: r ∧ t v σ H fun σ' H' => u r σ' H' Q
theorem pgs_nil : PGs X [] gNil := by
  intro pins s σ H vs us Q I r h
  obtain ⟨e, h⟩ := h
  subst e
  cases r
  exact assignInOrder_nil ⟨σ, H, I, h⟩
theorem pgs_cons {e : Expr} {es : List Expr} {t : TG} {u : TGs} (h1 : PG X e t) (h2 : PGs X es u)
    (hs : (assignEach (e :: es) X.env).map (·.2) = assign e X.env :: (assignEach es X.env).map (·.2) := by rfl) : PGs X (e :: es) (gCons t u) := by
  intro pins s σ H vs us Q I r h
  obtain ⟨v, vr, e1, h⟩ := h
  subst e1
  cases r with
  | cons r rr =>
    rw [hs]
    refine assignInOrder_cons (thn (h1 pins s σ H _ _ _ I r h) fun _ s1 ⟨σ1, H1, I1, q1⟩ => ?_)
    exact h2 pins s1 σ1 H1 _ _ Q I1 rr q1
def gTup (K : PySem.W.Frag) (n : Nat) (t : TGs) : TG := fun v σ H Q => ∃ a xs, v = .ref a ∧ SqT K H a xs ∧ xs.length = n ∧ t xs σ H Q
theorem pg_tup {es : List Expr} {k : Nat} {t : TGs} {n : Nat} (hc : X.calm = true) (h : PGs X es t)
    (hn : (assignEach es X.env).length = n := by rfl) (hst : (assignEach es X.env).findIdx? (·.1) = none := by rfl) : PG X (.Tuple es k pos) (gTup X.K n t) := by
  intro pins s σ H v u Q I r hw
  obtain ⟨a, xs, e1, hq, hl, hw⟩ := hw
  subst e1
  cases r
  obtain ⟨its, rv, ht, hz⟩ := I.tuple hq
  refine assign_Tuple_tuple (I.ok.hd hc) ht (by simp [hn, ← hl, rv.length]) hst fun h' hx => ?_
  have I1 : Inv X pins σ H { s with heap := h' } := I.kept (t' := s.toks) fun b o e => hx b o (Nat.ne_of_lt (Heap.lt_size e)) e
  exact h pins _ σ H xs _ Q I1 (by simpa using rv) hw
def tAsg (te : TE) (g : TG) : TS := fun D σ H => te σ H fun x H1 => g x σ H1 D.nx
theorem ps_set {i : Nat} {x : Str} {e : Expr} {te : TE} {pos' : Pos} (hN : X.N.Nodup) (hi : X.N[i]? = some x) (hx : Loc X.env.scope x) (he : PE X e te) (hs : swapsWith e (some (.Name x pos')) pos.line X.env = pure false := by rfl) (hf : X.fn x = true ∨ X.env.scope.names.lookup x = some .local := by first | exact .inl rfl | exact .inr rfl | assumption) :
    PS X (.Assign [.Name x pos'] e pos) (tAsg te (gName i)) := by
  intro pins s σ H D I h
  refine wpAny_Assign_Name (thn (he pins s σ H _ I h) fun v s1 ⟨y, H1, I1, r1, q1⟩ => ?_) hs
  exact store_ok I1 hN hi hx r1 (fun s2 I2 => ⟨_, H1, I2, q1⟩) hf
end

section
variable {X : Cx} {pos : Pos}
end

set_option genInjectivity false in
structure It where
  go : Nat → Hp → Prop
  yld : Nat → Hp → V → Hp → Prop
  stop : Nat → Hp → Prop
def FpOk (X : Cx) (pins : List (Addr × Obj)) (H : Hp) (b : Addr) : Prop :=
  H b = none ∧ b ≠ X.env.locals ∧ b ∉ X.fs ∧ (b ∈ X.ex ∨ X.s₀.heap.objs.size ≤ b) ∧ (∀ x c, X.env.cells.lookup x = some c → c ≠ b) ∧ ∀ p ∈ X.pn ++ pins, p.1 ≠ b
theorem Inv.fpOk {X : Cx} {pins : List (Addr × Obj)} {σ : St} {H H' : Hp} {s : Shared} {b : Addr} (I : Inv X pins σ H s) (hb : s.heap.objs.size ≤ b) (hn : H' b = none) : FpOk X pins H' b := by
  refine ⟨hn, Nat.ne_of_gt (Nat.lt_of_lt_of_le I.lt hb), I.nofs hb, .inr (Nat.le_trans I.sz hb), fun x c e z => ?_, fun p hp z => ?_⟩
  · obtain ⟨v, q⟩ := I.cell x c e
    exact absurd (Nat.lt_of_lt_of_le q.lt (by rw [z]; exact hb)) (Nat.lt_irrefl _)
  · exact absurd (Nat.lt_of_lt_of_le (Heap.lt_size (I.pin p hp).1) (by rw [z]; exact hb)) (Nat.lt_irrefl _)
structure Turn (P : Program) (w : World) (K : PySem.W.Frag) (tg : Expr) (J : It) (fp : List Addr) (it : Addr) (tn : Nat → Heap → Prop) : Prop where
  mem : it ∈ fp
  obj : ∀ i h, tn i h → ∀ b ∈ fp, ∃ o, h.get? b = some o ∧ ∀ v, o.data ≠ .cell v
  keep : ∀ i h h', tn i h → (∀ b ∈ fp, ∀ o, h.get? b = some o → h'.get? b = some o) → tn i h'
  item : ∀ (X : Cx), X.prog = P → X.w = w → X.K = K → X.calm = true → ∀ (i : Nat) (pins : List (Addr × Obj)) (s : Shared) (σ : St) (H : Hp) (E : Value → Shared → Prop), Inv X pins σ H s → (∀ b ∈ fp, FpOk X pins H b) → tn i s.heap → J.go i H →
    wpAny (model P w) X.A (pyNext (.ref it)) (fun r s1 => ∃ u, r = some u ∧
      wpAny (model P w) X.A (letOwnedTupleGo tg (.ref it) u) (fun _ s2 => ∃ x H', Inv X pins σ H' s2 ∧ RelV x u ∧ J.yld i H x H' ∧ tn (i + 1) s2.heap ∧ ∀ b ∈ fp, H' b = none) E s1) E s
  done : ∀ (X : Cx), X.prog = P → X.w = w → X.K = K → X.calm = true → ∀ (i : Nat) (pins : List (Addr × Obj)) (s : Shared) (σ : St) (H : Hp) (E : Value → Shared → Prop), Inv X pins σ H s → (∀ b ∈ fp, FpOk X pins H b) → tn i s.heap → J.stop i H →
    wpAny (model P w) X.A (pyNext (.ref it)) (fun r s1 => r = none ∧ Inv X pins σ H s1) E s
  self : ∀ (A : Around) (i : Nat) (s : Shared) (Q : Value → Shared → Prop) (E : Value → Shared → Prop), tn i s.heap → Q (.ref it) s → wpAny (model P w) A (pyIter (.ref it)) Q E s
abbrev TI := St → Hp → (It → Hp → Prop) → Prop
def PIE (X : Cx) (pins : List (Addr × Obj)) (σ : St) (tg : Expr) (R : It → Hp → Prop) (itv : Value) (s2 : Shared) : Prop :=
  ∃ (it : Addr) (fp : List Addr) (tn : Nat → Heap → Prop) (J : It) (H' : Hp), itv = .ref it ∧ Inv X pins σ H' s2 ∧ Turn X.prog X.w X.K tg J fp it tn ∧ tn 0 s2.heap ∧ (∀ b ∈ fp, FpOk X pins H' b) ∧ R J H'
def PI (X : Cx) (tg iter : Expr) (wi : TI) : Prop :=
  ∀ (pins : List (Addr × Obj)) (s : Shared) (σ : St) (H : Hp) (R : It → Hp → Prop), Inv X pins σ H s → wi σ H R →
    wpAny (model X.prog X.w) X.A (eval iter X.env) (fun v s1 => wpAny (model X.prog X.w) X.A (pyIter v) (PIE X pins σ tg R) X.xe s1) X.xe s

theorem go_of {M : Model} {A : Around} {E : Value → Shared → Prop} {s : Shared} {tg : Expr} {it : Addr} {u : Value} {o : Obj} {n : String} {vs : Array Value} {Q : Unit → Shared → Prop} (ho : s.heap.get? it = some o) (hc : o.cls = .type n) (hd : o.data = .fields vs)
    (hn : ["enumerate", "zip", "dict_itemiterator", "dict_reverseitemiterator", "odict_iterator", "itertools.zip_longest", "itertools.pairwise"].contains n = false) (hQ : Q () s) : wpAny M A (letOwnedTupleGo tg (.ref it) u) Q E s := by
  unfold letOwnedTupleGo
  cases tg <;> first
    | exact wpAny_pure hQ
    | (cases u <;> first
        | exact wpAny_pure hQ
        | (refine wpAny_bind (wpAny_load ho ?_)
           rw [hc, hd]
           show wpAny M A (if (["enumerate", "zip", "dict_itemiterator", "dict_reverseitemiterator", "odict_iterator", "itertools.zip_longest", "itertools.pairwise"].contains n && vs[0]? == some (rawInt _)) = true then _ else _) Q E s
           rw [if_neg (by intro h; rw [hn, Bool.false_and] at h; cases h)]
           exact wpAny_pure hQ))

def Itl (K : PySem.W.Frag) (a : Addr) : It :=
  ⟨fun i H => ∃ xs x, SqL K H a xs ∧ xs[i]? = some x, fun i H x H' => H' = H ∧ ∀ xs, SqL K H a xs → xs[i]? = some x, fun i H => ∃ xs, SqL K H a xs ∧ xs.length ≤ i⟩
def Itr (lo : Int) (n : Nat) : It := ⟨fun i _ => i < n, fun i H x H' => H' = H ∧ x = .int (lo + i), fun i _ => n ≤ i⟩
theorem turn_list {P : Program} {w : World} {K : PySem.W.Frag} {tg : Expr} (a it : Addr) : Turn P w K tg (Itl K a) [it] it (fun i h => h.IsListIter it a i) where
  mem := by simp
  obj := fun i h st b hb => by
    have e : b = it := by simpa using hb
    subst e
    obtain ⟨o, e, c, d⟩ := st
    exact ⟨o, e, fun v z => by rw [d] at z; cases z⟩
  keep := fun i h h' st k => st.at fun o e => k it (by simp) o e
  item := by
    intro X hP hw hK hc i pins s σ H E I hf st hg
    subst hP hw hK
    obtain ⟨xs, x, hq, hx⟩ := hg
    obtain ⟨its, rv, p, hz⟩ := I.list hq
    obtain ⟨u, hu, ru⟩ := rv.get hx
    obtain ⟨f0, f1, f2, f3, f4, f5⟩ := hf it (by simp)
    refine wpAny_pyNext_list_item st p.isList (x := u) (by simpa using hu) fun h' st' sb => ?_
    have I1 : Inv X pins σ H { s with heap := h' } := I.turned (t' := s.toks) (fun b o hb e => (sb.2 b hb).trans e) f0 f1 f3 f4 f5
    obtain ⟨o, e, c, d⟩ := id st'
    exact ⟨u, rfl, go_of (s := { s with heap := h' }) e c d (by decide) ⟨x, H, I1, ru, ⟨rfl, fun ys hy => by rw [I.list_inj hy hq]; exact hx⟩, st', fun b hb => (hf b hb).1⟩⟩
  done := by
    intro X hP hw hK hc i pins s σ H E I hf st hg
    subst hP hw hK
    obtain ⟨xs, hq, hx⟩ := hg
    obtain ⟨its, rv, p, hz⟩ := I.list hq
    obtain ⟨f0, f1, f2, f3, f4, f5⟩ := hf it (by simp)
    have hl := rv.length
    exact wpAny_pyNext_list_end (I.ok.hd hc) st p.isList (by simp; omega) fun h' eb => ⟨rfl, I.turned (t' := s.toks) (fun b o hb e => eb b o hb e) f0 f1 f3 f4 f5⟩
  self := fun _ _ _ _ _ st h => wpAny_pyIter_listiter st h
theorem turn_range {P : Program} {w : World} {K : PySem.W.Frag} {tg : Expr} (it : Addr) (lo : Int) (n : Nat) : Turn P w K tg (Itr lo n) [it] it (fun i h => IsRangeIter h it (lo + (i : Nat) * 1) ((n : Int) - (i : Nat)) 1) where
  mem := by simp
  obj := fun i h st b hb => by
    have e : b = it := by simpa using hb
    subst e
    exact ⟨_, st, fun v z => by
      have z' : Data.fields _ = Data.cell v := z
      cases z'⟩
  keep := fun i h h' st k => k it (by simp) _ st
  item := by
    intro X hP hw hK hc i pins s σ H E I hf st hg
    subst hP hw hK
    obtain ⟨f0, f1, f2, f3, f4, f5⟩ := hf it (by simp)
    have W := Walks.range (prog := X.prog) (w := X.w) (I.ok.hd hc) it lo 1 n
    refine W.item i s _ _ hg st fun v h' tk hv st' kk => ?_
    obtain ⟨t, rfl⟩ := hv
    have I1 : Inv X pins σ H { s with heap := h', toks := tk } := I.turned (fun b o hb e => kk b o (by simpa using hb) e) f0 f1 f3 f4 f5
    refine ⟨_, rfl, go_of (s := { s with heap := h', toks := tk }) (n := "range_iterator") st' rfl rfl (by decide) ⟨.int (lo + i), H, I1, ⟨t, ?_⟩, ⟨rfl, rfl⟩, st', fun b hb => (hf b hb).1⟩⟩
    rw [Int.mul_one]
  done := by
    intro X hP hw hK hc i pins s σ H E I hf st hg
    subst hP hw hK
    obtain ⟨f0, f1, f2, f3, f4, f5⟩ := hf it (by simp)
    exact wpAny_pyNext_range_end (I.ok.hd hc) st (by have : n ≤ i := hg; omega) fun h' eb => ⟨rfl, I.turned (t' := s.toks) (fun b o hb e => eb b o hb e) f0 f1 f3 f4 f5⟩
  self := fun _ _ _ _ _ st h => wpAny_pyIter_rangeiter st h
end L2

namespace L2
open PySem PySem.Spec PyProof.Rows
section
variable {X : Cx} {tg : Expr}
def iList (K : PySem.W.Frag) (tl : TE) : TI := fun σ H R => tl σ H fun x H1 => ∃ a, x = .ref a ∧ (∃ xs, SqL K H1 a xs) ∧ R (Itl K a) H1
theorem pi_list {l : Expr} {tl : TE} (hl : PE X l tl) : PI X tg l (iList X.K tl) := by
  intro pins s σ H R I h
  refine thn (hl pins s σ H _ I h) fun v s1 ⟨x, H1, I1, r1, q1⟩ => ?_
  obtain ⟨a, e, ⟨xs, hq⟩, q⟩ := q1
  subst e
  cases r1
  obtain ⟨its, rv, p, hz⟩ := I1.list hq
  refine wpAny_pyIter_list p.isList ?_
  refine ⟨s1.heap.objs.size, [s1.heap.objs.size], _, _, H1, rfl, I1.kept (t' := s1.toks) fun b o e => Heap.get?_push_of_some _ e, turn_list a _, ⟨_, Heap.get?_push_size _ rfl, rfl, rfl⟩, fun b hb => ?_, q⟩
  have e : b = s1.heap.objs.size := by simpa using hb
  subst e
  exact I1.fpOk (Nat.le_refl _) (I1.hok.fresh (Nat.le_refl _))
theorem range_it {pins : List (Addr × Obj)} {σ : St} {H : Hp} {s : Shared} {R : It → Hp → Prop} {E : Value → Shared → Prop} {lo hi : Int} {t u v : Tok} {tk : Nat} (I : Inv X pins σ H s) (h1 : -(2 ^ 62) ≤ lo) (h2 : lo < 2 ^ 62) (h3 : -(2 ^ 62) ≤ hi) (h4 : hi < 2 ^ 62)
    (q : R (Itr lo (hi - lo).toNat) H) : wpAny (model X.prog X.w) X.A (pyIter (.ref s.heap.objs.size)) (PIE X pins σ tg R) E { s with heap := s.heap.push { cls := .type "range", data := .fields #[.int lo t, .int hi u, .int 1 v] }, toks := tk } := by
  refine wpAny_pyIter_range (IsRange.new ..) (small_one h1 h2 h3 h4) ?_
  have I1 : Inv X pins σ H { s with heap := s.heap.push { cls := .type "range", data := .fields #[.int lo t, .int hi u, .int 1 v] }, toks := tk } := I.kept fun b o e => Heap.get?_push_of_some _ e
  refine ⟨(s.heap.push { cls := .type "range", data := .fields #[.int lo t, .int hi u, .int 1 v] }).objs.size, [(s.heap.push { cls := .type "range", data := .fields #[.int lo t, .int hi u, .int 1 v] }).objs.size], _, _, H, rfl,
    I1.kept (t' := tk) fun b o e => Heap.get?_push_of_some _ e, turn_range _ lo (hi - lo).toNat, ?_, fun b hb => ?_, q⟩
  · have e1 : lo + ((0 : Nat) : Int) * 1 = lo := by simp
    have e2 : (((hi - lo).toNat : Nat) : Int) - ((0 : Nat) : Int) = Builtin.Range.rangeSize lo hi 1 := by rw [rangeSize_one]; split <;> omega
    show IsRangeIter _ _ (lo + ((0 : Nat) : Int) * 1) ((((hi - lo).toNat : Nat) : Int) - ((0 : Nat) : Int)) 1
    rw [e1, e2]
    exact Heap.get?_push_size _ rfl
  · have e : b = (s.heap.push { cls := .type "range", data := .fields #[.int lo t, .int hi u, .int 1 v] }).objs.size := by simpa using hb
    subst e
    exact I1.fpOk (Nat.le_refl _) (I1.hok.fresh (Nat.le_refl _))
def iRng1 (ta : TA) : TI := fun σ H R => ta σ H fun vs H1 => ∃ j : Int, vs = [.int j] ∧ -(2 ^ 62) ≤ j ∧ j < 2 ^ 62 ∧ R (Itr 0 j.toNat) H1
theorem pi_range1 {a : Expr} {ta : TA} {p pos : Pos} (hg : Gl X "range") (hm : X.mg "range" = none) (ha : PA X [a] ta) (hs : starEach [a] X.env = [(false, eval a X.env)] := by rfl) : PI X tg (.Call (.Name "range" p) [a] [] pos) (iRng1 ta) := by
  intro pins s σ H R I h
  refine Call_ (ld_blt I hg hm boot_range (PyProof.Rows.callWith_type1 (thn (ha pos pins s σ H _ I h) fun us s1 ⟨vs, H1, I1, r1, q1⟩ => ?_) hs rfl))
  obtain ⟨j, e, q1, q2, q⟩ := q1
  subst e
  cases r1 with
  | cons r rr =>
    cases rr
    obtain ⟨t, rfl⟩ := r
    exact call_range_1 (range_it I1 (by omega) (by omega) q1 q2 (by simpa using q))
def tFor (wi : TI) (g : TG) (tb : TS) : TS := fun D σ H => wi σ H fun J H1 => ∃ W : Nat → Nat → St → Hp → Prop, (∃ m, W 0 m σ H1) ∧ ∀ i m σ H, W i m σ H →
  (J.stop i H ∧ D.nx σ H) ∨ (J.go i H ∧ ∃ N : St → Hp → Prop, (∀ σ' H', N σ' H' → ∃ m', m' < m ∧ W (i + 1) m' σ' H') ∧ ∀ x H', J.yld i H x H' → g x σ H' fun σ2 H2 => tb { D with nx := N, ct := N, bk := D.nx } σ2 H2)
def pinsAt (fp : List Addr) (h : Heap) : List (Addr × Obj) := fp.filterMap fun b => (h.get? b).map fun o => (b, o)
theorem mem_pinsAt {fp : List Addr} {h : Heap} {b : Addr} {o : Obj} (hb : b ∈ fp) (e : h.get? b = some o) : (b, o) ∈ pinsAt fp h := List.mem_filterMap.mpr ⟨b, hb, by rw [e]; rfl⟩
theorem of_pinsAt {fp : List Addr} {h : Heap} {p : Addr × Obj} (hp : p ∈ pinsAt fp h) : p.1 ∈ fp ∧ h.get? p.1 = some p.2 := by
  obtain ⟨b, hb, e⟩ := List.mem_filterMap.mp hp
  cases q : h.get? b with
  | none => rw [q] at e; cases e
  | some o =>
    rw [q] at e
    have e' : (b, o) = p := Option.some.inj e
    subst e'
    exact ⟨hb, q⟩
theorem Inv.pinned {pins : List (Addr × Obj)} {σ : St} {H : Hp} {s : Shared} {fp : List Addr} (I : Inv X pins σ H s) (hf : ∀ b ∈ fp, FpOk X pins H b) (ho : ∀ b ∈ fp, ∃ o, s.heap.get? b = some o ∧ ∀ v, o.data ≠ .cell v) : Inv X (pins ++ pinsAt fp s.heap) σ H s :=
  I.pins_of fun p hp => (List.mem_append.mp hp).elim (fun z => I.pin p (List.mem_append_right _ z)) fun z => by
    obtain ⟨hb, e⟩ := of_pinsAt z
    obtain ⟨f0, f1, f2, _⟩ := hf p.1 hb
    obtain ⟨o, e', d⟩ := ho p.1 hb
    rw [e] at e'; cases e'
    exact ⟨e, f0, f1, f2, d⟩
theorem Inv.unpinned {pins pl : List (Addr × Obj)} {σ : St} {H : Hp} {s : Shared} (I : Inv X (pins ++ pl) σ H s) : Inv X pins σ H s := I.pins_of fun p hp => I.pin p (List.mem_append_right _ (List.mem_append_left _ hp))
theorem ps_for {iter : Expr} {body : List Stmt} {wi : TI} {g : TG} {tb : TS} {pos : Pos} (hp : PassesOwn (model X.prog X.w) X.A X.env X.xe) (hc : X.calm = true) (hi : PI X tg iter wi) (hg : PG X tg g) (hb : PSs X body tb)
    (hs : ∀ x, foldedSetIterable iter X.env x = pure x := by intro _; rfl) : PS X (.For tg iter body [] pos) (tFor wi g tb) := by
  intro pins s σ H D I h
  refine wpAny_For (thn (hi pins s σ H _ I h) fun v s1 h1 => thn h1 fun itv s2 h2 => ?_) hs
  obtain ⟨it, fp, tn, J, H2, e, I2, T, st2, f2, W, ⟨m0, w0⟩, turn⟩ := h2
  subst e
  -- what stays true of the iterator's objects through the loop
  have stat : ∀ {H' : Hp}, (∀ b ∈ fp, H' b = none) → ∀ b ∈ fp, FpOk X pins H' b := fun hn b hb => ⟨hn b hb, (f2 b hb).2⟩
  refine codeAny_forLoop_any (fun n s' => ∃ i σ' H', Inv X pins σ' H' s' ∧ tn i s'.heap ∧ (∀ b ∈ fp, H' b = none) ∧ W i n σ' H') ?_ m0 ⟨0, σ, H2, I2, st2, fun b hb => (f2 b hb).1, w0⟩
  rintro n s3 ⟨i, σ3, H3, I3, st3, fr3, w3⟩
  rcases turn i n σ3 H3 w3 with ⟨stop, qn⟩ | ⟨go, N, hN, step⟩
  · refine wpAny_passesOwn hp (thn (T.done X rfl rfl rfl hc i pins s3 σ3 H3 X.xe I3 (stat fr3) st3 stop) fun r s4 ⟨hr, I4⟩ => ?_)
    subst hr
    exact wpAny_execs_nil ⟨σ3, H3, I4, qn⟩
  · refine wpAny_passesOwn hp (thn (T.item X rfl rfl rfl hc i pins s3 σ3 H3 X.xe I3 (stat fr3) st3 go) fun r s4 ⟨u, hr, h4⟩ => ?_)
    subst hr
    refine wpAny_passesOwn hp (thn h4 fun _ s5 ⟨x, H5, I5, r5, y5, st5, fr5⟩ => ?_)
    have I5' := I5.pinned (stat fr5) (T.obj _ _ st5)
    refine wpAny_passesOwn hp (thn (hg _ s5 σ3 H5 x u _ I5' r5 (step x H5 y5)) fun _ s6 ⟨σ6, H6, I6, q6⟩ => ?_)
    refine wpAny_passesOwn hp (thn (hb _ s6 σ6 H6 _ I6 q6) fun f s7 q7 => ?_)
    have again : ∀ {σ7 : St} {H7 : Hp}, Inv X (pins ++ pinsAt fp s5.heap) σ7 H7 s7 → N σ7 H7 → ∃ m, m < n ∧ ∃ i σ' H', Inv X pins σ' H' s7 ∧ tn i s7.heap ∧ (∀ b ∈ fp, H' b = none) ∧ W i m σ' H' := fun {σ7 H7} I7 n7 => by
      obtain ⟨m', hm, w7⟩ := hN σ7 H7 n7
      refine ⟨m', hm, i + 1, σ7, H7, I7.unpinned, T.keep _ _ _ st5 fun b hb o e => (I7.pin (b, o) (List.mem_append_right _ (List.mem_append_right _ (mem_pinsAt hb e)))).1, fun b hb => ?_, w7⟩
      obtain ⟨o, e, d⟩ := T.obj _ _ st5 b hb
      exact (I7.pin (b, o) (List.mem_append_right _ (List.mem_append_right _ (mem_pinsAt hb e)))).2.1
    cases f with
    | next => obtain ⟨σ7, H7, I7, n7⟩ := q7; exact again I7 n7
    | cont => obtain ⟨σ7, H7, I7, n7⟩ := q7; exact again I7 n7
    | brk => obtain ⟨σ7, H7, I7, q7⟩ := q7; exact ⟨σ7, H7, I7.unpinned, q7⟩
    | ret v => obtain ⟨x7, σ7, H7, I7, r7, q7⟩ := q7; exact ⟨x7, σ7, H7, I7.unpinned, r7, q7⟩
end

theorem for_list {K : PySem.W.Frag} {a : Addr} {xs : List V} {g : TG} {tb : TS} {D : Ends} {σ : St} {H : Hp} (Pv : Nat → St → Hp → Prop) (h0 : Pv 0 σ H) (hl : ∀ i σ H, i ≤ xs.length → Pv i σ H → SqL K H a xs)
    (hs : ∀ i x σ H, xs[i]? = some x → Pv i σ H → g x σ H fun σ2 H2 => tb { D with nx := Pv (i + 1), ct := Pv (i + 1), bk := D.nx } σ2 H2) (hd : ∀ σ H, Pv xs.length σ H → D.nx σ H) :
    ∃ W : Nat → Nat → St → Hp → Prop, (∃ m, W 0 m σ H) ∧ ∀ i m σ H, W i m σ H →
      ((Itl K a).stop i H ∧ D.nx σ H) ∨ ((Itl K a).go i H ∧ ∃ N : St → Hp → Prop, (∀ σ' H', N σ' H' → ∃ m', m' < m ∧ W (i + 1) m' σ' H') ∧ ∀ x H', (Itl K a).yld i H x H' → g x σ H' fun σ2 H2 => tb { D with nx := N, ct := N, bk := D.nx } σ2 H2) := by
  refine ⟨fun i m σ H => m = xs.length - i ∧ i ≤ xs.length ∧ Pv i σ H, ⟨xs.length, by simp, Nat.zero_le _, h0⟩, ?_⟩
  rintro i m σ H ⟨rfl, hi, p⟩
  have q := hl i σ H hi p
  by_cases hlt : i < xs.length
  · refine .inr ⟨⟨xs, xs[i], q, by simp [hlt]⟩, Pv (i + 1), fun σ' H' p' => ⟨xs.length - (i + 1), by omega, rfl, hlt, p'⟩, fun x H' y => ?_⟩
    obtain ⟨e, y⟩ := y
    subst e
    exact hs i x σ _ (y xs q) p
  · have e : i = xs.length := by omega
    subst e
    exact .inl ⟨⟨xs, q, Nat.le_refl _⟩, hd σ H p⟩
theorem for_range {lo : Int} {n : Nat} {g : TG} {tb : TS} {D : Ends} {σ : St} {H : Hp} (Pv : Nat → St → Hp → Prop) (h0 : Pv 0 σ H)
    (hs : ∀ i σ H, i < n → Pv i σ H → g (.int (lo + i)) σ H fun σ2 H2 => tb { D with nx := Pv (i + 1), ct := Pv (i + 1), bk := D.nx } σ2 H2) (hd : ∀ σ H, Pv n σ H → D.nx σ H) :
    ∃ W : Nat → Nat → St → Hp → Prop, (∃ m, W 0 m σ H) ∧ ∀ i m σ H, W i m σ H →
      ((Itr lo n).stop i H ∧ D.nx σ H) ∨ ((Itr lo n).go i H ∧ ∃ N : St → Hp → Prop, (∀ σ' H', N σ' H' → ∃ m', m' < m ∧ W (i + 1) m' σ' H') ∧ ∀ x H', (Itr lo n).yld i H x H' → g x σ H' fun σ2 H2 => tb { D with nx := N, ct := N, bk := D.nx } σ2 H2) := by
  refine ⟨fun i m σ H => m = n - i ∧ i ≤ n ∧ Pv i σ H, ⟨n, by simp, Nat.zero_le _, h0⟩, ?_⟩
  rintro i m σ H ⟨rfl, hi, p⟩
  by_cases hlt : i < n
  · refine .inr ⟨hlt, Pv (i + 1), fun σ' H' p' => ⟨n - (i + 1), by omega, rfl, hlt, p'⟩, fun x H' y => ?_⟩
    obtain ⟨e, y⟩ := y
    subst e y
    exact hs i σ _ hlt p
  · have e : i = n := by omega
    subst e
    exact .inl ⟨Nat.le_refl _, hd σ H p⟩
end L2

namespace L2
open PySem PySem.Spec PyProof.Rows

abbrev R2 := V → V → Hp → VK → Prop
def OpR (X : Cx) (f : Value → Value → Sem Value) (r : R2) : Prop :=
  ∀ (pins : List (Addr × Obj)) (s : Shared) (σ : St) (H : Hp) (x y : V) (v u : Value) (Q : VK), Inv X pins σ H s → RelV x v → RelV y u → r x y H Q →
    wpAny (model X.prog X.w) X.A (f v u) (EP X pins σ Q) X.xe s
def CallR (X : Cx) (f : Value) (r : List V → Hp → VK → Prop) : Prop :=
  ∀ (pins : List (Addr × Obj)) (s : Shared) (σ : St) (H : Hp) (xs : List V) (us : List Value) (Q : VK), Inv X pins σ H s → Vals xs us → r xs H Q →
    wpAny (model X.prog X.w) X.A (call f us) (EP X pins σ Q) X.xe s
def tOp (r : R2) (ta tb : TE) : TE := fun σ H Q => ta σ H fun x H1 => tb σ H1 fun y H2 => r x y H2 Q
def tUn (r : V → Hp → VK → Prop) (ta : TE) : TE := fun σ H Q => ta σ H fun x H1 => r x H1 Q
def rI (C : Int → Int → Prop) (g : Int → Int → V) : R2 := fun x y H Q => ∃ i j, x = .int i ∧ y = .int j ∧ C i j ∧ Q (g i j) H
def rI0 (g : Int → Int → V) : R2 := fun x y H Q => ∃ i j, x = .int i ∧ y = .int j ∧ Q (g i j) H
def rU (g : Int → V) : V → Hp → VK → Prop := fun x H Q => ∃ i, x = .int i ∧ Q (g i) H

section
variable {X : Cx} {a b c : Expr} {ta tb tc : TE} {pos : Pos}

theorem binT (ha : PE X a ta) (hb : PE X b tb) {pins : List (Addr × Obj)} {s : Shared} {σ : St} {H : Hp} {R : V → V → Hp → Prop} (I : Inv X pins σ H s)
    (h : ta σ H fun x H1 => tb σ H1 fun y H2 => R x y H2) {Q : Value → Shared → Prop} {f : Value → Value → Sem Value}
    (hf : ∀ v u s2 x y H2, Inv X pins σ H2 s2 → RelV x v → RelV y u → R x y H2 → wpAny (model X.prog X.w) X.A (f v u) Q X.xe s2) :
    wpAny (model X.prog X.w) X.A (eval a X.env) (fun v s₁ => wpAny (model X.prog X.w) X.A (eval b X.env) (fun u s₂ => wpAny (model X.prog X.w) X.A (f v u) Q X.xe s₂) X.xe s₁) X.xe s := by
  refine thn (ha pins s σ H _ I h) fun v s1 ⟨x, H1, I1, r1, q1⟩ => ?_
  refine thn (hb pins s1 σ H1 _ I1 q1) fun u s2 ⟨y, H2, I2, r2, q2⟩ => ?_
  exact hf v u s2 x y H2 I2 r1 r2 q2

theorem pe_op {op : Operator} {r : R2} (ho : OpR X (binaryOp op) r) (ha : PE X a ta) (hb : PE X b tb) : PE X (.BinOp a op b pos) (tOp r ta tb) := by
  intro pins s σ H Q I h
  exact wpAny_BinOp (binT ha hb I h fun v u s2 x y H2 I2 rx ry q => ho pins s2 σ H2 x y v u Q I2 rx ry q)
theorem opI {f : Value → Value → Sem Value} {C : Int → Int → Prop} {g : Int → Int → Int}
    (rule : ∀ (i j : Int) (t u : Tok) (s : Shared) (Q : Value → Shared → Prop) (E : Value → Shared → Prop), C i j → Q (.int (g i j) s.toks) { s with toks := s.toks + 1 } → wpAny (model X.prog X.w) X.A (f (.int i t) (.int j u)) Q E s) :
    OpR X f (rI C fun i j => .int (g i j)) := by
  intro pins s σ H x y v u Q I rx ry h
  obtain ⟨i, j, rfl, rfl, hc, q⟩ := h
  obtain ⟨t, rfl⟩ := rx
  obtain ⟨t', rfl⟩ := ry
  exact rule i j t t' s _ _ hc ⟨.int (g i j), H, I.tok _, ⟨_, rfl⟩, q⟩
theorem opI0 {f : Value → Value → Sem Value} {g : Int → Int → Int}
    (rule : ∀ (i j : Int) (t u : Tok) (s : Shared) (Q : Value → Shared → Prop) (E : Value → Shared → Prop), Q (.int (g i j) s.toks) { s with toks := s.toks + 1 } → wpAny (model X.prog X.w) X.A (f (.int i t) (.int j u)) Q E s) :
    OpR X f (rI0 fun i j => .int (g i j)) := by
  intro pins s σ H x y v u Q I rx ry h
  obtain ⟨i, j, rfl, rfl, q⟩ := h
  obtain ⟨t, rfl⟩ := rx
  obtain ⟨t', rfl⟩ := ry
  exact rule i j t t' s _ _ ⟨.int (g i j), H, I.tok _, ⟨_, rfl⟩, q⟩
theorem opB0 {f : Value → Value → Sem Value} {g : Int → Int → Bool}
    (rule : ∀ (i j : Int) (t u : Tok) (s : Shared) (Q : Value → Shared → Prop) (E : Value → Shared → Prop), Q (.bool (g i j)) s → wpAny (model X.prog X.w) X.A (f (.int i t) (.int j u)) Q E s) :
    OpR X f (rI0 fun i j => .bl (g i j)) := by
  intro pins s σ H x y v u Q I rx ry h
  obtain ⟨i, j, rfl, rfl, q⟩ := h
  obtain ⟨t, rfl⟩ := rx
  obtain ⟨t', rfl⟩ := ry
  exact rule i j t t' s _ _ ⟨.bl (g i j), H, I, rfl, q⟩

def CDiv (i j : Int) : Prop := 0 < j ∧ j < 1073741824
def CPow (i j : Int) : Prop := 0 ≤ j ∧ j ≤ 1000000 ∧ i.natAbs < 2 ^ 64
def CMul (i j : Int) : Prop := (-(2 ^ 64) < i ∧ i < 2 ^ 64) ∨ (-(2 ^ 64) < j ∧ j < 2 ^ 64)
theorem CMul.ok {i j : Int} (h : CMul i j) : IntMulOk i j := by
  rcases h with ⟨h1, h2⟩ | ⟨h1, h2⟩
  · exact .of_left (intBits_le_64 h1 h2)
  · exact .of_right (intBits_le_64 h1 h2)
theorem op_add : OpR X (binaryOp .Add) (rI0 fun i j => .int (i + j)) := opI0 fun _ _ _ _ _ _ _ q => add_int q
theorem op_mul : OpR X (binaryOp .Mult) (rI CMul fun i j => .int (i * j)) := opI fun _ _ _ _ _ _ _ hc q => mul_int q hc.ok
theorem op_fdiv : OpR X (binaryOp .FloorDiv) (rI CDiv fun i j => .int (i / j)) := opI fun i j _ _ _ _ _ hc q => by
  have h1 : (0 : Int) < j := hc.1
  have h2 : j < 1073741824 := hc.2
  exact floordiv_int (by omega) (by rw [Int.fdiv_eq_ediv_of_nonneg i (by omega)]; exact q) (.inl (PyProof.noPylong_small (by omega)))
theorem op_mod : OpR X (binaryOp .Mod) (rI (fun _ j => 0 < j) fun i j => .int (i % j)) := opI fun i j _ _ _ _ _ hc q => by
  have h1 : (0 : Int) < j := hc
  exact mod_int' (by omega) (by rw [Int.fmod_eq_emod_of_nonneg i (by omega)]; exact q)
theorem op_pow : OpR X (binaryOp .Pow) (rI CPow fun i j => .int (i ^ j.toNat)) := opI fun _ _ _ _ _ _ _ hc q => pow_int_small hc.1 hc.2.1 hc.2.2 q
end

def scal : V → V → Bool
  | .non, .non => true | .non, .int _ => true | .int _, .non => true | .non, .bl _ => true | .bl _, .non => true | .non, .str _ => true | .str _, .non => true
  | .int _, .int _ => true | .bl _, .bl _ => true | .str _, .str _ => true | .byt _, .byt _ => true
  | .int _, .str _ => true | .str _, .int _ => true | .bl _, .str _ => true | .str _, .bl _ => true
  | _, _ => false
def rEq : R2 := fun x y H Q => scal x y = true ∧ Q (.bl (decide (x = y))) H
def rNe : R2 := fun x y H Q => scal x y = true ∧ Q (.bl (!decide (x = y))) H

theorem dec_int {i j : Int} : decide (V.int i = V.int j) = (i == j) := by
  rw [Bool.eq_iff_iff]
  simp
theorem dec_bl {i j : Bool} : decide (V.bl i = V.bl j) = (i == j) := by
  rw [Bool.eq_iff_iff]
  simp
theorem dec_str {i j : Str} : decide (V.str i = V.str j) = (i == j) := by
  rw [Bool.eq_iff_iff]
  simp
theorem dec_byt {i j : Array UInt8} : decide (V.byt i = V.byt j) = (i.toList == j.toList) := by
  rw [Bool.eq_iff_iff]
  cases i
  cases j
  simp

section
variable {X : Cx} {a b c : Expr} {ta tb tc : TE} {pos : Pos}
theorem fin_bl {pins : List (Addr × Obj)} {σ : St} {H : Hp} {s : Shared} {Q : VK} {k k' : Bool} (I : Inv X pins σ H s) (q : Q (.bl k) H) (e : k = k') : EP X pins σ Q (.bool k') s := by
  subst e
  exact ⟨.bl k, H, I, rfl, q⟩
theorem op_eq : OpR X (compareOp .Eq) rEq := by
  intro pins s σ H x y v u Q I rx ry h
  obtain ⟨hs, q⟩ := h
  cases x with
  | non =>
    cases rx
    cases y with
    | non => cases ry; exact PySem.EqNone.eq_none_none (fin_bl I q (by simp))
    | bl j => cases ry; exact PySem.EqNone.eq_none_bool (fin_bl I q (by simp))
    | int j => obtain ⟨t', rfl⟩ := ry; exact PySem.EqNone.eq_none_int (fin_bl I q (by simp))
    | str j => obtain ⟨t', rfl⟩ := ry; exact PySem.EqNone.eq_none_str (fin_bl I q (by simp))
    | _ => exact absurd (show false = true from hs) Bool.false_ne_true
  | bl i =>
    cases rx
    cases y with
    | non => cases ry; exact PySem.EqNone.eq_bool_none (fin_bl I q (by simp))
    | bl j => cases ry; exact eq_bool (fin_bl I q dec_bl)
    | str j => obtain ⟨t', rfl⟩ := ry; exact PySem.EqMixed.eq_bool_str (fin_bl I q (by simp))
    | _ => exact absurd (show false = true from hs) Bool.false_ne_true
  | int i =>
    obtain ⟨t, rfl⟩ := rx
    cases y with
    | non => cases ry; exact PySem.EqNone.eq_int_none (fin_bl I q (by simp))
    | int j => obtain ⟨t', rfl⟩ := ry; exact eq_int (fin_bl I q dec_int)
    | str j => obtain ⟨t', rfl⟩ := ry; exact PySem.EqMixed.eq_int_str (fin_bl I q (by simp))
    | _ => exact absurd (show false = true from hs) Bool.false_ne_true
  | str i =>
    obtain ⟨t, rfl⟩ := rx
    cases y with
    | non => cases ry; exact PySem.EqNone.eq_str_none (fin_bl I q (by simp))
    | bl j => cases ry; exact PySem.EqMixed.eq_str_bool (fin_bl I q (by simp))
    | int j => obtain ⟨t', rfl⟩ := ry; exact PySem.EqMixed.eq_str_int (fin_bl I q (by simp))
    | str j => obtain ⟨t', rfl⟩ := ry; exact eq_str (fin_bl I q dec_str)
    | _ => exact absurd (show false = true from hs) Bool.false_ne_true
  | byt i =>
    obtain ⟨t, rfl⟩ := rx
    cases y with
    | byt j => obtain ⟨t', rfl⟩ := ry; exact PySem.W.eq_bytes (fin_bl I q dec_byt)
    | _ => exact absurd (show false = true from hs) Bool.false_ne_true
  | _ => cases y <;> exact absurd (show false = true from hs) Bool.false_ne_true
theorem op_ne : OpR X (compareOp .NotEq) rNe := by
  intro pins s σ H x y v u Q I rx ry h
  obtain ⟨hs, q⟩ := h
  cases x with
  | non =>
    cases rx
    cases y with
    | non => cases ry; exact PySem.EqNone.ne_none_none (fin_bl I q (by simp))
    | bl j => cases ry; exact PySem.EqNone.ne_none_bool (fin_bl I q (by simp))
    | int j => obtain ⟨t', rfl⟩ := ry; exact PySem.EqNone.ne_none_int (fin_bl I q (by simp))
    | str j => obtain ⟨t', rfl⟩ := ry; exact PySem.EqNone.ne_none_str (fin_bl I q (by simp))
    | _ => exact absurd (show false = true from hs) Bool.false_ne_true
  | bl i =>
    cases rx
    cases y with
    | non => cases ry; exact PySem.EqNone.ne_bool_none (fin_bl I q (by simp))
    | bl j => cases ry; exact ne_bool (fin_bl I q (congrArg not dec_bl))
    | str j => obtain ⟨t', rfl⟩ := ry; exact PySem.EqMixed.ne_bool_str (fin_bl I q (by simp))
    | _ => exact absurd (show false = true from hs) Bool.false_ne_true
  | int i =>
    obtain ⟨t, rfl⟩ := rx
    cases y with
    | non => cases ry; exact PySem.EqNone.ne_int_none (fin_bl I q (by simp))
    | int j => obtain ⟨t', rfl⟩ := ry; exact ne_int (fin_bl I q (congrArg not dec_int))
    | str j => obtain ⟨t', rfl⟩ := ry; exact PySem.EqMixed.ne_int_str (fin_bl I q (by simp))
    | _ => exact absurd (show false = true from hs) Bool.false_ne_true
  | str i =>
    obtain ⟨t, rfl⟩ := rx
    cases y with
    | non => cases ry; exact PySem.EqNone.ne_str_none (fin_bl I q (by simp))
    | bl j => cases ry; exact PySem.EqMixed.ne_str_bool (fin_bl I q (by simp))
    | int j => obtain ⟨t', rfl⟩ := ry; exact PySem.EqMixed.ne_str_int (fin_bl I q (by simp))
    | str j => obtain ⟨t', rfl⟩ := ry; exact ne_str (fin_bl I q (congrArg not dec_str))
    | _ => exact absurd (show false = true from hs) Bool.false_ne_true
  | byt i =>
    obtain ⟨t, rfl⟩ := rx
    cases y with
    | byt j => obtain ⟨t', rfl⟩ := ry; exact PySem.W.ne_bytes (fin_bl I q (congrArg not dec_byt))
    | _ => exact absurd (show false = true from hs) Bool.false_ne_true
  | _ => cases y <;> exact absurd (show false = true from hs) Bool.false_ne_true

theorem op_lt : OpR X (compareOp .Lt) (rI0 fun i j => .bl (decide (i < j))) := opB0 fun _ _ _ _ _ _ _ q => lt_int q
theorem op_isN : OpR X (compareOp .Is) (fun x y H Q => y = .non ∧ Q (.bl (decide (x = .non))) H) := by
  intro pins s σ H x y v u Q I rx ry h
  obtain ⟨rfl, q⟩ := h
  cases ry
  refine is_none_gen (fin_bl I q ?_)
  cases x <;> first
    | (cases rx; rfl)
    | (obtain ⟨t, rfl⟩ := rx; rfl)
theorem op_notN : OpR X (compareOp .IsNot) (fun x y H Q => y = .non ∧ Q (.bl (!decide (x = .non))) H) := by
  intro pins s σ H x y v u Q I rx ry h
  obtain ⟨rfl, q⟩ := h
  cases ry
  refine isnot_none_gen (fin_bl I q ?_)
  cases x <;> first
    | (cases rx; rfl)
    | (obtain ⟨t, rfl⟩ := rx; rfl)

theorem nomark (b : Expr) {op : CmpOp} (h : op ≠ .In := by decide) (h2 : op ≠ .NotIn := by decide) : behindInMarks op b = false := by
  have e1 : (op == CmpOp.In) = false := by cases op <;> first | rfl | exact absurd rfl h
  have e2 : (op == CmpOp.NotIn) = false := by cases op <;> first | rfl | exact absurd rfl h2
  cases b <;> simp [behindInMarks, e1, e2]
theorem pe_cmpR {op : CmpOp} {r : R2} (ho : OpR X (compareOp op) r) (ha : PE X a ta) (hb : PE X b tb) (hm : behindInMarks op b = false) : PE X (.Compare a [op] [b] pos) (tOp r ta tb) := by
  intro pins s σ H Q I h
  exact wpAny_Compare1 (binT ha hb I h fun v u s2 x y H2 I2 rx ry q => ho pins s2 σ H2 x y v u Q I2 rx ry q) hm
def tTest (t : TE) : TT := fun σ H Q => t σ H fun x H' => ∃ k, x = .bl k ∧ Q k H'
theorem pt_cmpR {op : CmpOp} {r : R2} (ho : OpR X (compareOp op) r) (ha : PE X a ta) (hb : PE X b tb) (hm : behindInMarks op b = false) : PT X (.Compare a [op] [b] pos) (tTest (tOp r ta tb)) := by
  intro pins s σ H Q I h
  refine wpAny_isTrue_Compare1 (thn (ha pins s σ H _ I h) fun v s1 ⟨x, H1, I1, r1, q1⟩ => thn (hb pins s1 σ H1 _ I1 q1) fun u s2 ⟨y, H2, I2, r2, q2⟩ =>
    thn (ho pins s2 σ H2 x y v u _ I2 r1 r2 q2) fun c s3 ⟨z, H3, I3, r3, k, e, q3⟩ => ?_) hm
  subst e
  cases r3
  exact wpAny_truthy_bool ⟨H3, I3, q3⟩
def tChain (r r' : R2) (ta tb tc : TE) : TE := fun σ H Q => ta σ H fun x H1 => tb σ H1 fun y H2 => r x y H2 fun z H3 => ∃ k, z = .bl k ∧
  (if k = true then tc σ H3 fun w' H4 => r' y w' H4 Q else Q (.bl false) H3)
theorem line63 : (sizeLine : Nat) < 2 ^ 63 := by rw [sizeLine_eq]; decide
theorem op_add_str : OpR X (binaryOp .Add) (fun x y H Q => ∃ i j, x = .str i ∧ y = .str j ∧ i.length + j.length ≤ sizeLine ∧ Q (.str (i ++ j)) H) := by
  intro pins s σ H x y v u Q I rx ry h
  obtain ⟨i, j, rfl, rfl, hz, q⟩ := h
  obtain ⟨t, rfl⟩ := rx
  obtain ⟨t', rfl⟩ := ry
  exact add_str (fun t' tk => ⟨.str (i ++ j), H, I.tok _, ⟨_, rfl⟩, q⟩) hz
theorem vals1 {x : V} {us : List Value} (r : Vals [x] us) : ∃ u, us = [u] ∧ RelV x u := by
  cases r with
  | cons r1 r2 => cases r2; exact ⟨_, rfl, r1⟩
theorem vals2 {x y : V} {us : List Value} (r : Vals [x, y] us) : ∃ u w', us = [u, w'] ∧ RelV x u ∧ RelV y w' := by
  cases r with
  | cons r1 r2 =>
    cases r2 with
    | cons r3 r4 => cases r4; exact ⟨_, _, rfl, r1, r3⟩
def LenV (K : PySem.W.Frag) (x : V) (H : Hp) (n : Nat) : Prop :=
  match x with
  | .str y => y.length ≤ sizeLine ∧ n = y.length
  | .byt y => y.size ≤ sizeLine ∧ n = y.size
  | .ref p => (∃ xs, SqL K H p xs ∧ n = xs.length) ∨ ∃ xs, SqT K H p xs ∧ n = xs.length
  | _ => False
theorem call_len : CallR X (.builtin "len") (fun xs H Q => ∃ x n, xs = [x] ∧ LenV X.K x H n ∧ Q (.int n) H) := by
  intro pins s σ H xs us Q I r h
  obtain ⟨x, n, rfl, e, q⟩ := h
  obtain ⟨u, rfl, rx⟩ := vals1 r
  have hl := line63
  have hs : sizeLine = 16777216 := sizeLine_eq
  cases x with
  | str y =>
    obtain ⟨t, rfl⟩ := rx
    obtain ⟨hy, e'⟩ : y.length ≤ sizeLine ∧ n = y.length := e
    subst e'
    exact len_str (by omega) ⟨.int _, H, I.tok _, ⟨_, rfl⟩, q⟩
  | byt y =>
    obtain ⟨t, rfl⟩ := rx
    obtain ⟨hy, e'⟩ : y.size ≤ sizeLine ∧ n = y.size := e
    subst e'
    exact PySem.W.len_bytes (by omega) ⟨.int _, H, I.tok _, ⟨_, rfl⟩, q⟩
  | ref p =>
    cases rx
    have e' : (∃ xs, SqL X.K H p xs ∧ n = xs.length) ∨ ∃ xs, SqT X.K H p xs ∧ n = xs.length := e
    rcases e' with ⟨xs, hx, e'⟩ | ⟨xs, hx, e'⟩
    · subst e'
      obtain ⟨its, r', pl, hz⟩ := I.list hx
      have hlen := r'.length
      exact Calls.call_len_list pl.isList (by simp only [List.size_toArray]; omega) ⟨.int xs.length, H, I.tok _, ⟨_, by simp only [List.size_toArray]; rw [hlen]⟩, q⟩
    · subst e'
      obtain ⟨its, r', pl, hz⟩ := I.tuple hx
      have hlen := r'.length
      exact len_tuple pl (by simp only [List.size_toArray]; omega) ⟨.int xs.length, H, I.tok _, ⟨_, by simp only [List.size_toArray]; rw [hlen]⟩, q⟩
  | _ => exact (show False from e).elim
end
end L2

namespace L2
open PySem PySem.Spec PyProof.Rows

structure ObjM (h : Heap) (x dx C : Addr) (mA : Str → Option Value) : Prop where
  obj : h.get? x = some (PySem.W.instObj C dx)
  ns : h.Ns1 dx mA
  ne : dx ≠ x

theorem lookIn_ns {h : Heap} {dx : Addr} {mA : Str → Option Value} (n : h.Ns1 dx mA) : ∃ od, h.get? dx = some od ∧ ∀ name, PySem.W.lookIn name od = some (mA name) := by
  obtain ⟨o, es, ep, ho, hd, hk, _, hm⟩ := n
  refine ⟨o, ho, fun name => ?_⟩
  have e := hm name
  unfold nsFind findBy at e
  rw [← Array.find?_toList] at e
  unfold PySem.W.lookIn
  rw [hd]
  dsimp only
  split
  · rename_i y q
    rw [q] at e
    exact congrArg some e
  · rename_i q
    rw [q] at e
    have a : es.toList.any (·.refKey) = false := by
      rw [List.any_eq_false]
      intro y hy
      obtain ⟨z, t, hkey⟩ := hk y (Array.mem_toList_iff.mp hy)
      simp [DictEntry.refKey, hkey]
    have a' : ¬ es.toList.any (·.refKey) = true := by rw [a]; exact Bool.false_ne_true
    rw [if_neg a']
    exact congrArg some e

theorem ObjM.look {h : Heap} {x dx C : Addr} {mA : Str → Option Value} (I : ObjM h x dx C mA) : ∃ od, PySem.W.InstAt h x (PySem.W.instObj C dx) C (some od) ∧ ∀ name, PySem.W.lookIn name od = some (mA name) :=
  let ⟨od, ho, hl⟩ := lookIn_ns I.ns
  ⟨od, ⟨I.obj, rfl, rfl, ho⟩, hl⟩

section
variable {prog : Program} {w : World} {A : Around} {E : Value → Shared → Prop} {s : Shared} {K : PySem.W.Frag} {x dx C f : Addr} {mA : Str → Option Value} {name : Str} {v : Value}

theorem get_map {expr : Bool} {Q : Value → Shared → Prop} (X : K.In s.heap) (I : ObjM s.heap x dx C mA) (hg : PySem.W.plainGet K C name = true) (hh : PySem.W.hasDictIn K C = true)
    (ha : PySem.W.findIn K (.ref C) name = some none) (hv : mA name = some v) (hv' : PySem.W.handedIn v = true) (h : Q v { s with toks := s.toks + 1 }) :
    wpAny (model prog w) A (getAttr (.ref x) name expr) Q E s := by
  obtain ⟨od, J, hl⟩ := I.look
  exact PySem.W.get_value X J (PySem.W.plainGet_of hg).1 (PySem.W.findObj_own hh ha rfl (by rw [hl, hv])) hv' h

theorem get_meth {pl : Sem Bool} {Q : Value × List Value → Shared → Prop} (X : K.In s.heap) (I : ObjM s.heap x dx C mA) (hg : PySem.W.plainGet K C name = true)
    (hf : PySem.W.findIn K (.ref C) name = some (some (.ref f))) (ht : PySem.W.isFn K (.ref f) = true) (hv : mA name = none) (h : Q (.ref f, [.ref x]) s) :
    wpAny (model prog w) A (getMethod (.ref x) name pl) Q E s := by
  obtain ⟨od, J, hl⟩ := I.look
  exact PySem.W.method_fn X J (PySem.W.plainGet_of hg).1 (PySem.W.plainGet_of hg).2 hf (beq_iff_eq.mp ht) (by show (PySem.W.lookIn name od).map (·.isSome) = some false; rw [hl, hv]; rfl) h

theorem set_map {ns : List Str} {Q : Unit → Shared → Prop} (X : K.In s.heap) (I : ObjM s.heap x dx C mA)
    (hs : PySem.W.findIn K (.ref C) "__setattr__" = some (some (.builtin "object.__setattr__"))) (hp : PySem.W.plainOver K C = true) (ht : PySem.W.takerIn K C name = some none) (hh : PySem.W.hasDictIn K C = true)
    (hw : PySem.Within mA ns) (hsz : ns.length ≤ sizeLine)
    (h : ∀ h', ObjM h' x dx C (fun y => if y = name then some v else mA y) → Heap.SameBut dx s.heap h' → Q () { s with heap := h', toks := s.toks + 2 }) :
    wpAny (model prog w) A (setAttr (.ref x) name v) Q E s := by
  obtain ⟨od, J, hl⟩ := I.look
  refine PySem.W.set_plain X J hs (PySem.W.osa_open (s := { s with toks := s.toks + 1 }) (r := none) X J hp ht fun b => ?_)
  obtain ⟨cd, hc, hd'⟩ := PySem.W.any_some hh
  have hx : s.heap.get? x = some ⟨.ref C, some dx, .plain, #[]⟩ := I.obj
  refine wpAny_bind (wpAny_pure (wpAny_bind (wpAny_bind (wpAny_loadPart hx (wpAny_bind (PySem.W.Looks.here (s := { s with toks := s.toks + 1 }) (PySem.W.looks_clsIn X hc) ?_))))))
  rw [hd']
  refine wpAny_pure (a := some dx) (wpAny_bind (wpAny_pure (wpAny_bind ?_)))
  refine wpAny_nsSet1 (s := { s with toks := s.toks + 1 }) I.ns fun h' hn2 hs2 => ?_
  obtain ⟨oD, esD, epD, hoD, hdD, hcD⟩ := hn2.count (PySem.Within.cons name v hw)
  refine wpAny_bind (wpAny_lookBehind hoD (by rw [hdD]; exact pastItsLine_dict (Nat.le_trans hcD (by rw [List.length_cons]; omega))) ?_)
  exact wpAny_pure (h _ ⟨(hs2.2 _ (Ne.symm I.ne)).trans I.obj, hn2, I.ne⟩ hs2)

theorem make_map {R : Result → Shared → Prop} {vs : List Value} {kw : List (Str × Value)} (X : K.In s.heap) (hm : PySem.W.makesIn K C = true)
    (hi : PySem.W.findIn K (.ref C) "__init__" = some (some (.ref f))) (hf : PySem.W.typeIn K (.ref f) = some (.type "function"))
    (h : codeAny (model prog w) (A.under (.builtin "type.__call__" ⟨.ref C :: vs, kw⟩)) (.call (.ref f) ⟨.ref (s.heap.objs.size + 1) :: vs, kw⟩) (PySem.W.InitBack (s.heap.objs.size + 1) R)
      { s with heap := (s.heap.push PySem.W.emptyDict).push (PySem.W.instObj C s.heap.objs.size) }) :
    codeAny (model prog w) A (.call (.ref C) ⟨vs, kw⟩) R s := by
  obtain ⟨hh, g, d, t, os⟩ := s
  exact PySem.W.make_core (PySem.W.makes_of X hm) (PySem.W.looks_findIn X hi) (fun self => PySem.W.bind_fn X self hf) (.inl rfl) h
end

def putF (f : Str) (v : V) : List (Str × V) → List (Str × V)
  | [] => [(f, v)]
  | (g, x) :: r => if g = f then (g, v) :: r else (g, x) :: putF f v r
theorem lookup_putF (f g : Str) (v : V) : ∀ fs : List (Str × V), (putF f v fs).lookup g = if g = f then some v else fs.lookup g
  | [] => by
    show List.lookup g [(f, v)] = _
    by_cases h : g = f
    · have hb : (g == f) = true := beq_iff_eq.mpr h
      simp only [List.lookup, hb, if_pos h]
    · have hb : (g == f) = false := beq_eq_false_iff_ne.mpr h
      simp only [List.lookup, hb, if_neg h]
  | (k, x) :: r => by
    have ih := lookup_putF f g v r
    rw [show putF f v ((k, x) :: r) = (if k = f then (k, v) :: r else (k, x) :: putF f v r) from rfl]
    by_cases hk : k = f
    · rw [if_pos hk]
      by_cases h : g = k
      · have hb : (g == k) = true := beq_iff_eq.mpr h
        simp only [List.lookup, hb, if_pos (h.trans hk)]
      · have hb : (g == k) = false := beq_eq_false_iff_ne.mpr h
        simp only [List.lookup, hb, if_neg (fun e : g = f => h (e.trans hk.symm))]
    · rw [if_neg hk]
      by_cases h : g = k
      · have hb : (g == k) = true := beq_iff_eq.mpr h
        simp only [List.lookup, hb, if_neg (fun e : g = f => hk (h.symm.trans e))]
      · have hb : (g == k) = false := beq_eq_false_iff_ne.mpr h
        simp only [List.lookup, hb]
        exact ih
theorem keys_putF (f : Str) (v : V) : ∀ fs : List (Str × V), f ∈ (putF f v fs).map (·.1) ∧ ∀ g, g ∈ fs.map (·.1) → g ∈ (putF f v fs).map (·.1)
  | [] => ⟨by simp [putF], fun g h => by simp at h⟩
  | (k, x) :: r => by
    obtain ⟨i1, i2⟩ := keys_putF f v r
    rw [show putF f v ((k, x) :: r) = (if k = f then (k, v) :: r else (k, x) :: putF f v r) from rfl]
    by_cases hk : k = f
    · rw [if_pos hk]
      subst hk
      exact ⟨by simp, fun g h => by simpa using h⟩
    · rw [if_neg hk]
      refine ⟨?_, fun g h => ?_⟩
      · rw [List.map_cons]
        exact List.mem_cons_of_mem _ i1
      · rw [List.map_cons] at h ⊢
        rcases List.mem_cons.mp h with e | e
        · exact List.mem_cons.mpr (.inl e)
        · exact List.mem_cons_of_mem _ (i2 g e)
theorem length_putF (f : Str) (v : V) : ∀ fs : List (Str × V), (putF f v fs).length ≤ fs.length + 1
  | [] => by simp [putF]
  | (k, x) :: r => by
    have ih := length_putF f v r
    rw [show putF f v ((k, x) :: r) = (if k = f then (k, v) :: r else (k, x) :: putF f v r) from rfl]
    by_cases hk : k = f
    · rw [if_pos hk, List.length_cons, List.length_cons]; omega
    · rw [if_neg hk, List.length_cons, List.length_cons]; omega

theorem RelO.some_of {v : V} {o : Option Value} (r : RelO (some v) o) : ∃ u, o = some u ∧ RelV v u := by
  cases o with
  | none => exact (show False from r).elim
  | some u => exact ⟨u, rfl, r⟩
theorem RelO.none_of {o : Option Value} (r : RelO none o) : o = none := by
  cases o with
  | none => rfl
  | some u => exact (show False from r).elim
theorem handed_of {v : V} {u : Value} (r : RelV v u) : PySem.W.handedIn u = true := by
  cases v with
  | non => cases (show u = Value.none from r); rfl
  | bl b => cases (show u = Value.bool b from r); rfl
  | int i => obtain ⟨t, e⟩ := (show ∃ t, u = Value.int i t from r); cases e; rfl
  | str x => obtain ⟨t, e⟩ := (show ∃ t, u = Value.str x t from r); cases e; rfl
  | byt b => obtain ⟨t, e⟩ := (show ∃ t, u = Value.bytes b t from r); cases e; rfl
  | flt b => obtain ⟨t, e⟩ := (show ∃ t, u = Value.float b t from r); cases e; rfl
  | ref a => cases (show u = Value.ref a from r); rfl
  | ty n => cases (show u = Value.type n from r); rfl

section
variable {P : Program} {w : World} {H H' : Hp} {h h' : Heap} {a C dx : Addr} {fs fs' : List (Str × V)}
theorem ins_get (hok : HOk P w H h) (e : H a = some (.ins C dx fs)) : ∃ mA, ObjM h a dx C mA ∧ (∀ f, RelO (fs.lookup f) (mA f)) ∧ PySem.Within mA (fs.map (·.1)) ∧ fs.length ≤ 1000 ∧ H dx = some (.own a) := by
  obtain ⟨d, z, ne, ob, mA, n, r, q⟩ := (show ObjOk P w H h a (.ins C dx fs) from hok a _ e)
  exact ⟨mA, ⟨ob, n, ne⟩, r, q, z, d⟩
end

structure Cls (K : PySem.W.Frag) (C : Addr) : Prop where
  pg : PySem.W.plainGet K C Str.empty = true
  hd : PySem.W.hasDictIn K C = true
  po : PySem.W.plainOver K C = true
  sa : PySem.W.findIn K (.ref C) "__setattr__" = some (some (.builtin "object.__setattr__"))
theorem Cls.get {K : PySem.W.Frag} {C : Addr} (c : Cls K C) (f : Str) : PySem.W.plainGet K C f = true := c.pg
def NoAttr (K : PySem.W.Frag) (C : Addr) (f : Str) : Prop := PySem.W.findIn K (.ref C) f = some none
theorem NoAttr.taker {K : PySem.W.Frag} {C : Addr} {f : Str} (n : NoAttr K C f) : PySem.W.takerIn K C f = some none := by
  unfold PySem.W.takerIn
  rw [show PySem.W.findIn K (.ref C) f = some none from n]
  rfl
structure Meth (K : PySem.W.Frag) (C : Addr) (m : Str) (f : Addr) : Prop where
  at_ : PySem.W.findIn K (.ref C) m = some (some (.ref f))
  fn : PySem.W.isFn K (.ref f) = true
  kp : PySem.W.keepIn K (.ref f) = true

section
variable {X : Cx} {pins : List (Addr × Obj)} {σ : St} {H : Hp} {s : Shared} {a C dx : Addr} {fs : List (Str × V)} {f : Str} {v : V} {A : Around} {E : Value → Shared → Prop}

theorem getattr_ok {b : Bool} {Q : Value → Shared → Prop} (I : Inv X pins σ H s) (e : H a = some (.ins C dx fs)) (c : Cls X.K C) (n : NoAttr X.K C f) (l : fs.lookup f = some v)
    (h : ∀ u s', Inv X pins σ H s' → RelV v u → Q u s') : wpAny (model X.prog X.w) A (getAttr (.ref a) f b) Q E s := by
  obtain ⟨mA, O, r, _, _, _⟩ := ins_get I.hok e
  obtain ⟨u, hu, ru⟩ := RelO.some_of (v := v) (o := mA f) (by rw [← l]; exact r f)
  exact get_map I.kIn O (c.get f) c.hd n hu (handed_of ru) (h u _ (I.tok _) ru)

theorem getmeth_ok {m : Str} {g : Addr} {pl : Sem Bool} {Q : Value × List Value → Shared → Prop} (I : Inv X pins σ H s) (e : H a = some (.ins C dx fs)) (c : Cls X.K C) (k : Meth X.K C m g) (l : fs.lookup m = none)
    (h : Q (.ref g, [.ref a]) s) : wpAny (model X.prog X.w) A (getMethod (.ref a) m pl) Q E s := by
  obtain ⟨mA, O, r, _, _, _⟩ := ins_get I.hok e
  have hn : mA m = none := RelO.none_of (by rw [← l]; exact r m)
  exact get_meth I.kIn O (c.get m) k.at_ k.fn hn h

theorem setattr_ok {y : V} {u : Value} {Q : Unit → Shared → Prop} (I : Inv X pins σ H s) (e : H a = some (.ins C dx fs)) (c : Cls X.K C) (n : NoAttr X.K C f) (hl : fs.length < 1000) (ry : RelV y u)
    (h : ∀ s', Inv X pins σ (upd H a (.ins C dx (putF f y fs))) s' → Q () s') : wpAny (model X.prog X.w) A (setAttr (.ref a) f u) Q E s := by
  obtain ⟨mA, O, r, wi, _, ho⟩ := ins_get I.hok e
  have hz : (fs.map (·.1)).length ≤ sizeLine := by rw [List.length_map, sizeLine_eq]; omega
  refine set_map I.kIn O c.sa c.po n.taker c.hd wi hz fun h' O' sb => h _ ?_
  have hd : ∃ o, h'.get? dx = some o := let ⟨o, _, _, e', _⟩ := O'.ns; ⟨o, e'⟩
  refine I.write (x := a) (e := dx) (by rw [e]; exact True.intro) (.inr ho) (fun b q hb z => (sb.2 b hb).trans z) hd ?_
  refine ⟨by rw [upd_ne O.ne]; exact ho, ?_, O.ne, O'.obj, _, O'.ns, fun g => ?_, fun g hg => ?_⟩
  · have := length_putF f y fs; omega
  · show RelO ((putF f y fs).lookup g) (if g = f then some u else mA g)
    rw [lookup_putF]
    by_cases q : g = f
    · rw [if_pos q, if_pos q]; exact ry
    · rw [if_neg q, if_neg q]; exact r g
  · by_cases q : g = f
    · rw [q]; exact (keys_putF f y fs).1
    · refine (keys_putF f y fs).2 g (wi g fun z => hg ?_)
      show (if g = f then some u else mA g) = none
      rw [if_neg q]; exact z

theorem Inv.made (I : Inv X pins σ H s) : Inv X pins σ (upd (upd H s.heap.objs.size (.own (s.heap.objs.size + 1))) (s.heap.objs.size + 1) (.ins C s.heap.objs.size []))
    { s with heap := (s.heap.push PySem.W.emptyDict).push (PySem.W.instObj C s.heap.objs.size) } := by
  have e1 : (s.heap.push PySem.W.emptyDict).get? s.heap.objs.size = some PySem.W.emptyDict := Heap.get?_push_size s.heap rfl
  have e2 : ((s.heap.push PySem.W.emptyDict).push (PySem.W.instObj C s.heap.objs.size)).get? (s.heap.objs.size + 1) = some (PySem.W.instObj C s.heap.objs.size) := by
    have := Heap.get?_push_size (s.heap.push PySem.W.emptyDict) (o := PySem.W.instObj C s.heap.objs.size) rfl
    rwa [Heap.size_push] at this
  have e3 : (s.heap.push PySem.W.emptyDict).Ns s.heap.objs.size (fun _ => none) := ⟨PySem.W.emptyDict, #[], _, e1, rfl, (fun e he => absurd he (by simp)), fun _ => rfl⟩
  have I1 := I.laid (a := s.heap.objs.size) (o := .own (s.heap.objs.size + 1)) (h' := s.heap.push PySem.W.emptyDict) (t' := s.toks) (fun b u q => Heap.get?_push_of_some _ q) (Nat.le_refl _) ⟨_, e1⟩
  refine I1.laid (a := s.heap.objs.size + 1) (o := .ins C s.heap.objs.size []) (t' := s.toks) (fun b u q => Heap.get?_push_of_some _ q) (Nat.le_of_eq (Heap.size_push _ _)) ?_
  have ne : s.heap.objs.size ≠ s.heap.objs.size + 1 := Nat.ne_of_lt (Nat.lt_succ_self _)
  refine ⟨by rw [upd_ne ne, upd_same], Nat.zero_le _, ne, e2, fun _ => none, (Heap.Ns1.of_empty e3).at fun o q => Heap.get?_push_of_some _ q, fun _ => True.intro, fun y hy => absurd rfl hy⟩

theorem attr_of {prog : Program} {w : World} {env : Env} {e : Expr} {f : Str} {pos : Pos} {s : Shared} {Q : Value → Shared → Prop} (hb : attributeBase e f env (eval e env) = eval e env)
    (h : wpAny (model prog w) A (eval e env) (fun o s₁ => wpAny (model prog w) A (getAttr o f true) Q E s₁) E s) : wpAny (model prog w) A (eval (.Attribute e f pos) env) Q E s :=
  Attribute_any_ h (by rw [arm_eval_Attribute, hb])
end

def tFld (K : PySem.W.Frag) (ta : TE) (f : Str) : TE := fun σ H Q => ta σ H fun x H1 => ∃ a C dx fs v, x = .ref a ∧ H1 a = some (.ins C dx fs) ∧ Cls K C ∧ NoAttr K C f ∧ fs.lookup f = some v ∧ Q v H1
def sFld (K : PySem.W.Frag) (ta tv : TE) (f : Str) : TS := fun D σ H => tv σ H fun y H1 => ta σ H1 fun x H2 => ∃ a C dx fs, x = .ref a ∧ H2 a = some (.ins C dx fs) ∧ Cls K C ∧ NoAttr K C f ∧ fs.length < 1000 ∧
  D.nx σ (upd H2 a (.ins C dx (putF f y fs)))
section
variable {X : Cx} {o e value : Expr} {f : Str} {pos pos' tpos : Pos} {ta tv : TE}
theorem pe_fld (he : PE X e ta) (hb : attributeBase e f X.env (eval e X.env) = eval e X.env) : PE X (.Attribute e f pos) (tFld X.K ta f) := by
  intro pins s σ H Q I h
  refine attr_of hb (thn (he pins s σ H _ I h) fun u s1 ⟨x, H1, I1, rx, a, C, dx, fs, v, ex, ea, c, n, l, q⟩ => ?_)
  subst ex
  obtain rfl : u = Value.ref a := rx
  exact getattr_ok I1 ea c n l fun u' s2 I2 ru => ⟨v, H1, I2, ru, q⟩
theorem ps_fld (ha : PE X o ta) (hv : PE X value tv) (hs : swapsWith value (some (.Attribute o f pos')) pos.line X.env = pure false) : PS X (.Assign [.Attribute o f pos'] value pos) (sFld X.K ta tv f) := by
  intro pins s σ H D I h
  refine plainObj_wpAny_Assign_Attribute (thn (hv pins s σ H _ I h) fun u s1 ⟨y, H1, I1, ry, q⟩ => thn (ha pins s1 σ H1 _ I1 q) fun ov s2 ⟨x, H2, I2, rx, a, C, dx, fs, ex, ea, c, n, l, q2⟩ => ?_) hs
  subst ex
  obtain rfl : ov = Value.ref a := rx
  exact setattr_ok I2 ea c n l ry fun s3 I3 => ⟨σ, _, I3, q2⟩
end

section
variable {X : Cx} {pins : List (Addr × Obj)} {σ : St} {H : Hp} {s : Shared} {A : Around} {E : Value → Shared → Prop} {Q : Value → Shared → Prop} {c : Value} {b : Bool}
inductive TyOf (K : PySem.W.Frag) (H : Hp) : V → Value → Prop where
  | non : TyOf K H .non (.type "NoneType")
  | bl (x : Bool) : TyOf K H (.bl x) (.type "bool")
  | int (i : Int) : TyOf K H (.int i) (.type "int")
  | str (x : Str) : TyOf K H (.str x) (.type "str")
  | flt (x : UInt64) : TyOf K H (.flt x) (.type "float")
  | lst {a : Addr} {xs : List V} (e : H a = some (.lst xs)) : TyOf K H (.ref a) (.type "list")
  | frz {a : Addr} {o : Obj} {xs : List V} (e : H a = some (.frz o (.lst xs))) : TyOf K H (.ref a) (.type "list")
  | tup {a : Addr} {xs : List V} (e : H a = some (.tup xs)) : TyOf K H (.ref a) (.type "tuple")
  | dK {a : Addr} {kvs : List (Key × V)} (e : H a = some (.dK kvs)) : TyOf K H (.ref a) (.type "dict")
  | dT {a : Addr} {kvs : List (List Key × V)} (e : H a = some (.dT kvs)) : TyOf K H (.ref a) (.type "dict")
  | ins {a C dx : Addr} {fs : List (Str × V)} (e : H a = some (.ins C dx fs)) (cl : Cls K C) (ha : PySem.W.findIn K (.ref C) "__class__" = some (some (.builtin "object.__class__")))
      (hn : PySem.W.specialIn K (.builtin "object.__class__") "__get__" = some (some (.builtin "getset_descriptor.__get__"))) (htk : PySem.W.takesIn K (.builtin "object.__class__") = some true)
      (hm : PySem.W.mroIn K C (.type "object") = some true) : TyOf K H (.ref a) (.ref C)
theorem isinst_ok {x : V} {u t : Value} (I : Inv X pins σ H s) (rx : RelV x u) (ty : TyOf X.K H x t) (e : PySem.W.kitOne X.K t c = some b) (h : ∀ tk, Q (.bool b) { s with toks := tk }) :
    wpAny (model X.prog X.w) A (call (.builtin "isinstance") [u, c]) Q E s := by
  cases ty with
  | non => cases (show u = Value.none from rx); exact PySem.W.kia_one PySem.W.kitx_none I.kIn True.intro e (fun z => nomatch z) h
  | bl y => cases (show u = Value.bool y from rx); exact PySem.W.kia_one PySem.W.kitx_bool I.kIn True.intro e (fun z => nomatch z) h
  | int i => obtain ⟨t, q⟩ := (show ∃ t, u = Value.int i t from rx); cases q; exact PySem.W.kia_one PySem.W.kitx_int I.kIn True.intro e (fun z => nomatch z) h
  | str y => obtain ⟨t, q⟩ := (show ∃ t, u = Value.str y t from rx); cases q; exact PySem.W.kia_one PySem.W.kitx_str I.kIn True.intro e (fun z => nomatch z) h
  | flt y => obtain ⟨t, q⟩ := (show ∃ t, u = Value.float y t from rx); cases q; exact PySem.W.kia_one PySem.W.kitx_float I.kIn True.intro e (fun z => nomatch z) h
  | @lst a xs ea =>
    cases (show u = Value.ref a from rx)
    obtain ⟨_, _, n, _, h1⟩ := (show ObjOk X.prog X.w H s.heap a (.lst xs) from I.hok a _ ea)
    exact PySem.W.kia_one PySem.W.kitx_list I.kIn ⟨_, h1, rfl⟩ e (fun z => nomatch z) h
  | @frz a ob xs ea =>
    cases (show u = Value.ref a from rx)
    obtain ⟨_, _, _, n, _, h1⟩ := (show ObjOk X.prog X.w H s.heap a (.frz ob (.lst xs)) from I.hok a _ ea)
    exact PySem.W.kia_one PySem.W.kitx_list I.kIn ⟨_, h1, rfl⟩ e (fun z => nomatch z) h
  | @tup a xs ea =>
    cases (show u = Value.ref a from rx)
    obtain ⟨_, _, _, p⟩ := (show ObjOk X.prog X.w H s.heap a (.tup xs) from I.hok a _ ea)
    obtain ⟨o, h1, h2, _⟩ := p
    exact PySem.W.kia_one PySem.W.kitx_tuple I.kIn ⟨o, h1, h2⟩ e (fun z => nomatch z) h
  | @dK a kvs ea =>
    cases (show u = Value.ref a from rx)
    obtain ⟨_, _, vs, _, p⟩ := (show ObjOk X.prog X.w H s.heap a (.dK kvs) from I.hok a _ ea)
    obtain ⟨o, es, ep, h1, h2, _⟩ := p
    exact PySem.W.kia_one PySem.W.kitx_dict I.kIn ⟨o, h1, h2.1⟩ e (fun z => nomatch z) h
  | @dT a kvs ea =>
    cases (show u = Value.ref a from rx)
    obtain ⟨_, _, xs, _, o, es, ep, h1, h2, _⟩ := (show ObjOk X.prog X.w H s.heap a (.dT kvs) from I.hok a _ ea)
    exact PySem.W.kia_one PySem.W.kitx_dict I.kIn ⟨o, h1, h2.1⟩ e (fun z => nomatch z) h
  | @ins a C dx fs ea cl ha hn htk hm =>
    cases (show u = Value.ref a from rx)
    obtain ⟨mA, O, _⟩ := ins_get I.hok ea
    obtain ⟨od, J, _⟩ := O.look
    exact PySem.W.kia_one (PySem.W.kitx_own (cl.get _) cl.hd ha hn htk hm) I.kIn J e (fun z => nomatch z) h
end
end L2

namespace L2
open PySem PySem.Spec PyProof.Rows

structure Room (k : Nat) (A : Around) : Prop where
  hd : A.handled = none
  dp : A.depth + 3 * k + 5 < recursionLimit
  un : A.units + 16 * k + 200 < cLine
theorem Room.mono {j k : Nat} {A : Around} (r : Room k A) (h : j ≤ k) : Room j A := ⟨r.hd, by have := r.dp; omega, by have := r.un; omega⟩
theorem Room.deeper {k : Nat} {A : Around} (r : Room (k + 1) A) (env : Env) : Room k (A.deeper env) :=
  ⟨r.hd, by have := r.dp; show A.depth + 1 + 3 * k + 5 < _; omega, by have := r.un; show A.units + 3 + 16 * k + 200 < _; omega⟩
theorem Room.in1 {k : Nat} {A : Around} (r : Room (k + 1) A) : Room k A.in1 :=
  ⟨r.hd, by have := r.dp; show A.depth + 3 * k + 5 < _; omega, by have := r.un; show A.units + 1 + 16 * k + 200 < _; omega⟩
theorem make_depth {A : Around} {C : Addr} {us : List Value} {kw : List (Str × Value)} : (A.under (.builtin "type.__call__" ⟨.ref C :: us, kw⟩)).depth = A.depth + 1 := by
  first | rfl | simp [Around.under, Code.weight, Code.isCreation, Code.isGuard, Code.isCaller, Code.frames, Code.isFrame, guardIds]
theorem make_units {A : Around} {C : Addr} {us : List Value} {kw : List (Str × Value)} : (A.under (.builtin "type.__call__" ⟨.ref C :: us, kw⟩)).units = A.units + 1 := by
  first | rfl | simp [Around.under, Code.cUnits, Code.frames, Code.isFrame]
theorem Room.make {k : Nat} {A : Around} (r : Room (k + 1) A) (C : Addr) (us : List Value) (kw : List (Str × Value)) : Room k (A.under (.builtin "type.__call__" ⟨.ref C :: us, kw⟩)) :=
  ⟨r.hd, by have := r.dp; rw [make_depth]; omega, by have := r.un; rw [make_units]; omega⟩
theorem Room.depth {k : Nat} {A : Around} (r : Room k A) : A.depth < recursionLimit := by have := r.dp; omega
theorem Room.units {k : Nat} {A : Around} (r : Room k A) : A.units + 64 < cLine := by have := r.un; omega
def tNil : TA := fun _ H Q => Q [] H
def tCons (ta : TE) (tr : TA) : TA := fun σ H Q => ta σ H fun x H1 => tr σ H1 fun xs H2 => Q (x :: xs) H2
section
variable {X : Cx} {e : Expr} {es : List Expr} {te : TE} {t : TA} {pos : Pos}
theorem pa_nil : PA X [] tNil := fun _ _ _ _ H Q I h => Calls.spliced_nil ⟨[], H, I, .nil, h⟩
theorem pa_cons (ha : PE X e te) (hr : PA X es t) (hs : starEach (e :: es) X.env = (false, eval e X.env) :: starEach es X.env := by rfl) : PA X (e :: es) (tCons te t) := by
  intro pos pins s σ H Q I h
  rw [hs]
  show wpAny _ _ (spliced ((false, eval e X.env) :: backTo pos (starEach es X.env))) _ _ s
  refine Calls.spliced_cons (thn (ha pins s σ H _ I h) fun u s1 ⟨x, H1, I1, r1, q1⟩ => ?_)
  exact thn (hr pos pins s1 σ H1 _ I1 q1) fun us s2 ⟨xs, H2, I2, r2, q2⟩ => ⟨x :: xs, H2, I2, .cons r1 r2, q2⟩

def tTup (t : TA) : TE := fun σ H Q => t σ H fun xs H1 => xs.length ≤ sizeLine ∧ ∀ p, H1 p = none → Q (.ref p) (upd H1 p (.tup xs))
def tLst (t : TA) : TE := fun σ H Q => t σ H fun xs H1 => xs.length ≤ sizeLine ∧ ∀ p, H1 p = none → Q (.ref p) (upd H1 p (.lst xs))
theorem pe_tup {x1} (h : PA X es t) : PE X (.Tuple es x1 pos) (tTup t) := by
  intro pins s σ H Q I hq
  refine wpAny_Tuple_spliced (thn (h pos pins s σ H _ I hq) fun us s1 ⟨xs, H1, I1, r, z, q⟩ => ⟨by rw [← r.length]; exact z, ?_⟩)
  have hf : H1 s1.heap.objs.size = none := I1.hok.fresh (Nat.le_refl _)
  refine ⟨.ref s1.heap.objs.size, upd H1 s1.heap.objs.size (.tup xs), I1.laid (t' := s1.toks) (fun b u e => Heap.get?_push_of_some _ e) (Nat.le_refl _) ?_, rfl, q _ hf⟩
  exact ⟨z, us, r, ⟨_, Heap.get?_push_size _ rfl, rfl, _, rfl⟩⟩
theorem pe_lst (h : PA X es t) : PE X (.List es pos) (tLst t) := by
  intro pins s σ H Q I hq
  refine wpAny_List_spliced (thn (h pos pins s σ H _ I hq) fun us s1 ⟨xs, H1, I1, r, z, q⟩ => ⟨by rw [← r.length]; exact z, ?_⟩)
  have hf : H1 s1.heap.objs.size = none := I1.hok.fresh (Nat.le_refl _)
  refine ⟨.ref s1.heap.objs.size, upd H1 s1.heap.objs.size (.lst xs), I1.laid (t' := s1.toks) (fun b u e => Heap.get?_push_of_some _ e) (Nat.le_refl _) ?_, rfl, q _ hf⟩
  exact ⟨z, us, 0, r, Heap.get?_push_size _ rfl⟩
end

abbrev Sp := List V → Hp → VK → XK → Prop
abbrev CXT := List Env → Hp → Shared → XK → Value → Shared → Prop

structure Env0 (P : Program) (w : World) (K : PySem.W.Frag) (mg : Str → Option Value) (base : Heap) (A : Around) (outer : List Env) (s : Shared) (H : Hp) : Prop where
  frames : A.frames = some outer
  mod : Mod K mg base
  bs : ∀ b o, base.get? b = some o → s.heap.get? b = some o ∧ H b = none
  bsz : base.objs.size ≤ s.heap.objs.size
  funs : s.heap.FunFrames base outer
  frf : ∀ b ∈ frs outer, H b = none
  hok : HOk P w H s.heap
  bare : AllBare s.gens
def CE (outer : List Env) (P : Program) (w : World) (H : Hp) (s : Shared) (Q : VK) (u : Value) (s' : Shared) : Prop :=
  ∃ v H', s'.os = s.os ∧ AllBare s'.gens ∧ Un (frs outer) [] H H' s.heap s'.heap ∧ HOk P w H' s'.heap ∧ RelV v u ∧ Q v H'
def CR (CX : CXT) (outer : List Env) (P : Program) (w : World) (H : Hp) (s : Shared) (Q : VK) (E : XK) (r : Result) (s' : Shared) : Prop :=
  match r with
  | .ok (.ret u) => CE outer P w H s Q u s'
  | .ok _ => False
  | .error e => CX outer H s E e s'
structure FnOk (P : Program) (w : World) (K : PySem.W.Frag) (mg : Str → Option Value) (base : Heap) (CX : CXT) (k : Nat) (f : Addr) (fd : FuncData) (ps : List Str) (sp : Sp) : Prop where
  len : ∀ vs H Q E, sp vs H Q E → vs.length = ps.length
  run : ∀ (A : Around) (outer : List Env) (s : Shared) (H : Hp) (args : Args) (us : List Value) (vs : List V) (Q : VK) (E : XK), Room k A → Env0 P w K mg base A outer s H → BindsTo s fd args (ps.zip us) → Vals vs us → sp vs H Q E →
    codeAny (model P w) A (.call (.ref f) args) (CR CX outer P w H s Q E) s
theorem FnOk.mono {P : Program} {w : World} {K : PySem.W.Frag} {mg : Str → Option Value} {base : Heap} {CX : CXT} {j k : Nat} {f : Addr} {fd : FuncData} {ps : List Str} {sp : Sp} (F : FnOk P w K mg base CX j f fd ps sp) (h : j ≤ k) :
    FnOk P w K mg base CX k f fd ps sp := ⟨F.len, fun A outer s H args us vs Q E hr => F.run A outer s H args us vs Q E (hr.mono h)⟩
theorem FnOk.imp {P : Program} {w : World} {K : PySem.W.Frag} {mg : Str → Option Value} {base : Heap} {CX : CXT} {k : Nat} {f : Addr} {fd : FuncData} {ps : List Str} {sp sp' : Sp} (F : FnOk P w K mg base CX k f fd ps sp)
    (h : ∀ vs H Q E, sp' vs H Q E → sp vs H Q E) : FnOk P w K mg base CX k f fd ps sp' :=
  ⟨fun vs H Q E q => F.len vs H Q E (h _ _ _ _ q), fun A outer s H args us vs Q E hr he hb hv hs => F.run A outer s H args us vs Q E hr he hb hv (h _ _ _ _ hs)⟩

theorem Env0.make {P : Program} {w : World} {K : PySem.W.Frag} {mg : Str → Option Value} {base : Heap} {A : Around} {outer : List Env} {s : Shared} {H : Hp} (e : Env0 P w K mg base A outer s H) (C : Addr) (us : List Value) (kw : List (Str × Value)) :
    Env0 P w K mg base (A.under (.builtin "type.__call__" ⟨.ref C :: us, kw⟩)) outer s H := ⟨by first | exact e.frames | (simpa [Around.under, Code.envs, Code.isFrame, pushEnvs] using e.frames), e.mod, e.bs, e.bsz, e.funs, e.frf, e.hok, e.bare⟩
theorem Env0.in1 {P : Program} {w : World} {K : PySem.W.Frag} {mg : Str → Option Value} {base : Heap} {A : Around} {outer : List Env} {s : Shared} {H : Hp} (e : Env0 P w K mg base A outer s H) :
    Env0 P w K mg base A.in1 outer s H := ⟨e.frames, e.mod, e.bs, e.bsz, e.funs, e.frf, e.hok, e.bare⟩

section
variable {X : Cx} {pins : List (Addr × Obj)} {σ : St} {H : Hp} {s s' : Shared}
theorem Inv.env0 (I : Inv X pins σ H s) : Env0 X.prog X.w X.K X.mg X.base X.A X.stack s H :=
  ⟨I.ok.frames, I.ok.mod, I.bs, Nat.le_trans I.ok.bsz I.sz, I.stack, I.stkFree, I.hok, I.bare⟩
theorem Inv.after {Q : VK} {u : Value} (I : Inv X pins σ H s) (h : CE X.stack X.prog X.w H s Q u s') : EP X pins σ Q u s' := by
  obtain ⟨v, H', os, bare, un, hok, r, q⟩ := h
  obtain ⟨hh, g, d, t, os'⟩ := s'
  obtain rfl : os' = s.os := os
  exact ⟨v, H', I.call (h' := hh) (g' := g) (d' := d) (t' := t) (ch := []) un hok bare (fun b z => absurd z (by simp)), r, q⟩
end

def tCall (sp : Sp) (dvs : List V) (E : XK) (t : TA) : TE := fun σ H Q => t σ H fun vs H1 => sp (vs ++ dvs) H1 Q E
def tMeth (C : Addr) (m : Str) (sp : Sp) (dvs : List V) (E : XK) (ta : TE) (t : TA) : TE := fun σ H Q => ta σ H fun x H1 => ∃ a dx fs, x = .ref a ∧ H1 a = some (.ins C dx fs) ∧ fs.lookup m = none ∧
  t σ H1 fun vs H2 => sp (x :: (vs ++ dvs)) H2 Q E
def tMake (C : Addr) (sp : Sp) (dvs : List V) (E : XK) (t : TA) : TE := fun σ H Q => t σ H fun vs H1 => ∀ x dx, H1 x = none → H1 dx = none → dx ≠ x →
  sp (.ref x :: (vs ++ dvs)) (upd (upd H1 dx (.own x)) x (.ins C dx [])) (fun v H2 => v = .non ∧ Q (.ref x) H2) E

def Binds (K : PySem.W.Frag) (fd : FuncData) (ps : List Str) (ds : List Value) : Prop :=
  ∀ (s : Shared) (us : List Value), K.In s.heap → (us ++ ds).length = ps.length → BindsTo s fd ⟨us, []⟩ (ps.zip (us ++ ds))
theorem Binds.all {K : PySem.W.Frag} {fd : FuncData} {ps : List Str} (h : ∀ us : List Value, us.length = ps.length → bindArgs fd ⟨us, []⟩ = pure (ps.zip us)) : Binds K fd ps [] := fun s us _ hl => by
  rw [List.append_nil] at hl ⊢
  exact .of_eq (h us hl)

def Passes (CX : CXT) (X : Cx) (E : XK) : Prop := ∀ (pins : List (Addr × Obj)) (σ : St) (H : Hp) (s : Shared) (e : Value) (s' : Shared), Inv X pins σ H s → CX X.stack H s E e s' → X.xe e s'

section
variable {X : Cx} {CX : CXT} {k : Nat} {f C : Addr} {fd : FuncData} {ps : List Str} {sp : Sp} {dvs : List V} {ds : List Value} {E : XK} {x m : Str} {p pos apos : Pos} {e o : Expr} {es : List Expr} {ta : TE} {t : TA}

theorem run_fn {pins : List (Addr × Obj)} {σ : St} {H : Hp} {s : Shared} {Q : VK} {us : List Value} {vs : List V} (F : FnOk X.prog X.w X.K X.mg X.base CX k f fd ps sp) (hr : Room k X.A) (hb : Binds X.K fd ps ds) (hd : Vals dvs ds) (hx : Passes CX X E)
    (I : Inv X pins σ H s) (r : Vals vs us) (h : sp (vs ++ dvs) H Q E) : wpAny (model X.prog X.w) X.A (call (.ref f) us) (EP X pins σ Q) X.xe s := by
  have r2 : Vals (vs ++ dvs) (us ++ ds) := r.append hd
  have hl : (us ++ ds).length = ps.length := by rw [← r2.length]; exact F.len _ _ _ _ h
  refine wpAny_call (codeAny_mono (F.run X.A X.stack s H ⟨us, []⟩ (us ++ ds) (vs ++ dvs) Q E hr I.env0 (hb s us I.kIn hl) r2 h) fun r s' hq => ?_)
  cases r with
  | error e => exact hx pins σ H s e s' I hq
  | ok fl =>
    cases fl with
    | ret u => exact I.after hq
    | next => exact False.elim hq
    | brk => exact False.elim hq
    | cont => exact False.elim hq

theorem pe_call (F : FnOk X.prog X.w X.K X.mg X.base CX k f fd ps sp) (hr : Room k X.A) (hg : Gl X x) (hm : X.mg x = some (.ref f)) (hk : PySem.W.keepIn X.K (.ref f) = true) (hb : Binds X.K fd ps ds) (hd : Vals dvs ds) (hx : Passes CX X E)
    (ha : PA X (e :: es) t) (hdb : (x == ("__debug__" : Str)) = false := by decide) (he : starEach (e :: es) X.env = (false, eval e X.env) :: starEach es X.env := by rfl) (hpl : (backTo pos (starEach es X.env)).any (·.1) = false := by rfl) :
    PE X (.Call (.Name x p) (e :: es) [] pos) (tCall sp dvs E t) := by
  intro pins s σ H Q I h
  refine wpAny_Call_Name_kw (ld_glob I hg hm ?_ hdb)
  refine PySem.W.callWith_K (h₀ := X.base) I.ok.mod.kin hk (thn (ha pos pins s σ H _ I h) fun us s1 ⟨vs, H1, I1, r, q⟩ => ⟨I1.kIn, ?_⟩) he hpl
  exact run_fn F hr hb hd hx I1 r q
theorem pe_call0 (F : FnOk X.prog X.w X.K X.mg X.base CX k f fd ps sp) (hr : Room k X.A) (hg : Gl X x) (hm : X.mg x = some (.ref f)) (hk : PySem.W.keepIn X.K (.ref f) = true) (hb : Binds X.K fd ps ds) (hd : Vals dvs ds) (hx : Passes CX X E)
    (hdb : (x == ("__debug__" : Str)) = false := by decide) : PE X (.Call (.Name x p) [] [] pos) (tCall sp dvs E tNil) := by
  intro pins s σ H Q I h
  refine wpAny_Call_Name_kw (ld_glob I hg hm ?_ hdb)
  exact PySem.W.callWith_K0 I.kIn hk (run_fn (us := []) F hr hb hd hx I .nil h)

theorem pe_meth {pl : Sem Bool} (he : PE X o ta) (c : Cls X.K C) (hm : Meth X.K C m f) (F : FnOk X.prog X.w X.K X.mg X.base CX k f fd ps sp) (hr : Room k X.A) (hb : Binds X.K fd ps ds) (hd : Vals dvs ds) (hx : Passes CX X E) (ha : PA X (e :: es) t)
    (hst : starEach (e :: es) X.env = (false, eval e X.env) :: starEach es X.env := by rfl) (hpl : (backTo pos (starEach es X.env)).any (·.1) = false := by rfl)
    (ht : eval (.Call (.Attribute o m apos) (e :: es) [] pos) X.env = (do
      let ov ← eval o X.env
      standAt apos.atName
      let (f, first) ← holding [ov] (getMethod ov m pl)
      callWith pos f first (backTo pos (starEach (e :: es) X.env)) (backToKw pos (keywordEach [] X.env))) := by rfl) :
    PE X (.Call (.Attribute o m apos) (e :: es) [] pos) (tMeth C m sp dvs E ta t) := by
  intro pins s σ H Q I h
  refine PySem.W.methodCall_KW (pl := pl) (thn (he pins s σ H _ I h) fun u s1 ⟨x, H1, I1, rx, a, dx, fs, ex, ea, l, q⟩ => ?_) ht
  subst ex
  obtain rfl : u = Value.ref a := rx
  refine getmeth_ok I1 ea c hm l ?_
  refine PySem.W.callWith_K (first := [.ref a]) (h₀ := X.base) I.ok.mod.kin hm.kp (thn (ha pos pins s1 σ H1 _ I1 q) fun us s2 ⟨vs, H2, I2, r, q2⟩ => ⟨I2.kIn, ?_⟩) hst hpl
  exact run_fn (us := .ref a :: us) (vs := .ref a :: vs) F hr hb hd hx I2 (.cons rfl r) q2
theorem pe_meth0 {pl : Sem Bool} (he : PE X o ta) (c : Cls X.K C) (hm : Meth X.K C m f) (F : FnOk X.prog X.w X.K X.mg X.base CX k f fd ps sp) (hr : Room k X.A) (hb : Binds X.K fd ps ds) (hd : Vals dvs ds) (hx : Passes CX X E)
    (ht : eval (.Call (.Attribute o m apos) [] [] pos) X.env = (do
      let ov ← eval o X.env
      standAt apos.atName
      let (f, first) ← holding [ov] (getMethod ov m pl)
      callWith pos f first (backTo pos (starEach [] X.env)) (backToKw pos (keywordEach [] X.env))) := by rfl) :
    PE X (.Call (.Attribute o m apos) [] [] pos) (tMeth C m sp dvs E ta tNil) := by
  intro pins s σ H Q I h
  refine PySem.W.methodCall_KW (pl := pl) (thn (he pins s σ H _ I h) fun u s1 ⟨x, H1, I1, rx, a, dx, fs, ex, ea, l, q⟩ => ?_) ht
  subst ex
  obtain rfl : u = Value.ref a := rx
  refine getmeth_ok I1 ea c hm l ?_
  exact PySem.W.callWith_K0 (first := [.ref a]) I1.kIn hm.kp (run_fn (us := [.ref a]) (vs := [.ref a]) F hr hb hd hx I1 (.cons rfl .nil) q)

structure Mk (K : PySem.W.Frag) (C f : Addr) : Prop where
  makes : PySem.W.makesIn K C = true
  init : PySem.W.findIn K (.ref C) "__init__" = some (some (.ref f))
  fn : PySem.W.isFn K (.ref f) = true
  kp : PySem.W.keepIn K (.ref C) = true

theorem run_make {pins : List (Addr × Obj)} {σ : St} {H : Hp} {s : Shared} {Q : VK} {us : List Value} {vs : List V} (M : Mk X.K C f) (F : FnOk X.prog X.w X.K X.mg X.base CX k f fd ps sp) (hr : Room (k + 1) X.A) (hb : Binds X.K fd ps ds) (hd : Vals dvs ds)
    (hx : Passes CX X E) (I : Inv X pins σ H s) (r : Vals vs us)
    (h : ∀ x dx, H x = none → H dx = none → dx ≠ x → sp (.ref x :: (vs ++ dvs)) (upd (upd H dx (.own x)) x (.ins C dx [])) (fun v H2 => v = .non ∧ Q (.ref x) H2) E) :
    wpAny (model X.prog X.w) X.A (call (.ref C) us) (EP X pins σ Q) X.xe s := by
  have hq := h (s.heap.objs.size + 1) s.heap.objs.size (I.hok.fresh (Nat.le_succ _)) (I.hok.fresh (Nat.le_refl _)) (Nat.ne_of_lt (Nat.lt_succ_self _))
  have I2 := Inv.made (C := C) I
  have r2 : Vals (V.ref (s.heap.objs.size + 1) :: (vs ++ dvs)) (Value.ref (s.heap.objs.size + 1) :: (us ++ ds)) := .cons rfl (r.append hd)
  have hl : (Value.ref (s.heap.objs.size + 1) :: us ++ ds).length = ps.length := by
    have e := r2.length
    rw [F.len _ _ _ _ hq] at e
    exact e.symm
  refine wpAny_call (make_map (f := f) I.kIn M.makes M.init (beq_iff_eq.mp M.fn) (codeAny_mono (F.run _ X.stack _ _ ⟨Value.ref (s.heap.objs.size + 1) :: us, []⟩ (Value.ref (s.heap.objs.size + 1) :: (us ++ ds)) _ _ E (hr.make C us [])
    (I2.env0.make C us []) (hb _ (Value.ref (s.heap.objs.size + 1) :: us) I2.kIn hl) r2 hq) fun r s' hq' => ?_))
  cases r with
  | error e => exact hx pins σ _ _ e s' I2 hq'
  | ok fl =>
    cases fl with
    | ret u =>
      obtain ⟨v, H', I3, rv, ev, q3⟩ := I2.after hq'
      subst ev
      exact ⟨rv, ⟨V.ref (s.heap.objs.size + 1), H', I3, rfl, q3⟩⟩
    | next => exact False.elim hq'
    | brk => exact False.elim hq'
    | cont => exact False.elim hq'
theorem pe_make0 (M : Mk X.K C f) (F : FnOk X.prog X.w X.K X.mg X.base CX k f fd ps sp) (hr : Room (k + 1) X.A) (hg : Gl X x) (hm : X.mg x = some (.ref C)) (hb : Binds X.K fd ps ds) (hd : Vals dvs ds) (hx : Passes CX X E)
    (hdb : (x == ("__debug__" : Str)) = false := by decide) : PE X (.Call (.Name x p) [] [] pos) (tMake C sp dvs E tNil) := by
  intro pins s σ H Q I h
  refine wpAny_Call_Name_kw (ld_glob I hg hm ?_ hdb)
  exact PySem.W.callWith_K0 I.kIn M.kp (run_make (us := []) M F hr hb hd hx I .nil h)
end

section
variable {X : Cx} {CX : CXT} {k : Nat} {f C : Addr} {fd : FuncData} {ps ks : List Str} {sp : Sp} {E : XK} {x m : Str} {p pos apos kpos : Pos} {e o : Expr} {es : List Expr} {kws : List Keyword} {te ta : TE} {t tk : TA} {nm : Option Str}
variable {g : List Value → List Value → List Value} {gV : List V → List V → List V}
end

structure FnScope (N P : List Str) (sc : Scope) : Prop where
  kind : sc.kind = .function
  co : sc.isCoroutine = false
  gen : sc.isGenerator = false
  nd : N.Nodup
  pre : N.take P.length = P
  par : ∀ x ∈ P, sc.names.lookup x = some .local ∨ sc.names.lookup x = some .cell
  nofree : ∀ y ∈ sc.names, y.2 ≠ .free

theorem bindL_out {kindOf : Str → Option NameKind} {x : Str} : ∀ {binds : List (Str × Value)} {m : Str → Option Value}, (∀ v, (x, v) ∉ binds) → bindL kindOf binds m x = m x
  | [], _, _ => rfl
  | (n, v) :: r, m, h => by
    unfold bindL
    rw [bindL_out fun w hw => h w (List.mem_cons_of_mem _ hw)]
    split
    · have : x ≠ n := by rintro rfl; exact h v List.mem_cons_self
      simp [this]
    · rfl
theorem bindC_out {kindOf : Str → Option NameKind} {x : Str} : ∀ {binds : List (Str × Value)} {m : Str → Option Value}, (∀ v, (x, v) ∉ binds) → bindC kindOf binds m x = m x
  | [], _, _ => rfl
  | (n, v) :: r, m, h => by
    unfold bindC
    rw [bindC_out fun w hw => h w (List.mem_cons_of_mem _ hw)]
    split
    · rfl
    · have : x ≠ n := by rintro rfl; exact h v List.mem_cons_self
      simp [this]
theorem bindL_get {kindOf : Str → Option NameKind} {x : Str} {v : Value} : ∀ {P : List Str} {vs : List Value} {i : Nat} {m : Str → Option Value}, P.Nodup → P[i]? = some x → vs[i]? = some v → kindOf x = some .local →
    bindL kindOf (P.zip vs) m x = some v
  | [], _, _, _, _, h, _, _ => by simp at h
  | _ :: _, [], _, _, _, _, h, _ => by simp at h
  | p :: P, w :: vs, 0, m, nd, h1, h2, hk => by
    simp at h1 h2; subst h1; subst h2
    show bindL kindOf ((p, w) :: P.zip vs) m p = _
    unfold bindL
    rw [bindL_out fun v hv => (List.nodup_cons.mp nd).1 (List.of_mem_zip hv).1, if_pos hk]
    simp
  | p :: P, w :: vs, i + 1, m, nd, h1, h2, hk => by
    show bindL kindOf ((p, w) :: P.zip vs) m x = _
    unfold bindL
    exact bindL_get (i := i) (List.nodup_cons.mp nd).2 (by simpa using h1) (by simpa using h2) hk
theorem bindC_get {kindOf : Str → Option NameKind} {x : Str} {v : Value} : ∀ {P : List Str} {vs : List Value} {i : Nat} {m : Str → Option Value}, P.Nodup → P[i]? = some x → vs[i]? = some v → kindOf x ≠ some .local →
    bindC kindOf (P.zip vs) m x = some v
  | [], _, _, _, _, h, _, _ => by simp at h
  | _ :: _, [], _, _, _, _, h, _ => by simp at h
  | p :: P, w :: vs, 0, m, nd, h1, h2, hk => by
    simp at h1 h2; subst h1; subst h2
    show bindC kindOf ((p, w) :: P.zip vs) m p = _
    unfold bindC
    rw [bindC_out fun v hv => (List.nodup_cons.mp nd).1 (List.of_mem_zip hv).1, if_neg hk]
    simp
  | p :: P, w :: vs, i + 1, m, nd, h1, h2, hk => by
    show bindC kindOf ((p, w) :: P.zip vs) m x = _
    unfold bindC
    exact bindC_get (i := i) (List.nodup_cons.mp nd).2 (by simpa using h1) (by simpa using h2) hk

def start (N : List Str) (vs : List V) : St := vs.map some ++ List.replicate (N.length - vs.length) none

def cxOf (CX : CXT) (P : Program) (w : World) (K : PySem.W.Frag) (mg : Str → Option Value) (base : Heap) (N : List Str) (qual : Str) (scope : Scope) (f : Addr) (cd : Value) (A : Around) (outer : List Env) (s : Shared) (H : Hp) (E : XK) : Cx where
  prog := P
  w := w
  K := K
  mg := mg
  base := base
  A := A.deeper (envOfC qual scope s.heap.objs.size f cd)
  N := N
  s₀ := s
  H₀ := H
  env := envOfC qual scope s.heap.objs.size f cd
  outer := outer
  stack := envOfC qual scope s.heap.objs.size f cd :: outer
  ex := []
  calm := true
  fn := fun _ => true
  pn := []
  xe := fun e s' => wpAny (model P w) (A.deeper (envOfC qual scope s.heap.objs.size f cd)) (leaving (envOfC qual scope s.heap.objs.size f cd) e) (fun _ s'' => CX outer H s E e s'') (fun e' s'' => CX outer H s E e' s'') s'

theorem cell_has {sc : Scope} {n : Nat} {x : Str} (h : sc.names.lookup x = some .cell) : ∃ c, (cellsFrom n sc.names []).lookup x = some c := by
  have q := PySem.W.cellsFrom_some sc.names n [] (.inl h)
  exact Option.isSome_iff_exists.mp q

theorem inv_start {CX : CXT} {P : Program} {w : World} {K : PySem.W.Frag} {mg : Str → Option Value} {base : Heap} {N ps : List Str} {qual : Str} {scope : Scope} {f : Addr} {cd : Value} {A : Around} {outer : List Env} {s s1 : Shared} {H : Hp} {E : XK} {us : List Value} {vs : List V}
    (S : FnScope N ps scope) (hd : A.handled = none) (e0 : Env0 P w K mg base A outer s H) (hl : vs.length = ps.length) (r : Vals vs us)
    (x : InCallC s s.heap.objs.size (bindL (envOfC qual scope s.heap.objs.size f cd).kindOf (ps.zip us) fun _ => none) (cellsFrom (s.heap.objs.size + 1) scope.names []) (bindC (envOfC qual scope s.heap.objs.size f cd).kindOf (ps.zip us) fun _ => none) s1) :
    Inv (cxOf CX P w K mg base N qual scope f cd A outer s H E) [] (start N vs) H s1 := by
  have hpl : ps.length ≤ N.length := by have := congrArg List.length S.pre; rw [List.length_take] at this; omega
  obtain ⟨h1, tk, rfl, hk⟩ := x.done
  have noA : ∀ b : Addr, b ∉ (cxOf CX P w K mg base N qual scope f cd A outer s H E).ex := fun b z => absurd (show b ∈ ([] : List Addr) from z) (by simp)
  refine ⟨⟨e0.mod, S.kind, rfl, rfl, Nat.le_refl _, fun y z c h1 h2 => ?_, fun y hy => ?_, fun y c _ h => ?_, fun _ => hd, Around.frames_deeper e0.frames, .inr ⟨rfl, rfl⟩, fun b z => absurd z (noA b), e0.bs, e0.bsz, fun b _ _ => noA b, fun b z => absurd z (noA b), e0.funs, e0.frf⟩,
    rfl, e0.bare, Un.kept hk, ⟨_, x.toInCall.ns, fun i y v h1 h2 h3 => ?_⟩, fun y c h => ⟨_, x.cell y c h⟩, e0.hok.fresh (Nat.le_refl _), fun y c h => ?_, fun p hp => absurd (show p ∈ ([] : List (Addr × Obj)) from hp) (by simp), e0.hok.kept hk, ?_⟩
  · exact name_of_addr x.apart (PySem.mem_of_lookup h1) (PySem.mem_of_lookup h2)
  · have hy : scope.names.lookup y = some .cell ∨ scope.names.lookup y = some .free := hy
    rcases hy with hy | hy
    · exact cell_has hy
    · exact absurd rfl (S.nofree _ (PySem.mem_of_lookup hy))
  · exact Nat.le_of_lt (x.above y c (PySem.mem_of_lookup h))
  · have hi : i < vs.length := by
      unfold start at h2
      by_cases hi : i < vs.length
      · exact hi
      · rw [List.getElem?_append_right (by simpa using hi)] at h2
        rw [List.getElem?_replicate] at h2
        split at h2 <;> cases h2
    have ha : vs[i]? = some v := by
      unfold start at h2
      rw [List.getElem?_append_left (by simpa using hi), List.getElem?_map] at h2
      cases e : vs[i]? with
      | none => rw [e] at h2; cases h2
      | some a => rw [e] at h2; cases h2; rfl
    obtain ⟨u, hu, rv⟩ := r.get ha
    have hp : ps[i]? = some y := by
      rw [← S.pre, List.getElem?_take_of_lt (by omega)]; exact h1
    have ndP : ps.Nodup := by rw [← S.pre]; exact S.nd.sublist (List.take_sublist _ _)
    refine ⟨u, rv, ?_⟩
    rcases S.par y (List.mem_of_getElem? hp) with k | k
    · exact .inl ⟨k, bindL_get ndP hp hu k⟩
    · obtain ⟨c, e⟩ := cell_has (n := s.heap.objs.size + 1) k
      refine .inr ⟨.inl k, c, e, ?_⟩
      have q := x.cell y c e
      rw [bindC_get ndP hp hu (by show scope.names.lookup y ≠ _; rw [k]; decide)] at q
      exact q
  · exact e0.hok.fresh (Nat.le_of_lt (x.above y c (PySem.mem_of_lookup h)))
  · unfold start
    show _ = N.length
    rw [List.length_append, List.length_map, List.length_replicate]
    omega

theorem fn_of {CX : CXT} {P : Program} {w : World} {K : PySem.W.Frag} {mg : Str → Option Value} {base : Heap} {k : Nat} {f : Addr} {name qual : Str} {params : Arguments} {body : List Stmt} {scope : Scope} {dV kV doc pm cdv ct oc : Value} {an od : Option Addr}
    {osl : Array (Option Value)} {N ps : List Str} {sp : Sp} (lk : K.lookup f = some ⟨oc, od, .func (PySem.W.fnOf name qual params body scope dV kV doc pm an cdv ct), osl⟩) (hcd : PySem.W.codeIn K cdv qual = true) (S : FnScope N ps scope)
    (len : ∀ vs H Q E, sp vs H Q E → vs.length = ps.length)
    (hbody : ∀ (A : Around) (outer : List Env) (s : Shared) (H : Hp) (vs : List V) (Q : VK) (E : XK), Room k (A.deeper (envOfC qual scope s.heap.objs.size f cdv)) → sp vs H Q E →
      ∃ t, PSs (cxOf CX P w K mg base N qual scope f cdv A outer s H E) body t ∧ t { nx := fun _ H' => Q .non H', rt := Q } (start N vs) H) :
    FnOk P w K mg base CX (k + 1) f (PySem.W.fnOf name qual params body scope dV kV doc pm an cdv ct) ps sp := by
  refine ⟨len, fun A outer s H args us vs Q E hr e0 hb r hsp => ?_⟩
  have hl := len _ _ _ _ hsp
  have KX : K.In s.heap := e0.mod.kin.keeps fun b o e => (e0.bs b o e).1
  have lim : s.heap.NoLimit := e0.mod.nolimit.keeps fun b o e => (e0.bs b o e).1
  have hkind : ∀ y ∈ ps.zip us, scope.names.lookup y.1 = some .local ∨ (scope.names.lookup y.1 = some .cell ∧ ((cellsFrom (s.heap.objs.size + 1) scope.names []).lookup y.1).isSome = true) := fun ⟨n, v⟩ hy => by
    rcases S.par n (List.of_mem_zip hy).1 with q | q
    · exact .inl q
    · exact .inr ⟨q, PySem.W.cellsFrom_some _ _ _ (.inl q)⟩
  refine codeAny_call_function hr.depth (KX _ _ lk) rfl S.co S.gen rfl (PySem.W.codeRec_of KX hcd) (hb _ _ _ _ ?_)
  refine wpAny_newFunctionEnv_cells S.kind hkind fun env he s1 x => ?_
  subst he
  refine ⟨lim.keeps x.toInCall.keep, codeAny_func ?_⟩
  obtain ⟨t, ht, hq⟩ := hbody A outer s H vs Q E (hr.deeper _) hsp
  have I : Inv (cxOf CX P w K mg base N qual scope f cdv A outer s H E) [] (start N vs) H s1 := inv_start S hr.hd e0 hl r x
  refine wpAny_mono (ht [] s1 (start N vs) H _ I hq) (fun fl s' hs => ?_) fun e s' hs => hs
  have fin : ∀ {σ' : St} {H' : Hp} {v : V} {u : Value}, Inv (cxOf CX P w K mg base N qual scope f cdv A outer s H E) [] σ' H' s' → RelV v u → Q v H' → CE outer P w H s Q u s' :=
    fun {σ' H' v u} J rv q => ⟨v, H', J.os, J.bare, J.base, J.hok, rv, q⟩
  cases fl with
  | ret u =>
    obtain ⟨v, σ', H', J, rv, q⟩ := hs
    exact fin J rv q
  | next =>
    obtain ⟨σ', H', J, q⟩ := hs
    exact fin (v := V.non) (u := Value.none) J rfl q
  | brk =>
    obtain ⟨_, _, _, q⟩ := hs
    exact False.elim q
  | cont =>
    obtain ⟨_, _, _, q⟩ := hs
    exact False.elim q
end L2

namespace L2
open PySem PySem.Spec PyProof.Rows
section
variable {X : Cx} {x : Str} {p pos : Pos} {e : Expr} {es : List Expr} {t : TA} {id T : String} {r : List V → Hp → VK → Prop}

def tCB (r : List V → Hp → VK → Prop) (t : TA) : TE := fun σ H Q => t σ H fun vs H1 => r vs H1 Q
theorem pe_callB (hc : CallR X (.builtin id) r) (hg : Gl X x) (hm : X.mg x = none) (hv : bootBuiltins x = some (.builtin id)) (ha : PA X (e :: es) t) (hn : x ≠ "__name__" := by decide) (hdb : (x == ("__debug__" : Str)) = false := by decide)
    (he : starEach (e :: es) X.env = (false, eval e X.env) :: starEach es X.env := by rfl) (hpl : (backTo pos (starEach es X.env)).any (·.1) = false := by rfl) : PE X (.Call (.Name x p) (e :: es) [] pos) (tCB r t) := by
  intro pins s σ H Q I h
  refine wpAny_Call_Name_kw (ld_blt I hg hm hv ?_ hn hdb)
  exact PyProof.Rows.callWith_builtin1 (thn (ha pos pins s σ H _ I h) fun us s1 ⟨vs, H1, I1, r1, q1⟩ => hc pins s1 σ H1 vs us Q I1 r1 q1) he hpl
theorem pe_callTy (hc : CallR X (.type T) r) (hg : Gl X x) (hm : X.mg x = none) (hv : bootBuiltins x = some (.type T)) (ha : PA X (e :: es) t) (hn : x ≠ "__name__" := by decide) (hdb : (x == ("__debug__" : Str)) = false := by decide)
    (he : starEach (e :: es) X.env = (false, eval e X.env) :: starEach es X.env := by rfl) (hpl : (backTo pos (starEach es X.env)).any (·.1) = false := by rfl) : PE X (.Call (.Name x p) (e :: es) [] pos) (tCB r t) := by
  intro pins s σ H Q I h
  refine wpAny_Call_Name_kw (ld_blt I hg hm hv ?_ hn hdb)
  exact PyProof.Rows.callWith_type1 (thn (ha pos pins s σ H _ I h) fun us s1 ⟨vs, H1, I1, r1, q1⟩ => hc pins s1 σ H1 vs us Q I1 r1 q1) he hpl
end
end L2

namespace HT
open PySem PyProof.Rows

section
open PySem.SeqAt
open PySem.AutoSeq1 (wpAny_loadPart')
open PySem.MeetsSeq PySem.MeetsSeq2 PySem.MeetsSeq3

end

section
variable {prog : Program} {w : World} {A : Around} {E : Value → Shared → Prop} {s : Shared}

def sIx (n d : Nat) : Option Int → Nat
  | none => d
  | some v => if v < 0 then (v + (n : Int)).toNat else min v.toNat n
theorem sIx_nat (n d k : Nat) : sIx n d (some (k : Int)) = min k n := by
  show (if (k : Int) < 0 then ((k : Int) + (n : Int)).toNat else min (k : Int).toNat n) = min k n
  rw [if_neg (by omega), Int.toNat_natCast]
end
end HT

namespace L2
open PySem PySem.Spec PyProof.Rows

abbrev TO := St → Hp → (Option Int → Hp → Prop) → Prop
def PO (X : Cx) (e : Option Expr) (t : TO) : Prop :=
  ∀ (pins : List (Addr × Obj)) (s : Shared) (σ : St) (H : Hp) (Q : Option Int → Hp → Prop), Inv X pins σ H s → t σ H Q →
    wpAny (model X.prog X.w) X.A (evalPart e X.env) (fun u s' => ∃ o H', Inv X pins σ H' s' ∧ IsPart u o ∧ Q o H') X.xe s
def tNoPart : TO := fun _ H Q => Q none H
def tPart (t : TE) : TO := fun σ H Q => t σ H fun x H1 => ∃ i, x = .int i ∧ Q (some i) H1

section
variable {X : Cx} {e : Expr} {te : TE} {lo hi : Option Expr} {tl th : TO} {pos p2 : Pos}

theorem po_none : PO X none tNoPart := by
  intro pins s σ H Q I h
  rw [evalPart_none]
  exact wpAny_pure ⟨none, H, I, .none, h⟩
theorem po_some (h : PE X e te) : PO X (some e) (tPart te) := by
  intro pins s σ H Q I hw
  rw [evalPart_some]
  refine thn (h pins s σ H _ I hw) fun u s1 ⟨x, H1, I1, r1, q1⟩ => ?_
  obtain ⟨i, rfl, q⟩ := q1
  obtain ⟨t, rfl⟩ := r1
  exact ⟨some i, H1, I1, .int i t, q⟩

def SlR (X : Cx) (r : V → Option Int → Option Int → Hp → VK → Prop) : Prop :=
  ∀ (pins : List (Addr × Obj)) (s : Shared) (σ : St) (H : Hp) (x : V) (v vl vu : Value) (lo hi : Option Int) (sl : Addr) (Q : VK), Inv X pins σ H s → RelV x v → s.heap.IsSliceOf sl vl vu .none → IsPart vl lo → IsPart vu hi → r x lo hi H Q →
    ∃ T id, typeLookup (.type T) "__getitem__" = pure (some (.builtin id)) ∧ s.TypeIs v T ∧ wpAny (model X.prog X.w) X.A (getItem v (.ref sl)) (EP X pins σ Q) X.xe s
def tSl (r : V → Option Int → Option Int → Hp → VK → Prop) (te : TE) (tl th : TO) : TE := fun σ H Q => te σ H fun x H1 => tl σ H1 fun l H2 => th σ H2 fun u H3 => r x l u H3 Q
theorem pe_slice {r : V → Option Int → Option Int → Hp → VK → Prop} (hr : SlR X r) (he : PE X e te) (hl : PO X lo tl) (hu : PO X hi th) : PE X (.Subscript e (.Slice lo hi none p2) pos) (tSl r te tl th) := by
  intro pins s σ H Q I h
  refine Subscript_ (thn (he pins s σ H _ I h) fun v s1 ⟨x, H1, I1, r1, q1⟩ => ?_)
  refine wpAny_Slice (thn (hl pins s1 σ H1 _ I1 q1) fun vl s2 ⟨l, H2, I2, pl, q2⟩ => thn (hu pins s2 σ H2 _ I2 q2) fun vu s3 ⟨u, H3, I3, pu, q3⟩ => ?_)
  rw [evalPart_none]
  refine wpAny_pure ?_
  have I4 : Inv X pins σ H3 { s3 with heap := s3.heap.push { cls := .type "slice", data := .fields #[vl, vu, .none] } } := I3.kept (t' := s3.toks) fun b ob q => Heap.get?_push_of_some _ q
  obtain ⟨T, id, hT, ht, hg⟩ := hr pins { s3 with heap := s3.heap.push { cls := .type "slice", data := .fields #[vl, vu, .none] } } σ H3 x v vl vu l u s3.heap.objs.size Q I4 r1 (Heap.IsSliceOf.new ..) pl pu q3
  show wpAny (model X.prog X.w) X.A (subscriptTail e (.Slice lo hi none p2) v (.ref s3.heap.objs.size)) (EP X pins σ Q) X.xe { s3 with heap := s3.heap.push { cls := .type "slice", data := .fields #[vl, vu, .none] } }
  exact tail_any (ops := [.ref s3.heap.objs.size, v]) ht hT hg (by with_unfolding_all rfl)

def cutV (xs : List V) (lo hi : Option Int) : List V := (xs.drop (HT.sIx xs.length 0 lo)).take (HT.sIx xs.length xs.length hi - HT.sIx xs.length 0 lo)
theorem cutV_length (xs : List V) (lo hi : Option Int) : (cutV xs lo hi).length ≤ xs.length := by
  unfold cutV
  rw [List.length_take, List.length_drop]
  omega
end
end L2

namespace L2
open PySem PySem.Spec PyProof.Rows

def ixN (n : Nat) (i : Int) : Option Nat := if 0 ≤ i then (if i < n then some i.toNat else none) else if -(n : Int) ≤ i then some (i + n).toNat else none
def atI {α : Type} (xs : List α) (i : Int) : Option α := (ixN xs.length i).bind fun j => xs[j]?
theorem ixN_seq {n : Nat} {i : Int} {j : Nat} (h : ixN n i = some j) : seqIndex? i n = some j ∧ j < n ∧ -(n : Int) ≤ i ∧ i < n := by
  unfold ixN at h
  by_cases h0 : 0 ≤ i
  · rw [if_pos h0] at h
    by_cases h1 : i < n
    · rw [if_pos h1] at h
      have e : i.toNat = j := Option.some.inj h
      exact ⟨by rw [seqIndex_of h0 h1, e], by omega, by omega, h1⟩
    · rw [if_neg h1] at h; cases h
  · rw [if_neg h0] at h
    by_cases h1 : -(n : Int) ≤ i
    · rw [if_pos h1] at h
      have e : (i + n).toNat = j := Option.some.inj h
      exact ⟨by rw [seqIndex_neg (by omega) h1, e], by omega, h1, by omega⟩
    · rw [if_neg h1] at h; cases h
theorem atI_get {α : Type} {xs : List α} {i : Int} {v : α} (h : atI xs i = some v) : ∃ j, seqIndex? i xs.length = some j ∧ xs[j]? = some v ∧ j < xs.length ∧ -(xs.length : Int) ≤ i ∧ i < xs.length := by
  unfold atI at h
  cases e : ixN xs.length i with
  | none => rw [e] at h; cases h
  | some j =>
    rw [e] at h
    obtain ⟨h1, h2, h3, h4⟩ := ixN_seq e
    exact ⟨j, h1, h, h2, h3, h4⟩
theorem atI_nat {α : Type} {xs : List α} {j : Nat} {v : α} (h : xs[j]? = some v) : atI xs (j : Int) = some v := by
  have hj : j < xs.length := (List.getElem?_eq_some_iff.mp h).1
  have e : ixN xs.length (j : Int) = some j := by
    unfold ixN
    rw [if_pos (by omega), if_pos (by omega)]; simp
  unfold atI; rw [e]; exact h
def PlainIx (b : Expr) : Prop := ∀ o i, subscripted b false o i = operate [o, i] (getItem o i)
def IxR (X : Cx) (r : R2) : Prop :=
  ∀ (value slice : Expr) (pins : List (Addr × Obj)) (s : Shared) (σ : St) (H : Hp) (x y : V) (v u : Value) (Q : VK), Inv X pins σ H s → RelV x v → RelV y u → r x y H Q →
    subscripted slice false v u = operate [v, u] (getItem v u) → wpAny (model X.prog X.w) X.A (subscriptTail value slice v u) (EP X pins σ Q) X.xe s
def MtR (X : Cx) (id : String) (r : V → List V → Hp → VK → Prop) : Prop :=
  ∀ (pins : List (Addr × Obj)) (s : Shared) (σ : St) (H : Hp) (x : V) (xs : List V) (v : Value) (us : List Value) (Q : VK), Inv X pins σ H s → RelV x v → Vals xs us → r x xs H Q →
    wpAny (model X.prog X.w) X.A (call (.builtin id) (v :: us)) (EP X pins σ Q) X.xe s
section
variable {X : Cx} {a b : Expr} {ta tb : TE} {pos : Pos}
theorem pe_ix {r : R2} (hr : IxR X r) (ha : PE X a ta) (hb : PE X b tb) (hs : PlainIx b) : PE X (.Subscript a b pos) (tOp r ta tb) := by
  intro pins s σ H Q I h
  exact Subscript_ (binT ha hb I h fun v u s2 x y H2 I2 rx ry q => hr a b pins s2 σ H2 x y v u Q I2 rx ry q (hs _ _))

def rIxL (K : PySem.W.Frag) : R2 := fun x y H Q => ∃ p xs i v, x = .ref p ∧ y = .int i ∧ SqL K H p xs ∧ atI xs i = some v ∧ Q v H
def rIxT (K : PySem.W.Frag) : R2 := fun x y H Q => ∃ p xs i v, x = .ref p ∧ y = .int i ∧ SqT K H p xs ∧ atI xs i = some v ∧ Q v H
theorem ix_list : IxR X (rIxL X.K) := by
  intro value slice pins s σ H x y v u Q I rx ry h hs
  obtain ⟨p, xs, i, z, rfl, rfl, hq, he, q⟩ := h
  cases rx
  obtain ⟨t, rfl⟩ := ry
  obtain ⟨its, r, pl, hz⟩ := I.list hq
  obtain ⟨j, h1, h2, h3, h4, h5⟩ := atI_get he
  obtain ⟨w, ew, rw'⟩ := r.get h2
  have hl := r.length
  have hn := line63
  have fin : EP X pins σ Q w s := ⟨z, H, I, rw', q⟩
  by_cases h0 : 0 ≤ i
  · have hj : i.toNat = j := by
      rw [seqIndex_of h0 h5] at h1
      exact Option.some.inj h1
    exact item_listR pl.isList h0 (by omega) (by rw [hj]; simpa using ew) fin hs
  · have hj : (i + (its.toArray.size : Int)).toNat = j := by
      rw [seqIndex_neg (by omega) h4] at h1
      rw [List.size_toArray, ← hl]
      exact Option.some.inj h1
    exact subscriptTail_builtinR (x := w) pl.isList.typeIs slot_list_getitem.lookup
      (wpAny_getItem_list_neg (Q := fun r s' => r = w ∧ EP X pins σ Q r s') pl.isList (by omega) (by rw [List.size_toArray] <;> omega) (by omega) (by rw [hj]; simpa using ew) ⟨rfl, fin⟩) hs
theorem ix_tup : IxR X (rIxT X.K) := by
  intro value slice pins s σ H x y v u Q I rx ry h hs
  obtain ⟨p, xs, i, z, rfl, rfl, hq, he, q⟩ := h
  cases rx
  obtain ⟨t, rfl⟩ := ry
  obtain ⟨its, r, pl, hz⟩ := I.tuple hq
  obtain ⟨j, h1, h2, h3, h4, h5⟩ := atI_get he
  obtain ⟨w, ew, rw'⟩ := r.get h2
  have hl := r.length
  have hn := line63
  have fin : EP X pins σ Q w s := ⟨z, H, I, rw', q⟩
  exact subscriptTail_builtinR (x := w) pl.typeIs slot_tuple_getitem.lookup
    (getItem_tuple (j := j) (Q := fun r s' => r = w ∧ EP X pins σ Q r s') pl (by omega) (by omega) (by rw [List.size_toArray, ← hl]; exact h1) (by simpa using ew) ⟨rfl, fin⟩) hs
theorem Inv.lst {pins : List (Addr × Obj)} {σ : St} {H : Hp} {s : Shared} {p : Addr} {xs : List V} (I : Inv X pins σ H s) (h : H p = some (.lst xs)) :
    ∃ (its : List Value) (n : Nat), Vals xs its ∧ s.heap.get? p = some { cls := .type "list", data := .seq its.toArray n } ∧ xs.length ≤ sizeLine := by
  obtain ⟨z, its, n, r, e⟩ := I.hok p _ h
  exact ⟨its, n, r, e, z⟩
theorem slice_bounds (lo hi : Option Int) (n : Nat) : (sliceBounds lo hi none n).1 = ((HT.sIx n 0 lo : Nat) : Int) ∧ (sliceBounds lo hi none n).2.1 = ((HT.sIx n n hi : Nat) : Int) ∧ (sliceBounds lo hi none n).2.2 = 1 := by
  refine ⟨?_, ?_, rfl⟩
  · cases lo with
    | none => simp [sliceBounds, HT.sIx]
    | some i =>
      simp only [sliceBounds, HT.sIx, Option.getD_none, show (1 : Int) > 0 by decide, if_true]
      by_cases h : i < 0
      · simp only [h, if_true] <;> omega
      · simp only [h, if_false] <;> omega
  · cases hi with
    | none => simp [sliceBounds, HT.sIx]
    | some i =>
      simp only [sliceBounds, HT.sIx, Option.getD_none, show (1 : Int) > 0 by decide, if_true]
      by_cases h : i < 0
      · simp only [h, if_true] <;> omega
      · simp only [h, if_false] <;> omega
theorem slicePick_cut (its : List Value) (lo hi : Option Int) : slicePick its.toArray lo hi none = ((its.drop (HT.sIx its.length 0 lo)).take (HT.sIx its.length its.length hi - HT.sIx its.length 0 lo)).toArray := by
  obtain ⟨h1, h2, h3⟩ := slice_bounds lo hi its.toArray.size
  unfold slicePick
  rw [h1, h2, h3]
  simp only [sliceRange_one, pick_run, List.size_toArray] <;> rfl
def rSlL (K : PySem.W.Frag) : V → Option Int → Option Int → Hp → VK → Prop := fun x lo hi H Q => ∃ a xs, x = .ref a ∧ SqL K H a xs ∧ ∀ p, H p = none → Q (.ref p) (upd H p (.lst (cutV xs lo hi)))
theorem sl_list : SlR X (rSlL X.K) := by
  intro pins s σ H x v vl vu lo hi sl Q I rx hs pl pu h
  obtain ⟨a, xs, rfl, hx, q⟩ := h
  cases rx
  obtain ⟨its, r, ht, hz⟩ := I.list hx
  have hlen := r.length
  refine ⟨"list", _, slot_list_getitem.lookup, ht.isList.typeIs, ?_⟩
  refine wpAny_getItem_list_slice ht.isList hs pl pu .none (by simp) ?_ (by rw [List.size_toArray] <;> omega)
  rw [slicePick_cut, ← hlen]
  refine ⟨.ref s.heap.objs.size, _, I.laid (t' := s.toks) (o := .lst (cutV xs lo hi)) (fun b ob q => Heap.get?_push_of_some _ q) (Nat.le_refl _) ?_, rfl, q _ (I.hok.fresh (Nat.le_refl _))⟩
  exact ⟨Nat.le_trans (cutV_length xs lo hi) hz, _, 0, (r.drop (HT.sIx xs.length 0 lo)).take (HT.sIx xs.length xs.length hi - HT.sIx xs.length 0 lo), Heap.get?_push_size _ rfl⟩

def flatV : V → Bool
  | .non => true
  | .bl _ => true
  | .int _ => true
  | .str _ => true
  | _ => false
def eqV : V → V → Bool
  | .non, .non => true
  | .bl a, .bl b => a == b
  | .bl a, .int b => (if a then 1 else 0) == b
  | .int a, .bl b => a == (if b then 1 else 0)
  | .int a, .int b => a == b
  | .str a, .str b => a == b
  | _, _ => false
theorem eqAt_V {A : Around} {s : Shared} {y x : V} {u v : Value} (ry : RelV y u) (rx : RelV x v) (fy : flatV y = true) (fx : flatV x = true) : SeqAt.EqAt A s u v (eqV y x) := by
  cases y with
  | non =>
    cases ry
    cases x with
    | non => cases rx; exact SeqAt.EqAt.same _
    | bl b => cases rx; exact SeqAt.EqAt.none_bool b
    | int b => obtain ⟨t, rfl⟩ := rx; exact SeqAt.EqAt.none_int b t
    | str b => obtain ⟨t, rfl⟩ := rx; exact SeqAt.EqAt.none_str b t
    | _ => exact absurd (show false = true from fx) Bool.false_ne_true
  | bl a =>
    cases ry
    cases x with
    | non => cases rx; exact SeqAt.EqAt.bool_none a
    | bl b => cases rx; exact SeqAt.EqAt.bool_bool a b
    | int b => obtain ⟨t, rfl⟩ := rx; exact SeqAt.EqAt.bool_int a b t
    | str b => obtain ⟨t, rfl⟩ := rx; exact SeqAt.EqAt.bool_str a b t
    | _ => exact absurd (show false = true from fx) Bool.false_ne_true
  | int a =>
    obtain ⟨t', rfl⟩ := ry
    cases x with
    | non => cases rx; exact SeqAt.EqAt.int_none a t'
    | bl b => cases rx; exact SeqAt.EqAt.int_bool a t' b
    | int b => obtain ⟨t, rfl⟩ := rx; exact SeqAt.EqAt.int_int a t' b t
    | str b => obtain ⟨t, rfl⟩ := rx; exact SeqAt.EqAt.int_str a t' b t
    | _ => exact absurd (show false = true from fx) Bool.false_ne_true
  | str a =>
    obtain ⟨t', rfl⟩ := ry
    cases x with
    | non => cases rx; exact SeqAt.EqAt.str_none a t'
    | bl b => cases rx; exact SeqAt.EqAt.str_bool a t' b
    | int b => obtain ⟨t, rfl⟩ := rx; exact SeqAt.EqAt.str_int a t' b t
    | str b => obtain ⟨t, rfl⟩ := rx; exact SeqAt.EqAt.str_str a t' b t
    | _ => exact absurd (show false = true from fx) Bool.false_ne_true
  | _ => exact absurd (show false = true from fy) Bool.false_ne_true
def eqU (x : V) (u : Value) : Bool := match u with
  | .none => eqV .non x
  | .bool b => eqV (.bl b) x
  | .int i _ => eqV (.int i) x
  | .str z _ => eqV (.str z) x
  | _ => false
theorem eqU_of {x y : V} {u : Value} (r : RelV y u) (f : flatV y = true) : eqU x u = eqV y x := by
  cases y with
  | non => cases r; rfl
  | bl b => cases r; rfl
  | int i => obtain ⟨t, rfl⟩ := r; rfl
  | str z => obtain ⟨t, rfl⟩ := r; rfl
  | _ => exact absurd (show false = true from f) Bool.false_ne_true
theorem any_eqU {x : V} : ∀ {xs : List V} {us : List Value}, Vals xs us → xs.all flatV = true → us.any (eqU x) = xs.any fun y => eqV y x
  | _, _, .nil, _ => rfl
  | y :: xs, u :: us, .cons r t, f => by
    rw [List.all_cons, Bool.and_eq_true] at f
    rw [List.any_cons, List.any_cons, eqU_of r f.1, any_eqU t f.2]
theorem mem_eqAt {A : Around} {s : Shared} {x : V} {v : Value} (rx : RelV x v) (fx : flatV x = true) : ∀ {xs : List V} {us : List Value}, Vals xs us → xs.all flatV = true → ∀ u ∈ us, SeqAt.EqAt A s u v (eqU x u)
  | _, _, .nil, _ => fun u hu => by cases hu
  | y :: xs, u :: us, .cons r t, f => fun u' hu => by
    rw [List.all_cons, Bool.and_eq_true] at f
    rcases List.mem_cons.mp hu with rfl | hu
    · rw [eqU_of r f.1]; exact eqAt_V r rx f.1 fx
    · exact mem_eqAt rx fx t f.2 u' hu
def inV (x : V) (xs : List V) : Bool := xs.any fun y => eqV y x
def rIn (K : PySem.W.Frag) (neg : Bool) : R2 := fun x y H Q => ∃ p xs, y = .ref p ∧ (SqL K H p xs ∨ SqT K H p xs) ∧ flatV x = true ∧ xs.all flatV = true ∧ Q (.bl (if neg then !inV x xs else inV x xs)) H
theorem op_in_seq : OpR X (compareOp .In) (rIn X.K false) := by
  intro pins s σ H x y v u Q I rx ry h
  obtain ⟨p, xs, rfl, hq, fx, fs, q⟩ := h
  cases ry
  rcases hq with hq | hq
  · obtain ⟨its, r, pl, hz⟩ := I.list hq
    refine SeqAt.in_listAt (eqU x) pl.isList (fun w hw => mem_eqAt rx fx r fs w (by simpa using hw)) ⟨.bl _, H, I, rfl, ?_⟩
    rw [show its.toArray.any (eqU x) = its.any (eqU x) by simp, any_eqU r fs]
    exact q
  · obtain ⟨its, r, pl, hz⟩ := I.tuple hq
    refine SeqAt.in_tupleAt (eqU x) pl (fun w hw => mem_eqAt rx fx r fs w (by simpa using hw)) ⟨.bl _, H, I, rfl, ?_⟩
    rw [show its.toArray.any (eqU x) = its.any (eqU x) by simp, any_eqU r fs]
    exact q
theorem call_list_of : CallR X (.type "list") (fun xs H Q => ∃ p ys, xs = [.ref p] ∧ (SqL X.K H p ys ∨ SqT X.K H p ys) ∧ ∀ l, H l = none → Q (.ref l) (upd H l (.lst ys))) := by
  intro pins s σ H xs us Q I r h
  obtain ⟨p, ys, rfl, hq, q⟩ := h
  obtain ⟨u, rfl, rx⟩ := vals1 r
  cases rx
  have fin : ∀ (its : List Value), Vals ys its → ys.length ≤ sizeLine → ∀ (h' : Heap) (c' : Nat), (∀ b o', s.heap.get? b = some o' → h'.get? b = some o') →
      h'.get? s.heap.objs.size = some { cls := .type "list", dict := none, data := .seq its.toArray c', slots := #[] } → EP X pins σ Q (.ref s.heap.objs.size) { s with heap := h' } := fun its r' hz h' c' kp e =>
    ⟨.ref s.heap.objs.size, _, I.laid (t' := s.toks) kp (Nat.le_refl _) (show ObjOk X.prog X.w _ h' _ (.lst ys) from ⟨hz, its, c', r', e⟩), rfl, q _ (I.hok.fresh (Nat.le_refl _))⟩
  rcases hq with hq | hq
  · obtain ⟨its, r', pl, hz⟩ := I.list hq
    have hlen := r'.length
    obtain ⟨o, ho, hc, n, hd⟩ := pl.isList
    exact call_list_seq p (.inl rfl) ho hc hd (fun h' c' kp e => fin its r' hz h' c' kp e) (by simp only [List.size_toArray] <;> omega)
  · obtain ⟨its, r', pl, hz⟩ := I.tuple hq
    have hlen := r'.length
    obtain ⟨o, ho, hc, n, hd⟩ := pl
    exact call_list_seq p (.inr rfl) ho hc hd (fun h' c' kp e => fin its r' hz h' c' kp e) (by simp only [List.size_toArray] <;> omega)
def tyV (K : PySem.W.Frag) (T : String) (x : V) (H : Hp) : Prop := match x with
  | .str _ => T = "str"
  | .int _ => T = "int"
  | .ref p => (T = "list" ∧ ∃ xs, SqL K H p xs) ∨ (T = "tuple" ∧ ∃ o, K.lookup p = some o ∧ o.cls = .type "tuple" ∧ o.dict = none) ∨
      (T = "dict" ∧ ((∃ kvs, H p = some (.dK kvs)) ∨ ∃ kvs, H p = some (.dT kvs))) ∨ (T = "set" ∧ ∃ S n, H p = some (.set S n))
  | _ => False
theorem tyV_is {pins : List (Addr × Obj)} {σ : St} {H : Hp} {s : Shared} {T : String} {x : V} {v : Value} (I : Inv X pins σ H s) (r : RelV x v) (ty : tyV X.K T x H) :
    s.TypeIs v T ∧ ∀ a, v = .ref a → ∃ ob, s.heap.get? a = some ob ∧ ob.dict = none := by
  cases x with
  | str z =>
    obtain ⟨t, rfl⟩ := r
    cases (show T = "str" from ty)
    exact ⟨typeIs_str s z t, fun _ e => nomatch e⟩
  | int i =>
    obtain ⟨t, rfl⟩ := r
    cases (show T = "int" from ty)
    exact ⟨typeIs_int s i t, fun _ e => nomatch e⟩
  | ref p =>
    cases r
    rcases ty with ⟨rfl, xs, hq⟩ | ⟨rfl, o, hk, hc, hd⟩ | ⟨rfl, hk⟩ | ⟨rfl, S, n, hk⟩
    · obtain ⟨its, _, pl, _⟩ := I.list hq
      refine ⟨pl.isList.typeIs, fun a e => ?_⟩
      cases e
      obtain ⟨o, n, e, c, hd, _⟩ := pl
      exact ⟨o, e, hd⟩
    · refine ⟨⟨o, I.kIn p o hk, hc⟩, fun a e => ?_⟩
      cases e
      exact ⟨o, I.kIn _ o hk, hd⟩
    · have z : ∃ o, s.heap.get? p = some o ∧ o.ExactDict := by
        rcases hk with ⟨kvs, hk⟩ | ⟨kvs, hk⟩
        · obtain ⟨_, _, _, _, o, _, _, e, ex, _⟩ := I.hok p _ hk
          exact ⟨o, e, ex⟩
        · obtain ⟨_, _, _, _, o, _, _, e, ex, _⟩ := I.hok p _ hk
          exact ⟨o, e, ex⟩
      obtain ⟨o, e, ex⟩ := z
      refine ⟨⟨o, e, ex.1⟩, fun a e2 => ?_⟩
      cases e2
      exact ⟨o, e, ex.2.1⟩
    · obtain ⟨o, _, _, _, e, ex, _⟩ := I.hok p _ hk
      refine ⟨⟨o, e, ex.1⟩, fun a e2 => ?_⟩
      cases e2
      exact ⟨o, e, ex.2.1⟩
  | _ => exact False.elim ty
def tBM0 (K : PySem.W.Frag) (T : String) (r : V → List V → Hp → VK → Prop) (to : TE) : TE := fun σ H Q => to σ H fun x H1 => tyV K T x H1 ∧ r x [] H1 Q
def tBM (K : PySem.W.Frag) (T : String) (r : V → List V → Hp → VK → Prop) (to : TE) (t : TA) : TE := fun σ H Q => to σ H fun x H1 => tyV K T x H1 ∧ t σ H1 fun xs H2 => r x xs H2 Q
variable {o e : Expr} {es : List Expr} {to : TE} {t : TA} {name : Str} {apos cpos : Pos} {T id : String} {r : V → List V → Hp → VK → Prop}
theorem pe_bm0 (pa : PlainAttrs T) (slot : Slot T name id) (hty : typeOf (.builtin id) = pure (.type "method_descriptor")) (hm : MtR X id r) (ho : PE X o to)
    (hbase : attributeBase o name X.env (eval o X.env) = eval o X.env := by rfl) (hline : (apos.endLine == cpos.line) = true := by rfl) : PE X (.Call (.Attribute o name apos) [] [] cpos) (tBM0 X.K T r to) := by
  intro pins s σ H Q I h
  refine wpAny_Call_method0_late hbase hline (thn (ho pins s σ H _ I h) fun v s1 ⟨x, H1, I1, r1, ty, q1⟩ => ?_)
  obtain ⟨h1, h2⟩ := tyV_is I1 r1 ty
  exact ⟨T, id, pa, slot, hty, h1, h2, Calls.callWith_builtin rfl (PySem.evalArgs_none (hm pins s1 σ H1 x [] v [] Q I1 r1 .nil q1))⟩
theorem pe_bm (pa : PlainAttrs T) (slot : Slot T name id) (hty : typeOf (.builtin id) = pure (.type "method_descriptor")) (hm : MtR X id r) (ho : PE X o to) (ha : PA X (e :: es) t)
    (hbase : attributeBase o name X.env (eval o X.env) = eval o X.env := by rfl)
    (hfew : ((backTo cpos (starEach (e :: es) X.env)).all (fun x => !x.1) && (backToKw cpos (keywordEach [] X.env)).all (fun x => x.1.isSome)
      && decide ((e :: es).length + ([] : List Keyword).length + (if ([] : List Keyword).isEmpty then 0 else 1) < 30)) = true := by rfl)
    (hline : (apos.endLine == cpos.line) = true := by rfl) (hs : starEach (e :: es) X.env = (false, eval e X.env) :: starEach es X.env := by rfl) (hplain : (backTo cpos (starEach es X.env)).any (·.1) = false := by rfl) :
    PE X (.Call (.Attribute o name apos) (e :: es) [] cpos) (tBM X.K T r to t) := by
  intro pins s σ H Q I h
  refine wpAny_Call_method_late hbase hfew hline rfl (thn (ho pins s σ H _ I h) fun v s1 ⟨x, H1, I1, r1, ty, q1⟩ => ?_)
  obtain ⟨h1, h2⟩ := tyV_is I1 r1 ty
  refine ⟨T, id, pa, slot, hty, h1, h2, ?_⟩
  have hA := ha cpos pins s1 σ H1 _ I1 q1
  rw [hs] at hA ⊢
  refine Calls.callWith_builtin (by show (false || (backTo cpos (starEach es X.env)).any (·.1)) = false; rw [hplain] <;> rfl) (Calls.evalArgs_plain ?_)
  exact thn hA fun us s2 ⟨vs, H2, I2, r2, q2⟩ => hm pins s2 σ H2 x vs v us Q I2 r1 r2 q2
/- xs.append(e), list.index on a module's tuple .. are MtR facts of 06m -/
end
end L2

namespace L2
open PySem PySem.Spec PyProof.Rows

def MtM (X : Cx) (id : String) (r : V → List V → Hp → VK → Prop) : Prop :=
  ∀ (pins : List (Addr × Obj)) (s : Shared) (σ : St) (H : Hp) (x : V) (xs : List V) (v : Value) (us : List Value) (Q : VK), Inv X pins σ H s → RelV x v → Vals xs us → r x xs H Q →
    wpAny (model X.prog X.w) X.A (call (.builtin id) (v :: us)) (EP X pins σ Q) X.xe s

theorem Vals.one : ∀ {x : V} {us : List Value}, Vals [x] us → ∃ u, us = [u] ∧ RelV x u
  | _, _, .cons r .nil => ⟨_, rfl, r⟩
theorem Vals.zero : ∀ {us : List Value}, Vals [] us → us = []
  | _, .nil => rfl
theorem Vals.eraseIdx : ∀ {xs : List V} {us : List Value} (i : Nat), Vals xs us → Vals (xs.eraseIdx i) (us.eraseIdx i)
  | _, _, _, .nil => .nil
  | _, _, 0, .cons _ t => t
  | _, _, i + 1, .cons r t => .cons r (Vals.eraseIdx i t)
theorem len_erase {α : Type} : ∀ (l : List α) (i : Nat), (l.eraseIdx i).length ≤ l.length
  | [], _ => Nat.le_refl _
  | _ :: _, 0 => Nat.le_succ _
  | _ :: r, i + 1 => Nat.succ_le_succ (len_erase r i)
section
variable {X : Cx} {pins : List (Addr × Obj)} {σ : St} {H : Hp} {s : Shared} {l b : Addr} {xs ys zs : List V}

theorem Inv.lset {its its' : List Value} {n : Nat} {f : Array Value → Array Value} {t' : Nat} (I : Inv X pins σ H s) (hH : H l = some (.lst xs))
    (e : s.heap.get? l = some { cls := .type "list", data := .seq its.toArray n }) (hf : f its.toArray = its'.toArray) (hv : Vals ys its') (hz : ys.length ≤ sizeLine) :
    Inv X pins σ (upd H l (.lst ys)) { s with heap := s.heap.update l (Obj.mapSeq f), toks := t' } := by
  have q := PySem.IsL.update e f
  rw [hf] at q
  refine I.write (x := l) (e := l) (by rw [hH]; exact trivial) (.inl rfl) (fun b' u hb hu => (Heap.get?_update_other s.heap (Obj.mapSeq f) (Ne.symm hb)).trans hu) ⟨_, q⟩ ?_
  exact ⟨hz, its', _, hv, q⟩
theorem Inv.lnew {its : List Value} {t' : Nat} (I : Inv X pins σ H s) (hv : Vals ys its) (hz : ys.length ≤ sizeLine) :
    Inv X pins σ (upd H s.heap.objs.size (.lst ys)) { s with heap := s.heap.push { cls := .type "list", data := .seq its.toArray }, toks := t' } :=
  I.laid (fun _ _ q => Heap.get?_push_of_some _ q) (Nat.le_refl _) ⟨hz, its, 0, hv, Heap.get?_push_size _ rfl⟩
theorem Inv.fresh (I : Inv X pins σ H s) : H s.heap.objs.size = none := I.hok.fresh (Nat.le_refl _)
theorem Inv.lstM (I : Inv X pins σ H s) (hH : H l = some (.lst xs)) : xs.length ≤ sizeLine ∧ ∃ (its : List Value) (n : Nat), Vals xs its ∧ xs.length = its.length ∧ s.heap.get? l = some { cls := .type "list", data := .seq its.toArray n } := by
  obtain ⟨z, its, n, r, e⟩ := I.hok l _ hH
  exact ⟨z, its, n, r, r.length, e⟩

end

section
variable {X : Cx}

def rAppend : V → List V → Hp → VK → Prop := fun x vs H Q => ∃ l xs y, x = .ref l ∧ vs = [y] ∧ H l = some (.lst xs) ∧ xs.length < sizeLine ∧ Q .non (upd H l (.lst (xs ++ [y])))
theorem mt_append : MtM X "list.append" rAppend := by
  intro pins s σ H x vs v us Q I rx rv h
  obtain ⟨l, xs, y, rfl, rfl, hH, hz, q⟩ := h
  cases rx
  obtain ⟨u, rfl, ru⟩ := rv.one
  obtain ⟨z, its, n, r, hl, e⟩ := I.lstM hH
  refine call_meets F.slot_list_append ⟨_, e, rfl⟩ F.entry_list_append (F.args_list_append_2 _ _) (PySem.list_append l its.toArray n u (by rw [List.size_toArray]; omega)) ⟨e, ?_⟩
  refine ⟨.non, _, I.lset (its' := its ++ [u]) hH e (by simp) (r.append (.cons ru .nil)) ?_, rfl, q⟩
  rw [List.length_append, List.length_singleton]
  omega

def rPopAt : V → List V → Hp → VK → Prop := fun x vs H Q => ∃ l xs i k y, x = .ref l ∧ vs = [.int i] ∧ H l = some (.lst xs) ∧ -(2 ^ 63) ≤ i ∧ i < 2 ^ 63 ∧ seqIndex? i xs.length = some k ∧ xs[k]? = some y ∧ Q y (upd H l (.lst (xs.eraseIdx k)))
theorem mt_popAt : MtM X "list.pop" rPopAt := by
  intro pins s σ H x vs v us Q I rx rv h
  obtain ⟨l, xs, i, k, y, rfl, rfl, hH, h1, h2, hk, hy, q⟩ := h
  cases rx
  obtain ⟨u, rfl, ru⟩ := rv.one
  obtain ⟨t, rfl⟩ := ru
  obtain ⟨z, its, n, r, hl, e⟩ := I.lstM hH
  obtain ⟨w, hw, rw'⟩ := r.get hy
  refine call_meets F.slot_list_pop ⟨_, e, rfl⟩ F.entry_list_pop (F.args_list_pop_2 _ _)
    (MeetsSeq.list_pop_at l its.toArray n i t k w (fitsIndex_both h1 h2) (by rw [List.size_toArray, ← hl]; exact hk) (by rw [← Array.getElem?_toList]; exact hw) (by rw [List.size_toArray]; omega)) ⟨e, ?_⟩
  refine ⟨y, _, I.lset (its' := its.eraseIdx k) hH e ?_ (r.eraseIdx k) ?_, rw', q⟩
  · show its.toArray.eraseIdxIfInBounds k = (its.eraseIdx k).toArray
    rw [List.eraseIdxIfInBounds_toArray]
  · have := len_erase xs k
    omega

def rClear : V → List V → Hp → VK → Prop := fun x vs H Q => ∃ l xs, x = .ref l ∧ vs = [] ∧ H l = some (.lst xs) ∧ Q .non (upd H l (.lst []))
theorem mt_clear : MtM X "list.clear" rClear := by
  intro pins s σ H x vs v us Q I rx rv h
  obtain ⟨l, xs, rfl, rfl, hH, q⟩ := h
  cases rx
  have hus := rv.zero
  subst hus
  obtain ⟨z, its, n, r, hl, e⟩ := I.lstM hH
  refine call_meets F.slot_list_clear ⟨_, e, rfl⟩ F.entry_list_clear (F.args_list_clear_1 _) (AutoSeq1.list_clear_list_0 l its.toArray n (by rw [List.size_toArray]; omega)) ⟨e, ?_⟩
  exact ⟨.non, _, I.lset (its' := []) (ys := []) hH e rfl .nil (Nat.zero_le _), rfl, q⟩

def rCat : R2 := fun x y H Q => ∃ l b xs zs, x = .ref l ∧ y = .ref b ∧ H l = some (.lst xs) ∧ H b = some (.lst zs) ∧ xs.length + zs.length ≤ sizeLine ∧ ∀ p, H p = none → Q (.ref p) (upd H p (.lst (xs ++ zs)))
theorem op_cat : OpR X (binaryOp .Add) rCat := by
  intro pins s σ H x y v u Q I rx ry h
  obtain ⟨l, b, xs, zs, rfl, rfl, hH, hB, hz, q⟩ := h
  cases rx
  cases ry
  obtain ⟨z, its, n, r, hl, e⟩ := I.lstM hH
  obtain ⟨z2, its2, n2, r2, hl2, e2⟩ := I.lstM hB
  refine PySem.P.add_list e e2 ?_ (by rw [List.size_toArray, List.size_toArray]; omega)
  have ea : its.toArray ++ its2.toArray = (its ++ its2).toArray := by simp
  rw [ea]
  exact ⟨.ref _, _, I.lnew (t' := s.toks) (r.append r2) (by rw [List.length_append]; omega), rfl, q _ I.fresh⟩
end

section
variable {prog : Program} {w : World} {A : Around} {E : Value → Shared → Prop} {s : Shared}
end

section
variable {X : Cx}
end
end L2

namespace Att
open PySem PySem.W PySem.Calls PyProof.Rows

theorem ints_of_wellAll {P : Params} {h : Heap} : ∀ (ns : List Int) (vs : List Value), WellAll P h vs (ns.map WData.int) → IntsAre vs ns := by
  intro ns
  induction ns with
  | nil =>
    intro vs w
    rw [List.map_nil] at w
    cases w
    exact .nil
  | cons n ns ih =>
    intro vs w
    rw [List.map_cons] at w
    cases w with
    | cons a b =>
      cases a
      exact .cons _ _ (ih _ b)

theorem script_of {l : OpenLaw} {n : Nat} (hn : l.most = some n) {P : Params} {h : Heap} {args : List WData} {vals : List Value}
    (hpre : l.row.toRowW.claim.pre args = true) (hwl : WellAll P h vals args) :
    ∃ a vs ns, vals = [Value.ref a] ∧ args = [WData.list (ns.map WData.int)] ∧ h.get? a = some { cls := .type "list", data := .seq vs.toArray } ∧ IntsAre vs ns ∧ ns.length ≤ n := by
  have hsh : WShape.hasAll [] args [.list .int] = true := (pre_splitW hpre).1
  have hc : l.pre.holds [] { args := args } = true := (pre_splitW hpre).2
  obtain ⟨d, r, rfl, h1, h2⟩ := hasAllW_cons hsh
  obtain rfl := hasAllW_nil h2
  obtain ⟨xs, rfl, h3⟩ := hasW_list h1
  obtain ⟨ns, rfl⟩ := items_int h3
  have hlen : ns.length ≤ n := by
    unfold OpenLaw.pre at hc
    have h4 : (WTm.not (.lt (.lit (.int (n : Int))) (.len (.arg 0)))).holds [] { args := [.list (ns.map .int)] } = true := by
      have h4 := (holds_andW hc).1
      rw [hn] at h4
      exact h4
    have h5 := condW_of h4 (w_not (w_lt w_lit (w_len_list (w_arg rfl))))
    rw [List.length_map] at h5
    refine Nat.le_of_not_lt fun q => ?_
    have q' : (n : Int) < ((ns.length : Nat) : Int) := by omega
    first
      | (rw [decide_eq_true q'] at h5; exact absurd h5 (by decide))
      | (simp at h5; omega)
  cases hwl with
  | cons w1 w2 =>
    cases w2
    cases w1 with
    | list ho hall => exact ⟨_, _, ns, rfl, rfl, ho, ints_of_wellAll ns _ hall, hlen⟩

theorem post_true (l : OpenLaw) (args : List WData) : l.row.toRowW.claim.post args (.bool true) args = true :=
  postW_of (r := l.row.toRowW) (X := (true == true))
    (show WShape.has [] (.bool true) .bool = true by first | rfl | decide | simp [WShape.has, WShape.arms, WShape.armsAll])
    (show (WTm.eq .res (.lit (.bool true))).value [] { args := args, res := some (.bool true), after := args } = some (.bool (true == true)) from w_eq_bool (w_res rfl) w_lit) rfl

theorem attach_call {l : OpenLaw} {n : Nat} {q : Program} {loose : List Str} {XP : (Str → Option Value) → Heap → Prop} {YP : World → Heap → Prop} {d : DefRec}
    (hn : l.most = some n) (hdf : d.params.defaults = [])
    (call : ∀ (w : World) (s₀ s₁ : Shared) (mg mb : Str → Option Value) (fa : Addr) (o : Obj) (pm cd doc : Value) (a : Addr) (vs : List Value) (ns : List Int),
      Ground q loose [] XP w s₀ mg mb s₁.heap → YP w s₁.heap →
      s₁.heap.get? fa = some o → o.data = .func (docDef d.name d.params d.body d.scope pm cd doc) → s₁.heap.CodeRec cd d.name → mg d.name = some (.ref fa) →
      s₁.heap.get? a = some { cls := .type "list", data := .seq vs.toArray } → IntsAre vs ns → ns.length ≤ n → s₁.gens = #[] →
      codeAny (model l.prog w) callerA (.call (.ref fa) ⟨[.ref a], []⟩) (fun r s' => r = .ok (.ret (.bool true)) ∧ OldK s₁.heap s'.heap ∧ s'.os = s₁.os ∧ AllBare s'.gens) s₁) :
    WalkO q loose XP YP l.row.toRowW d [] (fun f vs => PySem.call f vs) := by
  intro w s₀ s₁ mg mb G Y fa o pm cd doc dV kV ho hd hcd hD hmg hg args vals as hpre hlay hrd hwl hlo
  obtain rfl : dV = .none := Dflts.none hD hdf
  obtain rfl : kV = .none := Dflts.noKw hD
  obtain ⟨a, vs, ns, rfl, rfl, hobj, hints, hlen⟩ := script_of hn hpre hwl
  refine enter_call (codeAny_mono (call w s₀ s₁ mg mb fa o pm cd doc a vs ns G Y ho (fd_plain hd) hcd hmg hobj hints hlen hg) fun r s' hq => ?_)
  obtain ⟨rfl, h2, h3, h4⟩ := hq
  exact ⟨.inl ⟨.bool true, .bool true, [], rfl, fun _ => rfl, .bool true, post_true l _, fun _ => ⟨List.Pairwise.nil, fun _ hm => (nomatch hm)⟩⟩, h2, h3, h4⟩

section
variable {prog : Program} {w : World} {A : Around} {E : Value → Shared → Prop} {s : Shared} {K : Frag}

end
end Att

namespace L2
open PySem PySem.Spec PyProof.Rows

theorem vals_ints : ∀ {vs : List Value} {ns : List Int}, IntsAre vs ns → Vals (ns.map V.int) vs
  | _, _, .nil => .nil
  | _, _, .cons n t h => .cons ⟨t, rfl⟩ (vals_ints h)

def Only (H : Hp) : Prop := ∀ b, H b = none ∨ ∃ o xs, H b = some (.frz o (.lst xs))

theorem law_call {P : Program} {w : World} {K : PySem.W.Frag} {mg mb : Str → Option Value} {CX : CXT} {k : Nat} {fa a : Addr} {fd : FuncData} {x : Str} {sp : Sp} {s₁ : Shared} {vs : List Value} {ns : List Int}
    (KX : K.In s₁.heap) (hns : s₁.heap.Ns mainGlobals mg) (hb : s₁.heap.Ns builtinsNs mb) (hbb : ∀ x : Str, x ≠ "__name__" → mb x = bootBuiltins x) (hlim : s₁.heap.NoLimit) (hg : s₁.gens = #[])
    (ha : s₁.heap.get? a = some { cls := .type "list", data := .seq vs.toArray }) (hi : IntsAre vs ns) (hl : ns.length ≤ sizeLine) (hr : Room k callerA)
    (F : ∀ base : Heap, K.In base → base.Ns mainGlobals mg → FnOk P w K mg base CX k fa fd [x] sp) (hbind : ∀ (s : Shared) (u : Value), BindsTo s fd ⟨[u], []⟩ [(x, u)])
    (hsp : ∀ H : Hp, Only H → SqL K H a (ns.map V.int) → sp [.ref a] H (fun v _ => v = .bl true) fun _ _ _ => False)
    (hCX : ∀ H e s', CX [] H s₁ (fun _ _ _ => False) e s' → False) :
    codeAny (model P w) callerA (.call (.ref fa) ⟨[.ref a], []⟩) (fun r s' => r = .ok (.ret (.bool true)) ∧ OldK s₁.heap s'.heap ∧ s'.os = s₁.os ∧ AllBare s'.gens) s₁ := by
  have rv := vals_ints hi
  have lenV := hi.length
  -- from an abstract heap in which nothing but the script may be tracked
  have core : ∀ H : Hp, Only H → SqL K H a (ns.map V.int) → HOk P w H s₁.heap → (∀ b, H b ≠ none → b = a) → (H a ≠ none → K.lookup a = none) →
      codeAny (model P w) callerA (.call (.ref fa) ⟨[.ref a], []⟩) (fun r s' => r = .ok (.ret (.bool true)) ∧ OldK s₁.heap s'.heap ∧ s'.os = s₁.os ∧ AllBare s'.gens) s₁ := by
    intro H hO hS hok hA hK
    have base_of : ∀ {b : Addr} {o : Obj}, s₁.heap.get? b = some o → H b = none → (hidT s₁.heap H).get? b = some o := fun e n => hidT_get e n
    have noA : ∀ {b : Addr} {o : Obj} {es : Array DictEntry} {ep : Nat}, s₁.heap.get? b = some o → o.data = .dict es ep → H b = none := fun {b o es ep} e d => by
      cases q : H b with
      | none => rfl
      | some u =>
        have e' : b = a := hA b (by rw [q]; simp)
        subst e'
        rw [ha] at e; cases e
        have d' : Data.seq vs.toArray _ = Data.dict es ep := d
        cases d'
    have nsK : ∀ {b : Addr} {m : Str → Option Value}, s₁.heap.Ns b m → (hidT s₁.heap H).Ns b m := fun {b m} ⟨o, es, ep, e, d, r⟩ => ⟨o, es, ep, base_of e (noA e d), d, r⟩
    have hKb : K.In (hidT s₁.heap H) := fun b o e => base_of (KX b o e) (by
      cases q : H b with
      | none => rfl
      | some u =>
        have e' : b = a := hA b (by rw [q]; simp)
        subst e'
        rw [hK (by rw [q]; simp)] at e; cases e)
    have hM : Mod K mg (hidT s₁.heap H) := ⟨hKb, nsK hns, ⟨mb, nsK hb, hbb⟩, let ⟨mc, h1, h2⟩ := hlim; ⟨mc, nsK h1, h2⟩⟩
    have e0 : Env0 P w K mg (hidT s₁.heap H) callerA [] s₁ H := ⟨rfl, hM, fun b o e => of_hidT e, Nat.le_of_eq (hidT_size _ _), trivial, fun b hb => absurd (show b ∈ ([] : List Addr) from hb) (by simp), hok, .of_eq hg⟩
    refine codeAny_mono ((F _ hKb (nsK hns)).run callerA [] s₁ H ⟨[.ref a], []⟩ [.ref a] [.ref a] _ _ hr e0 (hbind s₁ (.ref a)) (.cons rfl .nil) (hsp H hO hS)) fun r s' h => ?_
    cases r with
    | error e => exact (hCX H e s' h).elim
    | ok fl =>
      cases fl with
      | next => exact False.elim h
      | brk => exact False.elim h
      | cont => exact False.elim h
      | ret u =>
        obtain ⟨v, H', os, bare, un, hok', r', q⟩ := h
        have q' : v = .bl true := q
        subst q'
        obtain rfl : u = Value.bool true := r'
        refine ⟨rfl, OldK.of_keep fun b o e => ?_, os, bare⟩
        cases q : H b with
        | none => exact un.keep b o e q (by intro z; exact absurd (show b ∈ ([] : List Addr) from z) (by simp)) (by simp)
        | some u =>
          rcases hO b with z | ⟨ob, xs, z⟩
          · rw [q] at z; cases z
          · have z2 := un.frzs b ob _ z
            obtain ⟨e1, _⟩ := hok b _ z
            obtain ⟨e2, _⟩ := hok' b _ z2
            rw [e] at e1; cases e1
            exact e2
  cases hk : K.lookup a with
  | some o =>
    -- the script is one of the module's own objects
    have e := KX a o hk
    rw [ha] at e
    cases e
    refine core (fun _ => none) (fun _ => .inl rfl) (.inr ⟨_, vs.toArray, _, hk, rfl, rfl, rfl, by rw [List.size_toArray, lenV]; exact hl, by simpa using rv⟩) (fun b u z => by have z' : (none : Option HO) = some u := z; cases z') (fun b z => absurd rfl z) fun z => absurd rfl z
  | none =>
    refine core (fun b => if b = a then some (.frz { cls := .type "list", data := .seq vs.toArray } (.lst (ns.map V.int))) else none) (fun b => ?_) (.inl (.inr ⟨{ cls := .type "list", data := .seq vs.toArray }, if_pos rfl⟩)) (fun b u z => ?_) (fun b z => ?_) fun _ => hk
    · by_cases hb : b = a
      · exact .inr ⟨_, _, if_pos hb⟩
      · exact .inl (if_neg hb)
    · by_cases hb : b = a
      · have z' := (if_pos hb).symm.trans z
        cases z'
        subst hb
        exact ⟨ha, by rw [List.length_map]; exact hl, vs, _, rv, ha⟩
      · have z' := (if_neg hb).symm.trans z
        cases z'
    · by_cases hb : b = a
      · exact hb
      · exact absurd (if_neg hb) z
end L2

namespace L2
open PySem PySem.Spec PyProof.Rows

theorem walk_of {l : PySem.W.OpenLaw} {n k : Nat} {q : Program} {loose : List Str} {XP : (Str → Option Value) → Heap → Prop} {YP : World → Heap → Prop} {d : DefRec} {K : Params → PySem.W.Frag} {CX : World → CXT} {sp : World → Sp} {x : Str}
    (hn : l.most = some n) (hn2 : n ≤ sizeLine) (hdf : d.params.defaults = []) (hr : Room k callerA)
    (hY : ∀ (w : World) (h : Heap), YP w h → (K w.params).In h)
    (F : ∀ (w : World) (mg : Str → Option Value) (fa : Addr) (h : Heap), (K w.params).In h → h.Ns mainGlobals mg → mg d.name = some (.ref fa) →
      ∃ fd : FuncData, (∀ (s : Shared) (u : Value), BindsTo s fd ⟨[u], []⟩ [(x, u)]) ∧
        ∀ base : Heap, (K w.params).In base → base.Ns mainGlobals mg → FnOk l.prog w (K w.params) mg base (CX w) k fa fd [x] (sp w))
    (hsp : ∀ (w : World) (H : Hp) (a : Addr) (ns : List Int), ns.length ≤ n → Only H → SqL (K w.params) H a (ns.map V.int) → sp w [.ref a] H (fun v _ => v = .bl true) fun _ _ _ => False)
    (hCX : ∀ (w : World) (H : Hp) (s : Shared) (e : Value) (s' : Shared), CX w [] H s (fun _ _ _ => False) e s' → False) :
    PySem.W.WalkO q loose XP YP l.row.toRowW d [] (fun f vs => PySem.call f vs) := by
  refine Att.attach_call hn hdf fun w s₀ s₁ mg mb fa o pm cd doc a vs ns G Y ho hd hcd hmg hobj hints hlen hg => ?_
  have KX := hY w _ Y
  obtain ⟨fd, hb, hF⟩ := F w mg fa _ KX G.T.g hmg
  exact law_call KX G.T.g G.T.b G.T.builtins G.T.nolimit hg hobj hints (Nat.le_trans hlen hn2) hr hF hb (fun H hO hS => hsp w H a ns hlen hO hS) fun H e s' => hCX w H s₁ e s'
theorem walk_ofK {l : PySem.W.OpenLaw} {n k : Nat} {q : Program} {loose : List Str} {XP : (Str → Option Value) → Heap → Prop} {YP : World → Heap → Prop} {d : DefRec} {K : Params → PySem.W.Frag} {CX : CXT} {sp : PySem.W.Frag → Sp} {x : Str}
    (hn : l.most = some n) (hn2 : n ≤ sizeLine) (hdf : d.params.defaults = []) (hr : Room k callerA)
    (hY : ∀ (w : World) (h : Heap), YP w h → (K w.params).In h)
    (F : ∀ (w : World) (mg : Str → Option Value) (fa : Addr) (h : Heap), (K w.params).In h → h.Ns mainGlobals mg → mg d.name = some (.ref fa) →
      ∃ fd : FuncData, (∀ (s : Shared) (u : Value), BindsTo s fd ⟨[u], []⟩ [(x, u)]) ∧
        ∀ base : Heap, (K w.params).In base → base.Ns mainGlobals mg → FnOk l.prog w (K w.params) mg base CX k fa fd [x] (sp (K w.params)))
    (hsp : ∀ (K : PySem.W.Frag) (H : Hp) (a : Addr) (ns : List Int), ns.length ≤ n → Only H → SqL K H a (ns.map V.int) → sp K [.ref a] H (fun v _ => v = .bl true) fun _ _ _ => False)
    (hCX : ∀ (H : Hp) (s : Shared) (e : Value) (s' : Shared), CX [] H s (fun _ _ _ => False) e s' → False) :
    PySem.W.WalkO q loose XP YP l.row.toRowW d [] (fun f vs => PySem.call f vs) :=
  walk_of (K := K) (CX := fun _ => CX) (sp := fun w => sp (K w.params)) hn hn2 hdf hr hY F (fun w H a ns h1 h2 h3 => hsp (K w.params) H a ns h1 h2 h3) fun _ H s e s' => hCX H s e s'
end L2


namespace L2
open PySem PySem.Spec PyProof.Rows

def inClass (s : Stmt) (j : Nat) : Stmt := match s with
  | .ClassDef _ _ _ body _ _ _ _ _ _ _ => body.getD j (.Pass ⟨0, 0, 0, 0⟩)
  | _ => .Pass ⟨0, 0, 0, 0⟩
def defArgs (s : Stmt) : Arguments := match s with
  | .FunctionDef _ a _ _ _ _ _ _ _ _ => a
  | _ => { posonlyargs := [], args := [], vararg := none, kwonlyargs := [], kw_defaults := [], kwarg := none, defaults := [] }
def defBody (s : Stmt) : List Stmt := match s with
  | .FunctionDef _ _ b _ _ _ _ _ _ _ => b
  | _ => []
def defScope (s : Stmt) : Scope := match s with
  | .FunctionDef _ _ _ _ _ _ sc _ _ _ => sc
  | _ => { kind := .function, names := [], isGenerator := false, isCoroutine := false }

abbrev CX0 : CXT := fun _ _ _ _ _ _ => False
abbrev E0 : XK := fun _ _ _ => False
theorem pass0 {X : Cx} : Passes CX0 X E0 := fun _ _ _ _ _ _ _ h => h.elim

structure Fun (K : PySem.W.Frag) (x qual : Str) (st : Stmt) (f : Addr) (fd : FuncData) : Prop where
  ex : ∃ (oc : Value) (od : Option Addr) (kV doc pm : Value) (an : Option Addr) (cdv ct : Value) (osl : Array (Option Value)),
    fd = PySem.W.fnOf x qual (defArgs st) (defBody st) (defScope st) .none kV doc pm an cdv ct ∧ K.lookup f = some ⟨oc, od, .func fd, osl⟩ ∧ PySem.W.codeIn K cdv qual = true
  kp : PySem.W.keepIn K (.ref f) = true
section
variable {P : Program} {w : World} {K : PySem.W.Frag} {mg : Str → Option Value} {base : Heap}
theorem Fun.ok {x qual : Str} {st : Stmt} {f : Addr} {fd : FuncData} {N ps : List Str} {k : Nat} {sp : Sp} (F : Fun K x qual st f fd) (S : FnScope N ps (defScope st)) (len : ∀ vs H Q E, sp vs H Q E → vs.length = ps.length)
    (hbody : ∀ (cdv : Value) (A : Around) (outer : List Env) (s : Shared) (H : Hp) (vs : List V) (Q : VK) (E : XK), Room k (A.deeper (envOfC qual (defScope st) s.heap.objs.size f cdv)) → sp vs H Q E →
      ∃ t, PSs (cxOf CX0 P w K mg base N qual (defScope st) f cdv A outer s H E).nox (defBody st) t ∧ t { nx := fun _ H' => Q .non H', rt := Q } (start N vs) H) : FnOk P w K mg base CX0 (k + 1) f fd ps sp := by
  obtain ⟨oc, od, kV, doc, pm, an, cdv, ct, osl, rfl, lk, hcd⟩ := F.ex
  refine fn_of lk hcd S len fun A outer s H vs Q E hr hsp => ?_
  obtain ⟨t, h, q⟩ := hbody cdv A outer s H vs Q E hr hsp
  exact ⟨t, h.nox, q⟩
theorem Fun.binds {x qual : Str} {st : Stmt} {f : Addr} {fd : FuncData} {ps : List Str} (F : Fun K x qual st f fd)
    (h : ∀ (kV doc pm : Value) (an : Option Addr) (cdv ct : Value) (us : List Value), us.length = ps.length → bindArgs (PySem.W.fnOf x qual (defArgs st) (defBody st) (defScope st) .none kV doc pm an cdv ct) ⟨us, []⟩ = pure (ps.zip us)) : Binds K fd ps [] := by
  obtain ⟨oc, od, kV, doc, pm, an, cdv, ct, osl, rfl, lk, hcd⟩ := F.ex
  exact .all (h kV doc pm an cdv ct)
theorem fun_mk {x qual : Str} {st : Stmt} {f : Addr} {oc : Value} {od an : Option Addr} {osl : Array (Option Value)} {kV doc pm cdv ct : Value} (l : K.lookup f = some ⟨oc, od, .func (PySem.W.fnOf x qual (defArgs st) (defBody st) (defScope st) .none kV doc pm an cdv ct), osl⟩)
    (c : PySem.W.codeIn K cdv qual = true) (k : PySem.W.keepIn K (.ref f) = true) : Fun K x qual st f (PySem.W.fnOf x qual (defArgs st) (defBody st) (defScope st) .none kV doc pm an cdv ct) := ⟨⟨oc, od, kV, doc, pm, an, cdv, ct, osl, rfl, l, c⟩, k⟩
end
theorem hu_of {A : Around} {k : Nat} (hr : Room k A) : A.units + 1 < cLine := Nat.lt_of_le_of_lt (Nat.add_le_add_left (by decide : 1 ≤ 64) _) hr.units
theorem small1000 {n : Nat} (h : n ≤ 1000) : n < sizeLine := Nat.lt_of_le_of_lt h (by decide)

section
variable {X : Cx}
theorem pv (i : Nat) {x : Str} {pos : Pos} (hN : X.N[i]? = some x := by rfl) (hv : Vis X.env.scope x := by first | exact Or.inl rfl | exact Or.inr (Or.inl rfl) | exact Or.inr (Or.inr rfl)) (hd : (x == ("__debug__" : Str)) = false := by decide)
    (hcd : (x == ("__classdict__" : Str)) = false := by decide) : PE X (.Name x pos) (tVar i) := pe_var hN hv hd hcd
end

theorem iteF {A B : Prop} (h : B) : if false = true then A else B := by
  rw [if_neg Bool.false_ne_true]
  exact h
theorem iteT {A B : Prop} (h : A) : if true = true then A else B := by
  rw [if_pos rfl]
  exact h
def Same (H H' : Hp) : Prop := ∀ b o, H b = some o → H' b = some o
theorem Same.refl (H : Hp) : Same H H := fun _ _ h => h
theorem Same.trans {H H1 H2 : Hp} (a : Same H H1) (b : Same H1 H2) : Same H H2 := fun c o h => b c o (a c o h)
theorem Same.free {H H' : Hp} (e : Same H H') {l : Addr} (h : H' l = Option.none) : H l = Option.none := by
  cases q : H l with
  | none => rfl
  | some o =>
    rw [e l o q] at h
    cases h
theorem Same.seq {K : PySem.W.Frag} {H H' : Hp} {a : Addr} {xs : List V} (e : Same H H') (h : SqL K H a xs) : SqL K H' a xs := by
  rcases h with (h | ⟨o, h⟩) | h
  · exact .inl (.inl (e _ _ h))
  · exact .inl (.inr ⟨o, e _ _ h⟩)
  · exact .inr h

end L2


namespace L2
open PySem PySem.Spec PyProof.Rows

section
variable {κ : Type} [DecidableEq κ]
def valV (kvs : List (κ × V)) (k : κ) : Option V := (kvs.find? fun kv => decide (kv.1 = k)).map (·.2)
def putK (kvs : List (κ × V)) (k : κ) (v : V) : List (κ × V) :=
  if (kvs.any fun kv => decide (kv.1 = k)) = true then kvs.map (fun kv => if kv.1 = k then (kv.1, v) else kv) else kvs ++ [(k, v)]
def dropK (kvs : List (κ × V)) (k : κ) : List (κ × V) := kvs.filter fun kv => decide (kv.1 ≠ k)

theorem valV_pos {p : κ × V} {r : List (κ × V)} {k : κ} (e : p.1 = k) : valV (p :: r) k = some p.2 := by simp [valV, List.find?_cons, e]
theorem valV_neg {p : κ × V} {r : List (κ × V)} {k : κ} (e : ¬ p.1 = k) : valV (p :: r) k = valV r k := by simp [valV, List.find?_cons, e]
theorem valV_any (k : κ) : ∀ kvs : List (κ × V), (kvs.any fun kv => decide (kv.1 = k)) = (valV kvs k).isSome
  | [] => rfl
  | p :: r => by
    rw [List.any_cons]
    by_cases e : p.1 = k
    · simp only [valV_pos e, decide_eq_true e, Bool.true_or, Option.isSome_some]
    · rw [valV_neg e, decide_eq_false e, Bool.false_or]; exact valV_any k r
theorem valV_map (k j : κ) (y : V) : ∀ kvs : List (κ × V), valV (kvs.map fun kv => if kv.1 = k then (kv.1, y) else kv) j = (valV kvs j).map fun x => if j = k then y else x
  | [] => rfl
  | p :: r => by
    have ih := valV_map k j y r
    rw [List.map_cons]
    by_cases h : p.1 = k
    · rw [if_pos h]
      by_cases e : p.1 = j
      · rw [valV_pos (p := (p.1, y)) e, valV_pos e, Option.map_some, if_pos (e.symm.trans h)]
      · rw [valV_neg (p := (p.1, y)) e, valV_neg e, ih]
    · rw [if_neg h]
      by_cases e : p.1 = j
      · rw [valV_pos (p := p) e, valV_pos e, Option.map_some, if_neg (fun z => h (e.trans z))]
      · rw [valV_neg (p := p) e, valV_neg e, ih]
theorem valV_snoc (k j : κ) (y : V) : ∀ kvs : List (κ × V), valV kvs k = none → valV (kvs ++ [(k, y)]) j = if j = k then some y else valV kvs j
  | [], _ => by
    by_cases e : k = j
    · rw [if_pos e.symm]; exact valV_pos (p := (k, y)) e
    · rw [if_neg (fun z => e z.symm)]; exact valV_neg (p := (k, y)) e
  | p :: r, hn => by
    rw [List.cons_append]
    have hk : ¬ p.1 = k := fun z => by rw [valV_pos z] at hn; cases hn
    rw [valV_neg hk] at hn
    have ih := valV_snoc k j y r hn
    by_cases e : p.1 = j
    · rw [valV_pos e, valV_pos e, if_neg (fun z => hk (e.trans z))]
    · rw [valV_neg e, valV_neg e, ih]
theorem valV_put (kvs : List (κ × V)) (k j : κ) (y : V) : valV (putK kvs k y) j = if j = k then some y else valV kvs j := by
  unfold putK
  by_cases a : (kvs.any fun kv => decide (kv.1 = k)) = true
  · rw [if_pos a, valV_map]
    rw [valV_any] at a
    by_cases e : j = k
    · obtain ⟨x, hx⟩ := Option.isSome_iff_exists.mp a
      rw [if_pos e, e, hx, Option.map_some, if_pos rfl]
    · rw [if_neg e]
      cases valV kvs j with
      | none => rfl
      | some x => rw [Option.map_some, if_neg e]
  · rw [if_neg a]
    refine valV_snoc k j y kvs ?_
    rw [valV_any] at a
    cases q : valV kvs k with
    | none => rfl
    | some x => rw [q] at a; exact (a rfl).elim
theorem length_putK (kvs : List (κ × V)) (k : κ) (v : V) : (putK kvs k v).length ≤ kvs.length + 1 := by
  unfold putK
  split
  · rw [List.length_map]; omega
  · rw [List.length_append, List.length_cons, List.length_nil]; omega
theorem putK_new {kvs : List (κ × V)} {k : κ} (v : V) (h : valV kvs k = none) : putK kvs k v = kvs ++ [(k, v)] := by
  unfold putK
  rw [valV_any, h]
  exact if_neg (by decide)

theorem RelO.isSome_eq {o : Option V} {u : Option Value} (r : RelO o u) : o.isSome = u.isSome := by
  cases o with
  | none => cases u with
    | none => rfl
    | some _ => exact (show False from r).elim
  | some _ => cases u with
    | none => exact (show False from r).elim
    | some _ => rfl
theorem RelO.getD {o : Option V} {u : Option Value} {d : V} {d' : Value} (r : RelO o u) (rd : RelV d d') : RelV (o.getD d) (u.getD d') := by
  cases o with
  | none => cases u with
    | none => exact rd
    | some _ => exact (show False from r).elim
  | some _ => cases u with
    | none => exact (show False from r).elim
    | some _ => exact r

theorem KV.val {kvs : List (κ × V)} {vs : List (κ × Value)} (r : KV kvs vs) (k : κ) : RelO (valV kvs k) (valueAt vs k) := by
  unfold KV at r
  induction r with
  | nil => exact True.intro
  | @cons p q ps qs h t ih =>
    obtain ⟨h1, h2⟩ := h
    by_cases e : p.1 = k
    · have e' : q.1 = k := h1.symm.trans e
      have b : valueAt (q :: qs) k = some q.2 := by simp [valueAt, List.find?_cons, e']
      rw [valV_pos e, b]; exact h2
    · have e' : ¬ q.1 = k := fun z => e (h1.trans z)
      have b : valueAt (q :: qs) k = valueAt qs k := by simp [valueAt, List.find?_cons, e']
      rw [valV_neg e, b]; exact ih
theorem KV.any {kvs : List (κ × V)} {vs : List (κ × Value)} (r : KV kvs vs) (k : κ) : (kvs.any fun kv => decide (kv.1 = k)) = vs.any fun kv => decide (kv.1 = k) := by
  unfold KV at r
  induction r with
  | nil => rfl
  | cons h t ih => rw [List.any_cons, List.any_cons, ih, h.1]
theorem KV.repl {kvs : List (κ × V)} {vs : List (κ × Value)} (r : KV kvs vs) (k : κ) {y : V} {u : Value} (ry : RelV y u) :
    KV (kvs.map fun kv => if kv.1 = k then (kv.1, y) else kv) (vs.map fun kv => if kv.1 = k then (kv.1, u) else kv) := by
  unfold KV at r ⊢
  induction r with
  | nil => exact .nil
  | @cons p q ps qs h t ih =>
    rw [List.map_cons, List.map_cons]
    refine .cons ?_ ih
    obtain ⟨h1, h2⟩ := h
    by_cases e : p.1 = k
    · rw [if_pos e, if_pos (h1.symm.trans e)]; exact ⟨h1, ry⟩
    · rw [if_neg e, if_neg (fun z => e (h1.trans z))]; exact ⟨h1, h2⟩
theorem KV.put {kvs : List (κ × V)} {vs : List (κ × Value)} (r : KV kvs vs) (k : κ) {y : V} {u : Value} (ry : RelV y u) : KV (putK kvs k y) (stored vs k u) := by
  unfold putK stored
  rw [r.any k]
  by_cases e : (vs.any fun kv => decide (kv.1 = k)) = true
  · rw [if_pos e, if_pos e]; exact r.repl k ry
  · rw [if_neg e, if_neg e]; exact Paired.snoc r ⟨rfl, ry⟩
theorem KV.drop {kvs : List (κ × V)} {vs : List (κ × Value)} (r : KV kvs vs) (k : κ) : KV (dropK kvs k) (without vs k) := by
  unfold KV at r ⊢
  unfold dropK without
  induction r with
  | nil => exact .nil
  | @cons p q ps qs h t ih =>
    obtain ⟨h1, h2⟩ := h
    rw [List.filter_cons, List.filter_cons]
    by_cases e : p.1 = k
    · have a : ¬ decide (p.1 ≠ k) = true := by simp [e]
      have b : ¬ decide (q.1 ≠ k) = true := by simp [h1.symm.trans e]
      rw [if_neg a, if_neg b]; exact ih
    · have e' : ¬ q.1 = k := fun z => e (h1.trans z)
      have a : decide (p.1 ≠ k) = true := by simp [e]
      have b : decide (q.1 ≠ k) = true := by simp [e']
      rw [if_pos a, if_pos b]; exact .cons ⟨h1, h2⟩ ih
theorem KV.length {kvs : List (κ × V)} {vs : List (κ × Value)} (r : KV kvs vs) : kvs.length = vs.length := Paired.length r
theorem dropK_le (kvs : List (κ × V)) (k : κ) : (dropK kvs k).length ≤ kvs.length := List.length_filter_le _ _
end


theorem kV_is {P : Program} {w : World} {k : Key} {u : Value} (r : RelV (kV k) u) : (mixKind P w).is k u = true := by
  cases k with
  | inl i => obtain ⟨t, e⟩ := (show ∃ t, u = Value.int i t from r); subst e; exact mixKind_int P w i t
  | inr x => obtain ⟨t, e⟩ := (show ∃ t, u = Value.str x t from r); subst e; exact mixKind_str P w x t
theorem items_are {P : Program} {w : World} : ∀ {ks : List Key} {us : List Value}, Vals (ks.map kV) us → ItemsAre (mixKind P w) ks us
  | [], _, r => by rw [List.map_nil] at r; cases r; exact .nil
  | k :: ks, _, r => by
    rw [List.map_cons] at r
    cases r with
    | cons h t => exact .cons (kV_is h) (items_are t)

abbrev KT (H : Hp) : List (List Key × V) → List (List Key × Addr × Value) → Prop := Paired fun p q => p.1 = q.1 ∧ H q.2.1 = some (.tup (p.1.map kV)) ∧ RelV p.2 q.2.2
theorem KT.val {H : Hp} {kvs : List (List Key × V)} {xs : List (List Key × Addr × Value)} (r : KT H kvs xs) (k : List Key) : RelO (valV kvs k) ((atKey xs k).map (·.2)) := by
  induction r with
  | nil => exact True.intro
  | @cons p q ps qs h t ih =>
    obtain ⟨h1, _, h2⟩ := h
    by_cases e : p.1 = k
    · have e' : q.1 = k := h1.symm.trans e
      have b : atKey (q :: qs) k = some q.2 := by simp [atKey, List.find?_cons, e']
      rw [valV_pos e, b]; exact h2
    · have e' : ¬ q.1 = k := fun z => e (h1.trans z)
      have b : atKey (q :: qs) k = atKey qs k := by simp [atKey, List.find?_cons, e']
      rw [valV_neg e, b]; exact ih
theorem KT.repl {H : Hp} {kvs : List (List Key × V)} {xs : List (List Key × Addr × Value)} (r : KT H kvs xs) (k : List Key) {y : V} {u : Value} (ry : RelV y u) :
    KT H (kvs.map fun kv => if kv.1 = k then (kv.1, y) else kv) (xs.map (putAt k u)) := by
  induction r with
  | nil => exact .nil
  | @cons p q ps qs h t ih =>
    rw [List.map_cons, List.map_cons]
    refine .cons ?_ ih
    obtain ⟨h1, h2, h3⟩ := h
    unfold putAt
    by_cases e : p.1 = k
    · rw [if_pos e, if_pos (h1.symm.trans e)]; exact ⟨h1, h2, ry⟩
    · rw [if_neg e, if_neg (fun z => e (h1.trans z))]; exact ⟨h1, h2, h3⟩
theorem KT.put {H : Hp} {kvs : List (List Key × V)} {xs : List (List Key × Addr × Value)} (r : KT H kvs xs) (k : List Key) {b : Addr} {y : V} {u : Value} (hb : H b = some (.tup (k.map kV))) (ry : RelV y u) :
    KT H (putK kvs k y) (storedH xs k b u) := by
  have e : (kvs.any fun kv => decide (kv.1 = k)) = (atKey xs k).isSome := by
    rw [valV_any, (r.val k).isSome_eq, Option.isSome_map]
  unfold putK storedH
  rw [e]
  by_cases q : (atKey xs k).isSome = true
  · rw [if_pos q, if_pos q]; exact r.repl k ry
  · rw [if_neg q, if_neg q]; exact Paired.snoc r ⟨rfl, hb, ry⟩
theorem KT.keeps {H H' : Hp} {kvs : List (List Key × V)} {xs : List (List Key × Addr × Value)} (r : KT H kvs xs) (ht : ∀ b ys, H b = some (.tup ys) → H' b = some (.tup ys)) : KT H' kvs xs :=
  Paired.mapP r fun _ _ z => ⟨z.1, ht _ _ z.2.1, z.2.2⟩

section
variable {P : Program} {w : World} {H : Hp} {h : Heap} {a : Addr}
theorem rd_of {u : HO} (ok : HOk P w H h) (e : Rd H a u) : ObjOk P w H h a u := e.ok ok
theorem dk_rd {kvs : List (Key × V)} (ok : HOk P w H h) (e : Rd H a (.dK kvs)) : kvs.length ≤ sizeLine ∧ (a == sysModules) = false ∧ ∃ vs, KV kvs vs ∧ h.DictOf (mixKind P w) a vs :=
  show ObjOk P w H h a (.dK kvs) from rd_of ok e
theorem dk_of {kvs : List (Key × V)} (ok : HOk P w H h) (e : H a = some (.dK kvs)) : kvs.length ≤ sizeLine ∧ (a == sysModules) = false ∧ ∃ vs, KV kvs vs ∧ h.DictOf (mixKind P w) a vs := dk_rd ok (.inl e)
theorem key_of {ks : List Key} (ok : HOk P w H h) (e : H a = some (.tup (ks.map kV))) : (tupleKind (mixKind P w)).is h ks a := by
  obtain ⟨_, its, r, o, h1, h2, n, h3⟩ := (show ObjOk P w H h a (.tup (ks.map kV)) from ok a _ e)
  exact ⟨o, its.toArray, n, h1, h2, h3, by simpa using items_are r⟩
theorem dt_rd {kvs : List (List Key × V)} (ok : HOk P w H h) (e : Rd H a (.dT kvs)) : kvs.length ≤ sizeLine ∧ (a == sysModules) = false ∧
    ∃ xs, KT H kvs xs ∧ h.DictOfH (tupleKind (mixKind P w)) a xs := by
  obtain ⟨z, y, xs, r, o, es, ep, h1, h2, h3, h4, h5⟩ := (show ObjOk P w H h a (.dT kvs) from rd_of ok e)
  refine ⟨z, y, xs, r, o, es, ep, h1, h2, h3, h4, fun x hx => ?_, h5⟩
  have all : ∀ {l : List (List Key × V)} {m : List (List Key × Addr × Value)}, KT H l m → ∀ x ∈ m, (tupleKind (mixKind P w)).is h x.1 x.2.1 := by
    intro l m q
    induction q with
    | nil => intro x hx; exact nomatch hx
    | @cons p q ps qs hq t ih =>
      intro x hx
      rcases List.mem_cons.mp hx with e | hx
      · subst e
        exact key_of ok (by rw [← hq.1]; exact hq.2.1)
      · exact ih x hx
  exact all r x hx
theorem dt_of {kvs : List (List Key × V)} (ok : HOk P w H h) (e : H a = some (.dT kvs)) : kvs.length ≤ sizeLine ∧ (a == sysModules) = false ∧
    ∃ xs, KT H kvs xs ∧ h.DictOfH (tupleKind (mixKind P w)) a xs := dt_rd ok (.inl e)
end

def DGet (H : Hp) (a : Addr) (y : V) (r : Option V) : Prop :=
  (∃ kvs k, Rd H a (.dK kvs) ∧ y = kV k ∧ r = valV kvs k) ∨ ∃ kvs k b, Rd H a (.dT kvs) ∧ y = .ref b ∧ H b = some (.tup (k.map kV)) ∧ r = valV kvs k
def DPut (H : Hp) (a : Addr) (y v : V) (H' : Hp) : Prop :=
  (∃ kvs k, H a = some (.dK kvs) ∧ y = kV k ∧ kvs.length < sizeLine ∧ H' = upd H a (.dK (putK kvs k v))) ∨
  ∃ kvs k b, H a = some (.dT kvs) ∧ y = .ref b ∧ H b = some (.tup (k.map kV)) ∧ kvs.length < sizeLine ∧ H' = upd H a (.dT (putK kvs k v))
theorem DGet.k {H : Hp} {a : Addr} {kvs : List (Key × V)} {k : Key} (e : H a = some (.dK kvs)) : DGet H a (kV k) (valV kvs k) := .inl ⟨kvs, k, .inl e, rfl, rfl⟩
theorem DPut.k {H : Hp} {a : Addr} {kvs : List (Key × V)} {k : Key} {v : V} (e : H a = some (.dK kvs)) (hl : kvs.length < sizeLine) : DPut H a (kV k) v (upd H a (.dK (putK kvs k v))) := .inl ⟨kvs, k, e, rfl, hl, rfl⟩
section
variable {X : Cx} {pins : List (Addr × Obj)} {σ : St} {H : Hp} {s : Shared} {a : Addr} {y v : V} {u r : Value} {o : Option V} {A : Around} {E : Value → Shared → Prop}

theorem Inv.big (I : Inv X pins σ H s) : sysModules < s.heap.objs.size := by
  have h : mainGlobals < s.heap.objs.size := (I.mod.glob.keeps I.bk).lt
  exact Nat.lt_trans (by decide) h

theorem d_getItem {Q : Value → Shared → Prop} (hu : A.units + 1 < cLine) (I : Inv X pins σ H s) (g : DGet H a y (some v)) (ry : RelV y u) (h : ∀ w' s', Inv X pins σ H s' → RelV v w' → Q w' s') :
    wpAny (model X.prog X.w) A (getItem (.ref a) u) Q E s := by
  rcases g with ⟨kvs, k, e, ey, l⟩ | ⟨kvs, k, b, e, ey, eb, l⟩
  · subst ey
    obtain ⟨z, hd, vs, rel, dd⟩ := dk_rd I.hok e
    obtain ⟨w', hw, rw'⟩ := RelO.some_of (v := v) (o := valueAt vs k) (by rw [l]; exact rel.val k)
    exact wpAny_getItem_of (kV_is ry) dd.mapOf hw (h w' _ (I.tok _) rw')
  · subst ey
    cases (show u = Value.ref b from ry)
    obtain ⟨z, hd, xs, rel, dd⟩ := dt_rd I.hok e
    obtain ⟨w', hw, rw'⟩ := RelO.some_of (v := v) (o := (atKey xs k).map (·.2)) (by rw [l]; exact rel.val k)
    obtain ⟨p, hp, hp2⟩ := Option.map_eq_some_iff.mp hw
    refine wpAny_getItem_heap (tupleKind_room_in1 hu) (key_of I.hok eb) dd hp ?_
    rw [hp2]
    exact h w' _ (I.tok _) rw'
theorem d_in {Q : Value → Shared → Prop} (hu : A.units + 1 < cLine) (I : Inv X pins σ H s) (g : DGet H a y o) (ry : RelV y u) (h : ∀ s', Inv X pins σ H s' → Q (.bool o.isSome) s') :
    wpAny (model X.prog X.w) A (compareOp .In u (.ref a)) Q E s := by
  rcases g with ⟨kvs, k, e, ey, l⟩ | ⟨kvs, k, b, e, ey, eb, l⟩
  · subst ey
    obtain ⟨z, hd, vs, rel, dd⟩ := dk_rd I.hok e
    refine wpAny_in_of (kV_is ry) hd dd.mapOf ?_
    rw [← (rel.val k).isSome_eq, ← l]
    exact h _ (I.tok _)
  · subst ey
    cases (show u = Value.ref b from ry)
    obtain ⟨z, hd, xs, rel, dd⟩ := dt_rd I.hok e
    refine wpAny_in_heap (tupleKind_room_in1 hu) (key_of I.hok eb) hd dd ?_
    have q := (rel.val k).isSome_eq
    rw [Option.isSome_map] at q
    rw [← q, ← l]
    exact h _ (I.tok _)
theorem d_notIn {Q : Value → Shared → Prop} (hu : A.units + 1 < cLine) (I : Inv X pins σ H s) (g : DGet H a y o) (ry : RelV y u) (h : ∀ s', Inv X pins σ H s' → Q (.bool (!o.isSome)) s') :
    wpAny (model X.prog X.w) A (compareOp .NotIn u (.ref a)) Q E s := by
  rcases g with ⟨kvs, k, e, ey, l⟩ | ⟨kvs, k, b, e, ey, eb, l⟩
  · subst ey
    obtain ⟨z, hd, vs, rel, dd⟩ := dk_rd I.hok e
    refine wpAny_notIn_of (kV_is ry) hd dd.mapOf ?_
    rw [← (rel.val k).isSome_eq, ← l]
    exact h _ (I.tok _)
  · subst ey
    cases (show u = Value.ref b from ry)
    obtain ⟨z, hd, xs, rel, dd⟩ := dt_rd I.hok e
    refine wpAny_notIn_heap (tupleKind_room_in1 hu) (key_of I.hok eb) hd dd ?_
    have q := (rel.val k).isSome_eq
    rw [Option.isSome_map] at q
    rw [← q, ← l]
    exact h _ (I.tok _)
theorem d_write {h' : Heap} {t' : Nat} {ob : HO} (I : Inv X pins σ H s) (mu : Mut (H a)) (hs : Heap.SameBut a s.heap h') (he : ∃ q, h'.get? a = some q) (new : ObjOk X.prog X.w (upd H a ob) h' a ob) :
    Inv X pins σ (upd H a ob) { s with heap := h', toks := t' } :=
  I.write (x := a) (e := a) mu (.inl rfl) (fun b q hb z => (hs.2 b hb).trans z) he new
theorem dk_new {P : Program} {w : World} {H' : Hp} {h' : Heap} {kvs : List (Key × V)} {vs : List (Key × Value)} (z : kvs.length ≤ sizeLine) (hd : (a == sysModules) = false) (rel : KV kvs vs) (dd : h'.DictOf (mixKind P w) a vs) :
    ObjOk P w H' h' a (.dK kvs) := ⟨z, hd, vs, rel, dd⟩
theorem d_setItem {H' : Hp} {Q : Unit → Shared → Prop} (hu : A.units + 1 < cLine) (I : Inv X pins σ H s) (g : DPut H a y v H') (ry : RelV y u) (rv : RelV v r) (h : ∀ s', Inv X pins σ H' s' → Q () s') :
    wpAny (model X.prog X.w) A (setItem (.ref a) u r) Q E s := by
  rcases g with ⟨kvs, k, e, ey, l, eH⟩ | ⟨kvs, k, b, e, ey, eb, l, eH⟩
  · subst ey eH
    obtain ⟨z, hd, vs, rel, dd⟩ := dk_of I.hok e
    have hz : vs.length ≤ sizeLine := by rw [← rel.length]; exact z
    have hl : (putK kvs k v).length ≤ sizeLine := by have := length_putK kvs k v; omega
    refine wpAny_setItem_pairs (hsz := hz) (kV_is ry) dd fun h' dd' hs => h _ ?_
    have he : ∃ q, h'.get? a = some q := let ⟨q, _, _, hq, _⟩ := dd'; ⟨q, hq⟩
    exact d_write I (by rw [e]; exact True.intro) hs he (dk_new hl hd (rel.put k rv) dd')
  · subst ey eH
    cases (show u = Value.ref b from ry)
    obtain ⟨z, hd, xs, rel, dd⟩ := dt_of I.hok e
    have hz : xs.length ≤ sizeLine := by rw [← Paired.length rel]; exact z
    have hl : (putK kvs k v).length ≤ sizeLine := by have := length_putK kvs k v; omega
    refine wpAny_setItem_heap (hsz := hz) (tupleKind_room_in1 hu) (key_of I.hok eb) dd fun h' dd' hs => h _ ?_
    obtain ⟨q, es, ep, hq, h2, h3, h4, _, h5⟩ := dd'
    refine d_write I (by rw [e]; exact True.intro) hs ⟨q, hq⟩ ⟨hl, hd, _, (rel.put k eb rv).keeps fun c ys ec => ?_, q, es, ep, hq, h2, h3, h4, h5⟩
    rw [upd_ne (ne_of ec e (fun z => nomatch z))]
    exact ec
end

section
variable {X : Cx} {pins : List (Addr × Obj)} {σ : St} {H : Hp} {s : Shared} {a : Addr} {kvs : List (Key × V)} {k : Key} {u : Value} {A : Around} {E : Value → Shared → Prop}
theorem d_pop {v : V} {more : List Value} {Q : Value → Shared → Prop} (I : Inv X pins σ H s) (e : H a = some (.dK kvs)) (ry : RelV (kV k) u) (l : valV kvs k = some v) (hm : more = [] ∨ ∃ x, more = [x])
    (h : ∀ w' s', Inv X pins σ (upd H a (.dK (dropK kvs k))) s' → RelV v w' → Q w' s') : wpAny (model X.prog X.w) A (call (.builtin "dict.pop") (.ref a :: u :: more)) Q E s := by
  obtain ⟨z, hd, vs, rel, dd⟩ := dk_of I.hok e
  obtain ⟨w', hw, rw'⟩ := RelO.some_of (v := v) (o := valueAt vs k) (by rw [← l]; exact rel.val k)
  have hp : (keyPart u).isSome = true := by
    cases k with
    | inl i => obtain ⟨t, q⟩ := (show ∃ t, u = Value.int i t from ry); subst q; rfl
    | inr x => obtain ⟨t, q⟩ := (show ∃ t, u = Value.str x t from ry); subst q; rfl
  have ha : argsOk "dict.pop" ⟨.ref a :: u :: more, []⟩ := by
    rcases hm with q | ⟨x, q⟩
    · subst q; exact PySem.F.args_dict_pop_2 _ _
    · subst q; exact PySem.F.args_dict_pop_3 _ _ _
  refine call_meetsIn PySem.F.slot_dict_pop dd.typeIs PySem.F.entry_dict_pop ha (meets_dict_pop_there (mixKind X.prog X.w) a (kV_is ry) more hm hp)
    ⟨vs, w', dd, by rw [← rel.length]; exact z, hw, fun h' dd' hs => h w' _ ?_ rw'⟩
  have he : ∃ q, h'.get? a = some q := let ⟨q, _, _, hq, _⟩ := dd'; ⟨q, hq⟩
  exact d_write I (by rw [e]; exact True.intro) hs he (dk_new (Nat.le_trans (dropK_le kvs k) z) hd (rel.drop k) dd')
end


def NoSl (i : Expr) : Prop := ∀ ov iv, subscripted i false ov iv = operate [ov, iv] (getItem ov iv)
theorem subD_of {prog : Program} {w : World} {A : Around} {E : Value → Shared → Prop} {s : Shared} {env : Env} {value slice : Expr} {pos : Pos} {T id : String} {Q : Value → Shared → Prop}
    (hl : typeLookup (.type T) "__getitem__" = pure (some (.builtin id))) (hs : NoSl slice)
    (h : wpAny (model prog w) A (eval value env) (fun o s₁ => wpAny (model prog w) A (eval slice env) (fun i s₂ => s₂.TypeIs o T ∧ wpAny (model prog w) A (getItem o i) Q E s₂) E s₁) E s) :
    wpAny (model prog w) A (eval (.Subscript value slice pos) env) Q E s := by
  refine Subscript_ (wpAny_mono h (fun o s₁ h₁ => wpAny_mono h₁ (fun i s₂ h₂ => ?_) fun _ _ x => x) fun _ _ x => x)
  obtain ⟨hT, h₂⟩ := h₂
  unfold subscriptTail
  refine wpAny_bind ?_
  rw [getitemInPython_of_ne hT.not_modules]
  refine wpAny_bind (wpAny_specialOf hT hl ?_)
  have fin : wpAny (model prog w) A (subscripted slice false o i) (fun r s₃ => wpAny (model prog w) A (letTemporaryGo value o r >>= fun _ => pure r) Q E s₃) E s₂ := by
    rw [hs o i]
    exact wpAny_operating (wpAny_mono h₂ (fun r s₃ h₃ => wpAny_bind (wpAny_letTemporaryGo (wpAny_pure h₃))) fun _ _ x => x)
  first
    | exact wpAny_pure (wpAny_bind fin)
    | exact wpAny_bind (wpAny_pure (wpAny_bind fin))
    | exact wpAny_bind fin

theorem dict_typeIs {X : Cx} {pins : List (Addr × Obj)} {σ : St} {H : Hp} {s : Shared} {a : Addr} {y : V} {o : Option V} (I : Inv X pins σ H s) (g : DGet H a y o) : s.TypeIs (.ref a) "dict" := by
  rcases g with ⟨kvs, k, e, _, _⟩ | ⟨kvs, k, b, e, _, _, _⟩
  · obtain ⟨_, _, vs, _, dd⟩ := dk_rd I.hok e
    exact dd.typeIs
  · obtain ⟨_, _, xs, _, dd⟩ := dt_rd I.hok e
    exact dd.typeIs
def tDGet (td ty : TE) : TE := fun σ H Q => td σ H fun x H1 => ty σ H1 fun y H2 => ∃ a v, x = .ref a ∧ DGet H2 a y (some v) ∧ Q v H2
def tDIn (ty td : TE) : TE := fun σ H Q => ty σ H fun y H1 => td σ H1 fun x H2 => ∃ a o, x = .ref a ∧ DGet H2 a y o ∧ Q (.bl o.isSome) H2
def tDNotIn (ty td : TE) : TE := fun σ H Q => ty σ H fun y H1 => td σ H1 fun x H2 => ∃ a o, x = .ref a ∧ DGet H2 a y o ∧ Q (.bl (!o.isSome)) H2
def sDPut (td ty tv : TE) : TS := fun D σ H => tv σ H fun v H1 => td σ H1 fun x H2 => ty σ H2 fun y H3 => ∃ a H4, x = .ref a ∧ DPut H3 a y v H4 ∧ D.nx σ H4
section
variable {X : Cx} {o i e value : Expr} {pos pos' tpos : Pos} {td ty tv : TE}
theorem pe_dget (hu : X.A.units + 1 < cLine) (ho : PE X o td) (hi : PE X i ty) (hs : NoSl i) : PE X (.Subscript o i pos) (tDGet td ty) := by
  intro pins s σ H Q I h
  refine subD_of PySem.F.slot_dict_getitem.lookup hs (thn (ho pins s σ H _ I h) fun u s1 ⟨x, H1, I1, rx, q1⟩ => thn (hi pins s1 σ H1 _ I1 q1) fun iv s2 ⟨y, H2, I2, ry, a, v, ex, g, q2⟩ => ?_)
  subst ex
  obtain rfl : u = Value.ref a := rx
  exact ⟨dict_typeIs I2 g, d_getItem hu I2 g ry fun w' s3 I3 rw' => ⟨v, H2, I3, rw', q2⟩⟩
theorem pc_din (hu : X.A.units + 1 < cLine) (hi : PE X i ty) (ho : PE X o td) : PC X .In i o (tDIn ty td) := by
  intro pins s σ H Q I h
  refine thn (hi pins s σ H _ I h) fun iv s1 ⟨y, H1, I1, ry, q1⟩ => thn (ho pins s1 σ H1 _ I1 q1) fun u s2 ⟨x, H2, I2, rx, a, ov, ex, g, q2⟩ => ?_
  subst ex
  obtain rfl : u = Value.ref a := rx
  exact d_in hu I2 g ry fun s3 I3 => ⟨.bl ov.isSome, H2, I3, rfl, q2⟩
theorem pc_dnotin (hu : X.A.units + 1 < cLine) (hi : PE X i ty) (ho : PE X o td) : PC X .NotIn i o (tDNotIn ty td) := by
  intro pins s σ H Q I h
  refine thn (hi pins s σ H _ I h) fun iv s1 ⟨y, H1, I1, ry, q1⟩ => thn (ho pins s1 σ H1 _ I1 q1) fun u s2 ⟨x, H2, I2, rx, a, ov, ex, g, q2⟩ => ?_
  subst ex
  obtain rfl : u = Value.ref a := rx
  exact d_notIn hu I2 g ry fun s3 I3 => ⟨.bl (!ov.isSome), H2, I3, rfl, q2⟩
theorem ps_dput (hu : X.A.units + 1 < cLine) (ho : PE X o td) (hi : PE X i ty) (hv : PE X value tv) (hs : swapsWith value (some (.Subscript o i pos')) pos.line X.env = pure false) :
    PS X (.Assign [.Subscript o i pos'] value pos) (sDPut td ty tv) := by
  intro pins s σ H D I h
  refine wpAny_Assign_Subscript (thn (hv pins s σ H _ I h) fun r s1 ⟨v, H1, I1, rv, q1⟩ => thn (ho pins s1 σ H1 _ I1 q1) fun u s2 ⟨x, H2, I2, rx, q2⟩ => thn (hi pins s2 σ H2 _ I2 q2) fun iv s3 ⟨y, H3, I3, ry, a, H4, ex, g, q3⟩ => ?_) hs
  subst ex
  obtain rfl : u = Value.ref a := rx
  exact d_setItem hu I3 g ry rv fun s4 I4 => ⟨σ, H4, I4, q3⟩
end


theorem dk_empty {P : Program} {w : World} {H : Hp} (h : Heap) (hb : sysModules < h.objs.size) : ObjOk P w H (h.push { cls := .type "dict", data := .dict #[] }) h.objs.size (.dK []) :=
  ⟨Nat.zero_le _, beq_eq_false_iff_ne.mpr (Ne.symm (Nat.ne_of_lt hb)), [], .nil, Heap.DictOf.new h⟩
def tDNewK : TE := fun _ H Q => ∀ p, H p = none → Q (.ref p) (upd H p (.dK []))
section
variable {X : Cx} {pos : Pos}
theorem pe_dnewK : PE X (.Dict [] [] pos) tDNewK := fun pins s σ H Q I h =>
  wpAny_Dict_empty ⟨.ref s.heap.objs.size, _, I.laid (a := s.heap.objs.size) (o := .dK []) (t' := s.toks) (fun _ _ q => Heap.get?_push_of_some _ q) (Nat.le_refl _) (dk_empty s.heap I.big), rfl, h _ (I.hok.fresh (Nat.le_refl _))⟩
end

structure M1 (X : Cx) (o : Expr) (m : Str) (apos : Pos) (e : Expr) (cpos : Pos) : Prop where
  base : attributeBase o m X.env (eval o X.env) = eval o X.env
  few : ((backTo cpos (starEach [e] X.env)).all (fun x => !x.1) && (backToKw cpos (keywordEach [] X.env)).all (fun x => x.1.isSome)
    && decide (([e] : List Expr).length + ([] : List Keyword).length + (if ([] : List Keyword).isEmpty then 0 else 1) < 30)) = true
  line : (apos.endLine == cpos.line) = true
  trees : backTo cpos (starEach [e] X.env) = [(false, eval e X.env)]
structure M2 (X : Cx) (o : Expr) (m : Str) (apos : Pos) (e f : Expr) (cpos : Pos) : Prop where
  base : attributeBase o m X.env (eval o X.env) = eval o X.env
  few : ((backTo cpos (starEach [e, f] X.env)).all (fun x => !x.1) && (backToKw cpos (keywordEach [] X.env)).all (fun x => x.1.isSome)
    && decide (([e, f] : List Expr).length + ([] : List Keyword).length + (if ([] : List Keyword).isEmpty then 0 else 1) < 30)) = true
  line : (apos.endLine == cpos.line) = true
  trees : backTo cpos (starEach [e, f] X.env) = [(false, eval e X.env), (false, eval f X.env)]

def IsD (H : Hp) (a : Addr) : Prop := (∃ kvs, Rd H a (.dK kvs)) ∨ ∃ kvs, Rd H a (.dT kvs)
theorem isD_at {X : Cx} {pins : List (Addr × Obj)} {σ : St} {H : Hp} {s : Shared} {a : Addr} (I : Inv X pins σ H s) (d : IsD H a) :
    s.TypeIs (.ref a) "dict" ∧ (∀ b, Value.ref a = .ref b → ∃ ob, s.heap.get? b = some ob ∧ ob.dict = none) ∧ (a == sysModules) = false := by
  rcases d with ⟨kvs, e⟩ | ⟨kvs, e⟩
  · obtain ⟨_, hd, vs, _, dd⟩ := dk_rd I.hok e
    refine ⟨dd.typeIs, fun b q => ?_, hd⟩
    cases q
    obtain ⟨ob, _, _, h1, h2, _⟩ := dd
    exact ⟨ob, h1, h2.2.1⟩
  · obtain ⟨_, hd, xs, _, dd⟩ := dt_rd I.hok e
    refine ⟨dd.typeIs, fun b q => ?_, hd⟩
    cases q
    obtain ⟨ob, _, _, h1, h2, _⟩ := dd
    exact ⟨ob, h1, h2.2.1⟩

section
variable {X : Cx} {pins : List (Addr × Obj)} {σ : St} {H : Hp} {s : Shared} {a : Addr} {y d : V} {u r : Value} {o : Option V} {A : Around} {E : Value → Shared → Prop}
theorem d_get1 {Q : Value → Shared → Prop} (hu : A.units + 1 < cLine) (I : Inv X pins σ H s) (g : DGet H a y o) (ry : RelV y u) (h : ∀ w' s', Inv X pins σ H s' → RelV (o.getD .non) w' → Q w' s') :
    wpAny (model X.prog X.w) A (call (.builtin "dict.get") [.ref a, u]) Q E s := by
  rcases g with ⟨kvs, k, e, ey, l⟩ | ⟨kvs, k, b, e, ey, eb, l⟩
  · subst ey
    obtain ⟨z, hd, vs, rel, dd⟩ := dk_rd I.hok e
    refine call_meetsIn PySem.F.slot_dict_get dd.typeIs PySem.F.entry_dict_get (PySem.F.args_dict_get_2 _ _) (meets_dict_get (mixKind X.prog X.w) a (kV_is ry) hd) ⟨_, dd.mapOf, h _ _ (I.tok _) ?_⟩
    rw [l]
    exact (rel.val k).getD rfl
  · subst ey
    cases (show u = Value.ref b from ry)
    obtain ⟨z, hd, xs, rel, dd⟩ := dt_rd I.hok e
    refine call_meetsIn PySem.F.slot_dict_get dd.typeIs PySem.F.entry_dict_get (PySem.F.args_dict_get_2 _ _) (meetsH_dict_get (tupleKind (mixKind X.prog X.w)) a b hd) ⟨tupleKind_room_in1 hu, k, xs, key_of I.hok eb, dd, h _ _ (I.tok _) ?_⟩
    rw [l]
    exact (rel.val k).getD rfl
theorem d_get2 {Q : Value → Shared → Prop} (hu : A.units + 1 < cLine) (I : Inv X pins σ H s) (g : DGet H a y o) (ry : RelV y u) (rd : RelV d r) (h : ∀ w' s', Inv X pins σ H s' → RelV (o.getD d) w' → Q w' s') :
    wpAny (model X.prog X.w) A (call (.builtin "dict.get") [.ref a, u, r]) Q E s := by
  rcases g with ⟨kvs, k, e, ey, l⟩ | ⟨kvs, k, b, e, ey, eb, l⟩
  · subst ey
    obtain ⟨z, hd, vs, rel, dd⟩ := dk_rd I.hok e
    refine call_meetsIn PySem.F.slot_dict_get dd.typeIs PySem.F.entry_dict_get (PySem.F.args_dict_get_3 _ _ _) (meets_dict_get_default (mixKind X.prog X.w) a (kV_is ry) hd r) ⟨_, dd.mapOf, h _ _ (I.tok _) ?_⟩
    rw [l]
    exact (rel.val k).getD rd
  · subst ey
    cases (show u = Value.ref b from ry)
    obtain ⟨z, hd, xs, rel, dd⟩ := dt_rd I.hok e
    refine call_meetsIn PySem.F.slot_dict_get dd.typeIs PySem.F.entry_dict_get (PySem.F.args_dict_get_3 _ _ _) (meetsH_dict_get_default (tupleKind (mixKind X.prog X.w)) a b hd r) ⟨tupleKind_room_in1 hu, k, xs, key_of I.hok eb, dd, h _ _ (I.tok _) ?_⟩
    rw [l]
    exact (rel.val k).getD rd
end

def tDGet1 (td ty : TE) : TE := fun σ H Q => td σ H fun x H1 => ∃ a, x = .ref a ∧ IsD H1 a ∧ ty σ H1 fun y H2 => ∃ o, DGet H2 a y o ∧ Q (o.getD .non) H2
def tDGet2 (td ty tx : TE) : TE := fun σ H Q => td σ H fun x H1 => ∃ a, x = .ref a ∧ IsD H1 a ∧ ty σ H1 fun y H2 => tx σ H2 fun z H3 => ∃ o, DGet H3 a y o ∧ Q (o.getD z) H3
def tDPop1 (td ty : TE) : TE := fun σ H Q => td σ H fun x H1 => ∃ a, x = .ref a ∧ IsD H1 a ∧ ty σ H1 fun y H2 => ∃ kvs k v, H2 a = some (.dK kvs) ∧ y = kV k ∧ valV kvs k = some v ∧ Q v (upd H2 a (.dK (dropK kvs k)))
section
variable {X : Cx} {o e f : Expr} {apos cpos : Pos} {td ty tx : TE}
theorem pe_dget1 (hu : X.A.units + 1 < cLine) (ho : PE X o td) (he : PE X e ty) (m : M1 X o "get" apos e cpos) : PE X (.Call (.Attribute o "get" apos) [e] [] cpos) (tDGet1 td ty) := by
  intro pins s σ H Q I h
  refine wpAny_Call_method m.base m.few m.line PySem.F.plainAttrs_dict PySem.F.slot_dict_get PySem.F.type_dict_get (thn (ho pins s σ H _ I h) fun u s1 ⟨x, H1, I1, rx, a, ex, d, q1⟩ => ?_)
  subst ex
  obtain rfl : u = Value.ref a := rx
  obtain ⟨t1, t2, _⟩ := isD_at I1 d
  refine ⟨t1, t2, ?_⟩
  rw [m.trees]
  refine Calls.callWith_builtin rfl (Calls.evalArgs_plain (Calls.spliced_cons (thn (he pins s1 σ H1 _ I1 q1) fun iv s2 ⟨y, H2, I2, ry, ov, g, q2⟩ => Calls.spliced_nil ?_)))
  exact d_get1 hu I2 g ry fun w' s3 I3 rw' => ⟨_, H2, I3, rw', q2⟩
theorem pe_dget2 (hu : X.A.units + 1 < cLine) (ho : PE X o td) (he : PE X e ty) (hf : PE X f tx) (m : M2 X o "get" apos e f cpos) : PE X (.Call (.Attribute o "get" apos) [e, f] [] cpos) (tDGet2 td ty tx) := by
  intro pins s σ H Q I h
  refine wpAny_Call_method m.base m.few m.line PySem.F.plainAttrs_dict PySem.F.slot_dict_get PySem.F.type_dict_get (thn (ho pins s σ H _ I h) fun u s1 ⟨x, H1, I1, rx, a, ex, d, q1⟩ => ?_)
  subst ex
  obtain rfl : u = Value.ref a := rx
  obtain ⟨t1, t2, _⟩ := isD_at I1 d
  refine ⟨t1, t2, ?_⟩
  rw [m.trees]
  refine Calls.callWith_builtin rfl (Calls.evalArgs_plain (Calls.spliced_cons (thn (he pins s1 σ H1 _ I1 q1) fun iv s2 ⟨y, H2, I2, ry, q2⟩ =>
    Calls.spliced_cons (thn (hf pins s2 σ H2 _ I2 q2) fun fv s3 ⟨z, H3, I3, rz, ov, g, q3⟩ => Calls.spliced_nil ?_))))
  exact d_get2 hu I3 g ry rz fun w' s4 I4 rw' => ⟨_, H3, I4, rw', q3⟩
theorem pe_dpop1 (ho : PE X o td) (he : PE X e ty) (m : M1 X o "pop" apos e cpos) : PE X (.Call (.Attribute o "pop" apos) [e] [] cpos) (tDPop1 td ty) := by
  intro pins s σ H Q I h
  refine wpAny_Call_method m.base m.few m.line PySem.F.plainAttrs_dict PySem.F.slot_dict_pop PySem.F.type_dict_pop (thn (ho pins s σ H _ I h) fun u s1 ⟨x, H1, I1, rx, a, ex, d, q1⟩ => ?_)
  subst ex
  obtain rfl : u = Value.ref a := rx
  obtain ⟨t1, t2, _⟩ := isD_at I1 d
  refine ⟨t1, t2, ?_⟩
  rw [m.trees]
  refine Calls.callWith_builtin rfl (Calls.evalArgs_plain (Calls.spliced_cons (thn (he pins s1 σ H1 _ I1 q1) fun iv s2 ⟨y, H2, I2, ry, kvs, k, v, ea, ey, l, q2⟩ => Calls.spliced_nil ?_)))
  subst ey
  exact d_pop I2 ea ry l (.inl rfl) fun w' s3 I3 rw' => ⟨v, _, I3, rw', q2⟩
end

section
variable {X : Cx} {pins : List (Addr × Obj)} {σ : St} {H : Hp} {s : Shared} {a : Addr} {kvs : List (Key × V)} {A : Around} {E : Value → Shared → Prop}
end


section
variable {X : Cx} {pins : List (Addr × Obj)} {σ : St} {H : Hp} {s : Shared} {a : Addr} {y : V} {u : Value} {A : Around} {E : Value → Shared → Prop}
end
end L2
namespace L2
open PySem PySem.Spec PyProof.Rows
section
variable {X : Cx}
end
section
variable {κ : Type} [DecidableEq κ]
theorem valV_not {kvs : List (κ × V)} {k : κ} (h : valV kvs k = none) : ¬ k ∈ kvs.map (·.1) := by
  intro m
  obtain ⟨p, hp, e⟩ := List.mem_map.mp m
  have q : (kvs.any fun kv => decide (kv.1 = k)) = true := List.any_eq_true.mpr ⟨p, hp, decide_eq_true e⟩
  rw [valV_any, h] at q
  exact absurd q (by simp)
theorem valV_in {kvs : List (κ × V)} {k : κ} {v : V} (h : valV kvs k = some v) : k ∈ kvs.map (·.1) := by
  have q : (kvs.any fun kv => decide (kv.1 = k)) = true := by
    rw [valV_any, h]
    all_goals rfl
  obtain ⟨p, hp, e⟩ := List.any_eq_true.mp q
  exact List.mem_map.mpr ⟨p, hp, of_decide_eq_true e⟩
end
end L2

set_option maxHeartbeats 4000000
namespace L2
open PySem PySem.Spec PyProof.Rows

theorem noE {α : Type} {M : Model} {A : Around} {t : Sem α} {Q : α → Shared → Prop} {E : Value → Shared → Prop} {s : Shared} (h : wpAny M A t Q (fun _ _ => False) s) : wpAny M A t Q E s :=
  wpAny_mono h (fun _ _ q => q) fun _ _ f => f.elim

def closL (cells : List (Str × Addr)) : List (Str × NameKind) → List (Str × Addr) → List (Str × Addr)
  | [], acc => acc
  | (n, k) :: r, acc => closL cells r (if (k == NameKind.free) = true then (n, (cells.lookup n).getD 0) :: acc else acc)
theorem closL_sub {cells : List (Str × Addr)} {y : Str} {c : Addr} : ∀ (names : List (Str × NameKind)) (acc : List (Str × Addr)),
    (closL cells names acc).lookup y = some c → acc.lookup y = some c ∨ ((y, NameKind.free) ∈ names ∧ c = (cells.lookup y).getD 0)
  | [], acc, h => .inl h
  | (n, k) :: r, acc, h => by
    rcases closL_sub r _ h with h1 | ⟨h1, h2⟩
    · by_cases hk : (k == NameKind.free) = true
      · rw [if_pos hk, List.lookup_cons] at h1
        by_cases e : (y == n) = true
        · rw [e] at h1
          have e1 : y = n := by simpa using e
          have e2 : k = NameKind.free := by simpa using hk
          subst e1 e2
          exact .inr ⟨List.mem_cons_self, (Option.some.inj h1).symm⟩
        · have e1 : (y == n) = false := by simpa using e
          rw [e1] at h1
          exact .inl h1
      · rw [if_neg hk] at h1
        exact .inl h1
    · exact .inr ⟨List.mem_cons_of_mem _ h1, h2⟩
theorem closL_keeps {cells : List (Str × Addr)} {y : Str} : ∀ (names : List (Str × NameKind)) (acc : List (Str × Addr)), (∃ c, acc.lookup y = some c) → ∃ c, (closL cells names acc).lookup y = some c
  | [], _, h => h
  | (n, k) :: r, acc, h => by
    refine closL_keeps r _ ?_
    by_cases hk : (k == NameKind.free) = true
    · rw [if_pos hk, List.lookup_cons]
      by_cases e : (y == n) = true
      · rw [e]; exact ⟨_, rfl⟩
      · have e1 : (y == n) = false := by simpa using e
        rw [e1]; exact h
    · rw [if_neg hk]; exact h
theorem closL_has {cells : List (Str × Addr)} {y : Str} : ∀ (names : List (Str × NameKind)) (acc : List (Str × Addr)), (y, NameKind.free) ∈ names → ∃ c, (closL cells names acc).lookup y = some c
  | [], _, h => by simp at h
  | (n, k) :: r, acc, h => by
    rcases List.mem_cons.mp h with h | h
    · cases h
      refine closL_keeps r _ ?_
      rw [if_pos (by rfl), List.lookup_cons, beq_self_eq_true]
      exact ⟨_, rfl⟩
    · exact closL_has r _ h
theorem closureFor_free {scope : Scope} {env : Env} (h : ∀ x, (x, NameKind.free) ∈ scope.names → ∃ c, env.cells.lookup x = some c) : closureFor scope env = pure (closL env.cells scope.names []) := by
  have go : ∀ (names : List (Str × NameKind)) (acc : List (Str × Addr)), (∀ x, (x, NameKind.free) ∈ names → ∃ c, env.cells.lookup x = some c) →
      (forIn names acc fun (x : Str × NameKind) (cs : List (Str × Addr)) => match x with
        | (name, kind) => if (kind == NameKind.free) = true then do let a ← cellOf env name; pure (ForInStep.yield ((name, a) :: cs)) else pure (ForInStep.yield cs) : Sem (List (Str × Addr)))
      = pure (closL env.cells names acc) := by
    intro names
    induction names with
    | nil => intro acc _; rfl
    | cons x r ih =>
      intro acc hx
      obtain ⟨n, k⟩ := x
      rw [List.forIn_cons]
      by_cases hk : (k == NameKind.free) = true
      · have e2 : k = NameKind.free := by simpa using hk
        obtain ⟨c, hc⟩ := hx n (by rw [e2]; exact List.mem_cons_self)
        have hcell : cellOf env n = pure c := by unfold cellOf; rw [hc]
        simp only [hk, if_true, hcell]
        show (forIn r ((n, c) :: acc) _ : Sem (List (Str × Addr))) = _
        rw [ih _ fun y hy => hx y (List.mem_cons_of_mem _ hy)]
        simp only [closL, hk, if_true, hc, Option.getD_some]
      · simp only [hk, if_false]
        show (forIn r acc _ : Sem (List (Str × Addr))) = _
        rw [ih _ fun y hy => hx y (List.mem_cons_of_mem _ hy)]
        simp only [closL, hk, if_false]
        rfl
  have := go scope.names [] h
  unfold closureFor
  exact (congrArg (fun (t : Sem (List (Str × Addr))) => t >>= fun cs => (pure cs : Sem (List (Str × Addr)))) this).trans rfl

theorem lookup_relabel_free {env : Env} : ∀ {names : List (Str × NameKind)} {x : Str}, names.lookup x = some .free →
    (names.map fun (n, k) => if (k == NameKind.free && env.scope.kind == .function && env.kindOf n == some .cell) then (n, NameKind.cell) else (n, k)).lookup x = some .cell ∨
    (names.map fun (n, k) => if (k == NameKind.free && env.scope.kind == .function && env.kindOf n == some .cell) then (n, NameKind.cell) else (n, k)).lookup x = some .free
  | [], _, h => by simp at h
  | (n, k) :: r, x, h => by
    have ih := @lookup_relabel_free env r x
    show List.lookup x ((if (k == NameKind.free && env.scope.kind == .function && env.kindOf n == some .cell) = true then (n, NameKind.cell) else (n, k)) :: _) = _ ∨ List.lookup x ((if (k == NameKind.free && env.scope.kind == .function && env.kindOf n == some .cell) = true then (n, NameKind.cell) else (n, k)) :: _) = _
    cases hx : x == n with
    | true =>
      simp only [List.lookup_cons, hx] at h
      cases h
      by_cases hc : (NameKind.free == NameKind.free && env.scope.kind == .function && env.kindOf n == some .cell) = true
      · rw [if_pos hc]; left; simp [List.lookup_cons, hx]
      · rw [if_neg hc]; right; simp [List.lookup_cons, hx]
    | false =>
      simp only [List.lookup_cons, hx] at h
      by_cases hc : (k == NameKind.free && env.scope.kind == .function && env.kindOf n == some .cell) = true
      · rw [if_pos hc]; simp only [List.lookup_cons, hx]; exact ih h
      · rw [if_neg hc]; simp only [List.lookup_cons, hx]; exact ih h
theorem lookup_relabel_back {env : Env} {k : NameKind} : ∀ {names : List (Str × NameKind)} {x : Str},
    (names.map fun (n, k) => if (k == NameKind.free && env.scope.kind == .function && env.kindOf n == some .cell) then (n, NameKind.cell) else (n, k)).lookup x = some k →
    names.lookup x = some k ∨ (k = .cell ∧ names.lookup x = some .free)
  | [], _, h => by simp at h
  | (n, j) :: r, x, h => by
    have ih := @lookup_relabel_back env k r x
    have h' : List.lookup x ((if (j == NameKind.free && env.scope.kind == .function && env.kindOf n == some .cell) = true then (n, NameKind.cell) else (n, j)) :: r.map fun (n, k) => if (k == NameKind.free && env.scope.kind == .function && env.kindOf n == some .cell) then (n, NameKind.cell) else (n, k)) = some k := h
    cases hx : x == n with
    | true =>
      by_cases hc : (j == NameKind.free && env.scope.kind == .function && env.kindOf n == some .cell) = true
      · rw [if_pos hc] at h'
        simp only [List.lookup_cons, hx] at h' ⊢
        cases h'
        have e : j = NameKind.free := by
          have := hc
          simp only [Bool.and_eq_true] at this
          simpa using this.1.1
        rw [e]
        exact .inr ⟨rfl, rfl⟩
      · rw [if_neg hc] at h'
        simp only [List.lookup_cons, hx] at h' ⊢
        exact .inl h'
    | false =>
      by_cases hc : (j == NameKind.free && env.scope.kind == .function && env.kindOf n == some .cell) = true
      · rw [if_pos hc] at h'; simp only [List.lookup_cons, hx] at h' ⊢; exact ih h'
      · rw [if_neg hc] at h'; simp only [List.lookup_cons, hx] at h' ⊢; exact ih h'

def compChk (sc osc : Scope) (N N' : List Str) (sel : List (Option Nat)) : Bool :=
  (sc.names.all fun p => match p.2 with
    | .free => (osc.names.lookup p.1 == some .cell || osc.names.lookup p.1 == some .free) && sc.names.lookup p.1 == some .free
    | .cell => false
    | .local => sc.names.lookup p.1 == some .local
    | _ => true) && N'.length == sel.length && ((N'.zip sel).all fun p => match p.2 with
      | none => true
      | some j => N[j]? == some p.1 && sc.names.lookup p.1 == some .free)
def selS (sel : List (Option Nat)) (σ : St) : St := sel.map fun o => o.bind fun j => (σ[j]?).join

def cxComp (X : Cx) (N' : List Str) (scope : Scope) (C : Addr) (s : Shared) (H : Hp) (fp : List Addr) (pn : List (Addr × Obj)) : Cx where
  prog := X.prog
  w := X.w
  K := X.K
  mg := X.mg
  base := X.base
  A := X.A
  N := N'
  s₀ := s
  H₀ := H
  env := compEnvC scope (closL X.env.cells scope.names []) C X.env
  outer := X.stack
  stack := X.stack
  ex := fp
  fn := fun x => decide (scope.names.lookup x = some NameKind.local)
  calm := X.calm
  pn := pn
  xe := fun _ _ => False

section
variable {X : Cx} {pins : List (Addr × Obj)} {σ : St} {H : Hp} {s : Shared}

structure ChkOk (X : Cx) (sc : Scope) (N' : List Str) (sel : List (Option Nat)) : Prop where
  fr : ∀ x, (x, NameKind.free) ∈ sc.names → (X.env.kindOf x = some .cell ∨ X.env.kindOf x = some .free) ∧ sc.names.lookup x = some .free
  nc : ∀ y ∈ sc.names, y.2 ≠ NameKind.cell
  lo : ∀ y ∈ sc.names, y.2 = NameKind.local → sc.names.lookup y.1 = some .local
  ln : N'.length = sel.length
  sl : ∀ (i : Nat) (x : Str) (j : Nat), N'[i]? = some x → sel[i]? = some (some j) → X.N[j]? = some x ∧ sc.names.lookup x = some .free
theorem chk_ok {sc : Scope} {N' : List Str} {sel : List (Option Nat)} (h : compChk sc X.env.scope X.N N' sel = true) : ChkOk X sc N' sel := by
  unfold compChk at h
  simp only [Bool.and_eq_true] at h
  obtain ⟨⟨h1, h2⟩, h3⟩ := h
  rw [List.all_eq_true] at h1 h3
  refine ⟨fun x hx => ?_, fun y hy e => ?_, fun y hy e => ?_, by simpa using h2, fun i x j e1 e2 => ?_⟩
  · have := h1 _ hx
    simp only [Bool.and_eq_true, Bool.or_eq_true, beq_iff_eq] at this
    exact this
  · have := h1 _ hy
    rw [e] at this
    simp at this
  · have := h1 _ hy
    rw [e] at this
    simpa using this
  · have hm : (x, some j) ∈ N'.zip sel := by
      refine List.mem_of_getElem? (i := i) ?_
      rw [List.getElem?_zip_eq_some]
      exact ⟨e1, e2⟩
    have := h3 _ hm
    simp only [Bool.and_eq_true, beq_iff_eq] at this
    exact this

theorem clos_cells (I : Inv X pins σ H s) {sc : Scope} {N' : List Str} {sel : List (Option Nat)} (k : ChkOk X sc N' sel) :
    (∀ x, (x, NameKind.free) ∈ sc.names → ∃ c, X.env.cells.lookup x = some c) ∧ (∀ x c, (closL X.env.cells sc.names []).lookup x = some c → X.env.cells.lookup x = some c ∧ (x, NameKind.free) ∈ sc.names) := by
  have a : ∀ x, (x, NameKind.free) ∈ sc.names → ∃ c, X.env.cells.lookup x = some c := fun x hx => I.ok.has x (k.fr x hx).1
  refine ⟨a, fun x c h => ?_⟩
  rcases closL_sub _ _ h with h | ⟨h, e⟩
  · simp at h
  · obtain ⟨c', hc⟩ := a x h
    rw [hc] at e
    exact ⟨by rw [hc, e]; rfl, h⟩

theorem inv_block (I : Inv X pins σ H s) {scope : Scope} {N' : List Str} {sel : List (Option Nat)} {C : Addr} {fp : List Addr} {h₁ : Heap} {t' : Nat} {m : Str → Option Value} (hk : scope.kind = .function)
    (k : ChkOk X scope N' sel) (hC : s.heap.objs.size ≤ C) (hf : ∀ b ∈ fp, FpOk X pins H b) (hfl : ∀ b ∈ fp, b < s.heap.objs.size) (hns : h₁.Ns C m) (hkeep : ∀ b o, s.heap.get? b = some o → h₁.get? b = some o) :
    Inv (cxComp X N' scope C s H fp (X.pn ++ pins)) [] (selS sel σ) H { s with heap := h₁, toks := t' } := by
  obtain ⟨cl1, cl2⟩ := clos_cells I k
  have lkf : ∀ x, scope.names.lookup x = some .free → (relabel scope X.env).names.lookup x = some .cell ∨ (relabel scope X.env).names.lookup x = some .free := fun x hx => lookup_relabel_free hx
  have hfr : ∀ x, (relabel scope X.env).names.lookup x = some .cell ∨ (relabel scope X.env).names.lookup x = some .free → (x, NameKind.free) ∈ scope.names := fun x hx => by
    rcases hx with hx | hx
    · rcases lookup_relabel_back hx with h | ⟨_, h⟩
      · exact absurd rfl (k.nc _ (PySem.mem_of_lookup h))
      · exact PySem.mem_of_lookup h
    · rcases lookup_relabel_back hx with h | ⟨e, h⟩
      · exact PySem.mem_of_lookup h
      · exact PySem.mem_of_lookup h
  refine ⟨⟨I.ok.mod, hk, I.ok.glob, I.ok.blt, hC, fun x y c h1 h2 => ?_, fun x hx => ?_, fun x c h1 h2 => ?_, I.ok.hd, I.ok.frames, .inl rfl, fun b hb => ?_, I.bs, Nat.le_trans I.ok.bsz I.sz, fun b o e hb => ?_, fun b hb hb2 => ?_, I.stack, I.stkFree⟩,
    rfl, I.bare, Un.kept hkeep, ⟨m, hns, fun i x v e1 e2 e3 => ?_⟩, fun x c h => ?_, I.hok.fresh hC, fun x c h => ?_, fun p hp => ?_, I.hok.kept hkeep, ?_⟩
  · exact I.ok.inj x y c (cl2 x c h1).1 (cl2 y c h2).1
  · exact closL_has _ _ (hfr x hx)
  · have h1' : scope.names.lookup x = some NameKind.local := of_decide_eq_true h1
    have := (k.fr x (cl2 x c h2).2).2
    rw [h1'] at this
    cases this
  · refine ⟨Nat.ne_of_lt (Nat.lt_of_lt_of_le (hfl b hb) hC), fun x c h => ?_⟩
    exact (hf b hb).2.2.2.2.1 x c (cl2 x c h).1
  · rcases (hf b hb).2.2.2.1 with z | z
    · exact I.ok.noex b o e z
    · exact absurd (Nat.lt_of_lt_of_le (Heap.lt_size e) (Nat.le_trans I.ok.bsz z)) (Nat.lt_irrefl _)
  · rcases List.mem_cons.mp (I.stkSub b hb2) with z | z
    · exact (hf b hb).2.1 z
    · exact (hf b hb).2.2.1 z
  · -- a free name
    have e2' : sel[i]?.map (fun o => o.bind fun j => (σ[j]?).join) = some (some v) := by
      have := e2
      unfold selS at this
      rwa [List.getElem?_map] at this
    cases hs : sel[i]? with
    | none => rw [hs] at e2'; cases e2'
    | some o =>
      rw [hs] at e2'
      cases o with
      | none => cases e2'
      | some j =>
        have e4 : (σ[j]?).join = some v := Option.some.inj e2'
        have e5 : σ[j]? = some (some v) := by
          cases q : σ[j]? with
          | none => rw [q] at e4; cases e4
          | some r => rw [q] at e4; rw [show r = some v from e4]
        obtain ⟨hX, hl⟩ := k.sl i x j e1 hs
        obtain ⟨kk, _⟩ := k.fr x (PySem.mem_of_lookup hl)
        obtain ⟨m0, _, hloc⟩ := I.loc
        obtain ⟨u, ru, lu⟩ := hloc j x v hX e5 (kk.elim (fun z => .inr (.inl z)) fun z => .inr (.inr z))
        refine ⟨u, ru, ?_⟩
        rcases lu with ⟨z, _⟩ | ⟨_, c, hc, hcell⟩
        · rcases kk with y | y <;> (rw [z] at y; cases y)
        · refine .inr ⟨lkf x hl, c, ?_, hcell.keeps hkeep⟩
          obtain ⟨c', hc'⟩ := closL_has (cells := X.env.cells) scope.names [] (PySem.mem_of_lookup hl)
          have := (cl2 x c' hc').1
          rw [hc] at this
          cases this
          exact hc'
  · obtain ⟨v, z⟩ := I.cell x c (cl2 x c h).1
    exact ⟨v, z.keeps hkeep⟩
  · exact I.freeC x c (cl2 x c h).1
  · have hp' : p ∈ X.pn ++ pins := by
      have : p ∈ (X.pn ++ pins) ++ [] := hp
      rwa [List.append_nil] at this
    obtain ⟨e, n, ne, nf, d⟩ := I.pin p hp'
    refine ⟨hkeep _ _ e, n, Nat.ne_of_lt (Nat.lt_of_lt_of_le (Heap.lt_size e) hC), fun z => ?_, d⟩
    rcases List.mem_cons.mp (I.stkSub _ z) with z | z
    · exact ne z
    · exact nf z
  · show (sel.map _).length = N'.length
    rw [List.length_map]
    exact k.ln.symm

def PTs (X : Cx) (ifs : List Expr) (t : TT) : Prop :=
  ∀ (pins : List (Addr × Obj)) (s : Shared) (σ : St) (H : Hp) (Q : Bool → Hp → Prop), Inv X pins σ H s → t σ H Q →
    wpAny (model X.prog X.w) X.A (forIn ifs true fun c r => if r = true then do let ok ← isTrue c X.env (eval c X.env); pure (ForInStep.yield ok) else pure (ForInStep.yield r)) (TP X pins σ Q) X.xe s
def tTrue : TT := fun _ H Q => Q true H
theorem pts_nil : PTs X [] tTrue := fun _ _ _ H _ I h => wpAny_tests_nil ⟨H, I, h⟩
theorem pts_one {c : Expr} {t : TT} (h : PT X c t) : PTs X [c] t := fun pins s σ H Q I q => wpAny_tests_one (h pins s σ H Q I q)

theorem compLoop_any {prog : Program} {w : World} {A : Around} {R : Result → Shared → Prop} {s : Shared} {elt target iter : Expr} {ifs : List Expr} {scope : Scope} {pos : Pos} {it acc : Value} {env : Env} (I : Nat → Shared → Prop)
    (turn : ∀ n s, I n s → wpAny (model prog w) A (pyNext it) (fun r s₁ => match r with
      | none => R (.ok .next) s₁
      | some v => wpAny (model prog w) A (letOwnedTupleGo target it v) (fun _ s₁' => wpAny (model prog w) A (assign target env v) (fun _ s₂ =>
          wpAny (model prog w) A (forIn ifs true fun c r => if r = true then do let ok ← isTrue c env (eval c env); pure (ForInStep.yield ok) else pure (ForInStep.yield r)) (fun ok s₃ =>
            if ok = true then wpAny (model prog w) A (eval elt env) (fun x s₄ =>
              wpAny (model prog w) A (call (.builtin "list.append") [acc, x]) (fun _ s₅ => ∃ m, m < n ∧ I m s₅) (notedBy (model prog w) A env fun e s' => R (.error e) s') s₄) (notedBy (model prog w) A env fun e s' => R (.error e) s') s₃
            else ∃ m, m < n ∧ I m s₃) (notedBy (model prog w) A env fun e s' => R (.error e) s') s₂) (notedBy (model prog w) A env fun e s' => R (.error e) s') s₁') (notedBy (model prog w) A env fun e s' => R (.error e) s') s₁) (notedBy (model prog w) A env fun e s' => R (.error e) s') s)
    (n : Nat) (h : I n s) :
    codeAny (model prog w) A (.compLoop (.ListComp elt [⟨target, iter, ifs, 0⟩] scope pos) 0 it acc env) R s := by
  refine codeAny_loop rfl I (fun n s hI => ?_) n h
  show wpAny _ A ((compTurn (.ListComp elt [⟨target, iter, ifs, 0⟩] scope pos) 0 it acc env).onRaise (fun x => do noteFrame x env; theTreesLotGoes x)) _ _ s
  refine wpAny_noted ?_
  rw [compTurn_list]
  refine wpAny_bind (wpAny_standAt (wpAny_bind (wpAny_mono (turn n s hI) (fun r s₁ h₁ => ?_) fun _ _ h' => h')))
  cases r with
  | none => exact wpAny_pure h₁
  | some v =>
    refine wpAny_bind (wpAny_mono h₁ (fun _ s₁' h₁' => ?_) fun _ _ h' => h')
    refine wpAny_bind (wpAny_mono h₁' (fun _ s₂ h₂ => wpAny_bind (wpAny_mono h₂ (fun ok s₃ h₃ => ?_) fun _ _ h' => h')) fun _ _ h' => h')
    cases ok with
    | false => exact wpAny_pure ⟨rfl, h₃⟩
    | true =>
      exact wpAny_bind (wpAny_bind (wpAny_mono h₃ (fun x s₄ h₄ => wpAny_bind (wpAny_mono h₄ (fun _ s₅ h₅ => wpAny_pure (wpAny_pure ⟨rfl, h₅⟩)) fun _ _ h' => h')) fun _ _ h' => h'))

def lcTurn (sel : List (Option Nat)) (g : TG) (tt : TT) (te : TE) (σ : St) (J : It) (W : Nat → Nat → List V → Hp → Prop) (Q : List V → Hp → Prop) : Prop :=
  ∀ i m ys H, W i m ys H → (J.stop i H ∧ Q ys H) ∨
    (J.go i H ∧ ys.length < sizeLine ∧ ∃ N : List V → Hp → Prop, (∀ ys' H', N ys' H' → ∃ m', m' < m ∧ W (i + 1) m' ys' H') ∧
      ∀ x H', J.yld i H x H' → g x (selS sel σ) H' fun σ2 H2 => tt σ2 H2 fun b H3 => if b = true then te σ2 H3 fun y H4 => N (ys ++ [y]) H4 else N ys H3)

def GKeeps (sel : List (Option Nat)) (g : TG) : Prop := ∀ (σ : St) (x : V) (H : Hp) (Q : St → Hp → Prop), g x (selS sel σ) H Q → g x (selS sel σ) H fun σ2 H2 => (∀ (i : Nat) v, (selS sel σ)[i]? = some (some v) → σ2[i]? = some (some v)) ∧ Q σ2 H2
theorem sel_none {sel : List (Option Nat)} {i : Nat} {σ : St} {v : V} (h : sel[i]? = some none) : ¬ (selS sel σ)[i]? = some (some v) := fun e => by
  unfold selS at e
  rw [List.getElem?_map, h] at e
  cases e
theorem set_keeps {sel : List (Option Nat)} {i : Nat} {σ σ2 : St} {x : V} (h : sel[i]? = some none) (k : ∀ (j : Nat) v, (selS sel σ)[j]? = some (some v) → σ2[j]? = some (some v)) :
    ∀ (j : Nat) v, (selS sel σ)[j]? = some (some v) → (σ2.set i (some x))[j]? = some (some v) := fun j v e => by
  by_cases hj : i = j
  · subst hj; exact absurd e (sel_none h)
  · rw [List.getElem?_set_ne hj]; exact k j v e
theorem gk_name {sel : List (Option Nat)} {i : Nat} (h : sel[i]? = some none) : GKeeps sel (gName i) := fun _ _ _ _ q => ⟨set_keeps h fun _ _ e => e, q⟩
theorem gk_two {K : PySem.W.Frag} {sel : List (Option Nat)} {i j : Nat} (h : sel[i]? = some none) (h' : sel[j]? = some none) : GKeeps sel (gTup K 2 (gCons (gName i) (gCons (gName j) gNil))) := fun σ x H Q q => by
  obtain ⟨a, xs, e1, e2, e3, v, r, e4, v2, r2, e5, e6, q⟩ := q
  exact ⟨a, xs, e1, e2, e3, v, r, e4, v2, r2, e5, e6, set_keeps h' (set_keeps h fun _ _ e => e), q⟩

theorem lc_block {elt tg iter : Expr} {ifs : List Expr} {scope : Scope} {pos : Pos} {N' : List Str} {sel : List (Option Nat)} {g : TG} {tt : TT} {te : TE} {it : Addr} {fp : List Addr} {tn : Nat → Heap → Prop} {J : It}
    {W : Nat → Nat → List V → Hp → Prop} {Qe : List V → Hp → Prop} {RR : Value → Addr → Result → Shared → Prop} {E : Value → Shared → Prop} {m0 : Nat}
    (hc : X.calm = true) (hk : scope.kind = .function) (k : ChkOk X scope N' sel) (I : Inv X pins σ H s) (T : Turn X.prog X.w X.K tg J fp it tn) (st : tn 0 s.heap) (f2 : ∀ b ∈ fp, FpOk X pins H b)
    (hb : ∀ (C : Addr) (s : Shared) (H : Hp) (fp : List Addr) (pn : List (Addr × Obj)), PG (cxComp X N' scope C s H fp pn) tg g ∧ PTs (cxComp X N' scope C s H fp pn) ifs tt ∧ PE (cxComp X N' scope C s H fp pn) elt te)
    (hgk : GKeeps sel g) (w0 : W 0 m0 [] H) (turn : lcTurn sel g tt te σ J W Qe)
    (hRR : ∀ (D C : Addr) (s' : Shared) (H' : Hp) (ys : List V) (m : Str → Option Value), H' D = none → Inv X pins σ (upd H' D (.lst ys)) s' → s'.heap.Ns C m → FpOk X pins (upd H' D (.lst ys)) C → Qe ys H' → RR (.ref D) C (.ok .next) s') :
    wpAny (model X.prog X.w) X.A (newList []) (fun acc s₃ => wpAny (model X.prog X.w) X.A (newFunctionEnv scope X.env.globals (closL X.env.cells scope.names []) [] X.env.qual none .none (some X.env)) (fun cenv s₄ =>
      codeAny (model X.prog X.w) X.A (.compStart (.ListComp elt [⟨tg, iter, ifs, 0⟩] scope pos) 0 (.ref it) acc { cenv with scope := relabel scope X.env }) (RR acc cenv.locals) s₄) E s₃) E s := by
  refine wpAny_newObj_type (wpAny_newFunctionEnv k.nc (by intro y hy; simp at hy) (fun h₁ hns₁ hsb₁ => ?_) hk)
  dsimp only at hns₁ hsb₁ ⊢
  generalize hH2 : s.heap.push { cls := .type "list", dict := none, data := .seq ([] : List Value).toArray } = H2 at hns₁ hsb₁ ⊢
  have hC : H2.objs.size = s.heap.objs.size + 1 := by rw [← hH2, Heap.size_push]
  have hDC : s.heap.objs.size ≠ H2.objs.size := by rw [hC]; exact Nat.ne_of_lt (Nat.lt_succ_self _)
  have hCle : s.heap.objs.size ≤ H2.objs.size := by rw [hC]; exact Nat.le_succ _
  have below : ∀ b, b < s.heap.objs.size → b ≠ H2.objs.size ∧ b ≠ s.heap.objs.size := fun b hb => ⟨by rw [hC]; exact Nat.ne_of_lt (Nat.lt_succ_of_lt hb), Nat.ne_of_lt hb⟩
  have old : ∀ b o, s.heap.get? b = some o → h₁.get? b = some o := fun b o e => hsb₁.extBut b o (below b (Heap.lt_size e)).1 (Heap.get?_push_of_some _ (hH2 ▸ Heap.get?_push_of_some _ e))
  have hacc : h₁.get? s.heap.objs.size = some { cls := .type "list", data := .seq ([] : List Value).toArray } := hsb₁.extBut _ _ hDC (Heap.get?_push_of_some _ (hH2 ▸ Heap.get?_push_size _ rfl))
  have hfl : ∀ b ∈ fp, b < s.heap.objs.size := fun b hb => let ⟨_, e, _⟩ := T.obj 0 _ st b hb; Heap.lt_size e
  have hst₁ : tn 0 h₁ := T.keep _ _ _ st fun b _ o e => old b o e
  generalize hDe : s.heap.objs.size = D at hDC hCle below hacc hfl ⊢
  generalize hCe : H2.objs.size = C at hns₁ hsb₁ hC hDC hCle below ⊢
  have fD : ∀ {H' : Hp}, H' D = none → FpOk X pins H' D := fun hn => I.fpOk (by rw [hDe]; exact Nat.le_refl _) hn
  have fC : ∀ {H' : Hp}, H' C = none → FpOk X pins H' C := fun hn => I.fpOk (by rw [hDe]; exact hCle) hn
  have HD : H D = none := I.hok.fresh (by rw [hDe]; exact Nat.le_refl _)
  -- the pin of the new list, in the block
  have pinD : ∀ {o : Obj} {σ' : St} {H' : Hp} {s' : Shared} {ps : List (Addr × Obj)}, Inv (cxComp X N' scope C s H fp (X.pn ++ pins)) ps σ' H' s' → s'.heap.get? D = some o → H' D = none → (∀ v, o.data ≠ .cell v) →
      Inv (cxComp X N' scope C s H fp (X.pn ++ pins)) (ps ++ [(D, o)]) σ' H' s' := fun {o σ' H' s' ps} J1 e n d => by
    refine J1.pins_of fun p hp => ?_
    rcases List.mem_append.mp hp with hp | hp
    · exact J1.pin p (List.mem_append_right _ hp)
    · rw [List.mem_singleton.mp hp]
      refine ⟨e, n, hDC, fun z => ?_, d⟩
      rcases List.mem_cons.mp (I.stkSub D z) with z | z
      · exact (fD HD).2.1 z
      · exact (fD HD).2.2.1 z
  have loop : ∀ s₃ : Shared, s₃ = { s with heap := h₁, toks := s.toks + ([] : List (Str × Value)).length } →
      codeAny (model X.prog X.w) X.A (.compLoop (.ListComp elt [⟨tg, iter, ifs, 0⟩] scope pos) 0 (.ref it) (.ref D) (compEnvC scope (closL X.env.cells scope.names []) C X.env)) (RR (.ref D) C) s₃ := by
    rintro s₃ rfl
    have I4 : Inv (cxComp X N' scope C s H fp (X.pn ++ pins)) [] (selS sel σ) H { s with heap := h₁, toks := s.toks + ([] : List (Str × Value)).length } :=
      inv_block I hk k (by rw [hDe]; exact hCle) f2 (fun b hb => by rw [hDe]; exact hfl b hb) hns₁ old
    refine compLoop_any (fun n s' => ∃ i H' ys its nn, Inv (cxComp X N' scope C s H fp (X.pn ++ pins)) [] (selS sel σ) H' s' ∧ tn i s'.heap ∧ (∀ b ∈ fp, H' b = none) ∧ H' D = none ∧
      s'.heap.get? D = some { cls := .type "list", data := .seq (List.toArray its) nn } ∧ Vals ys its ∧ ys.length ≤ sizeLine ∧ W i n ys H') ?_ m0 ⟨0, H, [], [], 0, I4, hst₁, fun b hb => (f2 b hb).1, HD, hacc, .nil, Nat.zero_le _, w0⟩
    rintro n s3 ⟨i, H3, ys, its, nn, I3, st3, fr3, hD3, o3, v3, z3, w3⟩
    have I3' := pinD I3 o3 hD3 (fun v z => by cases z)
    have stat : ∀ {ps : List (Addr × Obj)} {H' : Hp}, (∀ p ∈ ps, p.1 = D) → (∀ b ∈ fp, H' b = none) → ∀ b ∈ fp, FpOk (cxComp X N' scope C s H fp (X.pn ++ pins)) ps H' b := fun {ps H'} hps hn b hb => by
      obtain ⟨a0, a1, a2, a3, a4, a5⟩ := f2 b hb
      refine ⟨hn b hb, Nat.ne_of_lt (Nat.lt_of_lt_of_le (hfl b hb) hCle), fun z => ?_, .inl hb, fun x c h => a4 x c ((clos_cells I k).2 x c h).1, fun p hp => ?_⟩
      · rcases List.mem_cons.mp (I.stkSub b z) with z | z
        · exact a1 z
        · exact a2 z
      · rcases List.mem_append.mp hp with hp | hp
        · exact a5 p hp
        · rw [hps p hp]
          exact (Nat.ne_of_lt (hfl b hb)).symm
    rcases turn i n ys H3 w3 with ⟨stop, qe⟩ | ⟨go, hz, Nn, hNn, step⟩
    · refine noE (thn (T.done (cxComp X N' scope C s H fp (X.pn ++ pins)) rfl rfl rfl hc i _ s3 _ H3 _ I3' (stat (fun p hp => by have : p ∈ [] ++ [(D, _)] := hp; rw [List.nil_append] at this; rw [List.mem_singleton.mp this]) fr3) st3 stop) fun r s4 ⟨hr, J4⟩ => ?_)
      subst hr
      obtain ⟨m4, n4, _⟩ := id J4.loc
      have o4 := (J4.pin (D, _) (List.mem_append_right _ (List.mem_append_right _ (List.mem_singleton.mpr rfl)))).1
      have hC4 : H3 C = none := J4.free
      have hDC' : C ≠ D := Ne.symm hDC
      refine hRR D C s4 H3 ys m4 hD3 (I.call' (ch := fp) J4.os ?_ ?_ J4.bare (fun b hb => ?_)) n4 (fC (by rw [upd_ne hDC']; exact hC4)) qe
      · have u := J4.base
        have nD : ∀ b o, s.heap.get? b = some o → b ≠ D := fun b o e => by rw [← hDe]; exact Nat.ne_of_lt (Heap.lt_size e)
        have nD2 : ∀ b o, H b = some o → b ≠ D := fun b o e => ne_of_none e HD
        exact ⟨u.keep, u.slot, fun b o e n hx => by rw [upd_ne (nD b o e)]; exact u.free b o e n hx, u.there, fun b xs e => by rw [upd_ne (nD2 b _ e)]; exact u.tups b xs e,
          fun b o w e => by rw [upd_ne (nD2 b _ e)]; exact u.frzs b o w e, fun b ps e => by rw [upd_ne (nD2 b _ e)]; exact u.tbls b ps e⟩
      · intro b o e
        by_cases hbD : b = D
        · subst hbD
          rw [upd_same] at e
          cases e
          exact ⟨z3, its, nn, v3, o4⟩
        · rw [upd_ne hbD] at e
          exact (J4.hok b o e).stay (fun c u _ q => q) (fun c q => by rw [upd_ne (ne_of_none q hD3)]; exact q) fun c xs q => by rw [upd_ne (ne_of_none q hD3)]; exact q
      · obtain ⟨a0, a1, a2, a3, a4, a5⟩ := f2 b hb
        exact ⟨a3, a1, a4, a5⟩
    · refine noE (thn (T.item (cxComp X N' scope C s H fp (X.pn ++ pins)) rfl rfl rfl hc i _ s3 _ H3 _ I3' (stat (fun p hp => by have : p ∈ [] ++ [(D, _)] := hp; rw [List.nil_append] at this; rw [List.mem_singleton.mp this]) fr3) st3 go) fun r s4 ⟨u, hr, h4⟩ => ?_)
      subst hr
      refine noE (thn h4 fun _ s5 ⟨x, H5, I5, r5, y5, st5, fr5⟩ => ?_)
      obtain ⟨hb1, hb2, hb3⟩ := hb C s H fp (X.pn ++ pins)
      have I5' := I5.pinned (stat (fun p hp => by have : p ∈ [] ++ [(D, _)] := hp; rw [List.nil_append] at this; rw [List.mem_singleton.mp this]) fr5) (T.obj _ _ st5)
      refine noE (thn (hb1 _ s5 _ H5 x u _ I5' r5 (hgk _ _ _ _ (step x H5 y5))) fun _ s6 ⟨σ6, H6, I6, hw6, q6⟩ => ?_)
      refine noE (thn (hb2 _ s6 σ6 H6 _ I6 q6) fun ok s7 ⟨H7, I7, q7⟩ => ?_)
      -- what stands behind the turn
      have back : ∀ {σ8 : St} {H8 : Hp} {s8 : Shared}, Inv (cxComp X N' scope C s H fp (X.pn ++ pins)) (([] ++ [(D, { cls := .type "list", data := .seq (List.toArray its) nn })]) ++ pinsAt fp s5.heap) σ8 H8 s8 →
          tn (i + 1) s8.heap ∧ (∀ b ∈ fp, H8 b = none) ∧ H8 D = none ∧ s8.heap.get? D = some { cls := .type "list", data := .seq (List.toArray its) nn } := fun {σ8 H8 s8} J8 => by
        refine ⟨T.keep _ _ _ st5 fun b hb o e => (J8.pin (b, o) (List.mem_append_right _ (List.mem_append_right _ (mem_pinsAt hb e)))).1, fun b hb => ?_, ?_, ?_⟩
        · obtain ⟨o, e, d⟩ := T.obj _ _ st5 b hb
          exact (J8.pin (b, o) (List.mem_append_right _ (List.mem_append_right _ (mem_pinsAt hb e)))).2.1
        · exact (J8.pin (D, _) (List.mem_append_right _ (List.mem_append_left _ (List.mem_append_right _ (List.mem_singleton.mpr rfl))))).2.1
        · exact (J8.pin (D, _) (List.mem_append_right _ (List.mem_append_left _ (List.mem_append_right _ (List.mem_singleton.mpr rfl))))).1
      have weak : ∀ {H8 : Hp} {s8 : Shared} {ps : List (Addr × Obj)}, Inv (cxComp X N' scope C s H fp (X.pn ++ pins)) ps σ6 H8 s8 → Inv (cxComp X N' scope C s H fp (X.pn ++ pins)) [] (selS sel σ) H8 s8 := fun {H8 s8 ps} J8 =>
        (J8.pins_of (pins' := []) fun p hp => by simp at hp).weak (by rw [J8.len]; exact I4.len) hw6
      cases ok with
      | false =>
        obtain ⟨st8, fr8, hD8, o8⟩ := back I7
        obtain ⟨m', hm, w8⟩ := hNn ys H7 q7
        exact ⟨m', hm, i + 1, H7, ys, its, nn, weak I7, st8, fr8, hD8, o8, v3, z3, w8⟩
      | true =>
        refine noE (thn (hb3 _ s7 σ6 H7 _ I7 q7) fun y s8 ⟨yv, H8, I8, ry, q8⟩ => ?_)
        obtain ⟨st8, fr8, hD8, o8⟩ := back I8
        obtain ⟨m', hm, w8⟩ := hNn _ _ q8
        have hl := v3.length
        refine call_meets F.slot_list_append ⟨_, o8, rfl⟩ F.entry_list_append (F.args_list_append_2 _ _) (PySem.list_append D (List.toArray its) nn y (by rw [List.size_toArray]; omega)) ⟨o8, ?_⟩
        have q := PySem.IsL.update o8 (fun z => z.push y)
        rw [show (List.toArray its).push y = (its ++ [y]).toArray by simp] at q
        have kp : ∀ b o, b ≠ D → s8.heap.get? b = some o → (s8.heap.update D (Obj.mapSeq fun z => z.push y)).get? b = some o := fun b o hb e => (Heap.get?_update_other s8.heap (Obj.mapSeq fun z => z.push y) (Ne.symm hb)).trans e
        refine ⟨m', hm, i + 1, H8, ys ++ [yv], its ++ [y], _, (weak I8).turned (t' := s8.toks) kp hD8 hDC (.inr (by show s.heap.objs.size ≤ D; rw [hDe]; exact Nat.le_refl _)) (fun x c h => (fD HD).2.2.2.2.1 x c ((clos_cells I k).2 x c h).1) (fun p hp => (fD HD).2.2.2.2.2 p (by have : p ∈ (X.pn ++ pins) ++ [] := hp; rwa [List.append_nil] at this)),
          T.keep _ _ _ st8 (fun b hb o e => kp b o (Nat.ne_of_lt (hfl b hb)) e), fr8, hD8, q, v3.append (.cons ry .nil), ?_, w8⟩
        rw [List.length_append, List.length_singleton]
        omega
  exact codeAny_compStart_list (loop _ rfl) (T.self _ 0 _ _ _ hst₁ (loop _ rfl))

def tLc (sel : List (Option Nat)) (wi : TI) (g : TG) (tt : TT) (te : TE) : TE := fun σ H Q => wi σ H fun J H1 => ∃ W : Nat → Nat → List V → Hp → Prop, (∃ m, W 0 m [] H1) ∧
  lcTurn sel g tt te σ J W fun ys H => ∀ D, H D = none → Q (.ref D) (upd H D (.lst ys))
theorem pe_lc {elt tg iter : Expr} {ifs : List Expr} {scope : Scope} {pos : Pos} {wi : TI} {N' : List Str} {sel : List (Option Nat)} {g : TG} {tt : TT} {te : TE}
    (hc : X.calm = true) (hk : scope.kind = .function) (chk : compChk scope X.env.scope X.N N' sel = true) (hi : PI X tg iter wi) (hgk : GKeeps sel g)
    (hb : ∀ (C : Addr) (s : Shared) (H : Hp) (fp : List Addr) (pn : List (Addr × Obj)), PG (cxComp X N' scope C s H fp pn) tg g ∧ PTs (cxComp X N' scope C s H fp pn) ifs tt ∧ PE (cxComp X N' scope C s H fp pn) elt te)
    (hs : ∀ x, foldedSetIterable iter X.env x = pure x := by intro _; rfl) : PE X (.ListComp elt [⟨tg, iter, ifs, 0⟩] scope pos) (tLc sel wi g tt te) := by
  intro pins s σ H Q I h
  have k := chk_ok chk
  rw [eval_ListComp]
  refine wpAny_comprehension_free (use := none) rfl hs (closureFor_free (clos_cells I k).1) hk k.lo (thn (hi pins s σ H _ I h) fun v s1 h1 => thn h1 fun itv s2 h2 => ?_)
  obtain ⟨it, fp, tn, J, H2, e, I2, T, st2, f2, W, ⟨m0, w0⟩, turn⟩ := h2
  subst e
  refine lc_block (RR := fun acc C => compPost (model X.prog X.w) X.A X.xe none (EP X pins σ Q) acc C) hc hk k I2 T st2 f2 hb hgk w0 turn ?_
  intro D C s' H' ys m hD I' hns fC q
  refine ⟨m, hns, fun h' hs' => ⟨.ref D, _, I'.turned (t' := s'.toks) (fun b o hb e => (hs'.2 b hb).trans e) fC.1 fC.2.1 fC.2.2.2.1 fC.2.2.2.2.1 fC.2.2.2.2.2, rfl, q D hD⟩⟩

theorem lc_list {K : PySem.W.Frag} {a : Addr} {xs : List V} {sel : List (Option Nat)} {g : TG} {tt : TT} {te : TE} {σ : St} {H : Hp} {Qe : List V → Hp → Prop} (Pv : Nat → List V → Hp → Prop) (h0 : Pv 0 [] H)
    (hl : ∀ i ys H, i ≤ xs.length → Pv i ys H → SqL K H a xs ∧ ys.length ≤ i) (hz : xs.length ≤ sizeLine)
    (hs : ∀ i x ys H, xs[i]? = some x → Pv i ys H → g x (selS sel σ) H fun σ2 H2 => tt σ2 H2 fun b H3 => if b = true then te σ2 H3 fun y H4 => Pv (i + 1) (ys ++ [y]) H4 else Pv (i + 1) ys H3)
    (hd : ∀ ys H, Pv xs.length ys H → Qe ys H) : ∃ W : Nat → Nat → List V → Hp → Prop, (∃ m, W 0 m [] H) ∧ lcTurn sel g tt te σ (Itl K a) W Qe := by
  refine ⟨fun i m ys H => m = xs.length - i ∧ i ≤ xs.length ∧ Pv i ys H, ⟨_, rfl, Nat.zero_le _, h0⟩, ?_⟩
  rintro i m ys H ⟨rfl, hi, p⟩
  obtain ⟨hS, hy⟩ := hl i ys H hi p
  by_cases e : i = xs.length
  · subst e
    exact .inl ⟨⟨xs, hS, Nat.le_refl _⟩, hd _ _ p⟩
  · have hlt : i < xs.length := Nat.lt_of_le_of_ne hi e
    refine .inr ⟨⟨xs, xs[i], hS, by simp [hlt]⟩, by omega, Pv (i + 1), fun ys' H' p' => ⟨xs.length - (i + 1), by omega, rfl, hlt, p'⟩, ?_⟩
    rintro x H' ⟨rfl, hx⟩
    exact hs i x ys H' (hx xs hS) p
theorem lc_range {lo : Int} {n : Nat} {sel : List (Option Nat)} {g : TG} {tt : TT} {te : TE} {σ : St} {H : Hp} {Qe : List V → Hp → Prop} (Pv : Nat → List V → Hp → Prop) (h0 : Pv 0 [] H)
    (hl : ∀ i ys H, i ≤ n → Pv i ys H → ys.length ≤ i) (hz : n ≤ sizeLine)
    (hs : ∀ i ys H, i < n → Pv i ys H → g (.int (lo + i)) (selS sel σ) H fun σ2 H2 => tt σ2 H2 fun b H3 => if b = true then te σ2 H3 fun y H4 => Pv (i + 1) (ys ++ [y]) H4 else Pv (i + 1) ys H3)
    (hd : ∀ ys H, Pv n ys H → Qe ys H) : ∃ W : Nat → Nat → List V → Hp → Prop, (∃ m, W 0 m [] H) ∧ lcTurn sel g tt te σ (Itr lo n) W Qe := by
  refine ⟨fun i m ys H => m = n - i ∧ i ≤ n ∧ Pv i ys H, ⟨_, rfl, Nat.zero_le _, h0⟩, ?_⟩
  rintro i m ys H ⟨rfl, hi, p⟩
  have hy := hl i ys H hi p
  by_cases e : i = n
  · subst e
    exact .inl ⟨Nat.le_refl _, hd _ _ p⟩
  · have hlt : i < n := Nat.lt_of_le_of_ne hi e
    refine .inr ⟨hlt, by omega, Pv (i + 1), fun ys' H' p' => ⟨n - (i + 1), by omega, rfl, hlt, p'⟩, ?_⟩
    rintro x H' ⟨rfl, rfl⟩
    exact hs i ys H' hlt p

def tSetLc (i : Nat) (sel : List (Option Nat)) (wi : TI) (g : TG) (tt : TT) (te : TE) : TS := fun D σ H => wi σ H fun J H1 => ∃ W : Nat → Nat → List V → Hp → Prop, (∃ m, W 0 m [] H1) ∧
  lcTurn sel g tt te σ J W fun ys H => ∀ l, H l = none → D.nx (σ.set i (some (.ref l))) (upd H l (.lst ys))
theorem ps_setLc {i : Nat} {x : Str} {elt tg iter : Expr} {ifs : List Expr} {scope : Scope} {pos pos' spos : Pos} {wi : TI} {N' : List Str} {sel : List (Option Nat)} {g : TG} {tt : TT} {te : TE}
    (hN : X.N.Nodup) (hi' : X.N[i]? = some x) (hx : Loc X.env.scope x)
    (hc : X.calm = true) (hk : scope.kind = .function) (chk : compChk scope X.env.scope X.N N' sel = true) (hi : PI X tg iter wi) (hgk : GKeeps sel g)
    (hb : ∀ (C : Addr) (s : Shared) (H : Hp) (fp : List Addr) (pn : List (Addr × Obj)), PG (cxComp X N' scope C s H fp pn) tg g ∧ PTs (cxComp X N' scope C s H fp pn) ifs tt ∧ PE (cxComp X N' scope C s H fp pn) elt te)
    (hsw : swapsWith (.ListComp elt [⟨tg, iter, ifs, 0⟩] scope pos) (some (.Name x pos')) spos.line X.env = pure true)
    (hs : ∀ x, foldedSetIterable iter X.env x = pure x := by intro _; rfl) (hf : X.fn x = true ∨ X.env.scope.names.lookup x = some .local := by first | exact .inl rfl | exact .inr rfl | assumption) :
    PS X (.Assign [.Name x pos'] (.ListComp elt [⟨tg, iter, ifs, 0⟩] scope pos) spos) (tSetLc i sel wi g tt te) := by
  intro pins s σ H Dn I h
  have k := chk_ok chk
  rw [exec_Assign_Name_used _ _ _ _ hsw]
  refine wpAny_bind (wpAny_standAt (wpAny_bind ?_))
  show wpAny _ X.A (do let _ ← comprehension (.ListComp elt [⟨tg, iter, ifs, 0⟩] scope pos) scope X.env _ (newList []) false (eval iter X.env) (some (assign (.Name x pos') X.env))) _ _ s
  refine wpAny_bind (wpAny_mono (wpAny_comprehension_free (use := some (assign (.Name x pos') X.env)) (Q := fun _ s' => SP X pins Dn .next s') rfl hs (closureFor_free (clos_cells I k).1) hk k.lo
    (thn (hi pins s σ H _ I h) fun v s1 h1 => thn h1 fun itv s2 h2 => ?_)) (fun _ s' hq => wpAny_pure (wpAny_pure hq)) fun _ _ e => e)
  obtain ⟨it, fp, tn, J, H2, e, I2, T, st2, f2, W, ⟨m0, w0⟩, turn⟩ := h2
  subst e
  refine lc_block (RR := fun acc C => compPost (model X.prog X.w) X.A X.xe (some (assign (.Name x pos') X.env)) (fun _ s' => SP X pins Dn .next s') acc C) hc hk k I2 T st2 f2 hb hgk w0 turn ?_
  intro D C s' H' ys m hD I' hns fC q
  obtain ⟨oC, es, ep, eC, dC, rC⟩ := id hns
  have I'' : Inv X (pins ++ [(C, oC)]) σ (upd H' D (.lst ys)) s' := I'.pins_of fun p hp => by
    rcases List.mem_append.mp hp with hp | hp
    · exact I'.pin p (List.mem_append_right _ hp)
    · rw [List.mem_singleton.mp hp]
      exact ⟨eC, fC.1, fC.2.1, fC.2.2.1, fun v z => by rw [dC] at z; cases z⟩
  refine thn (pg_name (pos := pos') hN hi' hx hf (pins ++ [(C, oC)]) s' σ _ (.ref D) (.ref D) (fun σ2 H2 => σ2 = σ.set i (some (.ref D)) ∧ H2 = upd H' D (.lst ys)) I'' rfl ⟨rfl, rfl⟩) fun _ s9 h9 => ?_
  obtain ⟨σ9, H9, I9, rfl, rfl⟩ := h9
  have eC9 := (I9.pin (C, oC) (List.mem_append_right _ (List.mem_append_right _ (List.mem_singleton.mpr rfl)))).1
  refine ⟨m, ⟨oC, es, ep, eC9, dC, rC⟩, fun h' hs' => ?_⟩
  exact ⟨_, _, (I9.unpinned).turned (t' := s9.toks) (fun b o hb e => (hs'.2 b hb).trans e) fC.1 fC.2.1 fC.2.2.2.1 fC.2.2.2.2.1 fC.2.2.2.2.2, q D hD⟩
end
end L2
namespace L2
open PySem PySem.Spec PyProof.Rows
section
variable {X : Cx} {tg : Expr} {a b : Expr} {ta tb : TE} {pos : Pos}

def tMid (t u : TS) : TS := fun D σ H => ∃ M : St → Hp → Prop, t { D with nx := M } σ H ∧ ∀ σ' H', M σ' H' → u D σ' H'
theorem pss_mid {st : Stmt} {rest : List Stmt} {t u : TS} (h1 : PS X st t) (h2 : PSs X rest u) : PSs X (st :: rest) (tMid t u) := by
  intro pins s σ H D I h
  obtain ⟨M, hM, hu⟩ := h
  refine wpAny_execs_cons (thn (h1 pins s σ H { D with nx := M } I hM) fun f s1 q => ?_)
  cases f with
  | next =>
    obtain ⟨σ', H', I', q⟩ := q
    exact h2 pins s1 σ' H' D I' (hu _ _ q)
  | ret v => exact q
  | brk => exact q
  | cont => exact q

theorem call_isinst : CallR X (.builtin "isinstance") (fun xs H Q => ∃ x n t b, xs = [x, .ty n] ∧ TyOf X.K H x t ∧ PySem.W.kitOne X.K t (.type n) = some b ∧ Q (.bl b) H) := by
  intro pins s σ H xs us Q I r h
  obtain ⟨x, n, t, b, rfl, ty, e, q⟩ := h
  obtain ⟨u, w', rfl, ru, rw'⟩ := vals2 r
  cases rw'
  exact isinst_ok I ru ty e fun tk => ⟨.bl b, H, I.tok _, rfl, q⟩
def cutS (z : Str) (lo hi : Option Int) : Str := ⟨((z.cps.toList.drop (HT.sIx z.length 0 lo)).take (HT.sIx z.length z.length hi - HT.sIx z.length 0 lo)).toArray⟩
def rSlS : V → Option Int → Option Int → Hp → VK → Prop := fun x lo hi H Q => ∃ z, x = .str z ∧ z.length ≤ sizeLine ∧ Q (.str (cutS z lo hi)) H
def rStarts : V → List V → Hp → VK → Prop := fun x vs H Q => ∃ z y, x = .str z ∧ vs = [.str y] ∧ Q (.bl (Txt.startswith z y)) H
inductive EqD (K : PySem.W.Frag) (H : Hp) : Nat → V → V → Bool → Prop
  | flat {n : Nat} {x y : V} : flatV x = true → flatV y = true → EqD K H n x y (eqV x y)
  | same {n : Nat} {a : Addr} : EqD K H n (.ref a) (.ref a) true
  | lst {n : Nat} {a b : Addr} {xs ys : List V} {e : Nat → Bool} : SqL K H a xs → SqL K H b ys → a ≠ b → xs.length = ys.length → (∀ i x y, xs[i]? = some x → ys[i]? = some y → EqD K H n x y (e i)) → EqD K H (n + 1) (.ref a) (.ref b) ((List.range xs.length).all e)
  | lstN {n : Nat} {a b : Addr} {xs ys : List V} : SqL K H a xs → SqL K H b ys → a ≠ b → xs.length ≠ ys.length → EqD K H (n + 1) (.ref a) (.ref b) false
  | tup {n : Nat} {a b : Addr} {xs ys : List V} {e : Nat → Bool} : SqT K H a xs → SqT K H b ys → a ≠ b → (∀ i x y, xs[i]? = some x → ys[i]? = some y → EqD K H n x y (e i)) → EqD K H (n + 1) (.ref a) (.ref b) ((List.range (min xs.length ys.length)).all e && xs.length == ys.length)
  | tupF {n : Nat} {a : Addr} {xs : List V} {y : V} : SqT K H a xs → flatV y = true → EqD K H n (.ref a) y false
  | fTup {n : Nat} {a : Addr} {xs : List V} {y : V} : SqT K H a xs → flatV y = true → EqD K H n y (.ref a) false
theorem item_of {xs : List V} {its : List Value} {j : Nat} (r : Vals xs its) (h : j < its.toArray.size) : ∃ x, xs[j]? = some x ∧ RelV x its.toArray[j] := by
  have hl := r.length
  have hj : j < xs.length := by rw [List.size_toArray] at h; omega
  obtain ⟨u, hu, ru⟩ := r.get (i := j) (x := xs[j]) (by simp [hj])
  refine ⟨xs[j], by simp [hj], ?_⟩
  have e : its.toArray[j] = u := by
    have h2 : j < its.length := by rw [List.size_toArray] at h; exact h
    have := List.getElem?_eq_getElem h2
    rw [hu] at this
    simpa using (Option.some.inj this).symm
  rw [e]; exact ru
theorem _root_.PyProof.Rows.IsTup.isTuple' {h : Heap} {a : Addr} {its : Array Value} (p : IsTup h a its) : h.IsTuple a its := p
theorem EqD.at {K : PySem.W.Frag} {H : Hp} {n : Nat} {x y : V} {b : Bool} (d : EqD K H n x y b) : ∀ {X : Cx} {pins : List (Addr × Obj)} {σ : St} {s : Shared} {A : Around} {u v : Value}, X.K = K → Inv X pins σ H s → RelV x u → RelV y v → A.units + n < cLine → SeqAt.EqAt A s u v b := by
  induction d with
  | flat fx fy => intro X pins σ s A u v hK I rx ry hu; exact eqAt_V rx ry fx fy
  | same => intro X pins σ s A u v hK I rx ry hu; cases rx; cases ry; exact SeqAt.EqAt.same _
  | @lst n a b xs ys e hx hy hne hl _ ih =>
    intro X pins σ s A u v hK I rx ry hu
    subst hK
    cases rx; cases ry
    obtain ⟨ia, ra, pa, _⟩ := I.list hx
    obtain ⟨ib, rb, pb, _⟩ := I.list hy
    have la := ra.length
    have lb := rb.length
    have hs : ia.toArray.size = ib.toArray.size := by rw [List.size_toArray, List.size_toArray]; omega
    have q := SeqAt.RcAt.lists (A := A) (e := e) pa.isList pb.isList hs (by omega) fun j h1 h2 => by
      obtain ⟨x, ex, rx⟩ := item_of ra h1
      obtain ⟨y, ey, ry⟩ := item_of rb h2
      exact ih j x y ex ey rfl I rx ry (by show A.units + 1 + n < cLine; omega)
    rw [List.size_toArray, ← la] at q
    exact SeqAt.EqAt.of_refs hne q
  | @lstN n a b xs ys hx hy hne hl =>
    intro X pins σ s A u v hK I rx ry hu
    subst hK
    cases rx; cases ry
    obtain ⟨ia, ra, pa, _⟩ := I.list hx
    obtain ⟨ib, rb, pb, _⟩ := I.list hy
    have la := ra.length
    have lb := rb.length
    exact SeqAt.EqAt.of_refs hne (SeqAt.RcAt.lists_lengths pa.isList pb.isList (by rw [List.size_toArray, List.size_toArray]; simp; omega) (by omega))
  | @tup n a b xs ys e hx hy hne _ ih =>
    intro X pins σ s A u v hK I rx ry hu
    subst hK
    cases rx; cases ry
    obtain ⟨ia, ra, pa, _⟩ := I.tuple hx
    obtain ⟨ib, rb, pb, _⟩ := I.tuple hy
    have la := ra.length
    have lb := rb.length
    have q := SeqAt.RcAt.tuples (A := A) (e := e) pa.isTuple' pb.isTuple' (by omega) fun j h1 h2 => by
      obtain ⟨x, ex, rx⟩ := item_of ra h1
      obtain ⟨y, ey, ry⟩ := item_of rb h2
      exact ih j x y ex ey rfl I rx ry (by show A.units + 1 + n < cLine; omega)
    rw [List.size_toArray, List.size_toArray, ← la, ← lb] at q
    exact SeqAt.EqAt.of_refs hne q
  | @tupF n a xs y hx fy =>
    intro X pins σ s A u v hK I rx ry hu
    subst hK
    cases rx
    obtain ⟨ia, ra, pa, _⟩ := I.tuple hx
    have hu' : A.units < cLine := by omega
    cases y with
    | non => cases (show v = Value.none from ry); exact SeqAt.EqAt.tuple_none pa.isTuple' hu'
    | bl b => cases (show v = Value.bool b from ry); exact SeqAt.EqAt.tuple_bool b pa.isTuple' hu'
    | int i => obtain ⟨t, q⟩ := (show ∃ t, v = Value.int i t from ry); cases q; exact SeqAt.EqAt.tuple_int i t pa.isTuple' hu'
    | str z => obtain ⟨t, q⟩ := (show ∃ t, v = Value.str z t from ry); cases q; exact SeqAt.EqAt.tuple_str z t pa.isTuple' hu'
    | byt b => cases fy
    | flt b => cases fy
    | ref a => cases fy
    | ty n => cases fy
  | @fTup n a xs y hx fy =>
    intro X pins σ s A u v hK I rx ry hu
    subst hK
    cases ry
    obtain ⟨ia, ra, pa, _⟩ := I.tuple hx
    have hu' : A.units < cLine := by omega
    cases y with
    | non => cases (show u = Value.none from rx); exact SeqAt.EqAt.none_tuple pa.isTuple' hu'
    | bl b => cases (show u = Value.bool b from rx); exact SeqAt.EqAt.bool_tuple b pa.isTuple' hu'
    | int i => obtain ⟨t, q⟩ := (show ∃ t, u = Value.int i t from rx); cases q; exact SeqAt.EqAt.int_tuple i t pa.isTuple' hu'
    | str z => obtain ⟨t, q⟩ := (show ∃ t, u = Value.str z t from rx); cases q; exact SeqAt.EqAt.str_tuple z t pa.isTuple' hu'
    | byt b => cases fy
    | flt b => cases fy
    | ref a => cases fy
    | ty n => cases fy
def EqIt (K : PySem.W.Frag) (H : Hp) (n : Nat) (xs ys : List V) (e : Nat → Bool) : Prop := ∀ i x y, xs[i]? = some x → ys[i]? = some y → EqD K H n x y (e i)
def rEqL (K : PySem.W.Frag) (neg : Bool) : R2 := fun x y H Q => ∃ a b xs ys n e, x = .ref a ∧ y = .ref b ∧ SqL K H a xs ∧ SqL K H b ys ∧ n ≤ 90 ∧ EqIt K H n xs ys e ∧ Q (.bl (neg ^^ (decide (xs.length = ys.length) && (List.range xs.length).all e))) H
theorem op_eqL (hu : X.A.units + 100 < cLine) : OpR X (compareOp .Eq) (rEqL X.K false) := by
  intro pins s σ H x y v u Q I rx ry h
  obtain ⟨a, b, xs, ys, n, e, rfl, rfl, hx, hy, hn, he, q⟩ := h
  cases rx; cases ry
  obtain ⟨ia, ra, pa, _⟩ := I.list hx
  obtain ⟨ib, rb, pb, _⟩ := I.list hy
  have la := ra.length
  have lb := rb.length
  rw [Bool.false_xor] at q
  by_cases hl : xs.length = ys.length
  · rw [decide_eq_true hl, Bool.true_and] at q
    refine SeqAt.eq_listAt (e := e) pa.isList pb.isList (by rw [List.size_toArray, List.size_toArray]; omega) (by omega) (fun j h1 h2 => ?_) ⟨.bl _, H, I, rfl, ?_⟩
    · obtain ⟨x, ex, rx⟩ := item_of ra h1
      obtain ⟨y, ey, ry⟩ := item_of rb h2
      exact (he j x y ex ey).at rfl I rx ry (by show X.A.units + 1 + n < cLine; omega)
    · rw [List.size_toArray, ← la]; exact q
  · rw [decide_eq_false hl, Bool.false_and] at q
    exact SeqAt.eq_list_lengthsAt pa.isList pb.isList (by rw [List.size_toArray, List.size_toArray]; simp; omega) (by omega) ⟨.bl _, H, I, rfl, q⟩
theorem op_neL (hu : X.A.units + 100 < cLine) : OpR X (compareOp .NotEq) (rEqL X.K true) := by
  intro pins s σ H x y v u Q I rx ry h
  obtain ⟨a, b, xs, ys, n, e, rfl, rfl, hx, hy, hn, he, q⟩ := h
  cases rx; cases ry
  obtain ⟨ia, ra, pa, _⟩ := I.list hx
  obtain ⟨ib, rb, pb, _⟩ := I.list hy
  have la := ra.length
  have lb := rb.length
  rw [Bool.true_xor] at q
  by_cases hl : xs.length = ys.length
  · rw [decide_eq_true hl, Bool.true_and] at q
    refine SeqAt.RcNeAt.lists (e := e) pa.isList pb.isList (by rw [List.size_toArray, List.size_toArray]; omega) (by omega) (fun j h1 h2 => ?_) _ _ _ _ ⟨.bl _, H, I, rfl, ?_⟩
    · obtain ⟨x, ex, rx⟩ := item_of ra h1
      obtain ⟨y, ey, ry⟩ := item_of rb h2
      exact (he j x y ex ey).at rfl I rx ry (by show X.A.units + 1 + n < cLine; omega)
    · rw [List.size_toArray, ← la]; exact q
  · rw [decide_eq_false hl, Bool.false_and] at q
    exact SeqAt.RcNeAt.lists_lengths pa.isList pb.isList (by rw [List.size_toArray, List.size_toArray]; simp; omega) (by omega) _ _ _ _ ⟨.bl _, H, I, rfl, q⟩
def rEqT (K : PySem.W.Frag) (neg : Bool) : R2 := fun x y H Q => ∃ a b xs ys n e, x = .ref a ∧ y = .ref b ∧ SqT K H a xs ∧ SqT K H b ys ∧ n ≤ 90 ∧ EqIt K H n xs ys e ∧ Q (.bl (neg ^^ ((List.range (min xs.length ys.length)).all e && xs.length == ys.length))) H
theorem op_eqT (hu : X.A.units + 100 < cLine) : OpR X (compareOp .Eq) (rEqT X.K false) := by
  intro pins s σ H x y v u Q I rx ry h
  obtain ⟨a, b, xs, ys, n, e, rfl, rfl, hx, hy, hn, he, q⟩ := h
  cases rx; cases ry
  obtain ⟨ia, ra, pa, _⟩ := I.tuple hx
  obtain ⟨ib, rb, pb, _⟩ := I.tuple hy
  have la := ra.length
  have lb := rb.length
  rw [Bool.false_xor] at q
  refine SeqAt.eq_tupleAt (e := e) pa.isTuple' pb.isTuple' (by omega) (fun j h1 h2 => ?_) ⟨.bl _, H, I, rfl, ?_⟩
  · obtain ⟨x, ex, rx⟩ := item_of ra h1
    obtain ⟨y, ey, ry⟩ := item_of rb h2
    exact (he j x y ex ey).at rfl I rx ry (by show X.A.units + 1 + n < cLine; omega)
  · rw [List.size_toArray, List.size_toArray, ← la, ← lb]; exact q
theorem op_neT (hu : X.A.units + 100 < cLine) : OpR X (compareOp .NotEq) (rEqT X.K true) := by
  intro pins s σ H x y v u Q I rx ry h
  obtain ⟨a, b, xs, ys, n, e, rfl, rfl, hx, hy, hn, he, q⟩ := h
  cases rx; cases ry
  obtain ⟨ia, ra, pa, _⟩ := I.tuple hx
  obtain ⟨ib, rb, pb, _⟩ := I.tuple hy
  have la := ra.length
  have lb := rb.length
  rw [Bool.true_xor] at q
  refine SeqAt.RcNeAt.tuples (e := e) pa.isTuple' pb.isTuple' (by omega) (fun j h1 h2 => ?_) _ _ _ _ ⟨.bl _, H, I, rfl, ?_⟩
  · obtain ⟨x, ex, rx⟩ := item_of ra h1
    obtain ⟨y, ey, ry⟩ := item_of rb h2
    exact (he j x y ex ey).at rfl I rx ry (by show X.A.units + 1 + n < cLine; omega)
  · rw [List.size_toArray, List.size_toArray, ← la, ← lb]; exact q
theorem hu100 {A : Around} {k : Nat} (hr : Room k A) : A.units + 100 < cLine := Nat.lt_of_le_of_lt (by omega) hr.un

def strsAre : List Expr → List Str → Bool
  | [], [] => true
  | .Constant (.str x) _ _ :: r, z :: zs => x == z && strsAre r zs
  | _, _ => false
def tStrs (zs : List Str) : TA := fun _ H Q => Q (zs.map V.str) H
theorem pa_strs : ∀ {es : List Expr} {zs : List Str}, strsAre es zs = true → PA X es (tStrs zs) := by
  intro es
  induction es with
  | nil =>
    intro zs h
    cases zs with
    | nil => exact pa_nil
    | cons z zs => cases h
  | cons e r ih =>
    intro zs h
    unfold strsAre at h
    split at h
    · exact absurd ‹e :: r = []› (List.cons_ne_nil _ _)
    · rename_i x j p r' z zs' h1
      cases h1
      rw [Bool.and_eq_true] at h
      have hx : x = z := by simpa using h.1
      subst hx
      exact pa_cons (X := X) (e := .Constant (.str x) j p) pe_str (ih h.2)
    · cases h
end
end L2
namespace L2
open PySem PySem.Spec PyProof.Rows
set_option genInjectivity false in
structure Def (K : PySem.W.Frag) (mg : Str → Option Value) (x : Str) (st : Stmt) (ps : List Str) where
  f : Addr
  fd : FuncData
  F : Fun K x x st f fd
  hm : mg x = some (.ref f)
  b : Binds K fd ps []
theorem cxOf_K {CX : CXT} {P : Program} {w : World} {K : PySem.W.Frag} {mg : Str → Option Value} {base : Heap} {N : List Str} {qual : Str} {scope : Scope} {f : Addr} {cd : Value} {A : Around} {outer : List Env} {s : Shared} {H : Hp} {E : XK} :
    (cxOf CX P w K mg base N qual scope f cd A outer s H E).K = K := rfl
theorem cxComp_K {X : Cx} {N : List Str} {scope : Scope} {C : Addr} {s : Shared} {H : Hp} {fp : List Addr} {pn : List (Addr × Obj)} : (cxComp X N scope C s H fp pn).K = X.K := rfl
structure InK (K : PySem.W.Frag) (x : Str) (st : Stmt) : Prop where
  ex : ∃ (f : Addr) (oc : Value) (od : Option Addr) (kV doc pm : Value) (an : Option Addr) (cdv ct : Value) (osl : Array (Option Value)),
    PySem.W.nsIn K mainGlobals x = some (some (.ref f)) ∧ K.lookup f = some ⟨oc, od, .func (PySem.W.fnOf x x (defArgs st) (defBody st) (defScope st) .none kV doc pm an cdv ct), osl⟩ ∧ PySem.W.codeIn K cdv x = true ∧ PySem.W.keepIn K (.ref f) = true
theorem InK.of {K : PySem.W.Frag} {x : Str} {st : Stmt} {f : Addr} {oc : Value} {od : Option Addr} {kV doc pm : Value} {an : Option Addr} {cdv ct : Value} {osl : Array (Option Value)}
    (a : PySem.W.nsIn K mainGlobals x = some (some (.ref f))) (l : K.lookup f = some ⟨oc, od, .func (PySem.W.fnOf x x (defArgs st) (defBody st) (defScope st) .none kV doc pm an cdv ct), osl⟩) (c : PySem.W.codeIn K cdv x = true) (k : PySem.W.keepIn K (.ref f) = true) : InK K x st :=
  ⟨⟨f, oc, od, kV, doc, pm, an, cdv, ct, osl, a, l, c, k⟩⟩
theorem InK.def {K : PySem.W.Frag} {mg : Str → Option Value} {h : Heap} {x : Str} {st : Stmt} {ps : List Str} (i : InK K x st) (X : K.In h) (G : h.Ns mainGlobals mg)
    (hb : ∀ (kV doc pm : Value) (an : Option Addr) (cdv ct : Value) (us : List Value), us.length = ps.length → bindArgs (PySem.W.fnOf x x (defArgs st) (defBody st) (defScope st) .none kV doc pm an cdv ct) ⟨us, []⟩ = pure (ps.zip us)) : Nonempty (Def K mg x st ps) := by
  obtain ⟨f, oc, od, kV, doc, pm, an, cdv, ct, osl, a, l, c, k⟩ := i.ex
  have F := fun_mk (x := x) (qual := x) (st := st) l c k
  exact ⟨⟨f, _, F, PySem.W.mg_of X G a, F.binds hb⟩⟩
def strsOf : List Str → List Value → Bool
  | [], [] => true
  | z :: zs, .str x _ :: r => x == z && strsOf zs r
  | _, _ => false
structure InT (K : PySem.W.Frag) (x : Str) (zs : List Str) : Prop where
  ex : ∃ (p : Addr) (dd : Option Addr) (its : Array Value) (n : Nat) (sl : Array (Option Value)), PySem.W.nsIn K mainGlobals x = some (some (.ref p)) ∧ K.lookup p = some ⟨.type "tuple", dd, .seq its n, sl⟩ ∧ its.size ≤ sizeLine ∧ strsOf zs its.toList = true
theorem InT.of {K : PySem.W.Frag} {x : Str} {zs : List Str} {p : Addr} {dd : Option Addr} {its : Array Value} {n : Nat} {sl : Array (Option Value)} (a : PySem.W.nsIn K mainGlobals x = some (some (.ref p))) (l : K.lookup p = some ⟨.type "tuple", dd, .seq its n, sl⟩)
    (s : its.size ≤ sizeLine) (v : strsOf zs its.toList = true) : InT K x zs := ⟨⟨p, dd, its, n, sl, a, l, s, v⟩⟩
theorem bt_len : bootBuiltins "len" = some (.builtin "len") := by decide +kernel
theorem bt_isinstance : bootBuiltins "isinstance" = some (.builtin "isinstance") := by decide +kernel
theorem bt_bool : bootBuiltins "bool" = some (.type "bool") := by decide +kernel
theorem bt_list : bootBuiltins "list" = some (.type "list") := by decide +kernel
theorem bt_tuple : bootBuiltins "tuple" = some (.type "tuple") := by decide +kernel
theorem Same.upd {H : Hp} {a : Addr} {o : HO} (h : H a = none) : Same H (L2.upd H a o) := fun b u e => by rw [upd_ne (ne_of_none e h)]; exact e
theorem lenV_str {K : PySem.W.Frag} {z : Str} {H : Hp} {n : Nat} : LenV K (.str z) H n ↔ z.length ≤ sizeLine ∧ n = z.length := Iff.rfl
end L2
namespace L2
open PySem PySem.Spec PyProof.Rows
section
variable {X : Cx} {o e f : Expr} {apos cpos pos : Pos} {td ty tx : TE}

variable {K : PySem.W.Frag}
theorem ix_listK (h : X.K = K) : IxR X (rIxL K) := by subst h; exact ix_list
theorem ix_tupK (h : X.K = K) : IxR X (rIxT K) := by subst h; exact ix_tup
theorem op_in_seqK (h : X.K = K) : OpR X (compareOp .In) (rIn K false) := by subst h; exact op_in_seq
theorem Inv.turned2 {X : Cx} {pins : List (Addr × Obj)} {σ : List (Option V)} {H : Hp} {s : Shared} {h' : Heap} {t' : Nat} {e it : Addr} (I : Inv X pins σ H s) (k : ∀ b o, b ≠ e → b ≠ it → s.heap.get? b = some o → h'.get? b = some o) (fe : FpOk X pins H e) (fi : FpOk X pins H it) : Inv X pins σ H { s with heap := h', toks := t' } := by
  obtain ⟨e0, e1, _, e3, e4, e5⟩ := fe
  obtain ⟨i0, i1, _, i3, i4, i5⟩ := fi
  have nit : ∀ b u, H b = some u → b ≠ it := fun b u q z => by rw [z, i0] at q; cases q
  have nie : ∀ b u, H b = some u → b ≠ e := fun b u q z => by rw [z, e0] at q; cases q
  have kk : ∀ b o, b ∉ [e, it] → s.heap.get? b = some o → h'.get? b = some o := fun b o hc q => k b o (fun z => hc (by simp [z])) (fun z => hc (by simp [z])) q
  refine I.step (g' := s.gens) (d' := s.drawn) (ch := [e, it]) (fun b hb => ?_) (fun b o _ _ hc q _ => kk b o hc q) (fun b o _ _ hc q _ => ⟨o.slots, kk b o hc q⟩) (fun _ _ _ _ n => n)
    (fun b o hc q => ⟨o, kk b o hc q⟩) (fun _ _ q => q) (fun _ _ _ q => q) (fun b ps q => ⟨#[], by rw [q]; simp⟩) (fun m hm => ?_) (fun b u q => ?_) I.bare
  · rcases List.mem_cons.mp hb with rfl | hb
    · exact ⟨e3, e1, e4, e5⟩
    · have z : b = it := by simpa using hb
      subst z
      exact ⟨i3, i1, i4, i5⟩
  · obtain ⟨o, es, ep, ho, r⟩ := hm
    exact ⟨o, es, ep, k _ o (Ne.symm e1) (Ne.symm i1) ho, r⟩
  · refine (I.hok b u q).stay (fun c v hc q' => k c v ?_ ?_ q') (fun _ q => q) fun _ _ q => q
    · rcases hc with z | z
      · rw [z]; exact nie b u q
      · exact nie c _ z
    · rcases hc with z | z
      · rw [z]; exact nit b u q
      · exact nit c _ z
def Ite (K : PySem.W.Frag) (a : Addr) : It :=
  ⟨fun i H => ∃ xs x, SqL K H a xs ∧ xs[i]? = some x, fun i H v H' => ∃ p x, v = .ref p ∧ H p = none ∧ H' = upd H p (.tup [.int (i : Nat), x]) ∧ ∀ xs, SqL K H a xs → xs[i]? = some x, fun i H => ∃ xs, SqL K H a xs ∧ xs.length ≤ i⟩
theorem turn_enum {P : Program} {w : World} {K : PySem.W.Frag} {es : List Expr} {x1} {pos : Pos} (a e it : Addr) (hne : e ≠ it) : Turn P w K (.Tuple es x1 pos) (Ite K a) [e, it] e (fun i h => (∃ old, IsEnum h e it (i : Nat) old) ∧ h.IsListIter it a i) where
  mem := by simp
  obj := fun i h st b hb => by
    obtain ⟨⟨old, he⟩, hit⟩ := st
    rcases List.mem_cons.mp hb with rfl | hb
    · exact ⟨_, he, fun v z => by
        have z' : Data.fields _ = Data.cell v := z
        cases z'⟩
    · have z : b = it := by simpa using hb
      subst z
      obtain ⟨o, e, c, d⟩ := hit
      exact ⟨o, e, fun v z => by rw [d] at z; cases z⟩
  keep := fun i h h' st k => ⟨let ⟨old, he⟩ := st.1; ⟨old, k e (by simp) _ he⟩, st.2.at fun o q => k it (by simp) o q⟩
  item := by
    intro X hP hw hK hc i pins s σ H E I hf st hg
    subst hP hw hK
    obtain ⟨xs, x, hq, hx⟩ := hg
    obtain ⟨its, rv, p, hz⟩ := I.list hq
    obtain ⟨u, hu, ru⟩ := rv.get hx
    obtain ⟨⟨old, he⟩, hit⟩ := st
    have fe := hf e (by simp)
    have fi := hf it (by simp)
    have helt : e < s.heap.objs.size := Heap.lt_size he
    have hilt : it < s.heap.objs.size := by obtain ⟨_, q, _⟩ := hit; exact Heap.lt_size q
    refine wpAny_pyNext_enum_item he hit p.isList (x := u) (by simpa using hu) hne fun h' ho hit' hT hsz hk => ?_
    refine ⟨_, rfl, wpAny_letOwnedTupleGo_enum ho fun h'' he'' hs'' => ?_⟩
    have hfr : H s.heap.objs.size = none := I.hok.fresh (Nat.le_refl _)
    have I1 : Inv X pins σ (upd H s.heap.objs.size (.tup [.int (i : Nat), x])) { s with heap := s.heap.push { cls := .type "tuple", data := .seq #[.int (i : Nat) s.toks, u] }, toks := s.toks } :=
      I.laid (t' := s.toks) (fun b v q => Heap.get?_push_of_some _ q) (Nat.le_refl _) ⟨show 2 ≤ sizeLine by decide, [.int (i : Nat) s.toks, u], .cons ⟨_, rfl⟩ (.cons ru .nil), ⟨_, Heap.get?_push_size _ rfl, rfl, _, rfl⟩⟩
    have up : ∀ {b : Addr}, FpOk X pins H b → b < s.heap.objs.size → FpOk X pins (upd H s.heap.objs.size (.tup [.int (i : Nat), x])) b := fun f hb => ⟨by rw [upd_ne (Nat.ne_of_lt hb)]; exact f.1, f.2⟩
    have I2 : Inv X pins σ (upd H s.heap.objs.size (.tup [.int (i : Nat), x])) { s with heap := h'', toks := s.toks + 1 } :=
      Inv.turned2 (s := { s with heap := s.heap.push { cls := .type "tuple", data := .seq #[.int (i : Nat) s.toks, u] }, toks := s.toks }) (h' := h'') (t' := s.toks + 1) (e := e) (it := it) I1 (fun b o b1 b2 q => by
        rw [hs''.2 b b1]
        by_cases hb : b = s.heap.objs.size
        · subst hb
          rw [Heap.get?_push_size _ rfl] at q
          cases q
          exact hT
        · refine hk b o b1 b2 ?_
          rw [← q]
          exact (Heap.get?_push_ne _ _ _ hb).symm) (up fe helt) (up fi hilt)
    refine ⟨.ref s.heap.objs.size, _, I2, rfl, ⟨_, x, rfl, hfr, rfl, fun ys hy => by rw [I.list_inj hy hq]; exact hx⟩, ⟨⟨_, by simpa using he''⟩, hit'.at fun o q => (hs''.2 it hne.symm).trans q⟩, fun b hb => ?_⟩
    rcases List.mem_cons.mp hb with rfl | hb
    · exact (up fe helt).1
    · have z : b = it := by simpa using hb
      subst z
      exact (up fi hilt).1
  done := by
    intro X hP hw hK hc i pins s σ H E I hf st hg
    subst hP hw hK
    obtain ⟨xs, hq, hx⟩ := hg
    obtain ⟨its, rv, p, hz⟩ := I.list hq
    obtain ⟨⟨old, he⟩, hit⟩ := st
    have fe := hf e (by simp)
    have fi := hf it (by simp)
    have hl := rv.length
    exact wpAny_pyNext_enum_end (I.ok.hd hc) he hit p.isList (by simp; omega) fun h' eb => ⟨rfl, Inv.turned2 (t' := s.toks) (e := e) (it := it) I (fun b o _ hb q => eb b o hb q) fe fi⟩
  self := fun _ _ _ _ _ st h => let ⟨_, he⟩ := st.1; wpAny_pyIter_enum he h
theorem bt_enumerate : bootBuiltins "enumerate" = some (.type "enumerate") := by decide +kernel
def iEnum (K : PySem.W.Frag) (ta : TA) : TI := fun σ H R => ta σ H fun vs H1 => ∃ a : Addr, vs = [.ref a] ∧ (∃ xs, SqL K H1 a xs) ∧ R (Ite K a) H1
theorem pi_enum {X : Cx} {es : List Expr} {x1} {tpos : Pos} {a : Expr} {ta : TA} {p pos : Pos} (hg : Gl X "enumerate") (hm : X.mg "enumerate" = none) (ha : PA X [a] ta) (hs : starEach [a] X.env = [(false, eval a X.env)] := by rfl) : PI X (.Tuple es x1 tpos) (.Call (.Name "enumerate" p) [a] [] pos) (iEnum X.K ta) := by
  intro pins s σ H R I h
  refine Call_ (ld_blt I hg hm bt_enumerate (PyProof.Rows.callWith_type1 (thn (ha pos pins s σ H _ I h) fun us s1 ⟨vs, H1, I1, r1, q1⟩ => ?_) hs rfl))
  obtain ⟨l, q0, ⟨xs, hq⟩, q⟩ := q1
  subst q0
  cases r1 with
  | cons r rr =>
    cases rr
    cases r
    obtain ⟨its, rv, pl, hz⟩ := I1.list hq
    refine call_enumerate_list pl.isList fun h' he hit hsz hk => wpAny_pyIter_enum he ?_
    refine ⟨s1.heap.objs.size + 1, [s1.heap.objs.size + 1, s1.heap.objs.size], _, _, H1, rfl, I1.kept (t' := s1.toks) hk, turn_enum l _ _ (Nat.succ_ne_self _), ⟨⟨_, he⟩, hit⟩, fun b hb => ?_, q⟩
    rcases List.mem_cons.mp hb with rfl | hb
    · exact I1.fpOk (by omega) (I1.hok.fresh (by omega))
    · have z : b = s1.heap.objs.size := by simpa using hb
      subst z
      exact I1.fpOk (Nat.le_refl _) (I1.hok.fresh (Nat.le_refl _))
theorem for_enum {K : PySem.W.Frag} {a : Addr} {xs : List V} {g : TG} {tb : TS} {D : Ends} {σ : St} {H : Hp} (Pv : Nat → St → Hp → Prop) (h0 : Pv 0 σ H) (hl : ∀ i σ H, i ≤ xs.length → Pv i σ H → SqL K H a xs)
    (hs : ∀ i x p σ H, xs[i]? = some x → Pv i σ H → H p = none → g (.ref p) σ (upd H p (.tup [.int (i : Nat), x])) fun σ2 H2 => tb { D with nx := Pv (i + 1), ct := Pv (i + 1), bk := D.nx } σ2 H2) (hd : ∀ σ H, Pv xs.length σ H → D.nx σ H) :
    ∃ W : Nat → Nat → St → Hp → Prop, (∃ m, W 0 m σ H) ∧ ∀ i m σ H, W i m σ H →
      ((Ite K a).stop i H ∧ D.nx σ H) ∨ ((Ite K a).go i H ∧ ∃ N : St → Hp → Prop, (∀ σ' H', N σ' H' → ∃ m', m' < m ∧ W (i + 1) m' σ' H') ∧ ∀ x H', (Ite K a).yld i H x H' → g x σ H' fun σ2 H2 => tb { D with nx := N, ct := N, bk := D.nx } σ2 H2) := by
  refine ⟨fun i m σ H => m = xs.length - i ∧ i ≤ xs.length ∧ Pv i σ H, ⟨xs.length, by simp, Nat.zero_le _, h0⟩, ?_⟩
  rintro i m σ H ⟨rfl, hi, p⟩
  have q := hl i σ H hi p
  by_cases hlt : i < xs.length
  · refine .inr ⟨⟨xs, xs[i], q, by simp [hlt]⟩, Pv (i + 1), fun σ' H' p' => ⟨xs.length - (i + 1), by omega, rfl, hlt, p'⟩, fun v H' y => ?_⟩
    obtain ⟨b, x, rfl, hb, rfl, hx⟩ := y
    exact hs i x b σ H (hx xs q) p hb
  · have z : i = xs.length := by omega
    subst z
    exact .inl ⟨⟨xs, q, Nat.le_refl _⟩, hd σ H p⟩
end
end L2
namespace L2
open PySem PySem.Spec PyProof.Rows
def del (H : Hp) (d : Addr) : Hp := fun b => if b = d then none else H b
theorem del_same {H : Hp} {d : Addr} : del H d d = none := by unfold del; rw [if_pos rfl]
theorem del_ne {H : Hp} {d b : Addr} (h : b ≠ d) : del H d b = H b := by unfold del; rw [if_neg h]
theorem Same.back {H G : Hp} {d : Addr} {u : HO} (s : Same (del H d) G) (e : H d = some u) : Same H (L2.upd G d u) := fun b o q => by
  by_cases hb : b = d
  · subst hb; rw [upd_same, ← e]; exact q
  · rw [upd_ne hb]; exact s b o (by rw [del_ne hb]; exact q)
theorem del_of {H : Hp} {d b : Addr} {u o : HO} (e : H d = some u) (q : H b = some o) (n : o ≠ u) : del H d b = some o := by
  have hb : b ≠ d := ne_of q e n
  rw [del_ne hb]; exact q
theorem Inv.forget {X : Cx} {pins : List (Addr × Obj)} {σ : St} {H : Hp} {s : Shared} {d : Addr} {kvs : List (Key × V)} (I : Inv X pins σ H s) (e : H d = some (.dK kvs)) :
    ∃ (o : Obj) (vs : List (Key × Value)) (ep : Nat), s.heap.get? d = some o ∧ (d == sysModules) = false ∧ KV kvs vs ∧ (∀ h : Heap, h.get? d = some o → h.DictAt (mixKind X.prog X.w) d vs ep) ∧ Inv X (pins ++ [(d, o)]) σ (del H d) s ∧
      ∀ (σ' : St) (G : Hp) (s' : Shared), Inv X (pins ++ [(d, o)]) σ' G s' → Inv X pins σ' (upd G d (.dK kvs)) s' := by
  obtain ⟨z, hS, vs, rel, o, es, ep, ho, r⟩ := dk_of I.hok e
  have nL : d ≠ X.env.locals := ne_of_none e I.free
  have nfs : d ∉ X.fs := fun hb => by
    obtain ⟨_, o', ho', _⟩ := I.ok.funs.mem hb
    have q := I.base.free d o' ho' (I.ok.frf d hb) fun z => I.ok.exfs d z hb
    rw [e] at q; cases q
  have ncell : ∀ v, o.data ≠ .cell v := fun v q => by
    obtain ⟨_, r2, _⟩ := id r
    rw [r2] at q; cases q
  have nbase : ∀ o', X.s₀.heap.get? d = some o' → X.H₀ d = none → d ∉ X.ex → False := fun o' a b c => by
    have q := I.base.free d o' a b c
    rw [e] at q; cases q
  have npin : ∀ p ∈ X.pn ++ pins, p.1 ≠ d := fun p hp q => by
    have := (I.pin p hp).2.1
    rw [q, e] at this; cases this
  have ncl : ∀ x c, X.env.cells.lookup x = some c → c ≠ d := fun x c h q => by
    have := I.freeC x c h
    rw [q, e] at this; cases this
  have hpin : (d, o) ∈ X.pn ++ (pins ++ [(d, o)]) := List.mem_append_right _ (List.mem_append_right _ (List.mem_singleton.mpr rfl))
  refine ⟨o, vs, ep, ho, hS, rel, fun h q => ⟨o, es, q, r⟩, ⟨I.ok, I.os, I.bare, ⟨I.base.keep, I.base.slot, fun b o' a b' c => ?_, I.base.there, fun b xs q => ?_, fun b o' u q => ?_, fun b ps q => ?_⟩, I.loc, I.cell, ?_, fun x c h => ?_, fun p hp => ?_, fun a u q => ?_, I.len⟩, fun σ' G s' J => ?_⟩
  · by_cases hb : b = d
    · rw [hb]; exact del_same
    · rw [del_ne hb]; exact I.base.free b o' a b' c
  · exact del_of e (I.base.tups b xs q) (fun z => nomatch z)
  · exact del_of e (I.base.frzs b o' u q) (fun z => nomatch z)
  · obtain ⟨m, q⟩ := I.base.tbls b ps q
    exact ⟨m, del_of e q (fun z => nomatch z)⟩
  · rw [del_ne (Ne.symm nL)]; exact I.free
  · rw [del_ne (ncl x c h)]; exact I.freeC x c h
  · rcases List.mem_append.mp hp with hp | hp
    · obtain ⟨a, b, c⟩ := I.pin p (List.mem_append_left _ hp)
      exact ⟨a, by rw [del_ne (npin p (List.mem_append_left _ hp))]; exact b, c⟩
    · rcases List.mem_append.mp hp with hp | hp
      · obtain ⟨a, b, c⟩ := I.pin p (List.mem_append_right _ hp)
        exact ⟨a, by rw [del_ne (npin p (List.mem_append_right _ hp))]; exact b, c⟩
      · rw [List.mem_singleton.mp hp]
        exact ⟨ho, del_same, nL, nfs, ncell⟩
  · have ha : a ≠ d := fun z => by rw [z, del_same] at q; cases q
    rw [del_ne ha] at q
    exact (I.hok a u q).stay (fun _ _ _ z => z) (fun b z => del_of e z (fun z => nomatch z)) fun b xs z => del_of e z (fun z => nomatch z)
  · obtain ⟨gd, fd, _⟩ := J.pin (d, o) hpin
    have nd : ∀ {b : Addr} {u : HO}, G b = some u → b ≠ d := fun q => ne_of_none q fd
    refine ⟨J.ok, J.os, J.bare, ⟨J.base.keep, J.base.slot, fun b o' a b' c => ?_, J.base.there, fun b xs q => ?_, fun b o' u q => ?_, fun b ps q => ?_⟩, J.loc, J.cell, ?_, fun x c h => ?_, fun p hp => ?_, fun a u q => ?_, J.len⟩
    · by_cases hb : b = d
      · subst hb; exact (nbase o' a b' c).elim
      · rw [upd_ne hb]; exact J.base.free b o' a b' c
    · have q := J.base.tups b xs q
      rw [upd_ne (nd q)]; exact q
    · have q := J.base.frzs b o' u q
      rw [upd_ne (nd q)]; exact q
    · obtain ⟨m, q⟩ := J.base.tbls b ps q
      exact ⟨m, by rw [upd_ne (nd q)]; exact q⟩
    · rw [upd_ne (Ne.symm nL)]; exact J.free
    · rw [upd_ne (ncl x c h)]; exact J.freeC x c h
    · have hp' : p ∈ X.pn ++ (pins ++ [(d, o)]) := (List.mem_append.mp hp).elim (fun z => List.mem_append_left _ z) fun z => List.mem_append_right _ (List.mem_append_left _ z)
      obtain ⟨a, b, c⟩ := J.pin p hp'
      exact ⟨a, by rw [upd_ne (npin p hp)]; exact b, c⟩
    · by_cases ha : a = d
      · subst ha
        rw [upd_same] at q
        cases q
        exact ⟨z, hS, vs, rel, o, es, ep, gd, r⟩
      · rw [upd_ne ha] at q
        exact (J.hok a u q).stay (fun _ _ _ z => z) (fun b z => by rw [upd_ne (nd z)]; exact z) fun b xs z => by rw [upd_ne (nd z)]; exact z
structure TurnP (P : Program) (w : World) (K : PySem.W.Frag) (tg : Expr) (J : It) (fp : List Addr) (it : Addr) (tn : Nat → Heap → Prop) (pd : List (Addr × Obj)) : Prop where
  mem : it ∈ fp
  obj : ∀ i h, tn i h → ∀ b ∈ fp, ∃ o, h.get? b = some o ∧ ∀ v, o.data ≠ .cell v
  keep : ∀ i h h', tn i h → (∀ b ∈ fp, ∀ o, h.get? b = some o → h'.get? b = some o) → tn i h'
  item : ∀ (X : Cx), X.prog = P → X.w = w → X.K = K → X.calm = true → ∀ (i : Nat) (pins : List (Addr × Obj)) (s : Shared) (σ : St) (H : Hp) (E : Value → Shared → Prop), Inv X pins σ H s → (∀ p ∈ pd, p ∈ X.pn ++ pins) → (∀ b ∈ fp, FpOk X pins H b) → tn i s.heap → J.go i H →
    wpAny (model P w) X.A (pyNext (.ref it)) (fun r s1 => ∃ u, r = some u ∧
      wpAny (model P w) X.A (letOwnedTupleGo tg (.ref it) u) (fun _ s2 => ∃ x H', Inv X pins σ H' s2 ∧ RelV x u ∧ J.yld i H x H' ∧ tn (i + 1) s2.heap ∧ ∀ b ∈ fp, H' b = none) E s1) E s
  done : ∀ (X : Cx), X.prog = P → X.w = w → X.K = K → X.calm = true → ∀ (i : Nat) (pins : List (Addr × Obj)) (s : Shared) (σ : St) (H : Hp) (E : Value → Shared → Prop), Inv X pins σ H s → (∀ p ∈ pd, p ∈ X.pn ++ pins) → (∀ b ∈ fp, FpOk X pins H b) → tn i s.heap → J.stop i H →
    wpAny (model P w) X.A (pyNext (.ref it)) (fun r s1 => r = none ∧ Inv X pins σ H s1) E s
  self : ∀ (A : Around) (i : Nat) (s : Shared) (Q : Value → Shared → Prop) (E : Value → Shared → Prop), tn i s.heap → Q (.ref it) s → wpAny (model P w) A (pyIter (.ref it)) Q E s
theorem KV.at {kvs : List (Key × V)} {vs : List (Key × Value)} {i : Nat} {kv : Key × V} (r : KV kvs vs) (h : kvs[i]? = some kv) : ∃ u, vs[i]? = some (kv.1, u) ∧ RelV kv.2 u := by
  have go : ∀ (l₁ : List (Key × V)) (l₂ : List (Key × Value)), Paired (fun (p : Key × V) (q : Key × Value) => p.1 = q.1 ∧ RelV p.2 q.2) l₁ l₂ → ∀ (i : Nat) (kv : Key × V), l₁[i]? = some kv → ∃ u, l₂[i]? = some (kv.1, u) ∧ RelV kv.2 u := by
    intro l₁ l₂ r
    induction r with
    | nil => intro i kv h; simp at h
    | @cons a b _ _ r t ih =>
      intro i kv h
      cases i with
      | zero =>
        simp at h
        subst h
        obtain ⟨e, q⟩ := r
        refine ⟨b.2, ?_, q⟩
        rw [List.getElem?_cons_zero, e]
      | succ i =>
        rw [List.getElem?_cons_succ] at h ⊢
        exact ih i kv h
  exact go kvs vs r i kv h
theorem relV_key {P : Program} {w : World} {k : Key} {v : Value} (h : (mixKind P w).is k v = true) : RelV (kV k) v := by
  rw [mixKind_is] at h
  rcases keyIs_shape h with ⟨i, t, rfl, rfl⟩ | ⟨x, t, rfl, rfl⟩
  · exact ⟨t, rfl⟩
  · exact ⟨t, rfl⟩
def Iti (kvs : List (Key × V)) : It := ⟨fun i _ => i < kvs.length, fun i H v H' => ∃ p kv, v = .ref p ∧ H p = none ∧ H' = upd H p (.tup [kV kv.1, kv.2]) ∧ kvs[i]? = some kv, fun i _ => kvs.length ≤ i⟩
theorem turn_items {P : Program} {w : World} {K : PySem.W.Frag} {es : List Expr} {x1} {pos : Pos} (d it : Addr) (o : Obj) (kvs : List (Key × V)) (vs : List (Key × Value)) (ep : Nat) (hne : d ≠ it) (rel : KV kvs vs)
    (hat : ∀ h : Heap, h.get? d = some o → h.DictAt (mixKind P w) d vs ep) : TurnP P w K (.Tuple es x1 pos) (Iti kvs) [it] it (fun i h => ∃ ok ov, IsItemIter h it d i vs.length ep ok ov) [(d, o)] where
  mem := by simp
  obj := fun i h st b hb => by
    obtain ⟨ok, ov, he⟩ := st
    have z : b = it := by simpa using hb
    subst z
    exact ⟨_, he, fun v z => by
      have z' : Data.fields _ = Data.cell v := z
      cases z'⟩
  keep := fun i h h' st k => by
    obtain ⟨ok, ov, he⟩ := st
    exact ⟨ok, ov, k it (by simp) _ he⟩
  item := by
    intro X hP hw hK hc i pins s σ H E I hpd hf st hg
    subst hP hw hK
    obtain ⟨ok, ov, he⟩ := st
    have hd := (I.pin (d, o) (hpd _ (by simp))).1
    have hm := hat _ hd
    have hlt : i < kvs.length := hg
    have hx : kvs[i]? = some kvs[i] := List.getElem?_eq_getElem hlt
    obtain ⟨u, hu, ru⟩ := rel.at hx
    have fi := hf it (by simp)
    have hilt : it < s.heap.objs.size := Heap.lt_size he
    refine wpAny_pyNext_items_item he hm hu fun key h' hkey ho hT hsz hk => ?_
    refine ⟨_, rfl, wpAny_letOwnedTupleGo_items ho fun h'' he'' hs'' => ?_⟩
    have hfr : H s.heap.objs.size = none := I.hok.fresh (Nat.le_refl _)
    have rk : RelV (kV kvs[i].1) key := relV_key hkey
    have I1 : Inv X pins σ (upd H s.heap.objs.size (.tup [kV kvs[i].1, kvs[i].2])) { s with heap := s.heap.push { cls := .type "tuple", data := .seq #[key, u] }, toks := s.toks } :=
      I.laid (t' := s.toks) (fun b v q => Heap.get?_push_of_some _ q) (Nat.le_refl _) ⟨show 2 ≤ sizeLine by decide, [key, u], .cons rk (.cons ru .nil), ⟨_, Heap.get?_push_size _ rfl, rfl, _, rfl⟩⟩
    have nit : it ≠ s.heap.objs.size := Nat.ne_of_lt hilt
    have I2 : Inv X pins σ (upd H s.heap.objs.size (.tup [kV kvs[i].1, kvs[i].2])) { s with heap := h'', toks := s.toks } :=
      Inv.turned (s := { s with heap := s.heap.push { cls := .type "tuple", data := .seq #[key, u] }, toks := s.toks }) (h' := h'') (t' := s.toks) (it := it) I1 (fun b o b1 q => by
        rw [hs''.2 b b1]
        by_cases hb : b = s.heap.objs.size
        · subst hb
          rw [Heap.get?_push_size _ rfl] at q
          cases q
          exact hT
        · refine hk b o b1 ?_
          rw [← q]
          exact (Heap.get?_push_ne _ _ _ hb).symm) (by rw [upd_ne nit]; exact fi.1) fi.2.1 fi.2.2.2.1 fi.2.2.2.2.1 fi.2.2.2.2.2
    refine ⟨.ref s.heap.objs.size, _, I2, rfl, ⟨_, kvs[i], rfl, hfr, rfl, hx⟩, ⟨_, _, he''⟩, fun b hb => ?_⟩
    have z : b = it := by simpa using hb
    subst z
    rw [upd_ne nit]; exact fi.1
  done := by
    intro X hP hw hK hc i pins s σ H E I hpd hf st hg
    subst hP hw hK
    obtain ⟨ok, ov, he⟩ := st
    have hd := (I.pin (d, o) (hpd _ (by simp))).1
    have hm := hat _ hd
    have fi := hf it (by simp)
    have hl := rel.length
    have hge : kvs.length ≤ i := hg
    exact wpAny_pyNext_items_end (I.ok.hd hc) he hm (List.getElem?_eq_none (by omega)) fun h' eb => ⟨rfl, Inv.turned (t' := s.toks) I (fun b o hb q => eb b o hb q) fi.1 fi.2.1 fi.2.2.2.1 fi.2.2.2.2.1 fi.2.2.2.2.2⟩
  self := fun _ _ _ _ _ st h => by
    obtain ⟨ok, ov, he⟩ := st
    exact PySem.W.kcp_self he h
section
variable {X : Cx} {pins : List (Addr × Obj)} {σ : St} {H : Hp} {s : Shared}
theorem lc_blockP {elt tg iter : Expr} {ifs : List Expr} {scope : Scope} {pos : Pos} {N' : List Str} {sel : List (Option Nat)} {g : TG} {tt : TT} {te : TE} {it : Addr} {fp : List Addr} {tn : Nat → Heap → Prop} {J : It}
    {W : Nat → Nat → List V → Hp → Prop} {Qe : List V → Hp → Prop} {RR : Value → Addr → Result → Shared → Prop} {E : Value → Shared → Prop} {m0 : Nat}
    (hc : X.calm = true) (hk : scope.kind = .function) (k : ChkOk X scope N' sel) (I : Inv X pins σ H s) {pd : List (Addr × Obj)} (hpd : ∀ p ∈ pd, p ∈ X.pn ++ pins) (T : TurnP X.prog X.w X.K tg J fp it tn pd) (st : tn 0 s.heap) (f2 : ∀ b ∈ fp, FpOk X pins H b)
    (hb : ∀ (C : Addr) (s : Shared) (H : Hp) (fp : List Addr) (pn : List (Addr × Obj)), PG (cxComp X N' scope C s H fp pn) tg g ∧ PTs (cxComp X N' scope C s H fp pn) ifs tt ∧ PE (cxComp X N' scope C s H fp pn) elt te)
    (hgk : GKeeps sel g) (w0 : W 0 m0 [] H) (turn : lcTurn sel g tt te σ J W Qe)
    (hRR : ∀ (D C : Addr) (s' : Shared) (H' : Hp) (ys : List V) (m : Str → Option Value), H' D = none → Inv X pins σ (upd H' D (.lst ys)) s' → s'.heap.Ns C m → FpOk X pins (upd H' D (.lst ys)) C → Qe ys H' → RR (.ref D) C (.ok .next) s') :
    wpAny (model X.prog X.w) X.A (newList []) (fun acc s₃ => wpAny (model X.prog X.w) X.A (newFunctionEnv scope X.env.globals (closL X.env.cells scope.names []) [] X.env.qual none .none (some X.env)) (fun cenv s₄ =>
      codeAny (model X.prog X.w) X.A (.compStart (.ListComp elt [⟨tg, iter, ifs, 0⟩] scope pos) 0 (.ref it) acc { cenv with scope := relabel scope X.env }) (RR acc cenv.locals) s₄) E s₃) E s := by
  refine wpAny_newObj_type (wpAny_newFunctionEnv k.nc (by intro y hy; simp at hy) (fun h₁ hns₁ hsb₁ => ?_) hk)
  dsimp only at hns₁ hsb₁ ⊢
  generalize hH2 : s.heap.push { cls := .type "list", dict := none, data := .seq ([] : List Value).toArray } = H2 at hns₁ hsb₁ ⊢
  have hC : H2.objs.size = s.heap.objs.size + 1 := by rw [← hH2, Heap.size_push]
  have hDC : s.heap.objs.size ≠ H2.objs.size := by rw [hC]; exact Nat.ne_of_lt (Nat.lt_succ_self _)
  have hCle : s.heap.objs.size ≤ H2.objs.size := by rw [hC]; exact Nat.le_succ _
  have below : ∀ b, b < s.heap.objs.size → b ≠ H2.objs.size ∧ b ≠ s.heap.objs.size := fun b hb => ⟨by rw [hC]; exact Nat.ne_of_lt (Nat.lt_succ_of_lt hb), Nat.ne_of_lt hb⟩
  have old : ∀ b o, s.heap.get? b = some o → h₁.get? b = some o := fun b o e => hsb₁.extBut b o (below b (Heap.lt_size e)).1 (Heap.get?_push_of_some _ (hH2 ▸ Heap.get?_push_of_some _ e))
  have hacc : h₁.get? s.heap.objs.size = some { cls := .type "list", data := .seq ([] : List Value).toArray } := hsb₁.extBut _ _ hDC (Heap.get?_push_of_some _ (hH2 ▸ Heap.get?_push_size _ rfl))
  have hfl : ∀ b ∈ fp, b < s.heap.objs.size := fun b hb => let ⟨_, e, _⟩ := T.obj 0 _ st b hb; Heap.lt_size e
  have hst₁ : tn 0 h₁ := T.keep _ _ _ st fun b _ o e => old b o e
  generalize hDe : s.heap.objs.size = D at hDC hCle below hacc hfl ⊢
  generalize hCe : H2.objs.size = C at hns₁ hsb₁ hC hDC hCle below ⊢
  have fD : ∀ {H' : Hp}, H' D = none → FpOk X pins H' D := fun hn => I.fpOk (by rw [hDe]; exact Nat.le_refl _) hn
  have fC : ∀ {H' : Hp}, H' C = none → FpOk X pins H' C := fun hn => I.fpOk (by rw [hDe]; exact hCle) hn
  have HD : H D = none := I.hok.fresh (by rw [hDe]; exact Nat.le_refl _)
  -- the pin of the new list, in the block
  have pinD : ∀ {o : Obj} {σ' : St} {H' : Hp} {s' : Shared} {ps : List (Addr × Obj)}, Inv (cxComp X N' scope C s H fp (X.pn ++ pins)) ps σ' H' s' → s'.heap.get? D = some o → H' D = none → (∀ v, o.data ≠ .cell v) →
      Inv (cxComp X N' scope C s H fp (X.pn ++ pins)) (ps ++ [(D, o)]) σ' H' s' := fun {o σ' H' s' ps} J1 e n d => by
    refine J1.pins_of fun p hp => ?_
    rcases List.mem_append.mp hp with hp | hp
    · exact J1.pin p (List.mem_append_right _ hp)
    · rw [List.mem_singleton.mp hp]
      refine ⟨e, n, hDC, fun z => ?_, d⟩
      rcases List.mem_cons.mp (I.stkSub D z) with z | z
      · exact (fD HD).2.1 z
      · exact (fD HD).2.2.1 z
  have loop : ∀ s₃ : Shared, s₃ = { s with heap := h₁, toks := s.toks + ([] : List (Str × Value)).length } →
      codeAny (model X.prog X.w) X.A (.compLoop (.ListComp elt [⟨tg, iter, ifs, 0⟩] scope pos) 0 (.ref it) (.ref D) (compEnvC scope (closL X.env.cells scope.names []) C X.env)) (RR (.ref D) C) s₃ := by
    rintro s₃ rfl
    have I4 : Inv (cxComp X N' scope C s H fp (X.pn ++ pins)) [] (selS sel σ) H { s with heap := h₁, toks := s.toks + ([] : List (Str × Value)).length } :=
      inv_block I hk k (by rw [hDe]; exact hCle) f2 (fun b hb => by rw [hDe]; exact hfl b hb) hns₁ old
    refine compLoop_any (fun n s' => ∃ i H' ys its nn, Inv (cxComp X N' scope C s H fp (X.pn ++ pins)) [] (selS sel σ) H' s' ∧ tn i s'.heap ∧ (∀ b ∈ fp, H' b = none) ∧ H' D = none ∧
      s'.heap.get? D = some { cls := .type "list", data := .seq (List.toArray its) nn } ∧ Vals ys its ∧ ys.length ≤ sizeLine ∧ W i n ys H') ?_ m0 ⟨0, H, [], [], 0, I4, hst₁, fun b hb => (f2 b hb).1, HD, hacc, .nil, Nat.zero_le _, w0⟩
    rintro n s3 ⟨i, H3, ys, its, nn, I3, st3, fr3, hD3, o3, v3, z3, w3⟩
    have I3' := pinD I3 o3 hD3 (fun v z => by cases z)
    have stat : ∀ {ps : List (Addr × Obj)} {H' : Hp}, (∀ p ∈ ps, p.1 = D) → (∀ b ∈ fp, H' b = none) → ∀ b ∈ fp, FpOk (cxComp X N' scope C s H fp (X.pn ++ pins)) ps H' b := fun {ps H'} hps hn b hb => by
      obtain ⟨a0, a1, a2, a3, a4, a5⟩ := f2 b hb
      refine ⟨hn b hb, Nat.ne_of_lt (Nat.lt_of_lt_of_le (hfl b hb) hCle), fun z => ?_, .inl hb, fun x c h => a4 x c ((clos_cells I k).2 x c h).1, fun p hp => ?_⟩
      · rcases List.mem_cons.mp (I.stkSub b z) with z | z
        · exact a1 z
        · exact a2 z
      · rcases List.mem_append.mp hp with hp | hp
        · exact a5 p hp
        · rw [hps p hp]
          exact (Nat.ne_of_lt (hfl b hb)).symm
    rcases turn i n ys H3 w3 with ⟨stop, qe⟩ | ⟨go, hz, Nn, hNn, step⟩
    · refine noE (thn (T.done (cxComp X N' scope C s H fp (X.pn ++ pins)) rfl rfl rfl hc i _ s3 _ H3 _ I3' (fun p hp => List.mem_append_left _ (hpd p hp)) (stat (fun p hp => by have : p ∈ [] ++ [(D, _)] := hp; rw [List.nil_append] at this; rw [List.mem_singleton.mp this]) fr3) st3 stop) fun r s4 ⟨hr, J4⟩ => ?_)
      subst hr
      obtain ⟨m4, n4, _⟩ := id J4.loc
      have o4 := (J4.pin (D, _) (List.mem_append_right _ (List.mem_append_right _ (List.mem_singleton.mpr rfl)))).1
      have hC4 : H3 C = none := J4.free
      have hDC' : C ≠ D := Ne.symm hDC
      refine hRR D C s4 H3 ys m4 hD3 (I.call' (ch := fp) J4.os ?_ ?_ J4.bare (fun b hb => ?_)) n4 (fC (by rw [upd_ne hDC']; exact hC4)) qe
      · have u := J4.base
        have nD : ∀ b o, s.heap.get? b = some o → b ≠ D := fun b o e => by rw [← hDe]; exact Nat.ne_of_lt (Heap.lt_size e)
        have nD2 : ∀ b o, H b = some o → b ≠ D := fun b o e => ne_of_none e HD
        exact ⟨u.keep, u.slot, fun b o e n hx => by rw [upd_ne (nD b o e)]; exact u.free b o e n hx, u.there, fun b xs e => by rw [upd_ne (nD2 b _ e)]; exact u.tups b xs e,
          fun b o w e => by rw [upd_ne (nD2 b _ e)]; exact u.frzs b o w e, fun b ps e => by rw [upd_ne (nD2 b _ e)]; exact u.tbls b ps e⟩
      · intro b o e
        by_cases hbD : b = D
        · subst hbD
          rw [upd_same] at e
          cases e
          exact ⟨z3, its, nn, v3, o4⟩
        · rw [upd_ne hbD] at e
          exact (J4.hok b o e).stay (fun c u _ q => q) (fun c q => by rw [upd_ne (ne_of_none q hD3)]; exact q) fun c xs q => by rw [upd_ne (ne_of_none q hD3)]; exact q
      · obtain ⟨a0, a1, a2, a3, a4, a5⟩ := f2 b hb
        exact ⟨a3, a1, a4, a5⟩
    · refine noE (thn (T.item (cxComp X N' scope C s H fp (X.pn ++ pins)) rfl rfl rfl hc i _ s3 _ H3 _ I3' (fun p hp => List.mem_append_left _ (hpd p hp)) (stat (fun p hp => by have : p ∈ [] ++ [(D, _)] := hp; rw [List.nil_append] at this; rw [List.mem_singleton.mp this]) fr3) st3 go) fun r s4 ⟨u, hr, h4⟩ => ?_)
      subst hr
      refine noE (thn h4 fun _ s5 ⟨x, H5, I5, r5, y5, st5, fr5⟩ => ?_)
      obtain ⟨hb1, hb2, hb3⟩ := hb C s H fp (X.pn ++ pins)
      have I5' := I5.pinned (stat (fun p hp => by have : p ∈ [] ++ [(D, _)] := hp; rw [List.nil_append] at this; rw [List.mem_singleton.mp this]) fr5) (T.obj _ _ st5)
      refine noE (thn (hb1 _ s5 _ H5 x u _ I5' r5 (hgk _ _ _ _ (step x H5 y5))) fun _ s6 ⟨σ6, H6, I6, hw6, q6⟩ => ?_)
      refine noE (thn (hb2 _ s6 σ6 H6 _ I6 q6) fun ok s7 ⟨H7, I7, q7⟩ => ?_)
      -- what stands behind the turn
      have back : ∀ {σ8 : St} {H8 : Hp} {s8 : Shared}, Inv (cxComp X N' scope C s H fp (X.pn ++ pins)) (([] ++ [(D, { cls := .type "list", data := .seq (List.toArray its) nn })]) ++ pinsAt fp s5.heap) σ8 H8 s8 →
          tn (i + 1) s8.heap ∧ (∀ b ∈ fp, H8 b = none) ∧ H8 D = none ∧ s8.heap.get? D = some { cls := .type "list", data := .seq (List.toArray its) nn } := fun {σ8 H8 s8} J8 => by
        refine ⟨T.keep _ _ _ st5 fun b hb o e => (J8.pin (b, o) (List.mem_append_right _ (List.mem_append_right _ (mem_pinsAt hb e)))).1, fun b hb => ?_, ?_, ?_⟩
        · obtain ⟨o, e, d⟩ := T.obj _ _ st5 b hb
          exact (J8.pin (b, o) (List.mem_append_right _ (List.mem_append_right _ (mem_pinsAt hb e)))).2.1
        · exact (J8.pin (D, _) (List.mem_append_right _ (List.mem_append_left _ (List.mem_append_right _ (List.mem_singleton.mpr rfl))))).2.1
        · exact (J8.pin (D, _) (List.mem_append_right _ (List.mem_append_left _ (List.mem_append_right _ (List.mem_singleton.mpr rfl))))).1
      have weak : ∀ {H8 : Hp} {s8 : Shared} {ps : List (Addr × Obj)}, Inv (cxComp X N' scope C s H fp (X.pn ++ pins)) ps σ6 H8 s8 → Inv (cxComp X N' scope C s H fp (X.pn ++ pins)) [] (selS sel σ) H8 s8 := fun {H8 s8 ps} J8 =>
        (J8.pins_of (pins' := []) fun p hp => by simp at hp).weak (by rw [J8.len]; exact I4.len) hw6
      cases ok with
      | false =>
        obtain ⟨st8, fr8, hD8, o8⟩ := back I7
        obtain ⟨m', hm, w8⟩ := hNn ys H7 q7
        exact ⟨m', hm, i + 1, H7, ys, its, nn, weak I7, st8, fr8, hD8, o8, v3, z3, w8⟩
      | true =>
        refine noE (thn (hb3 _ s7 σ6 H7 _ I7 q7) fun y s8 ⟨yv, H8, I8, ry, q8⟩ => ?_)
        obtain ⟨st8, fr8, hD8, o8⟩ := back I8
        obtain ⟨m', hm, w8⟩ := hNn _ _ q8
        have hl := v3.length
        refine call_meets F.slot_list_append ⟨_, o8, rfl⟩ F.entry_list_append (F.args_list_append_2 _ _) (PySem.list_append D (List.toArray its) nn y (by rw [List.size_toArray]; omega)) ⟨o8, ?_⟩
        have q := PySem.IsL.update o8 (fun z => z.push y)
        rw [show (List.toArray its).push y = (its ++ [y]).toArray by simp] at q
        have kp : ∀ b o, b ≠ D → s8.heap.get? b = some o → (s8.heap.update D (Obj.mapSeq fun z => z.push y)).get? b = some o := fun b o hb e => (Heap.get?_update_other s8.heap (Obj.mapSeq fun z => z.push y) (Ne.symm hb)).trans e
        refine ⟨m', hm, i + 1, H8, ys ++ [yv], its ++ [y], _, (weak I8).turned (t' := s8.toks) kp hD8 hDC (.inr (by show s.heap.objs.size ≤ D; rw [hDe]; exact Nat.le_refl _)) (fun x c h => (fD HD).2.2.2.2.1 x c ((clos_cells I k).2 x c h).1) (fun p hp => (fD HD).2.2.2.2.2 p (by have : p ∈ (X.pn ++ pins) ++ [] := hp; rwa [List.append_nil] at this)),
          T.keep _ _ _ st8 (fun b hb o e => kp b o (Nat.ne_of_lt (hfl b hb)) e), fr8, hD8, q, v3.append (.cons ry .nil), ?_, w8⟩
        rw [List.length_append, List.length_singleton]
        omega
  exact codeAny_compStart_list (loop _ rfl) (T.self _ 0 _ _ _ hst₁ (loop _ rfl))

def tLcI (sel : List (Option Nat)) (td : TE) (g : TG) (tt : TT) (te : TE) : TE := fun σ H Q => td σ H fun x H1 => ∃ d kvs, x = .ref d ∧ H1 d = some (.dK kvs) ∧ ∃ W : Nat → Nat → List V → Hp → Prop, (∃ m, W 0 m [] (del H1 d)) ∧
  lcTurn sel g tt te σ (Iti kvs) W fun ys G => ∀ D, G D = none → D ≠ d → Q (.ref D) (upd (upd G D (.lst ys)) d (.dK kvs))
theorem pe_lcI {elt o : Expr} {es : List Expr} {x1} {tpos apos cpos : Pos} {ifs : List Expr} {scope : Scope} {pos : Pos} {td : TE} {N' : List Str} {sel : List (Option Nat)} {g : TG} {tt : TT} {te : TE}
    (hc : X.calm = true) (hk : scope.kind = .function) (chk : compChk scope X.env.scope X.N N' sel = true) (ho : PE X o td) (hgk : GKeeps sel g)
    (hb : ∀ (C : Addr) (s : Shared) (H : Hp) (fp : List Addr) (pn : List (Addr × Obj)), PG (cxComp X N' scope C s H fp pn) (.Tuple es x1 tpos) g ∧ PTs (cxComp X N' scope C s H fp pn) ifs tt ∧ PE (cxComp X N' scope C s H fp pn) elt te)
    (hbase : attributeBase o "items" X.env (eval o X.env) = eval o X.env := by rfl) (hline : (apos.endLine == cpos.line) = true := by rfl)
    (hs : ∀ x, foldedSetIterable (.Call (.Attribute o "items" apos) [] [] cpos) X.env x = pure x := by intro _; rfl) : PE X (.ListComp elt [⟨.Tuple es x1 tpos, .Call (.Attribute o "items" apos) [] [] cpos, ifs, 0⟩] scope pos) (tLcI sel td g tt te) := by
  intro pins s σ H Q I h
  have k := chk_ok chk
  rw [eval_ListComp]
  refine wpAny_comprehension_free (use := none) rfl hs (closureFor_free (clos_cells I k).1) hk k.lo ?_
  refine wpAny_Call_method0_late hbase hline (thn (ho pins s σ H _ I h) fun v s1 ⟨x, H1, I1, rx, d, kvs, ex, ed, W, ⟨m0, w0⟩, turn⟩ => ?_)
  subst ex
  obtain rfl : v = Value.ref d := rx
  obtain ⟨ob, vs, ep, hob, hS, rel, hat, IF, back⟩ := I1.forget ed
  have dt := hat _ hob
  have dof : s1.heap.DictOf (mixKind X.prog X.w) d vs := by obtain ⟨o', es', q⟩ := dt; exact ⟨o', es', ep, q⟩
  have t2 : ∀ b, Value.ref d = .ref b → ∃ ob, s1.heap.get? b = some ob ∧ ob.dict = none := by
    intro b hb
    cases hb
    obtain ⟨o', es', ep', h1, h2, _⟩ := dof
    exact ⟨o', h1, h2.2.1⟩
  refine ⟨"dict", _, PySem.F.plainAttrs_dict, PySem.F.slot_dict_items, PySem.F.type_dict_items, dof.typeIs, t2, Calls.callWith_builtin rfl (PySem.evalArgs_none ?_)⟩
  refine call_meetsIn PySem.F.slot_dict_items dof.typeIs PySem.F.entry_dict_items (PySem.F.args_dict_items_1 _) (meets_dict_items (mixKind X.prog X.w) d hS) ⟨⟨_, dof⟩, ?_⟩
  have hd1 : d < s1.heap.objs.size := Heap.lt_size hob
  have keep1 : ∀ b u, s1.heap.get? b = some u → (s1.heap.push { cls := .type "dict_items", data := .fields #[.ref d] }).get? b = some u := fun b u q => Heap.get?_push_of_some _ q
  refine wpAny_pyIter_items (knd := mixKind X.prog X.w) (d := d) ⟨_, Heap.get?_push_size _ rfl, rfl, rfl⟩ (hat _ (keep1 _ _ hob)) ?_
  have sz : (s1.heap.push { cls := .type "dict_items", data := .fields #[.ref d] }).objs.size = s1.heap.objs.size + 1 := by rw [Heap.size_push]
  have I2 := IF.kept (t' := s1.toks) (h' := (s1.heap.push { cls := .type "dict_items", data := .fields #[.ref d] }).push { cls := .type "dict_itemiterator", data := .fields #[.none, .bool false, .ref d, .int 0 0, .int vs.length 0, .int ep 0, .none, .none] }) fun b u q => Heap.get?_push_of_some _ (keep1 b u q)
  refine lc_blockP (pd := [(d, ob)]) (fp := [(s1.heap.push { cls := .type "dict_items", data := .fields #[.ref d] }).objs.size]) (RR := fun acc C => compPost (model X.prog X.w) X.A X.xe none (EP X pins σ Q) acc C) hc hk k I2 (fun p hp => List.mem_append_right _ (List.mem_append_right _ hp))
    (turn_items d _ ob kvs vs ep (by rw [sz]; exact Nat.ne_of_lt (Nat.lt_succ_of_lt hd1)) rel hat) ⟨_, _, Heap.get?_push_size _ rfl⟩ (fun b hb => ?_) hb hgk w0 turn ?_
  · have z : b = (s1.heap.push { cls := .type "dict_items", data := .fields #[.ref d] }).objs.size := by simpa using hb
    subst z
    exact IF.fpOk (by rw [sz]; omega) (IF.hok.fresh (by rw [sz]; omega))
  · intro D C s' H' ys m hD I' hns fC q
    have hDd : D ≠ d := fun z => by
      have := (I'.pin (d, ob) (List.mem_append_right _ (List.mem_append_right _ (List.mem_singleton.mpr rfl)))).2.1
      rw [z, upd_same] at this
      cases this
    refine ⟨m, hns, fun h' hs' => ?_⟩
    have I3 := I'.turned (t' := s'.toks) (fun b o hb e => (hs'.2 b hb).trans e) fC.1 fC.2.1 fC.2.2.2.1 fC.2.2.2.2.1 fC.2.2.2.2.2
    exact ⟨.ref D, _, back _ _ _ I3, rfl, q D hD hDd⟩
theorem lc_items {kvs : List (Key × V)} {sel : List (Option Nat)} {g : TG} {tt : TT} {te : TE} {σ : St} {H : Hp} {Qe : List V → Hp → Prop} (Pv : Nat → List V → Hp → Prop) (h0 : Pv 0 [] H)
    (hl : ∀ i ys H, i ≤ kvs.length → Pv i ys H → ys.length ≤ i) (hz : kvs.length ≤ sizeLine)
    (hs : ∀ i kv ys H p, kvs[i]? = some kv → Pv i ys H → H p = none → g (.ref p) (selS sel σ) (upd H p (.tup [kV kv.1, kv.2])) fun σ2 H2 => tt σ2 H2 fun b H3 => if b = true then te σ2 H3 fun y H4 => Pv (i + 1) (ys ++ [y]) H4 else Pv (i + 1) ys H3)
    (hd : ∀ ys H, Pv kvs.length ys H → Qe ys H) : ∃ W : Nat → Nat → List V → Hp → Prop, (∃ m, W 0 m [] H) ∧ lcTurn sel g tt te σ (Iti kvs) W Qe := by
  refine ⟨fun i m ys H => m = kvs.length - i ∧ i ≤ kvs.length ∧ Pv i ys H, ⟨_, rfl, Nat.zero_le _, h0⟩, ?_⟩
  rintro i m ys H ⟨rfl, hi, p⟩
  have hy := hl i ys H hi p
  by_cases e : i = kvs.length
  · subst e
    exact .inl ⟨Nat.le_refl _, hd _ _ p⟩
  · have hlt : i < kvs.length := Nat.lt_of_le_of_ne hi e
    refine .inr ⟨hlt, by omega, Pv (i + 1), fun ys' H' p' => ⟨kvs.length - (i + 1), by omega, rfl, hlt, p'⟩, ?_⟩
    rintro x H' ⟨q, kv, rfl, hq, rfl, hx⟩
    exact hs i kv ys H q hx p hq
end
end L2
namespace L2
open PySem
def Rise (xs : Array Nat) : Prop := ∀ (i j : Nat) (hi : i < xs.size) (hj : j < xs.size), i < j → xs[i] < xs[j]
theorem bel_go {xs : Array Nat} (r : Rise xs) (j : Nat) : ∀ (f lo hi : Nat), hi ≤ xs.size → lo ≤ hi → hi - lo ≤ f → (∀ i (h : i < xs.size), i < lo → xs[i] < j) → (∀ i (h : i < xs.size), hi ≤ i → j ≤ xs[i]) →
    SetTable.below.go xs j f lo hi ≤ xs.size ∧ (∀ i (h : i < xs.size), i < SetTable.below.go xs j f lo hi → xs[i] < j) ∧ (∀ i (h : i < xs.size), SetTable.below.go xs j f lo hi ≤ i → j ≤ xs[i]) := by
  intro f
  induction f with
  | zero =>
    intro lo hi h1 h2 h3 h4 h5
    have e : lo = hi := by omega
    subst e
    exact ⟨h1, h4, h5⟩
  | succ f ih =>
    intro lo hi h1 h2 h3 h4 h5
    unfold SetTable.below.go
    by_cases hl : lo < hi
    · rw [if_pos hl]
      dsimp only
      have hm : (lo + hi) / 2 < xs.size := by omega
      have eg : xs.getD ((lo + hi) / 2) j = xs[(lo + hi) / 2] := by simp [hm]
      rw [eg]
      by_cases hc : xs[(lo + hi) / 2] < j
      · rw [if_pos hc]
        refine ih _ _ h1 (by omega) (by omega) (fun i h hi' => ?_) h5
        by_cases q : i < (lo + hi) / 2
        · exact Nat.lt_trans (r i _ h hm q) hc
        · have : i = (lo + hi) / 2 := by omega
          subst this; exact hc
      · rw [if_neg hc]
        refine ih _ _ (by omega) (by omega) (by omega) h4 (fun i h hi' => ?_)
        by_cases q : (lo + hi) / 2 < i
        · have := r _ i hm h q
          omega
        · have : i = (lo + hi) / 2 := by omega
          subst this; omega
    · rw [if_neg hl]
      have e : lo = hi := by omega
      subst e
      exact ⟨h1, h4, h5⟩
theorem bel {xs : Array Nat} (r : Rise xs) (j : Nat) : SetTable.below xs j ≤ xs.size ∧ (∀ i (h : i < xs.size), i < SetTable.below xs j → xs[i] < j) ∧ (∀ i (h : i < xs.size), SetTable.below xs j ≤ i → j ≤ xs[i]) :=
  bel_go r j _ _ _ (Nat.le_refl _) (Nat.zero_le _) (by omega) (fun i _ h => absurd h (Nat.not_lt_zero _)) (fun i h q => absurd h (by omega))
theorem bel_zero {xs : Array Nat} (r : Rise xs) : SetTable.below xs 0 = 0 := by
  obtain ⟨h1, h2, h3⟩ := bel r 0
  by_cases h : SetTable.below xs 0 = 0
  · exact h
  · exact absurd (h2 0 (by omega) (by omega)) (Nat.not_lt_zero _)
theorem bel_next {xs : Array Nat} (r : Rise xs) {i : Nat} (hi : i < xs.size) : SetTable.below xs (xs[i] + 1) = i + 1 := by
  obtain ⟨h1, h2, h3⟩ := bel r (xs[i] + 1)
  have a : ¬ SetTable.below xs (xs[i] + 1) ≤ i := fun q => by have := h3 i hi q; omega
  by_cases b : i + 1 < SetTable.below xs (xs[i] + 1)
  · have := h2 (i + 1) (by omega) b
    have := r i (i + 1) hi (by omega) (by omega)
    omega
  · omega
theorem rise_in {xs : Array Nat} (r : Rise xs) {j : Nat} (hn : ¬ xs[SetTable.below xs j]? = some j) : Rise (SetTable.insertAt xs (SetTable.below xs j) j) := by
  obtain ⟨h1, h2, h3⟩ := bel r j
  generalize SetTable.below xs j = p at h1 h2 h3 hn
  have h4 : ∀ i (h : i < xs.size), p ≤ i → j < xs[i] := fun i h q => by
    have a := h3 i h q
    by_cases e : i = p
    · subst e
      have : xs[i] ≠ j := fun z => hn (by rw [Array.getElem?_eq_getElem h, z])
      omega
    · have b := r p i (by omega) h (by omega)
      have c := h3 p (by omega) (Nat.le_refl _)
      omega
  have sz : (SetTable.insertAt xs p j).size = xs.size + 1 := by
    simp [SetTable.insertAt]; omega
  have at_ : ∀ i (h : i < (SetTable.insertAt xs p j).size), (SetTable.insertAt xs p j)[i] = if h' : i < p then xs[i]'(by omega) else if h2 : i = p then j else xs[i - 1]'(by rw [sz] at h; omega) := by
    intro i h
    have h' : i < xs.size + 1 := by rw [← sz]; exact h
    have e : (SetTable.insertAt xs p j)[i]? = (xs.toList.take p ++ j :: xs.toList.drop p)[i]? := by
      rw [← Array.getElem?_toList]
      congr 1
      simp [SetTable.insertAt, List.extract_eq_take_drop, List.take_of_length_le]
    have e2 : (SetTable.insertAt xs p j)[i]? = some (SetTable.insertAt xs p j)[i] := Array.getElem?_eq_getElem h
    rw [e2] at e
    by_cases c1 : i < p
    · rw [dif_pos c1]
      rw [List.getElem?_append_left (by simp; omega), List.getElem?_take_of_lt c1, Array.getElem?_toList, Array.getElem?_eq_getElem (by omega)] at e
      exact Option.some.inj e
    · rw [dif_neg c1]
      rw [List.getElem?_append_right (by simp; omega)] at e
      have l : (xs.toList.take p).length = p := by simp; omega
      rw [l] at e
      by_cases c2 : i = p
      · rw [dif_pos c2]
        subst c2
        rw [Nat.sub_self, List.getElem?_cons_zero] at e
        exact Option.some.inj e
      · rw [dif_neg c2]
        obtain ⟨k, rfl⟩ : ∃ k, i = p + k + 1 := ⟨i - p - 1, by omega⟩
        rw [show p + k + 1 - p = k + 1 by omega, List.getElem?_cons_succ, List.getElem?_drop, Array.getElem?_toList, Array.getElem?_eq_getElem (by omega)] at e
        exact Option.some.inj e
  intro a b ha hb hab
  rw [at_ a ha, at_ b hb]
  rw [sz] at ha hb
  by_cases c1 : b < p
  · rw [dif_pos c1, dif_pos (by omega)]
    exact r a b _ _ hab
  · rw [dif_neg c1]
    by_cases c2 : b = p
    · rw [dif_pos c2, dif_pos (by omega)]
      exact h2 a _ (by omega)
    · rw [dif_neg c2]
      by_cases c3 : a < p
      · rw [dif_pos c3]
        exact Nat.lt_trans (h2 a (by omega) c3) (h4 (b - 1) (by omega) (by omega))
      · rw [dif_neg c3]
        by_cases c4 : a = p
        · rw [dif_pos c4]
          exact h4 (b - 1) (by omega) (by omega)
        · rw [dif_neg c4]
          exact r (a - 1) (b - 1) _ _ (by omega)
theorem rise_of {l : List Nat} (h : l.Pairwise (· < ·)) : Rise l.toArray := fun i j hi hj hij => by
  have := List.pairwise_iff_getElem.mp h i j (by simpa using hi) (by simpa using hj) hij
  simpa using this
structure Tb (t : SetTable) (led : Bool) : Prop where
  rise : Rise t.place
  dum : t.dummies = #[]
  led : t.led = led
theorem Tb.plain {t : SetTable} {b p : Bool} (h : Tb t b) : Tb { t with plain := p } b := ⟨h.rise, h.dum, h.led⟩
theorem Tb.fresh (b : Bool) : Tb (SetTable.fresh 0 0 b) b := ⟨fun i j hi => absurd hi (by simp [SetTable.fresh]), rfl, rfl⟩
theorem Tb.standIn {t : SetTable} {b : Bool} (h : Tb t b) (n : Nat) : Tb (t.standIn n) b := by
  refine ⟨fun i j hi hj hij => ?_, rfl, h.led⟩
  simp [SetTable.standIn]
  exact hij
theorem Tb.slot {t : SetTable} {b : Bool} (h : Tb t b) (j : Nat) : t.slot j ≠ .dummy ∧ (t.slot j = .empty → ¬ t.place[SetTable.below t.place j]? = some j) := by
  unfold SetTable.slot
  dsimp only
  by_cases e : t.place[SetTable.below t.place j]? = some j
  · have : (t.place[SetTable.below t.place j]? == some j) = true := by rw [e]; simp
    rw [if_pos this]
    exact ⟨(fun z => nomatch z), (fun z => nomatch z)⟩
  · have : ¬ (t.place[SetTable.below t.place j]? == some j) = true := by simpa using e
    rw [if_neg this]
    have hd : SetTable.has t.dummies j = false := by rw [h.dum]; simp [SetTable.has, SetTable.below, SetTable.below.go]
    rw [hd]
    exact ⟨(fun z => nomatch z), fun _ => e⟩
theorem Tb.probe {t : SetTable} {b : Bool} (h : Tb t b) (ha : Nat → Int) (x : Int) : ∀ (f : Nat) (p : SetTable.Probe), p.dummy = none → ∀ j d, SetTable.probe.go t ha x f p = some (.empty j d) → d = none ∧ t.slot j = .empty := by
  intro f
  induction f with
  | zero => intro p _ j d e; cases e
  | succ f ih =>
    intro p hp j d e
    unfold SetTable.probe.go at e
    cases q : t.slot p.j with
    | empty =>
      rw [q] at e
      simp only [Option.some.injEq, SetTable.Met.empty.injEq] at e
      obtain ⟨e1, e2⟩ := e
      subst e1
      exact ⟨e2.symm.trans hp, q⟩
    | dummy => exact absurd q (h.slot p.j).1
    | live i =>
      rw [q] at e
      dsimp only at e
      have hp' : (t.advance p).dummy = none := by
        unfold SetTable.advance
        split
        · exact hp
        · exact hp
      split at e
      · cases e
      · exact ih _ hp' j d e
theorem Tb.layNew {t : SetTable} {b : Bool} (h : Tb t b) (es : Array (Int × Value)) (x : Int) (v : Value) : Tb (PySem.layNew t es x v).2.1 b := by
  unfold PySem.layNew
  cases q : t.freeSlot x with
  | none => exact h.standIn _
  | some sw =>
    obtain ⟨sl, wd⟩ := sw
    dsimp only
    have hs : ¬ t.place[SetTable.below t.place sl]? = some sl := by
      unfold SetTable.freeSlot at q
      cases m : t.probe (fun _ => x + 1) x (t.probeStart x) with
      | none => rw [m] at q; cases q
      | some me =>
        rw [m] at q
        cases me with
        | candidate _ _ _ => cases q
        | empty j d =>
          obtain ⟨e1, e2⟩ := h.probe _ _ _ _ (by rfl) _ _ m
          subst e1
          simp only [Option.some.injEq, Prod.mk.injEq, Option.getD_none] at q
          rw [← q.1]
          exact (h.slot j).2 e2
    have hp : Tb (t.put sl).1 b := by
      refine ⟨rise_in h.rise hs, ?_, h.led⟩
      show (if SetTable.has t.dummies sl then _ else t.dummies) = _
      have hd : SetTable.has t.dummies sl = false := by rw [h.dum]; simp [SetTable.has, SetTable.below, SetTable.below.go]
      rw [hd]
      exact h.dum
    unfold SetTable.orStandIn
    split
    · exact hp
    · exact hp.standIn _
theorem Tb.relay {t : SetTable} {b : Bool} (h : Tb t b) (es : Array (Int × Value)) (n : Nat) : Tb (relayAll t es n).2.1 b := by
  unfold relayAll
  cases q : t.relaid (es.map (·.1)) n with
  | none => exact h.standIn _
  | some r =>
    obtain ⟨t', order⟩ := r
    dsimp only
    split
    · unfold SetTable.relaid SetTable.laid at q
      cases m : SetTable.layClean (SetTable.sizeAbove n - 1) (es.map (·.1)) with
      | none => rw [m] at q; cases q
      | some ow =>
        rw [m] at q
        simp only [Option.bind_eq_bind, Option.bind_some, Option.pure_def, Option.some.injEq, Prod.mk.injEq] at q
        obtain ⟨e1, _⟩ := q
        subst e1
        refine ⟨rise_of ?_, rfl, h.led⟩
        rw [List.map_filterMap]
        refine List.Pairwise.filterMap (R := (· < ·)) _ (fun a a' haa c hc c' hc' => ?_) List.pairwise_lt_range
        simp at hc hc'
        omega
    · exact h.standIn _
end L2
namespace L2
open PySem PySem.Spec PyProof.Rows
def iv : Value → Int
  | .int n _ => n
  | _ => 0
structure Se (P : Program) (w : World) (h : Heap) (a : Addr) (led : Bool) (es : Array (Int × Value)) (ep : Nat) (t : SetTable) : Prop where
  at_ : h.get? a = some { cls := .type "set", data := .set es ep t }
  el : ElemsOf (intKind P w) es.toList
  all : ∀ e ∈ es.toList, ∃ n tk, e.2 = .int n tk
  nd : (es.toList.map fun e => iv e.2).Nodup
  small : es.size < scanBound
  fits : t.fits es.size = true
  tb : Tb t led
def SI (P : Program) (w : World) (h : Heap) (a : Addr) (led : Bool) (ms : List Int) (c : Nat) : Prop :=
  ∃ es ep t, Se P w h a led es ep t ∧ (∀ k, k ∈ ms ↔ k ∈ es.toList.map fun e => iv e.2) ∧ es.size ≤ c
theorem ik_is {P : Program} {w : World} {k n : Int} {tk : Tok} : (intKind P w).is k (.int n tk) = true ↔ k = n := by
  constructor
  · intro h
    exact (intKind P w).inj _ _ _ h (intKind_is P w n tk)
  · rintro rfl
    exact intKind_is P w k tk
theorem se_add {P : Program} {w : World} {h : Heap} {a : Addr} {led : Bool} {es es1 : Array (Int × Value)} {ep ep1 : Nat} {t t1 : SetTable} {k : Int} {tk : Tok}
    (hs : Se P w h a led es ep t) (hno : k ∉ es.toList.map fun e => iv e.2) (hz : es.size + 1 < scanBound) {h1 : Heap} (at1 : h1.get? a = some { cls := .type "set", data := .set es1 ep1 t1 })
    (hp : List.Perm es1.toList (es.toList ++ [((intKind P w).hash k, .int k tk)])) (hf : t1.fits es1.size = true) (tb1 : Tb t1 led) :
    Se P w h1 a led es1 ep1 t1 ∧ es1.size = es.size + 1 ∧ ∀ j, j ∈ (es1.toList.map fun e => iv e.2) ↔ j ∈ (es.toList.map fun e => iv e.2) ∨ j = k := by
  have hm : List.Perm (es1.toList.map fun e => iv e.2) ((es.toList.map fun e => iv e.2) ++ [k]) := by
    have := hp.map fun e => iv e.2
    rwa [List.map_append] at this
  have sz : es1.size = es.size + 1 := by
    have := hp.length_eq
    simpa using this
  refine ⟨⟨at1, ?_, fun e he => ?_, ?_, by omega, hf, tb1⟩, sz, fun j => ?_⟩
  · exact (hs.el.push (intKind_is P w k tk) rfl).perm hp
  · rcases List.mem_append.mp (hp.mem_iff.mp he) with q | q
    · exact hs.all e q
    · rw [List.mem_singleton] at q
      rw [q]
      exact ⟨_, _, rfl⟩
  · rw [hm.nodup_iff, List.nodup_append]
    refine ⟨hs.nd, by simp, fun x hx y hy e => ?_⟩
    rw [List.mem_singleton] at hy
    rw [e, hy] at hx
    exact hno hx
  · rw [hm.mem_iff, List.mem_append, List.mem_singleton]
theorem put_at {h : Heap} {a : Addr} {es es1 : Array (Int × Value)} {ep : Nat} {t t1 : SetTable} (e : h.get? a = some { cls := .type "set", data := .set es ep t }) :
    (h.update a (Obj.putSet es1 t1)).get? a = some { cls := .type "set", data := .set es1 (ep + 1) t1 } := by
  have q := Heap.get?_update_self (Obj.putSet es1 t1) e (by rw [putSet_of es1 t1 rfl]; rfl)
  rw [putSet_of es1 t1 rfl] at q
  exact q
theorem add_int {P : Program} {w : World} {A : Around} {E : Value → Shared → Prop} {s : Shared} {a : Addr} {led : Bool} {ms : List Int} {c : Nat} {k : Int} {tk : Tok} {Q : Bool → Shared → Prop}
    (hS : SI P w s.heap a led ms c) (hc : c + 1 < scanBound) (hQ : ∀ b h', Heap.SameBut a s.heap h' → SI P w h' a led (ms ++ [k]) (c + 1) → Q b { s with heap := h' }) :
    wpAny (model P w) A (setAddHashed a (.int k tk) ((intKind P w).hash k)) Q E s := by
  obtain ⟨es, ep, t, se, mem, le⟩ := hS
  have ik := intKind_is P w k tk
  unfold setAddHashed setAddHashedIn
  refine wpAny_holding (wpAny_bind (wpAny_setState_of se.at_ rfl se.fits ?_))
  dsimp only
  rw [if_pos (byScan_of rfl se.small se.el)]
  unfold setAddByScan
  refine wpAny_bind (wpAny_bind (wpAny_rule (wpAny_bind (wpAny_setScan_of ik se.at_ rfl se.fits se.el ?_))))
  cases q : List.findIdx? (fun e => (intKind P w).is k e.2) es.toList with
  | some j =>
    obtain ⟨hj, hp, _⟩ := List.findIdx?_eq_some_iff_getElem.mp q
    refine wpAny_pure (wpAny_pure ?_)
    have z := hQ false s.heap (Heap.SameBut.refl a s.heap) ⟨es, ep, t, se, fun x => ?_, by omega⟩
    · cases s; exact z
    · rw [List.mem_append, List.mem_singleton, mem x]
      refine ⟨fun z => z.elim id fun e => ?_, .inl⟩
      obtain ⟨n, u, en⟩ := se.all _ (List.getElem_mem hj)
      rw [en] at hp
      rw [e, ik_is.mp hp]
      exact List.mem_map.mpr ⟨_, List.getElem_mem hj, by rw [en]; rfl⟩
  | none =>
    have hno : k ∉ es.toList.map fun e => iv e.2 := fun z => by
      obtain ⟨e, he, ek⟩ := List.mem_map.mp z
      obtain ⟨n, u, en⟩ := se.all e he
      have := List.findIdx?_eq_none_iff.mp q e he
      rw [en] at ek this
      have : (intKind P w).is k (.int n u) = true := ik_is.mpr ek.symm
      simp_all
    dsimp only
    have hperm := layNew_perm t es ((intKind P w).hash k) (.int k tk)
    have hfit := layNew_fits t es ((intKind P w).hash k) (.int k tk)
    have htb := se.tb.layNew es ((intKind P w).hash k) (.int k tk)
    generalize layNew t es ((intKind P w).hash k) (.int k tk) = L at hperm hfit htb ⊢
    obtain ⟨es1, t1, wd, gv⟩ := L
    dsimp only at hperm hfit htb ⊢
    rw [Array.toList_push] at hperm
    have zz : es.size + 1 < scanBound := by omega
    have fin : ∀ h1 es2 ep2 t2, h1.get? a = some { cls := .type "set", data := .set es2 ep2 t2 } → List.Perm es2.toList (es.toList ++ [((intKind P w).hash k, .int k tk)]) → t2.fits es2.size = true → Tb t2 led → SI P w h1 a led (ms ++ [k]) (c + 1) := fun h1 es2 ep2 t2 e1 e2 e3 e4 => by
      obtain ⟨s1, s2, s3⟩ := se_add se hno zz e1 e2 e3 e4
      exact ⟨es2, ep2, t2, s1, fun x => by rw [List.mem_append, List.mem_singleton, mem x, s3 x], by omega⟩
    have main : ∀ t2 : SetTable, t2.fits es1.size = true → Tb t2 led → ∀ g : Bool → Sem Unit, (∀ (b : Bool) (s1 : Shared) (R : Unit → Shared → Prop), R () s1 → wpAny (model P w) A (g b) R E s1) → wpAny (model P w) A (do
        storeSet a es1 t2
        if (!wd && t2.tooFull) = true then do
            g (relayAll t2 es1 (SetTable.grown es1.size)).2.2
            storeSet a (relayAll t2 es1 (SetTable.grown es1.size)).1 (relayAll t2 es1 (SetTable.grown es1.size)).2.1
            pure (some true)
          else pure (some true)) (fun o s' => wpAny (model P w) A (match o with | some added => pure added | none => setAddHashedIn a (.int k tk) ((intKind P w).hash k) 99999) Q E s') E s := by
      intro t2 f2 b2 g hg
      have z1 : es1.size ≤ sizeLine := fits_of_scanBound (by have := hperm.length_eq; simp at this; omega)
      refine wpAny_bind (wpAny_storeSet_of se.at_ rfl ?_ z1)
      split
      · have hp2 := relayAll_perm t2 es1 (SetTable.grown es1.size)
        have hf2 := relayAll_fits t2 es1 (SetTable.grown es1.size)
        have hb2 := b2.relay es1 (SetTable.grown es1.size)
        generalize relayAll t2 es1 (SetTable.grown es1.size) = Rl at hp2 hf2 hb2 ⊢
        obtain ⟨es2, t3, gv2⟩ := Rl
        dsimp only at hp2 hf2 hb2 ⊢
        have z2 : es2.size ≤ sizeLine := by have := hp2.length_eq; simp at this; omega
        refine wpAny_bind (hg _ _ _ (wpAny_bind (wpAny_storeSet_of (put_at se.at_) rfl (wpAny_pure (wpAny_pure ?_)) z2)))
        exact hQ _ _ ((Heap.SameBut.update s.heap a _).trans (Heap.SameBut.update _ a _)) (fin _ _ _ _ (put_at (put_at se.at_)) (hp2.trans hperm) hf2 hb2)
      · exact wpAny_pure (wpAny_pure (hQ _ _ (Heap.SameBut.update s.heap a _) (fin _ _ _ _ (put_at se.at_) hperm f2 b2)))
    refine wpAny_bind ?_
    cases gv
    all_goals first | refine wpAny_pure ?_ | refine wpAny_rule ?_
    all_goals
      by_cases pl : t1.plain = true
      · rw [if_pos pl, hashByValue_scannable 8 rfl]
        exact wpAny_bind (wpAny_pure (main t1 hfit htb _ fun b s1 R z => by cases b <;> first | exact wpAny_pure z | exact wpAny_rule z))
      · rw [if_neg pl]
        exact wpAny_bind (wpAny_pure (main t1 hfit htb _ fun b s1 R z => by cases b <;> first | exact wpAny_pure z | exact wpAny_rule z))
end L2
namespace L2
open PySem PySem.Spec PyProof.Rows
theorem wp_choose {M : Model} {A : Around} {E : Value → Shared → Prop} {s : Shared} {src : Source} {n : Nat} {Q : Nat → Shared → Prop} (hn : n ≠ 0) (h : ∀ i, i < n → Q i { s with drawn := s.drawn.bump src }) : wpAny M A (choose src n) Q E s :=
  fun _ _ _ => ⟨hn, h _ (Nat.mod_lt _ (Nat.pos_of_ne_zero hn))⟩
theorem erase_perm {α : Type} : ∀ (l : List α) (i : Nat) (h : i < l.length), List.Perm (l[i] :: l.eraseIdx i) l
  | [], _, h => absurd h (Nat.not_lt_zero _)
  | x :: r, 0, _ => .rfl
  | x :: r, i + 1, h => ((List.Perm.swap _ _ _)).trans ((erase_perm r i (by simpa using h)).cons x)
theorem draw_order {M : Model} {A : Around} {E : Value → Shared → Prop} {α : Type} : ∀ (n : Nat) (xs : List α) (s : Shared) (Q : List α → Shared → Prop), xs.length = n → (∀ ys d, List.Perm ys xs → Q ys { s with drawn := d }) → wpAny M A (drawOrder n xs) Q E s
  | 0, [], s, Q, _, h => by
    unfold drawOrder
    have q := h [] s.drawn .rfl
    exact wpAny_pure (by cases s; exact q)
  | n + 1, x :: r, s, Q, e, h => by
    unfold drawOrder
    refine wpAny_bind (wp_choose (by simp) fun i hi => ?_)
    have hg : (x :: r)[i]? = some (x :: r)[i] := List.getElem?_eq_getElem hi
    rw [hg]
    refine wpAny_bind (draw_order n _ _ _ (by rw [List.length_eraseIdx_of_lt hi]; simpa using e) fun ys d p => wpAny_pure ?_)
    exact h _ d ((p.cons _).trans (erase_perm _ _ hi))
theorem pick_perm {α : Type} (nx : Nat → Nat) : ∀ (n k : Nat) (l : List α) (out : Array α), l.length = n → List.Perm (pickOrder.go nx n k l out).toList (out.toList ++ l)
  | 0, k, l, out, e => by
    have : l = [] := List.length_eq_zero_iff.mp e
    subst this
    unfold pickOrder.go
    simp
  | n + 1, k, l, out, e => by
    unfold pickOrder.go
    have hi : nx k % l.length < l.length := Nat.mod_lt _ (by omega)
    rw [List.getElem?_eq_getElem hi]
    dsimp only
    refine (pick_perm nx n (k + 1) _ _ (by rw [List.length_eraseIdx_of_lt hi]; omega)).trans ?_
    rw [Array.toList_push, List.append_assoc]
    exact (erase_perm _ _ hi).append_left _
theorem en_sit : entryFor table "set_iterator.__next__" = some Builtin.«set_iterator.__next__» := entryFor_of_tree (by kernel_rfl)
theorem sl_sit : Slot "set_iterator" "__next__" "set_iterator.__next__" :=
  .of (owner := "set_iterator") (n := "__next__") (by rw [typeLookup_type, builtinLookup_eq_fast]; kernel_rfl) (by decide +kernel) (by decide +kernel) (by decide +kernel) (by first | exact .inl (by decide +kernel) | exact .inr (by decide +kernel)) (by rw [isSubtype_type]; kernel_rfl)
theorem ar_sit (a : Value) : argsOk "set_iterator.__next__" ⟨[a], []⟩ := by unfold argsOk; kernel_rfl
theorem en_sei : entryFor table "set.__iter__" = some Builtin.«frozenset.__iter__» := entryFor_alias (id' := "frozenset.__iter__") (by kernel_rfl) rfl (by decide +kernel) (by kernel_rfl)
theorem en_sii : entryFor table "set_iterator.__iter__" = some Builtin.«dict_keyiterator.__iter__» := entryFor_alias (id' := "dict_keyiterator.__iter__") (by kernel_rfl) rfl (by decide +kernel) (by kernel_rfl)
theorem sl_sii : Slot "set_iterator" "__iter__" "set_iterator.__iter__" :=
  .of (owner := "set_iterator") (n := "__iter__") (by rw [typeLookup_type, builtinLookup_eq_fast]; kernel_rfl) (by decide +kernel) (by decide +kernel) (by decide +kernel) (by first | exact .inl (by decide +kernel) | exact .inr (by decide +kernel)) (by rw [isSubtype_type]; kernel_rfl)
theorem ar_sii (a : Value) : argsOk "set_iterator.__iter__" ⟨[a], []⟩ := by unfold argsOk; kernel_rfl
end L2
namespace L2
open PySem PySem.Spec PyProof.Rows
def sObj (es : Array (Int × Value)) (ep : Nat) (t : SetTable) : Obj := { cls := .type "set", data := .set es ep t }
def itObj (f : Value) (i : Int) (S : Addr) (n ep : Nat) : Obj := { cls := .type "set_iterator", data := .fields #[f, rawInt i, .ref S, rawInt n, rawInt ep] }
theorem iter_set {P : Program} {w : World} {A : Around} {E : Value → Shared → Prop} {s : Shared} {S : Addr} {es : Array (Int × Value)} {ep : Nat} {t : SetTable} {Q : Value → Shared → Prop}
    (at_ : s.heap.get? S = some (sObj es ep t)) (fits : t.fits es.size = true) (small : es.size ≤ sizeLine)
    (h1 : (!(w.params.followText "set-order") && (!t.plain && decide (es.size > 1))) = false → Q (.ref s.heap.objs.size) { s with heap := s.heap.push (itObj (rawInt 0) 0 S es.size ep) })
    (h2 : w.params.followText "set-order" = false → ∀ (ps : List Nat) d, List.Perm ps (List.range es.size) →
      Q (.ref (s.heap.objs.size + 1)) { s with heap := (s.heap.push { cls := .type "tuple", data := .seq (ps.map fun (i : Nat) => rawInt i).toArray }).push (itObj (.ref s.heap.objs.size) 0 S es.size ep), drawn := d }) :
    wpAny (model P w) A (pyIter (.ref S)) Q E s := by
  have hT : s.TypeIs (.ref S) "set" := ⟨_, at_, rfl⟩
  refine wpAny_pyIter_slot hT F.slot_set_iter (wpAny_call_entry F.slot_set_iter hT en_sei ?_ (F.args_set_iter_1 _))
  unfold Builtin.«frozenset.__iter__»
  refine wpAny_bind (wpAny_of_eq (a := S) rfl ?_)
  unfold Builtin.Frozenset.sizeOf setEntries setDrawn setsByText
  refine wpAny_bind (wpAny_bind (wpAny_bind (wpAny_setState_of at_ rfl fits (wpAny_pure (wpAny_pure ?_)))))
  refine wpAny_bind (wpAny_bind (wpAny_setState_of at_ rfl fits (wpAny_bind (wpAny_bind (wpAny_askSetting (wpAny_pure (wpAny_pure ?_)))))))
  dsimp only
  split
  · rename_i q
    have q' : (!w.params.followText "set-order" && (!t.plain && decide (es.size > 1))) = true := q
    have hf : w.params.followText "set-order" = false := by
      cases z : w.params.followText "set-order" with
      | false => rfl
      | true => rw [z] at q'; simp at q'
    refine wpAny_bind (draw_order _ _ _ _ (by simp) fun ps d hp => ?_)
    have hl : (ps.map fun (i : Nat) => rawInt i).length = es.size := by have := hp.length_eq; simpa using this
    have hz : es.size ≤ sizeLine := small
    simp only [newTuple, newFields]
    refine wpAny_bind (wpAny_newObj_type ?_ (show (ps.map fun (i : Nat) => rawInt i).toArray.size ≤ sizeLine by rw [List.size_toArray, hl]; exact hz))
    have at2 : (s.heap.push { cls := .type "tuple", data := .seq (ps.map fun (i : Nat) => rawInt i).toArray }).get? S = some (sObj es ep t) := Heap.get?_push_of_some _ at_
    refine wpAny_bind (wpAny_setEpoch_of (s := { s with heap := _, drawn := d }) at2 rfl fits ?_)
    refine wpAny_bind (wpAny_newObj_type (wpAny_pure ⟨_, rfl, "set_iterator", _, ⟨_, Heap.get?_push_size _ rfl, rfl⟩, sl_sit.lookup, ?_⟩) (by size_fits))
    have := h2 hf ps d hp
    have sz : (s.heap.push { cls := .type "tuple", data := .seq (ps.map fun (i : Nat) => rawInt i).toArray }).objs.size = s.heap.objs.size + 1 := by rw [Heap.size_push]
    rw [sz]
    exact this
  · rename_i q
    have q' : (!w.params.followText "set-order" && (!t.plain && decide (es.size > 1))) = false := by
      cases z : (!w.params.followText "set-order" && (!t.plain && decide (es.size > 1))) with
      | false => rfl
      | true => exact absurd z q
    refine wpAny_bind (wpAny_pure ?_)
    simp only [newFields]
    refine wpAny_bind (wpAny_setEpoch_of at_ rfl fits ?_)
    exact wpAny_bind (wpAny_newObj_type (wpAny_pure ⟨_, rfl, "set_iterator", _, ⟨_, Heap.get?_push_size _ rfl, rfl⟩, sl_sit.lookup, h1 q'⟩) (by size_fits))
end L2
namespace L2
open PySem PySem.Spec PyProof.Rows
section
variable {P : Program} {w : World} {A : Around} {E : Value → Shared → Prop} {s : Shared} {S I : Addr} {es : Array (Int × Value)} {ep : Nat} {t : SetTable}
theorem sn_text {j i : Nat} {Q : Option (Value × Nat) → Shared → Prop} (at_ : s.heap.get? S = some (sObj es ep t)) (fits : t.fits es.size = true) (ht : w.params.followText "set-order" = true)
    (h : Q (((pickOrder (w.params.setOrder S ep) es)[i]?).map fun e => (e.2, j)) s) : wpAny (model P w) A (setNext S j i ep) Q E s := by
  have ht' : (model P w).w.params.followText "set-order" = true := ht
  unfold setNext setsByText setWalk
  refine wpAny_bind (wpAny_setState_of at_ rfl fits (wpAny_bind (wpAny_bind (wpAny_askSetting (wpAny_pure ?_)))))
  dsimp only
  rw [if_pos ht', if_neg (by simp)]
  unfold setsByText
  refine wpAny_bind (wpAny_bind (wpAny_setState_of at_ rfl fits (wpAny_bind (wpAny_bind (wpAny_askSetting (wpAny_pure ?_))))))
  dsimp only
  rw [if_pos ht']
  exact wpAny_bind (wpAny_askSetting (wpAny_pure (wpAny_pure h)))
theorem sn_slot {j i : Nat} {Q : Option (Value × Nat) → Shared → Prop} (at_ : s.heap.get? S = some (sObj es ep t)) (fits : t.fits es.size = true) (ht : w.params.followText "set-order" = false)
    (hd : (!t.plain && decide (es.size > 1)) = false) (hl : t.led = true)
    (h : Q (match es[SetTable.below t.place j]?, t.place[SetTable.below t.place j]? with | some (_, x), some p => some (x, p + 1) | _, _ => none) s) : wpAny (model P w) A (setNext S j i ep) Q E s := by
  have ht' : ¬ (model P w).w.params.followText "set-order" = true := by rw [show (model P w).w.params.followText "set-order" = false from ht]; simp
  unfold setNext setsByText
  refine wpAny_bind (wpAny_setState_of at_ rfl fits (wpAny_bind (wpAny_bind (wpAny_askSetting (wpAny_pure ?_)))))
  dsimp only
  rw [if_neg ht']
  split
  · rename_i q
    have q' : (!t.plain && decide (es.size > 1)) = true := q
    rw [hd] at q'
    cases q'
  · refine wpAny_bind (wpAny_of_eq (a := ()) ?_ (wpAny_pure h))
    show (if (!t.led && !es.isEmpty) = true then unsupported "set:maker-not-led" else pure ()) = pure ()
    rw [hl]
    rfl
theorem it_upd {h : Heap} {f g : Value} {i i' : Int} {n : Nat} (e : h.get? I = some (itObj f i S n ep)) :
    ((h.update I (Obj.mapFields (·.setIfInBounds 0 g))).update I (Obj.mapFields (·.setIfInBounds 1 (rawInt i')))).get? I = some (itObj g i' S n ep) := by
  have e1 : (h.update I (Obj.mapFields (·.setIfInBounds 0 g))).get? I = some (itObj g i S n ep) := Heap.get?_update_self _ e rfl
  exact Heap.get?_update_self _ e1 rfl
theorem it_upd1 {h : Heap} {f : Value} {i i' : Int} {n : Nat} (e : h.get? I = some (itObj f i S n ep)) : (h.update I (Obj.mapFields (·.setIfInBounds 1 (rawInt i')))).get? I = some (itObj f i' S n ep) := Heap.get?_update_self _ e rfl
theorem stop_here {Q : Option Value → Shared → Prop} (hh : A.handled = none) (hQ : ∀ h', (∀ b o, s.heap.get? b = some o → h'.get? b = some o) → Q none { s with heap := h' }) :
    wpAny (model P w) A.in1 (newExc (Value.type "StopIteration") [] >>= fun e => raiseNew e) (fun (fin : PySem.Fin) s' => ∃ v, fin = Fin.done (Flow.ret v) ∧ wpAny (model P w) A (pure (some v)) Q E s')
      (fun e s' => wpAny (model P w) A (isInstance e (Value.type "StopIteration") >>= fun b => if b = true then pure none else throw e) Q E s') s := by
  refine wpAny_bind ?_
  simp only [newExc, newTuple]
  refine wpAny_bind (wpAny_newObj_type (wpAny_bind (m := firstArgMember _ _) (wpAny_of_eq (a := Value.none) (by first | rfl | (simp only [firstArgMember]; rfl)) (wpAny_newObj_type ?_ (by size_fits)))) (by size_fits))
  simp only [raiseNew]
  refine wpAny_bind (wpAny_handled ?_)
  rw [show A.in1.handled = none from hh]
  refine ((wpAny_bind (wpAny_pure (wpAny_throw ?_))))
  refine ((wpAny_bind (wpAny_isInstance (T := "StopIteration") (b := true) ⟨_, Heap.get?_push_size _ rfl, rfl⟩ isSubtype_stop ?_)))
  refine (wpAny_pure ?_)
  exact hQ _ fun b o e => Heap.get?_push_of_some _ (Heap.get?_push_of_some _ e)
theorem nx_item {j i j' : Nat} {x : Value} {Q : Option Value → Shared → Prop} (it : s.heap.get? I = some (itObj (rawInt j) i S es.size ep)) (at_ : s.heap.get? S = some (sObj es ep t)) (fits : t.fits es.size = true)
    (sn : ∀ (A : Around) (E : Value → Shared → Prop) (R : Option (Value × Nat) → Shared → Prop), R (some (x, j')) s → wpAny (model P w) A (setNext S j i ep) R E s)
    (hQ : ∀ h', Heap.SameBut I s.heap h' → h'.get? I = some (itObj (rawInt j') (i + 1 : Nat) S es.size ep) → Q (some x) { s with heap := h' }) : wpAny (model P w) A (pyNext (.ref I)) Q E s := by
  have hT : s.TypeIs (.ref I) "set_iterator" := ⟨_, it, rfl⟩
  unfold pyNext
  refine wpAny_bind (wpAny_attempt (wpAny_callSpecial?_slot (name := Str.ofString "__next__") hT sl_sit (wpAny_call_entry sl_sit hT en_sit ?_ (ar_sit _))))
  unfold Builtin.«set_iterator.__next__»
  refine wpAny_bind (wpAny_of_eq (a := (Value.ref I, [])) rfl ?_)
  refine wpAny_bind (wpAny_fieldsOf it rfl ?_)
  show wpAny _ _ (setEntries S >>= _) _ _ s
  unfold setEntries
  refine wpAny_bind (wpAny_bind (wpAny_setState_of at_ rfl fits (wpAny_pure ?_)))
  dsimp only
  rw [if_neg (by simp)]
  show wpAny _ _ (setNext S j i ep >>= _) _ _ s
  refine wpAny_bind (sn _ _ _ ?_)
  dsimp only
  refine wpAny_bind (wpAny_setField it rfl (by simp) ?_)
  have it1 : (s.heap.update I (Obj.mapFields (·.setIfInBounds 0 (rawInt j')))).get? I = some (itObj (rawInt j') i S es.size ep) := Heap.get?_update_self _ it rfl
  refine wpAny_bind (wpAny_setField (s := { s with heap := _ }) it1 rfl (by simp) (wpAny_pure ⟨_, rfl, wpAny_pure (hQ _ ?_ ?_)⟩))
  · exact (Heap.SameBut.update _ I _).trans (Heap.SameBut.update _ I _)
  · exact it_upd it
theorem nx_end {j i : Nat} {Q : Option Value → Shared → Prop} (hh : A.handled = none) (it : s.heap.get? I = some (itObj (rawInt j) i S es.size ep)) (at_ : s.heap.get? S = some (sObj es ep t)) (fits : t.fits es.size = true)
    (sn : ∀ (A : Around) (E : Value → Shared → Prop) (R : Option (Value × Nat) → Shared → Prop), R none s → wpAny (model P w) A (setNext S j i ep) R E s)
    (hQ : ∀ h', (∀ b o, b ≠ I → s.heap.get? b = some o → h'.get? b = some o) → Q none { s with heap := h' }) : wpAny (model P w) A (pyNext (.ref I)) Q E s := by
  have hT : s.TypeIs (.ref I) "set_iterator" := ⟨_, it, rfl⟩
  unfold pyNext
  refine wpAny_bind (wpAny_attempt (wpAny_callSpecial?_slot (name := Str.ofString "__next__") hT sl_sit (wpAny_call_entry sl_sit hT en_sit ?_ (ar_sit _))))
  unfold Builtin.«set_iterator.__next__»
  refine wpAny_bind (wpAny_of_eq (a := (Value.ref I, [])) rfl (wpAny_bind (wpAny_fieldsOf it rfl ?_)))
  show wpAny _ _ (setEntries S >>= _) _ _ s
  unfold setEntries
  refine wpAny_bind (wpAny_bind (wpAny_setState_of at_ rfl fits (wpAny_pure ?_)))
  dsimp only
  rw [if_neg (by simp)]
  show wpAny _ _ (setNext S j i ep >>= _) _ _ s
  refine wpAny_bind (sn _ _ _ ?_)
  dsimp only
  refine wpAny_bind (wpAny_setField it rfl (by simp) ?_)
  exact stop_here hh fun h' z => hQ h' fun b o hb e => z b o ((Heap.get?_update_other _ _ (Ne.symm hb)).trans e)
end
end L2
namespace L2
open PySem PySem.Spec PyProof.Rows
section
variable {P : Program} {w : World} {A : Around} {E : Value → Shared → Prop} {s : Shared} {S I T : Addr} {es : Array (Int × Value)} {ep : Nat} {t : SetTable}
theorem self_it {f : Value} {i : Int} {n : Nat} {Q : Value → Shared → Prop} (it : s.heap.get? I = some (itObj f i S n ep)) (h : Q (.ref I) s) : wpAny (model P w) A (pyIter (.ref I)) Q E s := by
  have hT : s.TypeIs (.ref I) "set_iterator" := ⟨_, it, rfl⟩
  refine wpAny_pyIter_slot hT sl_sii (wpAny_call_entry sl_sii hT en_sii ?_ (ar_sii _))
  show wpAny (model P w) _ (ret (.ref I)) _ _ s
  exact wpAny_pure ⟨_, rfl, "set_iterator", _, hT, sl_sit.lookup, h⟩
def lotObj (ps : List Nat) : Obj := { cls := .type "tuple", data := .seq (ps.map fun (i : Nat) => rawInt i).toArray }
theorem lot_item {i p : Nat} {ps : List Nat} {x : Int × Value} {Q : Option Value → Shared → Prop} (it : s.heap.get? I = some (itObj (.ref T) i S es.size ep)) (at_ : s.heap.get? S = some (sObj es ep t)) (fits : t.fits es.size = true)
    (tt : s.heap.get? T = some (lotObj ps)) (hp : ps[i]? = some p) (hx : es[p]? = some x) (hQ : ∀ h', Heap.SameBut I s.heap h' → h'.get? I = some (itObj (.ref T) (i + 1 : Nat) S es.size ep) → Q (some x.2) { s with heap := h' }) :
    wpAny (model P w) A (pyNext (.ref I)) Q E s := by
  have hT : s.TypeIs (.ref I) "set_iterator" := ⟨_, it, rfl⟩
  unfold pyNext
  refine wpAny_bind (wpAny_attempt (wpAny_callSpecial?_slot (name := Str.ofString "__next__") hT sl_sit (wpAny_call_entry sl_sit hT en_sit ?_ (ar_sit _))))
  unfold Builtin.«set_iterator.__next__»
  refine wpAny_bind (wpAny_of_eq (a := (Value.ref I, [])) rfl (wpAny_bind (wpAny_fieldsOf it rfl ?_)))
  show wpAny _ _ (setEntries S >>= _) _ _ s
  unfold setEntries
  refine wpAny_bind (wpAny_bind (wpAny_setState_of at_ rfl fits (wpAny_pure ?_)))
  dsimp only
  rw [if_neg (by simp)]
  show wpAny _ _ (seqItems? (.ref T) >>= _) _ _ s
  refine wpAny_bind ?_
  unfold seqItems?
  dsimp only
  refine wpAny_bind (wpAny_load tt (wpAny_pure ?_))
  have hi : (ps.map fun (i : Nat) => rawInt i).toArray[i]? = some (rawInt p) := by simp [hp]
  show wpAny _ _ (match (ps.map fun (i : Nat) => rawInt i).toArray[i]? with | some (Value.int place tok) => _ | some val => _ | none => _) _ _ s
  rw [hi]
  show wpAny _ _ (setNextDrawn S p ep >>= _) _ _ s
  unfold setNextDrawn
  refine wpAny_bind (wpAny_bind (wpAny_setState_of at_ rfl fits ?_))
  dsimp only
  rw [if_neg (by simp), hx]
  refine wpAny_pure (wpAny_bind (wpAny_setField it rfl (by simp) (wpAny_pure ⟨_, rfl, wpAny_pure (hQ _ (Heap.SameBut.update _ I _) (it_upd1 it))⟩)))
theorem lot_end {i : Nat} {ps : List Nat} {Q : Option Value → Shared → Prop} (hh : A.handled = none) (it : s.heap.get? I = some (itObj (.ref T) i S es.size ep)) (at_ : s.heap.get? S = some (sObj es ep t)) (fits : t.fits es.size = true)
    (tt : s.heap.get? T = some (lotObj ps)) (hp : ps[i]? = none) (hQ : ∀ h', (∀ b o, b ≠ I → s.heap.get? b = some o → h'.get? b = some o) → Q none { s with heap := h' }) : wpAny (model P w) A (pyNext (.ref I)) Q E s := by
  have hT : s.TypeIs (.ref I) "set_iterator" := ⟨_, it, rfl⟩
  unfold pyNext
  refine wpAny_bind (wpAny_attempt (wpAny_callSpecial?_slot (name := Str.ofString "__next__") hT sl_sit (wpAny_call_entry sl_sit hT en_sit ?_ (ar_sit _))))
  unfold Builtin.«set_iterator.__next__»
  refine wpAny_bind (wpAny_of_eq (a := (Value.ref I, [])) rfl (wpAny_bind (wpAny_fieldsOf it rfl ?_)))
  show wpAny _ _ (setEntries S >>= _) _ _ s
  unfold setEntries
  refine wpAny_bind (wpAny_bind (wpAny_setState_of at_ rfl fits (wpAny_pure ?_)))
  dsimp only
  rw [if_neg (by simp)]
  show wpAny _ _ (seqItems? (.ref T) >>= _) _ _ s
  refine wpAny_bind ?_
  unfold seqItems?
  dsimp only
  refine wpAny_bind (wpAny_load tt (wpAny_pure ?_))
  have hi : (ps.map fun (i : Nat) => rawInt i).toArray[i]? = none := by
    rw [List.getElem?_eq_none_iff] at hp
    simp; exact hp
  show wpAny _ _ (match (ps.map fun (i : Nat) => rawInt i).toArray[i]? with | some (Value.int place tok) => _ | some val => _ | none => _) _ _ s
  rw [hi]
  dsimp only
  refine wpAny_bind (wpAny_setField it rfl (by simp) ?_)
  have it1 : (s.heap.update I (Obj.mapFields (·.setIfInBounds 0 (rawInt 0)))).get? I = some (itObj (rawInt 0) i S es.size ep) := Heap.get?_update_self _ it rfl
  refine wpAny_bind (wpAny_setField (s := { s with heap := _ }) it1 rfl (by simp) ?_)
  exact stop_here hh fun h' z => hQ h' fun b o hb e => z b o ((Heap.get?_update_other _ _ (Ne.symm hb)).trans ((Heap.get?_update_other _ _ (Ne.symm hb)).trans e))
theorem walk_text (hh : A.handled = none) (fits : t.fits es.size = true) (ht : w.params.followText "set-order" = true) (hne : S ≠ I) :
    Walks P w A I [I, S] [I] es.size (fun i v => ∃ e, (pickOrder (w.params.setOrder S ep) es)[i]? = some e ∧ v = e.2) (fun i h => h.get? I = some (itObj (rawInt (0 : Nat)) i S es.size ep) ∧ h.get? S = some (sObj es ep t)) where
  sub := fun b hb => by simp at hb; simp [hb]
  frame := fun i h h' st k => ⟨k I (by simp) _ st.1, k S (by simp) _ st.2⟩
  item := fun i s Q E hi st hQ => by
    have hl : (pickOrder (w.params.setOrder S ep) es).size = es.size := by
      have := (pick_perm (w.params.setOrder S ep) es.size 0 es.toList #[] (by simp)).length_eq
      simpa [pickOrder] using this
    have hx : (pickOrder (w.params.setOrder S ep) es)[i]? = some (pickOrder (w.params.setOrder S ep) es)[i] := Array.getElem?_eq_getElem (by omega)
    refine nx_item st.1 st.2 fits (x := (pickOrder (w.params.setOrder S ep) es)[i].2) (j' := 0) (fun A E R q => sn_text st.2 fits ht (by rw [hx]; exact q)) fun h' sb e => ?_
    exact hQ _ h' s.toks ⟨_, hx, rfl⟩ ⟨e, (sb.2 S hne).trans st.2⟩ fun b o hb q => (sb.2 b (fun z => hb (by simp [z]))).trans q
  done := fun s Q E st hQ => by
    have hl : (pickOrder (w.params.setOrder S ep) es).size = es.size := by
      have := (pick_perm (w.params.setOrder S ep) es.size 0 es.toList #[] (by simp)).length_eq
      simpa [pickOrder] using this
    have hx : (pickOrder (w.params.setOrder S ep) es)[es.size]? = none := Array.getElem?_eq_none (by omega)
    exact nx_end hh st.1 st.2 fits (fun A E R q => sn_text st.2 fits ht (by rw [hx]; exact q)) fun h' k => hQ h' s.toks fun b o hb q => k b o (fun z => hb (by simp [z])) q
  self := fun i s Q E st hQ => self_it st.1 hQ
theorem walk_slot (hh : A.handled = none) (fits : t.fits es.size = true) (ht : w.params.followText "set-order" = false) (hd : (!t.plain && decide (es.size > 1)) = false) (tb : Tb t true) (hne : S ≠ I) :
    Walks P w A I [I, S] [I] es.size (fun i v => ∃ e, es[i]? = some e ∧ v = e.2) (fun i h => (∃ j : Nat, SetTable.below t.place j = i ∧ h.get? I = some (itObj (rawInt j) i S es.size ep)) ∧ h.get? S = some (sObj es ep t)) where
  sub := fun b hb => by simp at hb; simp [hb]
  frame := fun i h h' st k => by
    obtain ⟨⟨j, hj, e⟩, q⟩ := st
    exact ⟨⟨j, hj, k I (by simp) _ e⟩, k S (by simp) _ q⟩
  item := fun i s Q E hi st hQ => by
    obtain ⟨⟨j, hj, e⟩, q⟩ := st
    have hz : t.place.size = es.size := by
      unfold SetTable.fits at fits
      simp at fits
      exact fits.1
    have hx : es[i]? = some es[i] := Array.getElem?_eq_getElem hi
    have hp : t.place[i]? = some (t.place[i]'(by omega)) := Array.getElem?_eq_getElem (by omega)
    refine nx_item e q fits (x := es[i].2) (j' := t.place[i]'(by omega) + 1) (fun A E R z => sn_slot q fits ht hd tb.led (by rw [hj, hx, hp]; exact z)) fun h' sb e' => ?_
    exact hQ _ h' s.toks ⟨_, hx, rfl⟩ ⟨⟨_, bel_next tb.rise (by omega), e'⟩, (sb.2 S hne).trans q⟩ fun b o hb z => (sb.2 b (fun y => hb (by simp [y]))).trans z
  done := fun s Q E st hQ => by
    obtain ⟨⟨j, hj, e⟩, q⟩ := st
    exact nx_end hh e q fits (fun A E R z => sn_slot q fits ht hd tb.led (by rw [hj, Array.getElem?_eq_none (Nat.le_refl _)]; exact z)) fun h' k => hQ h' s.toks fun b o hb z => k b o (fun y => hb (by simp [y])) z
  self := fun i s Q E st hQ => let ⟨⟨_, _, e⟩, _⟩ := st; self_it e hQ
theorem walk_lot (hh : A.handled = none) (fits : t.fits es.size = true) {ps : List Nat} (hp : List.Perm ps (List.range es.size)) (hne : S ≠ I) (hnt : T ≠ I) :
    Walks P w A I [I, S, T] [I] es.size (fun i v => ∃ p e, ps[i]? = some p ∧ es[p]? = some e ∧ v = e.2) (fun i h => h.get? I = some (itObj (.ref T) i S es.size ep) ∧ h.get? S = some (sObj es ep t) ∧ h.get? T = some (lotObj ps)) where
  sub := fun b hb => by simp at hb; simp [hb]
  frame := fun i h h' st k => ⟨k I (by simp) _ st.1, k S (by simp) _ st.2.1, k T (by simp) _ st.2.2⟩
  item := fun i s Q E hi st hQ => by
    have hl : ps.length = es.size := by have := hp.length_eq; simpa using this
    have h1 : ps[i]? = some (ps[i]'(by omega)) := List.getElem?_eq_getElem (by omega)
    have h2 : ps[i]'(by omega) < es.size := List.mem_range.mp (hp.mem_iff.mp (List.getElem_mem _))
    have h3 : es[ps[i]'(by omega)]? = some (es[ps[i]'(by omega)]'h2) := Array.getElem?_eq_getElem h2
    refine lot_item st.1 st.2.1 fits st.2.2 h1 h3 fun h' sb e => ?_
    exact hQ _ h' s.toks ⟨_, _, h1, h3, rfl⟩ ⟨e, (sb.2 S hne).trans st.2.1, (sb.2 T hnt).trans st.2.2⟩ fun b o hb q => (sb.2 b (fun z => hb (by simp [z]))).trans q
  done := fun s Q E st hQ => by
    have hl : ps.length = es.size := by have := hp.length_eq; simpa using this
    exact lot_end hh st.1 st.2.1 fits st.2.2 (List.getElem?_eq_none (by omega)) fun h' k => hQ h' s.toks fun b o hb q => k b o (fun z => hb (by simp [z])) q
  self := fun i s Q E st hQ => self_it st.1 hQ
end
end L2
namespace L2
open PySem PySem.Spec PyProof.Rows
theorem en_sul : entryFor table "set.update.loop" = some Builtin.«set.update.loop» := entryFor_of_tree (by kernel_rfl)
theorem pl_sul : plainId "set.update.loop" = true := by decide +kernel
theorem SI.at {P : Program} {w : World} {h h' : Heap} {S : Addr} {led : Bool} {ms : List Int} {c : Nat} (x : SI P w h S led ms c) (k : ∀ o, h.get? S = some o → h'.get? S = some o) : SI P w h' S led ms c := by
  obtain ⟨es, ep, t, se, r⟩ := x
  exact ⟨es, ep, t, ⟨k _ se.at_, se.el, se.all, se.nd, se.small, se.fits, se.tb⟩, r⟩
end L2
namespace L2
open PySem PySem.Spec PyProof.Rows
section
variable {P : Program} {w : World} {A : Around} {E : Value → Shared → Prop} {s : Shared}
theorem code_setnew (a : Value) {R : Value → Shared → Prop} {led : Bool} (hled : led = !w.params.followText "set-order") (h : R (.ref s.heap.objs.size) { s with heap := s.heap.push { cls := .type "set", dict := none, data := .set #[] 0 (.fresh 0 0 led) } }) :
    codeAny (model P w) A (.call (.builtin "set.__new__") ⟨[.type "set", a], []⟩) (wants R E) s := by
  refine codeAny_of_tree (?_ : wpAny _ A.in1 (do checkBuiltinCall "set.__new__" ⟨[.type "set", a], []⟩; again (.builtin "set.__new__" ⟨[.type "set", a], []⟩)) _ _ s)
  refine wpAny_bind (wpAny_of_eq (PySem.F.newCall_set_1 a) (wpAny_pure ⟨plainId_quiet PySem.F.plain_set_new _, codeAny_builtin PySem.F.entry_set_new ?_⟩))
  rw [Around.under_plainId PySem.F.plain_set_new _]
  unfold Builtin.«set.__new__» Builtin.Frozenset.newClass
  have sub := sub_set_self
  obtain ⟨hp, g, d, tk, os⟩ := s
  dsimp only
  wp_walk
  refine wpAny_askSetting (wpAny_pure ?_)
  dsimp only
  simp only [newObj]
  subst hled
  exact wpAny_bind (wpAny_alloc (wpAny_pure (wpAny_pure h)))
end
end L2
namespace L2
open PySem PySem.Spec PyProof.Rows
section
variable {P : Program} {w : World} {A : Around} {E : Value → Shared → Prop} {s : Shared}
theorem hint_set {r : Addr} {Q : Bool → Shared → Prop} (hT : s.TypeIs (.ref r) "set") (h : Q false s) : wpAny (model P w) A (Builtin.List.listLengthHint (.ref r)) Q E s := by
  unfold Builtin.List.listLengthHint
  refine wpAny_bind (wpAny_specialOf hT PySem.F.slot_set_len.lookup ?_)
  generalize eid : ("set.__len__" : String) = id0
  wp_delta
  rw [show splitId id0 = some ("set", "__len__") from by subst eid; decide +kernel]
  subst eid
  refine wpAny_bind (wpAny_isInstance (T := "set") (b := true) hT sub_set_self ?_)
  refine wpAny_ite_split (fun q => absurd q (by decide)) (fun _ => wpAny_ite_split (fun _ => ?_) (fun q => absurd (by decide +kernel) q))
  exact wpAny_bind (wpAny_typeOf hT (wpAny_pure h))
theorem perm_items {Pv : Nat → Value → Prop} {acc : Array Value} {n : Nat} {Z : List Value} (h : ItemsOf Pv acc n) (hz : Z.length = n) (hp : ∀ i v, Pv i v → Z[i]? = some v) : acc.toList = Z := by
  refine List.ext_getElem? fun i => ?_
  rw [Array.getElem?_toList]
  by_cases hi : i < acc.size
  · have e := Array.getElem?_eq_getElem hi
    rw [e, hp i _ (h.2 i _ e)]
  · rw [Array.getElem?_eq_none (by omega), List.getElem?_eq_none (by have := h.1; omega)]
def Iterates (P : Program) (w : World) (A : Around) (s : Shared) (S : Addr) (n : Nat) (Z : List Value) : Prop := ∀ (E : Value → Shared → Prop) (Q : Value → Shared → Prop),
  (∀ (I : Addr) (fp : List Addr) (Pv : Nat → Value → Prop) (St : Nat → Heap → Prop) (h' : Heap) (d : Drawn), s.heap.objs.size ≤ I → (∀ b ∈ fp, b = S ∨ s.heap.objs.size ≤ b) → Walks P w A I fp [I] n Pv St → St 0 h' →
    (∀ b o, s.heap.get? b = some o → h'.get? b = some o) → (∀ acc : Array Value, ItemsOf Pv acc n → List.Perm acc.toList Z) → Q (.ref I) { s with heap := h', drawn := d }) → wpAny (model P w) A (pyIter (.ref S)) Q E s
theorem iter_gen {S : Addr} {led : Bool} {es : Array (Int × Value)} {ep : Nat} {t : SetTable} (hh : A.handled = none) (at_ : s.heap.get? S = some (sObj es ep t)) (fits : t.fits es.size = true) (small : es.size < scanBound) (tbl : Tb t led) (hled : led = !w.params.followText "set-order") : Iterates P w A s S es.size (es.toList.map (·.2)) := by
  intro E Q h
  have hlt : S < s.heap.objs.size := Heap.lt_size at_
  have hlen : (es.toList.map (·.2)).length = es.size := by simp
  refine iter_set at_ fits (fits_of_scanBound small) (fun q => ?_) (fun hf ps d hp => ?_)
  · cases ht : w.params.followText "set-order" with
    | true =>
      have hpm := pick_perm (w.params.setOrder S ep) es.size 0 es.toList #[] (by simp)
      have e1 : (pickOrder (w.params.setOrder S ep) es).toList.Perm es.toList := by simpa [pickOrder] using hpm
      refine h _ [s.heap.objs.size, S] _ _ _ s.drawn (Nat.le_refl _) (fun b hb => ?_) (walk_text (ep := ep) hh fits ht (Nat.ne_of_lt hlt)) ⟨Heap.get?_push_size _ rfl, Heap.get?_push_of_some _ at_⟩ (fun b o e => Heap.get?_push_of_some _ e) fun acc ha => ?_
      · simp at hb
        rcases hb with e | e
        · exact .inr (by rw [e]; exact Nat.le_refl _)
        · exact .inl e
      · rw [perm_items (Z := (pickOrder (w.params.setOrder S ep) es).toList.map (·.2)) ha (by rw [List.length_map, e1.length_eq]; simp) fun i v hv => by
          obtain ⟨e, he, rfl⟩ := hv
          rw [List.getElem?_map, Array.getElem?_toList, he]; rfl]
        exact e1.map _
    | false =>
      rw [ht] at q hled
      have hd : (!t.plain && decide (es.size > 1)) = false := by simpa using q
      have tb : Tb t true := by have := tbl; rw [hled] at this; exact this
      refine h _ [s.heap.objs.size, S] _ _ _ s.drawn (Nat.le_refl _) (fun b hb => ?_) (walk_slot (ep := ep) hh fits ht hd tb (Nat.ne_of_lt hlt)) ⟨⟨0, bel_zero tb.rise, Heap.get?_push_size _ rfl⟩, Heap.get?_push_of_some _ at_⟩ (fun b o e => Heap.get?_push_of_some _ e) fun acc ha => ?_
      · simp at hb
        rcases hb with e | e
        · exact .inr (by rw [e]; exact Nat.le_refl _)
        · exact .inl e
      · rw [perm_items (Z := es.toList.map (·.2)) ha hlen fun i v hv => by
          obtain ⟨e, he, rfl⟩ := hv
          rw [List.getElem?_map, Array.getElem?_toList, he]; rfl]
  · have hl : ps.length = es.size := by have := hp.length_eq; simpa using this
    refine h _ [s.heap.objs.size + 1, S, s.heap.objs.size] _ _ _ d (Nat.le_succ _) (fun b hb => ?_) (walk_lot (T := s.heap.objs.size) (ep := ep) hh fits hp (Nat.ne_of_lt (Nat.lt_succ_of_lt hlt)) (Nat.ne_of_lt (Nat.lt_succ_self _))) ⟨?_, ?_, ?_⟩ (fun b o e => Heap.get?_push_of_some _ (Heap.get?_push_of_some _ e)) fun acc ha => ?_
    · simp at hb
      rcases hb with e | e | e
      · exact .inr (by rw [e]; exact Nat.le_succ _)
      · exact .inl e
      · exact .inr (by rw [e]; exact Nat.le_refl _)
    · have := Heap.get?_push_size (s.heap.push { cls := .type "tuple", data := .seq (ps.map fun (i : Nat) => rawInt i).toArray }) (o := itObj (.ref s.heap.objs.size) 0 S es.size ep) rfl
      rw [Heap.size_push] at this
      exact this
    · exact Heap.get?_push_of_some _ (Heap.get?_push_of_some _ at_)
    · exact Heap.get?_push_of_some _ (Heap.get?_push_size _ rfl)
    · have e1 : (ps.filterMap fun p => es[p]?).Perm es.toList := by
        refine (hp.filterMap _).trans ?_
        rw [filterMap_getElem?_range]
      have e2 : ∀ (qs : List Nat), (∀ p ∈ qs, p < es.size) → ∀ (i p : Nat), qs[i]? = some p → (qs.filterMap fun p => es[p]?)[i]? = es[p]? := by
        intro qs
        induction qs with
        | nil => intro _ i p e; simp at e
        | cons a r ih =>
          intro hq i p e
          have ha : a < es.size := hq a (by simp)
          rw [List.filterMap_cons_some (Array.getElem?_eq_getElem ha)]
          cases i with
          | zero => simp at e; rw [List.getElem?_cons_zero, ← e, Array.getElem?_eq_getElem ha]
          | succ i => rw [List.getElem?_cons_succ]; exact ih (fun p hp => hq p (by simp [hp])) i p (by simpa using e)
      rw [perm_items (Z := (ps.filterMap fun p => es[p]?).map (·.2)) ha (by rw [List.length_map, e1.length_eq]; simp) fun i v hv => by
        obtain ⟨p, e, h1, h2, rfl⟩ := hv
        rw [List.getElem?_map, e2 ps (fun p hp' => List.mem_range.mp (hp.mem_iff.mp hp')) i p h1, h2]; rfl]
      exact e1.map _
theorem ext_of {R : Result → Shared → Prop} {S L : Addr} {n : Nat} {Z : List Value} {c : Nat} (hn : n ≤ sizeLine) (hT : s.TypeIs (.ref S) "set") (hS : S < s.heap.objs.size) (hLS : L ≠ S) (it : Iterates P w A.in1 s S n Z) (hL : s.heap.get? L = some { cls := .type "list", data := .seq #[] c })
    (hR : ∀ h' tk d acc c', (∀ b o, b ≠ L → s.heap.get? b = some o → h'.get? b = some o) → h'.get? L = some { cls := .type "list", dict := none, data := .seq acc c', slots := #[] } → List.Perm acc.toList Z → R (.ok (.ret (.ref L))) { s with heap := h', toks := tk, drawn := d }) :
    wpAny (model P w) A.in1 (Builtin.List.listExtendWith (.ref L) (.ref S) (.ref L)) (fun fin s' => match fin with | .done f => R (.ok f) s' | .again c' => c'.quiet = true ∧ codeAny (model P w) A c' R s') (fun e s' => R (.error e) s') s := by
  unfold Builtin.List.listExtendWith
  refine wpAny_bind (wpAny_typeOf (T := "set") hT ?_)
  have h1 : Builtin.List.listSameRef (.ref L) (.ref S) = false := by simp [Builtin.List.listSameRef, hLS]
  have h2 : (Value.type "set" == Value.type "list") = false := by decide
  have h3 : (Value.type "set" == Value.type "tuple") = false := by decide
  simp only [h1, h2, h3, Bool.or_false, Bool.false_eq_true, if_false]
  refine wpAny_bind (it _ _ fun I fp Pv St h' d hI hfp W st kp pm => ?_)
  have hlL : L < s.heap.objs.size := Heap.lt_size hL
  have hLf : L ∉ fp := fun z => (hfp L z).elim (fun e => hLS e) fun e => absurd hlL (Nat.not_lt.mpr e)
  have hL1 := kp _ _ hL
  have hT1 : Shared.TypeIs { s with heap := h', drawn := d } (.ref S) "set" := by
    obtain ⟨o, e, c⟩ := hT
    exact ⟨o, kp _ _ e, c⟩
  refine wpAny_bind (wpAny_holding (hint_set hT1 ?_))
  have key : ∀ (h1 : Heap) (c1 tk : Nat), St 0 h1 → (∀ b o, b ≠ L → s.heap.get? b = some o → h1.get? b = some o) → h1.get? L = some { cls := .type "list", data := .seq #[] c1 } →
      codeAny (model P w) A (.builtin "list.extend.loop" ⟨[.ref L, .ref I, .ref L], []⟩) R { s with heap := h1, toks := tk, drawn := d } := by
    intro h1 c1 tk st1 k1 hL1
    refine codeAny_extend_loopS W.toS hn L hLf (.ref L) n 0 _ #[] c1 rfl (Nat.zero_le _) st1 hL1 (ItemsOf.nil _) fun s' acc' c' hm hL' hacc => ?_
    obtain ⟨h2, g2, d2, tk2, os2⟩ := s'
    have eg : g2 = s.gens := hm.gens
    have ed : d2 = d := hm.drawn
    have eo : os2 = s.os := hm.os
    subst eg; subst ed; subst eo
    refine hR h2 tk2 d2 acc' c' (fun b o hb e => hm.heap b o (fun z => ?_) (k1 b o hb e)) hL' (pm _ hacc)
    rcases List.mem_cons.mp z with z | z
    · exact hb z
    · rw [List.mem_singleton.mp z] at e
      exact absurd (Heap.lt_size e) (Nat.not_lt.mpr hI)
  refine wpAny_ite_split (fun _ => ?_) (fun _ => wpAny_pure ⟨plainId_quiet PySem.F.plain_extend_loop _, key _ c _ st (fun b o _ e => kp b o e) hL1⟩)
  refine wpAny_bind (wpAny_rule (wpAny_bind (?_ : wpAny _ _ (updateSeq L (·.push .none) >>= fun _ => updateSeq L (·.pop)) _ _ _)))
  refine wpAny_bind (wpAny_updateSeq hL1 rfl ?_)
  have hL2 := Heap.get?_update_self (Obj.mapSeq (·.push Value.none)) hL1 rfl
  refine wpAny_updateSeq (hz := by seq_fits) hL2 rfl ?_
  have hL3 := Heap.get?_update_self (Obj.mapSeq (·.pop)) hL2 rfl
  refine wpAny_pure ⟨plainId_quiet PySem.F.plain_extend_loop _, key _ _ _ (W.frame 0 _ _ st fun b hb o e => ?_) (fun b o hb e => ?_) hL3⟩
  · have hbL : b ≠ L := fun z => hLf (z ▸ hb)
    exact (Heap.get?_update_other _ _ (Ne.symm hbL)).trans ((Heap.get?_update_other _ _ (Ne.symm hbL)).trans e)
  · exact (Heap.get?_update_other _ _ (Ne.symm hb)).trans ((Heap.get?_update_other _ _ (Ne.symm hb)).trans (kp b o e))
end
end L2
namespace L2
open PySem PySem.Spec PyProof.Rows
section
variable {P : Program} {w : World} {A : Around} {E : Value → Shared → Prop} {s : Shared}
theorem col_of {S : Addr} {n : Nat} {Z : List Value} {R : List Value → Shared → Prop} (hn : n ≤ sizeLine) (hS : s.TypeIs (.ref S) "set") (hlt : S < s.heap.objs.size)
    (it : ∀ s' : Shared, (∀ b o, s.heap.get? b = some o → s'.heap.get? b = some o) → Iterates P w A.in1 s' S n Z)
    (h : ∀ h' tk d vs, (∀ b o, s.heap.get? b = some o → h'.get? b = some o) → s.heap.objs.size < h'.objs.size → List.Perm vs Z → R vs { s with heap := h', toks := tk, drawn := d }) : wpAny (model P w) A (collect (.ref S)) R E s := by
  unfold collect
  refine wpAny_bind (wpAny_runValue (codeAny_builtin entry_proto_collect' ?_))
  rw [Around.under_plainId PySem.F.plain_proto_collect _]
  refine wpAny_bind (m := newList []) (wpAny_newObj_type (wpAny_pure ⟨plainId_quiet PySem.F.plain_list_iadd _, codeAny_builtin entry_list_iadd' ?_⟩))
  rw [Around.under_plainId PySem.F.plain_list_iadd _]
  have hL : (s.heap.push { cls := .type "list", data := .seq ([] : List Value).toArray }).get? s.heap.objs.size = some { cls := .type "list", data := .seq #[] } := Heap.get?_push_size _ rfl
  have kp : ∀ b o, s.heap.get? b = some o → (s.heap.push { cls := .type "list", data := .seq ([] : List Value).toArray }).get? b = some o := fun b o e => Heap.get?_push_of_some _ e
  have hT1 : Shared.TypeIs { s with heap := s.heap.push { cls := .type "list", data := .seq ([] : List Value).toArray } } (.ref S) "set" := by
    obtain ⟨o, e, c⟩ := hS
    exact ⟨o, kp _ _ e, c⟩
  have key := ext_of (A := A) (s := { s with heap := s.heap.push { cls := .type "list", data := .seq ([] : List Value).toArray } })
    (R := fun (q : Result) (s' : Shared) => ∃ h' tk d acc c', q = .ok (.ret (.ref s.heap.objs.size)) ∧ s' = { s with heap := h', toks := tk, drawn := d } ∧ (∀ b o, s.heap.get? b = some o → h'.get? b = some o) ∧
      h'.get? s.heap.objs.size = some { cls := .type "list", dict := none, data := .seq acc c', slots := #[] } ∧ List.Perm acc.toList Z)
    hn hT1 (by show S < (s.heap.push _).objs.size; rw [Heap.size_push]; exact Nat.lt_succ_of_lt hlt) (Nat.ne_of_gt hlt) (it _ kp) hL
    (fun h' tk d acc c' k1 hL' p => ⟨h', tk, d, acc, c', rfl, rfl, fun b o e => k1 b o (Nat.ne_of_lt (Heap.lt_size e)) (kp b o e), hL', p⟩)
  refine wpAny_mono key (fun fin s' x => ?_) fun e s' x => ?_
  · cases fin with
    | done f =>
      obtain ⟨h', tk, d, acc, c', e, rfl, k1, hL', p⟩ := x
      cases e
      refine wpAny_bind (m := load s.heap.objs.size) (wpAny_load hL' ?_)
      exact wpAny_pure (h h' tk d _ k1 (Heap.lt_size hL') p)
    | again c1 =>
      refine ⟨x.1, codeAny_mono x.2 fun q s2 y => ?_⟩
      obtain ⟨h', tk, d, acc, c', rfl, rfl, k1, hL', p⟩ := y
      refine wpAny_bind (m := load s.heap.objs.size) (wpAny_load hL' ?_)
      exact wpAny_pure (h h' tk d _ k1 (Heap.lt_size hL') p)
  · obtain ⟨_, _, _, _, _, e', _⟩ := x
    cases e'
end
end L2
namespace L2
open PySem PySem.Spec PyProof.Rows
structure SeT (P : Program) (w : World) (h : Heap) (a : Addr) (led : Bool) (es : Array (Int × Value)) (ep : Nat) (t : SetTable) : Prop where
  at_ : h.get? a = some { cls := .type "set", data := .set es ep t }
  el : ElemsOf (PySem.strKind P w) es.toList
  nd : (es.toList.map fun e => strOf e.2).Nodup
  small : es.size < scanBound
  fits : t.fits es.size = true
  tb : Tb t led
def ST (P : Program) (w : World) (h : Heap) (a : Addr) (led : Bool) (ms : List Str) (c : Nat) : Prop :=
  ∃ es ep t, SeT P w h a led es ep t ∧ (∀ k, k ∈ ms ↔ k ∈ es.toList.map fun e => strOf e.2) ∧ es.size ≤ c
theorem sk_self (P : Program) (w : World) (k : Str) (tk : Tok) : (PySem.strKind P w).is k (.str k tk) = true := by
  show Value.isStrOf k (.str k tk) = true
  simp [Value.isStrOf, Value.isStr]
theorem sk_is {P : Program} {w : World} {k : Str} {v : Value} (h : (PySem.strKind P w).is k v = true) : ∃ tk, v = .str k tk := Value.isStrOf_shape h
theorem SeT.all {P : Program} {w : World} {h : Heap} {a : Addr} {led : Bool} {es : Array (Int × Value)} {ep : Nat} {t : SetTable} (se : SeT P w h a led es ep t) : ∀ e ∈ es.toList, ∃ n tk, e.2 = .str n tk := fun e he => by
  obtain ⟨⟨k, hk, _⟩, _⟩ := se.el e he
  obtain ⟨tk, q⟩ := sk_is hk
  exact ⟨k, tk, q⟩
theorem seT_add {P : Program} {w : World} {h : Heap} {a : Addr} {led : Bool} {es es1 : Array (Int × Value)} {ep ep1 : Nat} {t t1 : SetTable} {k : Str} {tk : Tok}
    (hs : SeT P w h a led es ep t) (hno : k ∉ es.toList.map fun e => strOf e.2) (hz : es.size + 1 < scanBound) {h1 : Heap} (at1 : h1.get? a = some { cls := .type "set", data := .set es1 ep1 t1 })
    (hp : List.Perm es1.toList (es.toList ++ [((PySem.strKind P w).hash k, .str k tk)])) (hf : t1.fits es1.size = true) (tb1 : Tb t1 led) :
    SeT P w h1 a led es1 ep1 t1 ∧ es1.size = es.size + 1 ∧ ∀ j, j ∈ (es1.toList.map fun e => strOf e.2) ↔ j ∈ (es.toList.map fun e => strOf e.2) ∨ j = k := by
  have hm : List.Perm (es1.toList.map fun e => strOf e.2) ((es.toList.map fun e => strOf e.2) ++ [k]) := by
    have := hp.map fun e => strOf e.2
    rwa [List.map_append] at this
  have sz : es1.size = es.size + 1 := by
    have := hp.length_eq
    simpa using this
  refine ⟨⟨at1, (hs.el.push (sk_self P w k tk) rfl).perm hp, ?_, by omega, hf, tb1⟩, sz, fun j => ?_⟩
  · rw [hm.nodup_iff, List.nodup_append]
    refine ⟨hs.nd, by simp, fun x hx y hy e => ?_⟩
    rw [List.mem_singleton] at hy
    rw [e, hy] at hx
    exact hno hx
  · rw [hm.mem_iff, List.mem_append, List.mem_singleton]
theorem add_str {P : Program} {w : World} {A : Around} {E : Value → Shared → Prop} {s : Shared} {a : Addr} {led : Bool} {ms : List Str} {c : Nat} {k : Str} {tk : Tok} {Q : Bool → Shared → Prop}
    (hS : ST P w s.heap a led ms c) (hc : c + 1 < scanBound) (hQ : ∀ b h', Heap.SameBut a s.heap h' → ST P w h' a led (ms ++ [k]) (c + 1) → Q b { s with heap := h' }) :
    wpAny (model P w) A (setAddHashed a (.str k tk) ((PySem.strKind P w).hash k)) Q E s := by
  obtain ⟨es, ep, t, se, mem, le⟩ := hS
  have ik := sk_self P w k tk
  unfold setAddHashed setAddHashedIn
  refine wpAny_holding (wpAny_bind (wpAny_setState_of se.at_ rfl se.fits ?_))
  dsimp only
  rw [if_pos (byScan_of rfl se.small se.el)]
  unfold setAddByScan
  refine wpAny_bind (wpAny_bind (wpAny_rule (wpAny_bind (wpAny_setScan_of ik se.at_ rfl se.fits se.el ?_))))
  cases q : List.findIdx? (fun e => (PySem.strKind P w).is k e.2) es.toList with
  | some j =>
    obtain ⟨hj, hp, _⟩ := List.findIdx?_eq_some_iff_getElem.mp q
    refine wpAny_pure (wpAny_pure ?_)
    have z := hQ false s.heap (Heap.SameBut.refl a s.heap) ⟨es, ep, t, se, fun x => ?_, by omega⟩
    · cases s; exact z
    · rw [List.mem_append, List.mem_singleton, mem x]
      refine ⟨fun z => z.elim id fun e => ?_, .inl⟩
      obtain ⟨u, en⟩ := sk_is hp
      rw [e]
      exact List.mem_map.mpr ⟨_, List.getElem_mem hj, by rw [en]; rfl⟩
  | none =>
    have hno : k ∉ es.toList.map fun e => strOf e.2 := fun z => by
      obtain ⟨e, he, ek⟩ := List.mem_map.mp z
      obtain ⟨n, u, en⟩ := se.all e he
      have nx := List.findIdx?_eq_none_iff.mp q e he
      rw [en] at ek nx
      have e2 : n = k := ek
      subst e2
      rw [sk_self P w n u] at nx
      cases nx
    dsimp only
    have hperm := layNew_perm t es ((PySem.strKind P w).hash k) (.str k tk)
    have hfit := layNew_fits t es ((PySem.strKind P w).hash k) (.str k tk)
    have htb := se.tb.layNew es ((PySem.strKind P w).hash k) (.str k tk)
    generalize layNew t es ((PySem.strKind P w).hash k) (.str k tk) = L at hperm hfit htb ⊢
    obtain ⟨es1, t1, wd, gv⟩ := L
    dsimp only at hperm hfit htb ⊢
    rw [Array.toList_push] at hperm
    have zz : es.size + 1 < scanBound := by omega
    have fin : ∀ h1 es2 ep2 t2, h1.get? a = some { cls := .type "set", data := .set es2 ep2 t2 } → List.Perm es2.toList (es.toList ++ [((PySem.strKind P w).hash k, .str k tk)]) → t2.fits es2.size = true → Tb t2 led → ST P w h1 a led (ms ++ [k]) (c + 1) := fun h1 es2 ep2 t2 e1 e2 e3 e4 => by
      obtain ⟨s1, s2, s3⟩ := seT_add se hno zz e1 e2 e3 e4
      exact ⟨es2, ep2, t2, s1, fun x => by rw [List.mem_append, List.mem_singleton, mem x, s3 x], by omega⟩
    have main : ∀ t2 : SetTable, t2.fits es1.size = true → Tb t2 led → ∀ g : Bool → Sem Unit, (∀ (b : Bool) (s1 : Shared) (R : Unit → Shared → Prop), R () s1 → wpAny (model P w) A (g b) R E s1) → wpAny (model P w) A (do
        storeSet a es1 t2
        if (!wd && t2.tooFull) = true then do
            g (relayAll t2 es1 (SetTable.grown es1.size)).2.2
            storeSet a (relayAll t2 es1 (SetTable.grown es1.size)).1 (relayAll t2 es1 (SetTable.grown es1.size)).2.1
            pure (some true)
          else pure (some true)) (fun o s' => wpAny (model P w) A (match o with | some added => pure added | none => setAddHashedIn a (.str k tk) ((PySem.strKind P w).hash k) 99999) Q E s') E s := by
      intro t2 f2 b2 g hg
      have z1 : es1.size ≤ sizeLine := fits_of_scanBound (by have := hperm.length_eq; simp at this; omega)
      refine wpAny_bind (wpAny_storeSet_of se.at_ rfl ?_ z1)
      split
      · have hp2 := relayAll_perm t2 es1 (SetTable.grown es1.size)
        have hf2 := relayAll_fits t2 es1 (SetTable.grown es1.size)
        have hb2 := b2.relay es1 (SetTable.grown es1.size)
        generalize relayAll t2 es1 (SetTable.grown es1.size) = Rl at hp2 hf2 hb2 ⊢
        obtain ⟨es2, t3, gv2⟩ := Rl
        dsimp only at hp2 hf2 hb2 ⊢
        have z2 : es2.size ≤ sizeLine := by have := hp2.length_eq; simp at this; omega
        refine wpAny_bind (hg _ _ _ (wpAny_bind (wpAny_storeSet_of (put_at se.at_) rfl (wpAny_pure (wpAny_pure ?_)) z2)))
        exact hQ _ _ ((Heap.SameBut.update s.heap a _).trans (Heap.SameBut.update _ a _)) (fin _ _ _ _ (put_at (put_at se.at_)) (hp2.trans hperm) hf2 hb2)
      · exact wpAny_pure (wpAny_pure (hQ _ _ (Heap.SameBut.update s.heap a _) (fin _ _ _ _ (put_at se.at_) hperm f2 b2)))
    refine wpAny_bind ?_
    cases gv
    all_goals first | refine wpAny_pure ?_ | refine wpAny_rule ?_
    all_goals
      by_cases pl : t1.plain = true
      · rw [if_pos pl, hashByValue_scannable 8 rfl]
        exact wpAny_bind (wpAny_pure (main { t1 with plain := false } (SetTable.fits_plain_off hfit) htb.plain _ fun b s1 R z => by cases b <;> first | exact wpAny_pure z | exact wpAny_rule z))
      · rw [if_neg pl]
        exact wpAny_bind (wpAny_pure (main t1 hfit htb _ fun b s1 R z => by cases b <;> first | exact wpAny_pure z | exact wpAny_rule z))
theorem ST.at {P : Program} {w : World} {h h' : Heap} {S : Addr} {led : Bool} {ms : List Str} {c : Nat} (x : ST P w h S led ms c) (k : ∀ o, h.get? S = some o → h'.get? S = some o) : ST P w h' S led ms c := by
  obtain ⟨es, ep, t, se, r⟩ := x
  exact ⟨es, ep, t, ⟨k _ se.at_, se.el, se.nd, se.small, se.fits, se.tb⟩, r⟩
theorem sul_loopT {P : Program} {w : World} {A : Around} {R : Result → Shared → Prop} {I : Addr} {fp wr : List Addr} {n : Nat} {Pv : Nat → Value → Prop} {St : Nat → Heap → Prop} {led : Bool} (W : Walks P w A.in1 I fp wr n Pv St) (S : Addr) (hSf : S ∉ fp)
    (val : Nat → Str) (hval : ∀ i v, Pv i v → ∃ t, v = .str (val i) t) (hb : n + 1 < scanBound) :
    ∀ (k i : Nat) (s : Shared), n - i = k → i ≤ n → St i s.heap → ST P w s.heap S led ((List.range i).map val) i →
      (∀ h' tk, (∀ b o, b ∉ S :: wr → s.heap.get? b = some o → h'.get? b = some o) → ST P w h' S led ((List.range n).map val) n → R (.ok (.ret .none)) { s with heap := h', toks := tk }) →
      codeAny (model P w) A (.builtin "set.update.loop" ⟨[.ref S, .ref I], []⟩) R s := by
  have hSw : S ∉ wr := fun z => hSf (W.sub _ z)
  intro k
  induction k with
  | zero =>
    intro i s hk hi st hS hR
    obtain rfl : i = n := by omega
    refine codeAny_builtin en_sul ?_
    rw [Around.under_plainId pl_sul _]
    refine wpAny_bind (m := pyNext (.ref I)) (W.done s _ _ st fun h' tk kp => ?_)
    exact wpAny_pure (hR h' tk (fun b o hb e => kp b o (fun z => hb (List.mem_cons_of_mem _ z)) e) (hS.at fun o e => kp S o hSw e))
  | succ k ih =>
    intro i s hk hi st hS hR
    refine codeAny_builtin en_sul ?_
    rw [Around.under_plainId pl_sul _]
    refine wpAny_bind (m := pyNext (.ref I)) (W.item i s _ _ (by omega) st fun v h' tk hP st' kp => ?_)
    obtain ⟨t, rfl⟩ := hval i v hP
    have hS' : ST P w h' S led ((List.range i).map val) i := hS.at fun o e => kp S o hSw e
    refine wpAny_bind (m := holding [Value.str (val i) t] (setAdd S (.str (val i) t))) (wpAny_holding ?_)
    unfold setAdd
    refine wpAny_holding (wpAny_bind ((PySem.strKind P w).pyHash (k := val i) (sk_self _ _ _ _) ?_))
    refine add_str (s := { s with heap := h', toks := tk + 1 }) hS' (by omega) fun b h2 sb hS2 => ?_
    rw [show (List.range i).map val ++ [val i] = (List.range (i + 1)).map val by rw [List.range_succ, List.map_append]; rfl] at hS2
    refine wpAny_pure ⟨plainId_quiet pl_sul _, ih (i + 1) _ (by omega) (by omega) (W.frame _ _ _ st' fun b hb o e => ?_) hS2 fun h3 tk3 k3 s3 => ?_⟩
    · rw [sb.2 b (fun z : b = S => hSf (by rw [← z]; exact hb))]; exact e
    · refine hR h3 tk3 (fun b o hb e => k3 b o hb ?_) s3
      rw [sb.2 b (fun z : b = S => hb (by rw [z]; exact List.mem_cons_self))]
      exact kp b o (fun z => hb (List.mem_cons_of_mem _ z)) e
theorem strAt : ∀ {vs : List Value} {ns : List Str}, StrsAre vs ns → ∀ (i : Nat) (v : Value), vs[i]? = some v → ∃ t, v = .str (ns.getD i ⟨#[]⟩) t
  | _, _, .nil, i, v, h => by simp at h
  | _, _, .cons n t hr, 0, v, h => by simp at h; exact ⟨t, by rw [← h]; rfl⟩
  | _, _, .cons n t hr, i + 1, v, h => by
    simp only [List.getElem?_cons_succ] at h
    obtain ⟨t', e⟩ := strAt hr i v h
    exact ⟨t', by rw [e]; rfl⟩
section
variable {P : Program} {w : World} {A : Around} {E : Value → Shared → Prop} {s : Shared}
set_option maxHeartbeats 3200000 in
theorem call_setT {l : Addr} {items : Array Value} {ns : List Str} {Q : Value → Shared → Prop} {led : Bool} (hled : led = !w.params.followText "set-order") (hh : A.handled = none) (hl : s.heap.IsList l items) (hi : StrsAre items.toList ns) (hb : items.size + 1 < scanBound)
    (h : ∀ (h' : Heap) (tk : Nat), ST P w h' s.heap.objs.size led ((List.range items.size).map fun i => ns.getD i ⟨#[]⟩) items.size → (∀ b o, s.heap.get? b = some o → h'.get? b = some o) → Q (.ref s.heap.objs.size) { s with heap := h', toks := tk }) :
    wpAny (model P w) A (call (.type "set") [.ref l]) Q E s := by
  obtain ⟨c, tl, hmro⟩ := PySem.F.called_set.mro
  have hmade := PySem.F.called_set.made
  have hsub := PySem.F.called_set.sub
  refine wpAny_call (codeAny_of_tree (?_ : wpAny _ _ (callAny (.type "set") _) _ _ _))
  refine wpAny_pure ⟨Code.quiet_builtin _ (by decide +kernel), codeAny_builtin PySem.F.entry_type_call ?_⟩
  rw [Around.under_plain (weight_type_call_type "set" [.ref l] []) rfl]
  have h1 := PySem.F.called_set.notType
  have h2 := PySem.F.called_set.canCreate
  have hct := PySem.F.typeCall_set_1 (.ref l)
  repeat any_goals (first | assumption | wp_step)
  refine codeAny_mono (code_setnew (.ref l) (E := E) hled (R := fun ob s1 => ob = .ref s.heap.objs.size ∧ s1 = { s with heap := s.heap.push { cls := .type "set", dict := none, data := .set #[] 0 (.fresh 0 0 led) } }) ⟨rfl, rfl⟩) fun r s1 hr => ?_
  cases r with
  | error e => exact hr
  | ok fl =>
    cases fl with
    | ret ob =>
      obtain ⟨rfl, rfl⟩ := hr
      have oS : (s.heap.push { cls := .type "set", dict := none, data := .set #[] 0 (.fresh 0 0 led) }).get? s.heap.objs.size = some { cls := .type "set", dict := none, data := .set #[] 0 (.fresh 0 0 led) } := Heap.get?_push_size _ rfl
      have tS : Shared.TypeIs { s with heap := s.heap.push { cls := .type "set", dict := none, data := .set #[] 0 (.fresh 0 0 led) } } (.ref s.heap.objs.size) "set" := ⟨_, oS, rfl⟩
      have li := PySem.F.called_set.init.lookup
      have bi := PySem.F.called_set.init.bind (.ref s.heap.objs.size)
      repeat any_goals (first | assumption | wp_step)
      refine codeAny_mono (codeAny_call_builtin (R := wants (fun r s2 => r = .none ∧ ∃ h' tk, s2 = { s with heap := h', toks := tk } ∧ ST P w h' s.heap.objs.size led ((List.range items.size).map fun i => ns.getD i ⟨#[]⟩) items.size ∧
          (∀ b o, s.heap.get? b = some o → h'.get? b = some o)) E) PySem.F.called_set.init.plain PySem.F.entry_set_init (check_set_init_1 tS ?_)) fun r2 s2 hr2 => ?_
      · obtain ⟨ol, ho, hc, nl, hd⟩ := hl
        obtain ⟨ocls, odict, odata, oslots⟩ := ol
        simp only at hc hd
        subst hc; subst hd
        have ho1 : (s.heap.push { cls := .type "set", dict := none, data := .set #[] 0 (.fresh 0 0 led) }).get? l = some { cls := .type "list", dict := odict, data := .seq items nl, slots := oslots } := Heap.get?_push_of_some _ ho
        have n1 := PySem.F.sub_list_set
        have n2 := PySem.F.sub_list_frozenset
        have n3 : (Value.type "list" == Value.type "dict") = false := by decide
        have hl1 : (s.heap.push { cls := .type "set", dict := none, data := .set #[] 0 (.fresh 0 0 led) }).IsList l items := ⟨_, ho1, rfl, nl, rfl⟩
        unfold Builtin.«set.__init__» noKeywords Builtin.Frozenset.updateFrom
        generalize ePI : pyIter = PI
        wp_walk
        subst ePI
        refine wpAny_pyIter_list hl1 (wpAny_bind (wpAny_runValue ?_))
        have hlS : l < s.heap.objs.size := Heap.lt_size ho
        have hh3 : A.in1.in1.in1.handled = none := by simp [hh]
        have hne : l ≠ (s.heap.push { cls := .type "set", dict := none, data := .set #[] 0 (.fresh 0 0 led) }).objs.size := by
          rw [Heap.size_push]; exact Nat.ne_of_lt (Nat.lt_succ_of_lt hlS)
        have hSf : s.heap.objs.size ∉ [(s.heap.push { cls := .type "set", dict := none, data := .set #[] 0 (.fresh 0 0 led) }).objs.size, l] := by
          rw [Heap.size_push]; simp only [List.mem_cons, List.not_mem_nil, or_false, not_or]
          exact ⟨Nat.ne_of_lt (Nat.lt_succ_self _), Nat.ne_of_gt hlS⟩
        have hval : ∀ (i : Nat) (v : Value), items[i]? = some v → ∃ t, v = .str ((fun i => ns.getD i ⟨#[]⟩) i) t := fun i v hv =>
          strAt hi i v (by rw [Array.getElem?_toList]; exact hv)
        refine sul_loopT (led := led) (Walks.list hh3 _ l hne items) s.heap.objs.size hSf (fun i => ns.getD i ⟨#[]⟩) hval hb (items.size - 0) 0 _ (by omega) (Nat.zero_le _)
          ⟨⟨_, Heap.get?_push_size _ rfl, rfl, rfl⟩, (hl1.push _)⟩ ?s0 ?sR
        case s0 =>
          refine ⟨#[], 0, .fresh 0 0 led, ⟨Heap.get?_push_of_some _ oS, fun e he => by simp at he, by simp, by decide, rfl, Tb.fresh led⟩, fun k => by simp, by simp⟩
        case sR =>
          intro h' tk kp hS'
          refine wpAny_pure ?_
          exact wpAny_pure ⟨rfl, h', tk, rfl, hS', fun b o e => kp b o (by
            have hb := Heap.lt_size e
            rw [Heap.size_push]; simp only [List.mem_cons, List.not_mem_nil, or_false, not_or]
            exact ⟨Nat.ne_of_lt hb, Nat.ne_of_lt (Nat.lt_succ_of_lt hb)⟩) (Heap.get?_push_of_some _ (Heap.get?_push_of_some _ e))⟩
      · cases r2 with
        | error e => exact hr2
        | ok fl2 =>
          cases fl2 with
          | ret r =>
            obtain ⟨rfl, h', tk, rfl, hS', k'⟩ := hr2
            repeat any_goals (first | assumption | wp_step)
            exact h _ _ hS' k'
          | _ => exact False.elim hr2
    | _ => exact False.elim hr
theorem sorted_setT {S : Addr} {led : Bool} {ms : List Str} {c : Nat} {Q : Value → Shared → Prop} (hh : A.handled = none) (hS : ST P w s.heap S led ms c) (hled : led = !w.params.followText "set-order") (hc : ∀ us : List Str, us.Nodup → (∀ k, k ∈ us ↔ k ∈ ms) → us.length < 64)
    (h : ∀ D h' tk d e vs ns, s.heap.objs.size ≤ D → (∀ b o, s.heap.get? b = some o → h'.get? b = some o) → h'.get? D = some (seqObj "list" vs e) → StrsAre vs.toList ns → ns.Nodup → sortedS ns = true → (∀ k, k ∈ ns ↔ k ∈ ms) → Q (.ref D) { s with heap := h', toks := tk, drawn := d }) :
    wpAny (model P w) A (call (.builtin "sorted") [.ref S]) Q E s := by
  obtain ⟨es, ep, t, se, mem, _⟩ := hS
  have hlt : S < s.heap.objs.size := Heap.lt_size se.at_
  have z := fits_of_scanBound se.small
  refine Calls.call_function_entry kind_sorted plain_sorted entry_sorted (args_sorted1 _) ?_
  unfold Builtin.«sorted»
  refine wpAny_bind (m := checkCount "sorted" 1 1 _) (wpAny_pure (wpAny_bind (col_of (n := es.size) (Z := es.toList.map (·.2)) z ⟨_, se.at_, rfl⟩ hlt (fun s' k => iter_gen (by simp [hh]) (k _ _ se.at_) se.fits se.small se.tb hled) fun h' tk d vs k1 ksz p => ?_)))
  have hall : ∀ v ∈ vs, ∃ n tk, v = Value.str n tk := fun v hv => by
    obtain ⟨e, he, rfl⟩ := List.mem_map.mp (p.mem_iff.mp hv)
    exact se.all e he
  have hI := strsAre_map vs hall
  have p2 : List.Perm (vs.map strOf) (es.toList.map fun e => strOf e.2) := by
    have := p.map strOf
    rwa [List.map_map] at this
  have nd : (vs.map strOf).Nodup := p2.nodup_iff.mpr se.nd
  have me : ∀ k, k ∈ vs.map strOf ↔ k ∈ ms := fun k => by rw [p2.mem_iff, mem k]
  have h64 : vs.length < 64 := by have := hc _ nd me; simpa using this
  refine wpAny_bind (wpAny_newList ?_ (by rw [sizeLine_eq]; omega))
  have hoL : (h'.push (seqObj "list" vs.toArray 0)).get? h'.objs.size = some (seqObj "list" vs.toArray 0) := Heap.get?_push_size _ rfl
  refine wpAny_bind (wpAny_holding (wpAny_call_entry slot_list_sort ⟨_, hoL, rfl⟩ entry_list_sort (list_sort_treeK strKind_oneLt (s := { s with heap := h'.push (seqObj "list" vs.toArray 0), toks := tk, drawn := d }) hoL hI.keysOf (fun v1 v2 r e => keyKind_strs (by rw [← e]; exact hI)) h64 fun st' hp hs => ⟨_, rfl, ?_⟩) (args_list_sort _)))
  refine wpAny_pure ⟨_, rfl, ?_⟩
  obtain ⟨ns, a1, a2, a3⟩ := sorted_out_str hI hp hs
  obtain ⟨e, he⟩ := sortedHeap_at (out := _) hoL
  have nn : ns.Nodup := a2.nodup_iff.mpr nd
  refine h h'.objs.size _ tk d e _ ns ?_ (fun b o q => ?_) he a1 nn a3 fun k => by rw [a2.mem_iff, me k]
  · exact Nat.le_of_lt ksz
  · have hb := Heap.lt_size (k1 b o q)
    rw [sortedHeap_old (Nat.ne_of_lt hb) (by rw [Heap.size_push]; exact Nat.lt_succ_of_lt hb)]
    exact Heap.get?_push_of_some _ (k1 b o q)
end
end L2
namespace L2
open PySem PySem.Spec PyProof.Rows
theorem bt_sorted : bootBuiltins "sorted" = some (.builtin "sorted") := by decide +kernel
theorem bt_set : bootBuiltins "set" = some (.type "set") := by decide +kernel
section
variable {X : Cx} {pins : List (Addr × Obj)} {σ : St} {H : Hp} {s : Shared}
theorem Inv.laidD {a : Addr} {o : HO} {h' : Heap} {t' : Nat} {d' : Drawn} (I : Inv X pins σ H s) (k : ∀ b u, s.heap.get? b = some u → h'.get? b = some u) (hp : s.heap.objs.size ≤ a) (new : ObjOk X.prog X.w (upd H a o) h' a o) :
    Inv X pins σ (upd H a o) { s with heap := h', toks := t', drawn := d' } := by
  have I1 := I.laid (t' := t') k hp new
  exact ⟨I1.ok, I1.os, I1.bare, I1.base, I1.loc, I1.cell, I1.free, I1.freeC, I1.pin, I1.hok, I1.len⟩
end
end L2
namespace L2
open PySem PySem.Spec PyProof.Rows
theorem sa_of : ∀ {ns : List Str} {us : List Value}, Vals (ns.map V.str) us → StrsAre us ns
  | [], _, .nil => .nil
  | n :: r, _, .cons hv hr => by
    obtain ⟨t, rfl⟩ := hv
    exact .cons n t (sa_of hr)
theorem vs_of : ∀ {ns : List Str} {us : List Value}, StrsAre us ns → Vals (ns.map V.str) us
  | _, _, .nil => .nil
  | _, _, .cons n t hr => .cons ⟨t, rfl⟩ (vs_of hr)
section
variable {X : Cx} {pins : List (Addr × Obj)} {σ : St} {H : Hp} {s : Shared}
theorem call_sortedLs : CallR X (.builtin "sorted") (fun xs H Q => ∃ (p : Addr) (ns : List Str), xs = [.ref p] ∧ SqL X.K H p (ns.map V.str) ∧ ns.length < 64 ∧ ∀ (l : Addr) (ns' : List Str), H l = none → ns'.Perm ns → sortedS ns' = true → Q (.ref l) (upd H l (.lst (ns'.map V.str)))) := by
  intro pins s σ H xs us Q I r h
  obtain ⟨p, ns, rfl, hq, h64, q⟩ := h
  obtain ⟨u, rfl, rx⟩ := vals1 r
  cases rx
  obtain ⟨its, rv, pl, hz⟩ := I.list hq
  have hI := sa_of rv
  have hlen := rv.length
  rw [List.length_map] at hlen
  refine sorted_strs pl.isList hI (by omega) fun out ns' a1 a2 a3 => ?_
  obtain ⟨e, he⟩ := sortedAll_at s.heap its out
  have hz2 : (ns'.map V.str).length ≤ sizeLine := by rw [List.length_map, a2.length_eq, sizeLine_eq]; omega
  exact ⟨.ref (s.heap.objs.size + 1), _, I.laidD (t' := s.toks) (d' := s.drawn) (fun b o z => sortedAll_old z) (Nat.le_succ _) (show ObjOk X.prog X.w _ _ _ (.lst (ns'.map V.str)) from ⟨hz2, out.toList, e, vs_of a1, by rw [Array.toArray_toList]; exact he⟩), rfl, q _ ns' (I.hok.fresh (Nat.le_succ _)) a2 a3⟩
def setHOs (P : Program) (w : World) (S : Addr) (ns : List Str) : HO := .ext fun h => ST P w h S (!w.params.followText "set-order") ns ns.length
theorem range_getS : ∀ (ns : List Str), (List.range ns.length).map (fun i => ns.getD i ⟨#[]⟩) = ns := fun ns => by
  refine List.ext_getElem? fun i => ?_
  rw [List.getElem?_map]
  by_cases h : i < ns.length
  · rw [List.getElem?_range h]
    simp [h]
  · rw [List.getElem?_eq_none (by simp; omega), List.getElem?_eq_none (by omega)]; rfl
theorem call_setLs {P : Program} {w : World} (eP : X.prog = P) (ew : X.w = w) (hc : X.calm = true) : CallR X (.type "set") (fun xs H Q => ∃ (p : Addr) (ns : List Str), xs = [.ref p] ∧ SqL X.K H p (ns.map V.str) ∧ ns.length + 1 < scanBound ∧ ∀ S, H S = none → Q (.ref S) (upd H S (setHOs P w S ns))) := by
  subst eP ew
  intro pins s σ H xs us Q I r h
  obtain ⟨p, ns, rfl, hq, hb, q⟩ := h
  obtain ⟨u, rfl, rx⟩ := vals1 r
  cases rx
  obtain ⟨its, rv, pl, hz⟩ := I.list hq
  have hI := sa_of rv
  have hlen := rv.length
  rw [List.length_map] at hlen
  refine call_setT (ns := ns) rfl (I.ok.hd hc) pl.isList (by simpa using hI) (by simp; omega) fun h' tk hS k => ?_
  have ez : its.toArray.size = ns.length := by rw [List.size_toArray]; omega
  rw [ez, range_getS] at hS
  refine ⟨.ref s.heap.objs.size, _, I.laidD (t' := tk) (d' := s.drawn) k (Nat.le_refl _) (show ObjOk X.prog X.w _ h' _ (setHOs X.prog X.w s.heap.objs.size ns) from ⟨hS, ?_, fun h1 h2 z k2 => z.at k2⟩), rfl, q _ (I.hok.fresh (Nat.le_refl _))⟩
  obtain ⟨es, ep, t, se, _⟩ := hS
  exact ⟨_, se.at_⟩
theorem call_sortedSs {P : Program} {w : World} (eP : X.prog = P) (ew : X.w = w) (hc : X.calm = true) : CallR X (.builtin "sorted") (fun xs H Q => ∃ (S : Addr) (ns : List Str), xs = [.ref S] ∧ H S = some (setHOs P w S ns) ∧ (∀ us : List Str, us.Nodup → (∀ k, k ∈ us ↔ k ∈ ns) → us.length < 64) ∧
    ∀ (l : Addr) (ns' : List Str), H l = none → ns'.Nodup → sortedS ns' = true → (∀ k, k ∈ ns' ↔ k ∈ ns) → Q (.ref l) (upd H l (.lst (ns'.map V.str)))) := by
  subst eP ew
  intro pins s σ H xs us Q I r h
  obtain ⟨S, ns, rfl, hq, hb, q⟩ := h
  obtain ⟨u, rfl, rx⟩ := vals1 r
  cases rx
  obtain ⟨hS, _, _⟩ := (show ObjOk X.prog X.w H s.heap S (setHOs X.prog X.w S ns) from I.hok S _ hq)
  refine sorted_setT (I.ok.hd hc) hS rfl hb fun D h' tk d e vs ns' hD k he hI nd hso hm => ?_
  have h64 := hb ns' nd hm
  have hz2 : (ns'.map V.str).length ≤ sizeLine := by rw [List.length_map, sizeLine_eq]; omega
  exact ⟨.ref D, _, I.laidD (t' := tk) (d' := d) k hD (show ObjOk X.prog X.w _ _ _ (.lst (ns'.map V.str)) from ⟨hz2, vs.toList, e, vs_of hI, by rw [Array.toArray_toList]; exact he⟩), rfl, q _ ns' (I.hok.fresh hD) nd hso hm⟩
def valHO (v d : Addr) : HO := .ext fun h => h.IsValuesView v d
def rValues : V → List V → Hp → VK → Prop := fun x vs H Q => ∃ (d : Addr) (kvs : List (Key × V)), x = .ref d ∧ vs = [] ∧ H d = some (.dK kvs) ∧ ∀ v, H v = none → Q (.ref v) (upd H v (valHO v d))
theorem mt_values : MtR X "dict.values" rValues := by
  intro pins s σ H x vs v us Q I rx rv h
  obtain ⟨d, kvs, rfl, rfl, hd, q⟩ := h
  cases rx
  obtain rfl : us = [] := rv.zero
  obtain ⟨z, hS, ws, rel, dof⟩ := dk_of I.hok hd
  refine call_meetsIn PySem.F.slot_dict_values dof.typeIs PySem.F.entry_dict_values (PySem.F.args_dict_values_1 _) (meets_dict_values (mixKind X.prog X.w) d hS) ⟨⟨_, dof⟩, ?_⟩
  refine ⟨.ref s.heap.objs.size, _, I.laidD (t' := s.toks) (d' := s.drawn) (fun b o e => Heap.get?_push_of_some _ e) (Nat.le_refl _) (show ObjOk X.prog X.w _ _ _ (valHO s.heap.objs.size d) from ⟨⟨_, Heap.get?_push_size _ rfl, rfl, rfl⟩, ⟨_, Heap.get?_push_size _ rfl⟩, fun h1 h2 z k => ?_⟩), rfl, q _ (I.hok.fresh (Nat.le_refl _))⟩
  obtain ⟨o, e, c⟩ := z
  exact ⟨o, k o e, c⟩
theorem vals_items {ws : List (Key × Value)} {kvs : List (Key × V)} (rel : KV kvs ws) {acc : Array Value} (ha : ItemsOf (fun i v => ∃ k, ws[i]? = some (k, v)) acc ws.length) : Vals (kvs.map (·.2)) acc.toList := by
  have e : acc.toList = ws.map (·.2) := by
    refine List.ext_getElem? fun i => ?_
    rw [Array.getElem?_toList, List.getElem?_map]
    by_cases hi : i < acc.size
    · obtain ⟨k, q⟩ := ha.2 i _ (Array.getElem?_eq_getElem hi)
      rw [Array.getElem?_eq_getElem hi, q]; rfl
    · have := ha.1
      rw [Array.getElem?_eq_none (by omega), List.getElem?_eq_none (by omega)]; rfl
  rw [e]
  have go : ∀ (l₁ : List (Key × V)) (l₂ : List (Key × Value)), Paired (fun (p : Key × V) (q : Key × Value) => p.1 = q.1 ∧ RelV p.2 q.2) l₁ l₂ → Vals (l₁.map (·.2)) (l₂.map (·.2)) := by
    intro l₁ l₂ r
    induction r with
    | nil => exact .nil
    | cons r t ih => exact .cons r.2 ih
  exact go _ _ rel
theorem call_listV (hc : X.calm = true) : CallR X (.type "list") (fun xs H Q => ∃ (v d : Addr) (kvs : List (Key × V)), xs = [.ref v] ∧ H v = some (valHO v d) ∧ H d = some (.dK kvs) ∧ ∀ l, H l = none → Q (.ref l) (upd H l (.lst (kvs.map (·.2))))) := by
  intro pins s σ H xs us Q I r h
  obtain ⟨v, d, kvs, rfl, hv, hd, q⟩ := h
  obtain ⟨u, rfl, rx⟩ := vals1 r
  cases rx
  obtain ⟨hview, _, _⟩ := (show ObjOk X.prog X.w H s.heap v (valHO v d) from I.hok v _ hv)
  obtain ⟨z, hS, ws, rel, o, es, ep, ho, rr⟩ := dk_of I.hok hd
  have dat : s.heap.DictAt (mixKind X.prog X.w) d ws ep := ⟨o, es, ho, rr⟩
  have hl := rel.length
  refine PySem.W.kdl_call (PySem.W.kdl_values (knd := mixKind X.prog X.w) (r := v) (kvs := ws) (ep := ep)) (I.ok.hd hc) ⟨hview, dat⟩ (by omega) fun h' tk acc c k1 hD ha => ?_
  exact ⟨.ref s.heap.objs.size, _, I.laidD (t' := tk) (d' := s.drawn) k1 (Nat.le_refl _) (show ObjOk X.prog X.w _ _ _ (.lst (kvs.map (·.2))) from ⟨by rw [List.length_map]; omega, acc.toList, c, vals_items rel ha, by rw [Array.toArray_toList]; exact hD⟩), rfl, q _ (I.hok.fresh (Nat.le_refl _))⟩
end
end L2
namespace L2
open PySem PySem.Spec PyProof.Rows
def Slots (l : List Addr) (h h' : Heap) : Prop := ∀ b o, h.get? b = some o → b ∈ l → ∃ sl, h'.get? b = some { o with slots := sl }
structure UnB (fs : List Addr) (H H' : Hp) (h h' : Heap) : Prop where
  keep : ∀ b o, h.get? b = some o → H b = none → b ∉ fs → h'.get? b = some o
  free : ∀ b o, h.get? b = some o → H b = none → H' b = none
  there : ∀ b o, h.get? b = some o → b ∉ fs → ∃ o', h'.get? b = some o'
  tups : ∀ b xs, H b = some (.tup xs) → H' b = some (.tup xs)
  frzs : ∀ b o u, H b = some (.frz o u) → H' b = some (.frz o u)
  tbls : ∀ b ps, H b = some (.tbl ps) → ∃ more, H' b = some (.tbl (ps ++ more))
theorem UnB.un {fs : List Addr} {H H' : Hp} {h h' : Heap} (u : UnB fs H H' h h') (sl : Slots fs h h') : Un fs [] H H' h h' :=
  ⟨fun b o e n hb _ => u.keep b o e n hb, fun b o e _ hb _ => sl b o e hb, fun b o e n _ => u.free b o e n, fun b o e _ => by
    by_cases hb : b ∈ fs
    · obtain ⟨z, q⟩ := sl b o e hb
      exact ⟨_, q⟩
    · exact u.there b o e hb, u.tups, u.frzs, u.tbls⟩
def CXX (P : Program) (w : World) : CXT := fun outer H s E e s' => ∃ (a : Addr) (C a0 : Value) (B : Heap) (H' : Hp), e = .ref a ∧ s'.os = s.os ∧ AllBare s'.gens ∧ Heap.FlyingW B outer a C a0 s'.heap ∧ Slots (frs outer) s.heap s'.heap ∧
  (∀ h' : Heap, B.StaysIn h' → UnB (frs outer) H H' s.heap h' ∧ HOk P w H' h') ∧ E C none H'
theorem Slots.up {l : List Env} {base h h1 h2 : Heap} (f : h.FunFrames base l) (a : Slots (frs l) h h1) (u : h1.UpToSlots h2) : Slots (frs l) h h2 := fun b o e hb => by
  obtain ⟨_, o', e', hnf⟩ := f.mem hb
  rw [e] at e'
  cases e'
  obtain ⟨sl, q⟩ := a b o e hb
  obtain ⟨sl', q'⟩ := u b _ q hnf
  exact ⟨sl', q'⟩
theorem Inv.oldB {X : Cx} {pins : List (Addr × Obj)} {σ : St} {H : Hp} {s : Shared} (I : Inv X pins σ H s) {b : Addr} {o : Obj} (e : X.s₀.heap.get? b = some o) (hb : b ∉ frs X.outer) : b ∉ frs X.stack := fun hs => by
  rcases List.mem_cons.mp (I.stkSub b hs) with z | z
  · have := Heap.lt_size e
    rw [z] at this
    exact absurd this (Nat.not_lt.mpr I.ok.above)
  · exact hb z
theorem Inv.onB {X : Cx} {pins : List (Addr × Obj)} {σ : St} {H H' : Hp} {s : Shared} {h' : Heap} (I : Inv X pins σ H s) (hex : X.ex = []) (u : UnB (frs X.stack) H H' s.heap h') : UnB (frs X.outer) X.H₀ H' X.s₀.heap h' := by
  have nx : ∀ b, b ∉ X.ex := fun b z => by rw [hex] at z; cases z
  refine ⟨fun b o e n hb => ?_, fun b o e n => ?_, fun b o e hb => ?_, fun b xs e => u.tups b xs (I.base.tups b xs e), fun b o v e => u.frzs b o v (I.base.frzs b o v e), fun b ps e => ?_⟩
  · exact u.keep b o (I.base.keep b o e n hb (nx b)) (I.base.free b o e n (nx b)) (I.oldB e hb)
  · obtain ⟨sl, q⟩ := I.base.any e n (nx b)
    exact u.free b _ q (I.base.free b o e n (nx b))
  · obtain ⟨o', q⟩ := I.base.there b o e (nx b)
    exact u.there b o' q (I.oldB e hb)
  · obtain ⟨m1, q1⟩ := I.base.tbls b ps e
    obtain ⟨m2, q2⟩ := u.tbls b _ q1
    exact ⟨m1 ++ m2, by rw [q2, Array.append_assoc]⟩
theorem Inv.raisedB {X : Cx} {pins : List (Addr × Obj)} {σ : St} {H : Hp} {s : Shared} (I : Inv X pins σ H s) (hex : X.ex = []) :
    ∀ h' : Heap, (PySem.W.hideAll s.heap (frs X.stack)).StaysIn h' → UnB (frs X.outer) X.H₀ H X.s₀.heap h' ∧ HOk X.prog X.w H h' := by
  intro h' st
  have kp : ∀ b u, s.heap.get? b = some u → b ∉ frs X.stack → h'.get? b = some u := fun b u e hb => st b u (PySem.W.hideAll_get _ e hb)
  refine ⟨I.onB hex ⟨fun b o e _ hb => kp b o e hb, fun _ _ _ n => n, fun b o e hb => ⟨o, kp b o e hb⟩, fun _ _ e => e, fun _ _ _ e => e, fun b ps e => ⟨#[], by rw [e]; simp⟩⟩, fun a u e => ?_⟩
  refine (I.hok a u e).stay (fun b v hb q => kp b v q fun hs => ?_) (fun _ z => z) (fun _ _ z => z)
  have hn := I.stkFree b hs
  rcases hb with z | z
  · rw [z, e] at hn; cases hn
  · rw [z] at hn; cases hn
theorem exc_of_in {K : PySem.W.Frag} {h : Heap} {C : Addr} {bmB : List Value} {newId : String} (X : K.In h) (q : PySem.W.excIn K C bmB newId = true) :
    ∃ bm N nm qn bs hdct sn sub ab col dd k0 k1 k2 k3 k5 mN, h.get? C = some (excClassObj nm qn C N bs bm hdct sn sub ab col dd k0 k1 k2 k3 k5 newId) ∧ h.Ns N mN ∧ mN "__init__" = none ∧ OwnTail h bmB bm := by
  unfold PySem.W.excIn at q
  split at q
  · rename_i dd cd sl ho
    split at q
    · rename_i C' bm k0 k1 k2 k3 n k5 hm hs
      simp only [Bool.and_eq_true, beq_iff_eq, Bool.not_eq_true'] at q
      obtain ⟨⟨⟨⟨⟨rfl, rfl⟩, hdel⟩, ht⟩, hok⟩, hni⟩ := q
      obtain ⟨nm, bs, mro, ns, qn, hd, sn, sub, ab, col, del⟩ := cd
      dsimp only at hm hdel hok hni
      subst hm hdel
      obtain ⟨l⟩ := sl
      dsimp only at hs
      subst hs
      exact ⟨bm, ns, nm, qn, bs, hd, sn, sub, ab, col, dd, k0, k1, k2, k3, k5, _, X _ _ ho, .of_isNs (PySem.W.isNs_of_in X hok), PySem.W.nsMap_none_of_in X hok hni, PySem.W.tail_of_in X ht⟩
    · cases q
  · cases q
structure XCls (K : PySem.W.Frag) (mg : Str → Option Value) (x : Str) (C : Addr) : Prop where
  at_ : mg x = some (.ref C)
  ex : PySem.W.excIn K C [.type "ValueError", .type "Exception", .type "BaseException", .type "object"] "ValueError.__new__" = true
section
variable {X : Cx}
def LeavesX (X : Cx) (E : XK) : Prop := X.stack = X.env :: X.outer ∧ X.env.frame = some X.env.locals ∧ X.ex = [] ∧
  X.xe = fun e s' => wpAny (model X.prog X.w) X.A (leaving X.env e) (fun _ s'' => CXX X.prog X.w X.outer X.H₀ X.s₀ E e s'') (fun e' s'' => CXX X.prog X.w X.outer X.H₀ X.s₀ E e' s'') s'
def tRaise (C : Addr) (E : XK) : TS := fun _ _ H => E (.ref C) none H
theorem ps_raise {E : XK} {x z : Str} {C : Addr} {np cpos pos p : Pos} {j} (L : LeavesX X E) (hc : X.calm = true) (hg : Gl X x) (O : XCls X.K X.mg x C) (hd : (x == ("__debug__" : Str)) = false := by decide)
    (hs : starEach [.Constant (.str z) j p] X.env = [(false, eval (.Constant (.str z) j p) X.env)] := by rfl) :
    PS X (.Raise (some (.Call (.Name x np) [.Constant (.str z) j p] [] cpos)) none pos) (tRaise C E) := by
  intro pins s σ H D I h
  obtain ⟨hst, hfr, hex, hxe⟩ := L
  rw [hxe]
  obtain ⟨tl, N, nm, q, bs, hdct, sn, sub, ab, col, dd, k0, k1, k2, k3, k5, mN, hC, hN, hni, T⟩ := exc_of_in I.kIn O.ex
  refine wpAny_Raise_call_subT (C := C) (nm := nm) (q := q) (N := N) (bs := bs) (bm := tl) (hdct := hdct) (sn := sn) (sub := sub) (ab := ab) (col := col) (dd := dd) (k0 := k0) (k1 := k1) (k2 := k2) (k3 := k3) (k5 := k5)
    PySem.F.excBase_ValueError (mN := mN) (T.hasType PySem.F.excBase_ValueError.hasBase) (I.ok.hd hc) (by rw [hs]; rfl) hni (ld_glob I hg O.at_ ⟨rfl, ?_⟩ hd)
  rw [hs]
  refine Calls.evalArgs_plain (Calls.spliced_cons (Calls.Constant_str (pos := p) (k := j) (Calls.spliced_nil ⟨rfl, (show 1 ≤ sizeLine by decide), hC, hN, T, fun h' e hm => ?_⟩)))
  have I1 : Inv X pins σ H { s with toks := s.toks + 1 } := I.tok _
  have fr : X.A.frames = some (X.env :: X.outer) := by rw [I.ok.frames, hst]
  have ff : s.heap.FunFrames X.base (X.env :: X.outer) := by rw [← hst]; exact I.stack
  refine wpAny_leaves_madeW (base := PySem.W.hideAll s.heap (frs X.stack)) (h := s.heap) fr hfr (fun b o z => PySem.W.of_hideAll _ z) (PySem.W.funFrames_hide ff fun env he a ha => ?_) hm fun h2 t fl tup _ us => ?_
  · rw [hst]
    exact List.mem_filterMap.mpr ⟨env, he, ha⟩
  · have f0 : X.s₀.heap.FunFrames X.base X.outer := I.ok.funs
    have s0 : Slots (frs X.outer) X.s₀.heap s.heap := fun b o e hb => I.base.slot b o e (I.ok.frf b hb) hb (by rw [hex]; simp)
    have s1 : Slots (frs X.outer) X.s₀.heap h' := fun b o e hb => by
      obtain ⟨sl, q⟩ := s0 b o e hb
      exact ⟨sl, hm.keeps b _ q⟩
    exact ⟨e, .ref C, .ref t, _, H, rfl, I.os, I.bare, fl, s1.up f0 us, I.raisedB hex, h⟩
end
section
variable {P : Program} {w : World} {K : PySem.W.Frag} {mg : Str → Option Value} {base : Heap}
theorem Fun.okX {x qual : Str} {st : Stmt} {f : Addr} {fd : FuncData} {N ps : List Str} {k : Nat} {sp : Sp} (F : Fun K x qual st f fd) (S : FnScope N ps (defScope st)) (len : ∀ vs H Q E, sp vs H Q E → vs.length = ps.length)
    (hbody : ∀ (cdv : Value) (A : Around) (outer : List Env) (s : Shared) (H : Hp) (vs : List V) (Q : VK) (E : XK), Room k (A.deeper (envOfC qual (defScope st) s.heap.objs.size f cdv)) → sp vs H Q E →
      ∃ t, PSs (cxOf (CXX P w) P w K mg base N qual (defScope st) f cdv A outer s H E) (defBody st) t ∧ t { nx := fun _ H' => Q .non H', rt := Q } (start N vs) H) : FnOk P w K mg base (CXX P w) (k + 1) f fd ps sp := by
  obtain ⟨oc, od, kV, doc, pm, an, cdv, ct, osl, rfl, lk, hcd⟩ := F.ex
  exact fn_of lk hcd S len fun A outer s H vs Q E hr hsp => hbody cdv A outer s H vs Q E hr hsp
theorem leavesX {N : List Str} {qual : Str} {scope : Scope} {f : Addr} {cd : Value} {A : Around} {outer : List Env} {s : Shared} {H : Hp} {E : XK} : LeavesX (cxOf (CXX P w) P w K mg base N qual scope f cd A outer s H E) E := ⟨rfl, rfl, rfl, rfl⟩
theorem passX {X : Cx} {E E' : XK} (L : LeavesX X E') (h : ∀ c d H, E c d H → E' c d H) : Passes (CXX X.prog X.w) X E := by
  intro pins σ H s e s' I q
  obtain ⟨hst, hfr, hex, hxe⟩ := L
  obtain ⟨a, c, a0, B, H2, rfl, os, bare, fly, sl, kp, hq⟩ := q
  rw [hxe]
  have fr : X.A.frames = some (X.env :: X.outer) := by rw [I.ok.frames, hst]
  rw [hst] at fly
  have f0 : X.s₀.heap.FunFrames X.base X.outer := I.ok.funs
  have s0 : Slots (frs X.outer) X.s₀.heap s'.heap := fun b o e hb => by
    obtain ⟨z, q⟩ := I.base.slot b o e (I.ok.frf b hb) hb (by rw [hex]; simp)
    obtain ⟨z', q'⟩ := sl b _ q (by rw [hst]; exact List.mem_filterMap.mpr (by
      obtain ⟨env, he, hf⟩ := List.mem_filterMap.mp hb
      exact ⟨env, List.mem_cons_of_mem _ he, hf⟩))
    exact ⟨z', q'⟩
  refine wpAny_leaves_onW fr hfr fly fun h2 fly2 u2 => ?_
  exact ⟨a, c, a0, B, H2, rfl, os.trans I.os, bare, fly2, s0.up f0 u2, fun h' b' => ⟨I.onB hex (kp h' b').1, (kp h' b').2⟩, h _ _ _ hq⟩
def takes (C : Addr) (z : Str) (Q : VK) : XK := fun c _ H' => c = .ref C ∧ Q (.str z) H'
def TakesX (X : Cx) (C : Addr) (z : Str) (Q : VK) (e : Value) (s' : Shared) : Prop := ∃ σ H s, Inv X [] σ H s ∧ CXX X.prog X.w X.stack H s (takes C z Q) e s'
theorem passT {X : Cx} {C : Addr} {z : Str} {Q : VK} : Passes (CXX X.prog X.w) (X.wish (TakesX X C z Q)) (takes C z Q) := fun _ σ H s _ _ I h => ⟨σ, H, s, I.unwish.pins_of (fun p hp => by cases hp), h⟩
theorem try_takes {X : Cx} {tb : List Stmt} {x z : Str} {C : Addr} {np p1 p2 hp pos : Pos} {j} {t : TS} {Q : VK} {σ : St} {H : Hp} {s : Shared} (hst : X.stack = X.env :: X.outer) (hfr : X.env.frame = some X.env.locals) (hg : Gl X x) (O : XCls X.K X.mg x C)
    (hb : PSs (X.wish (TakesX X C z Q)) tb t) (ht : t { nx := fun _ H' => Q .non H', rt := Q } σ H) (I : Inv X [] σ H s) (hd : (x == ("__debug__" : Str)) = false := by decide) :
    wpAny (model X.prog X.w) X.A (exec (.Try tb [.ExceptHandler (some (.Name x np)) none [.Return (some (.Constant (.str z) j p1)) p2] hp] [] [] pos) X.env) (SP X [] { nx := fun _ H' => Q .non H', rt := Q }) X.xe s := by
  refine wpAny_Try_except (wpAny_mono (hb [] s σ H _ (I.wish _) ht) (fun f s1 q => ?_) fun e s1 q => ?_)
  · have q' := SP.unwish q
    cases f with
    | next => exact wpAny_execs_nil q'
    | brk => exact q'
    | cont => exact q'
    | ret u => exact q'
  · obtain ⟨σ1, H1, s0, I0, a, c, a0, B, H2, rfl, os, bare, fly, sl, kp, rfl, hq⟩ := q
    have fr : X.A.frames = some (X.env :: X.outer) := by rw [I0.ok.frames, hst]
    have ff : s0.heap.FunFrames X.base X.stack := I0.stack
    rw [hst] at fly
    refine wpAny_looks_onW fr hfr fly fun h4 held4 u4 => wpAny_landsW held4 fun h5 fly5 u5 => ?_
    have inv : ∀ h6 : Heap, B.StaysIn h6 → Slots (frs X.stack) s0.heap h6 → Inv X [] σ1 H2 { s1 with heap := h6 } := fun h6 b6 s6 => by
      obtain ⟨un, hok⟩ := kp h6 b6
      exact I0.call' (s' := { s1 with heap := h6 }) (ch := []) os (un.un s6) hok bare (fun b hb => by cases hb)
    have sl5 : Slots (frs X.stack) s0.heap h5 := (sl.up ff u4).up ff u5
    have I5 := inv h5 fly5.1 sl5
    obtain ⟨ob, hob, hobc⟩ := fly5.there
    have nm : ∀ {A : Around} {E : Value → Shared → Prop} {R : Value → Shared → Prop}, R (.ref C) { s1 with heap := h5 } → wpAny (model X.prog X.w) A (eval (.Name x np) X.env) R E { s1 with heap := h5 } := fun r =>
      Calls.Name_function_global I5.ok.kind hg (Calls.loadGlobal_global (by rw [I5.ok.glob]; exact I5.mod.glob.keeps I5.bk) O.at_ r) hd
    refine wpAny_handleBy_cons (codeAny_handlers_test (nm ?_)) (by intro q; cases q)
    obtain ⟨bm, N, nm, qn, bs, hdct, sn, sub, ab, col, dd, k0, k1, k2, k3, k5, mN, hC, hN, hni, TL⟩ := exc_of_in I5.kIn O.ex
    refine wpAny_excMatches_sub_self hC hob hobc (TL.hasType PySem.F.excBase_ValueError.hasBase) (codeAny_handlers_suite ?_)
    refine lands_againW fly5 fun h6 fly6 u6 => ?_
    have I6 := inv h6 fly6.1 (sl5.up ff u6)
    exact wpAny_execs_cons (wpAny_Return_some (Calls.Constant_str (pos := p1) (k := j) ⟨.str z, σ1, H2, I6.tok _, ⟨_, rfl⟩, hq⟩))
end
theorem fn_ofW {CX : CXT} {P : Program} {w : World} {K : PySem.W.Frag} {mg : Str → Option Value} {base : Heap} {k : Nat} {f : Addr} {name qual : Str} {params : Arguments} {body : List Stmt} {scope : Scope} {dV kV doc pm cdv ct oc : Value} {an od : Option Addr}
    {osl : Array (Option Value)} {N ps : List Str} {sp : Sp} (lk : K.lookup f = some ⟨oc, od, .func (PySem.W.fnOf name qual params body scope dV kV doc pm an cdv ct), osl⟩) (hcd : PySem.W.codeIn K cdv qual = true) (S : FnScope N ps scope)
    (len : ∀ vs H Q E, sp vs H Q E → vs.length = ps.length)
    (hbody : ∀ (A : Around) (outer : List Env) (s : Shared) (H : Hp) (vs : List V) (Q : VK) (E : XK), Room k (A.deeper (envOfC qual scope s.heap.objs.size f cdv)) → sp vs H Q E →
      ∀ s1, Inv (cxOf CX P w K mg base N qual scope f cdv A outer s H E) [] (start N vs) H s1 → wpAny (model P w) (A.deeper (envOfC qual scope s.heap.objs.size f cdv)) (execs body (envOfC qual scope s.heap.objs.size f cdv)) (SP (cxOf CX P w K mg base N qual scope f cdv A outer s H E) [] { nx := fun _ H' => Q .non H', rt := Q }) (cxOf CX P w K mg base N qual scope f cdv A outer s H E).xe s1) :
    FnOk P w K mg base CX (k + 1) f (PySem.W.fnOf name qual params body scope dV kV doc pm an cdv ct) ps sp := by
  refine ⟨len, fun A outer s H args us vs Q E hr e0 hb r hsp => ?_⟩
  have hl := len _ _ _ _ hsp
  have KX : K.In s.heap := e0.mod.kin.keeps fun b o e => (e0.bs b o e).1
  have lim : s.heap.NoLimit := e0.mod.nolimit.keeps fun b o e => (e0.bs b o e).1
  have hkind : ∀ y ∈ ps.zip us, scope.names.lookup y.1 = some .local ∨ (scope.names.lookup y.1 = some .cell ∧ ((cellsFrom (s.heap.objs.size + 1) scope.names []).lookup y.1).isSome = true) := fun ⟨n, v⟩ hy => by
    rcases S.par n (List.of_mem_zip hy).1 with q | q
    · exact .inl q
    · exact .inr ⟨q, PySem.W.cellsFrom_some _ _ _ (.inl q)⟩
  refine codeAny_call_function hr.depth (KX _ _ lk) rfl S.co S.gen rfl (PySem.W.codeRec_of KX hcd) (hb _ _ _ _ ?_)
  refine wpAny_newFunctionEnv_cells S.kind hkind fun env he s1 x => ?_
  subst he
  refine ⟨lim.keeps x.toInCall.keep, codeAny_func ?_⟩
  have hq := hbody A outer s H vs Q E (hr.deeper _) hsp
  have I : Inv (cxOf CX P w K mg base N qual scope f cdv A outer s H E) [] (start N vs) H s1 := inv_start S hr.hd e0 hl r x
  refine wpAny_mono (hq s1 I) (fun fl s' hs => ?_) fun e s' hs => hs
  have fin : ∀ {σ' : St} {H' : Hp} {v : V} {u : Value}, Inv (cxOf CX P w K mg base N qual scope f cdv A outer s H E) [] σ' H' s' → RelV v u → Q v H' → CE outer P w H s Q u s' :=
    fun {σ' H' v u} J rv q => ⟨v, H', J.os, J.bare, J.base, J.hok, rv, q⟩
  cases fl with
  | ret u =>
    obtain ⟨v, σ', H', J, rv, q⟩ := hs
    exact fin J rv q
  | next =>
    obtain ⟨σ', H', J, q⟩ := hs
    exact fin (v := V.non) (u := Value.none) J rfl q
  | brk =>
    obtain ⟨_, _, _, q⟩ := hs
    exact False.elim q
  | cont =>
    obtain ⟨_, _, _, q⟩ := hs
    exact False.elim q
section
variable {P : Program} {w : World} {K : PySem.W.Frag} {mg : Str → Option Value} {base : Heap}
theorem Fun.okT {x qual : Str} {st : Stmt} {f : Addr} {fd : FuncData} {N ps : List Str} {k : Nat} {sp : Sp} {tb : List Stmt} {hx z : Str} {C : Addr} {np p1 p2 hp pos : Pos} {j} (F : Fun K x qual st f fd) (S : FnScope N ps (defScope st)) (O : XCls K mg hx C)
    (hb : defBody st = [.Try tb [.ExceptHandler (some (.Name hx np)) none [.Return (some (.Constant (.str z) j p1)) p2] hp] [] [] pos]) (len : ∀ vs H Q E, sp vs H Q E → vs.length = ps.length)
    (hgl : ∀ (cdv : Value) (n : Nat), (envOfC qual (defScope st) n f cdv).kindOf hx = some .globalImplicit) (hd : (hx == ("__debug__" : Str)) = false)
    (hbody : ∀ (cdv : Value) (A : Around) (outer : List Env) (s : Shared) (H : Hp) (vs : List V) (Q : VK) (E : XK), Room k (A.deeper (envOfC qual (defScope st) s.heap.objs.size f cdv)) → sp vs H Q E →
      ∃ t, PSs ((cxOf CX0 P w K mg base N qual (defScope st) f cdv A outer s H E).wish (TakesX (cxOf CX0 P w K mg base N qual (defScope st) f cdv A outer s H E) C z Q)) tb t ∧ t { nx := fun _ H' => Q .non H', rt := Q } (start N vs) H) : FnOk P w K mg base CX0 (k + 1) f fd ps sp := by
  obtain ⟨oc, od, kV, doc, pm, an, cdv, ct, osl, rfl, lk, hcd⟩ := F.ex
  refine fn_ofW lk hcd S len fun A outer s H vs Q E hr hsp s1 I => ?_
  obtain ⟨t, h, q⟩ := hbody cdv A outer s H vs Q E hr hsp
  rw [hb]
  refine wpAny_execs_cons (thn (try_takes (X := cxOf CX0 P w K mg base N qual (defScope st) f cdv A outer s H E) rfl rfl (hgl cdv _) O h q I hd) fun fl s2 z => ?_)
  cases fl with
  | next => exact wpAny_execs_nil z
  | ret v => exact z
  | brk => exact z
  | cont => exact z
end
end L2
namespace L2
open PySem PySem.Spec PyProof.Rows
theorem passN {X : Cx} {P : Program} {w : World} {E : XK} (h : ∀ c d H, E c d H → False) : Passes (CXX P w) X E := fun _ _ _ _ _ _ _ q => by
  obtain ⟨a, c, a0, B, H2, _, _, _, _, _, _, hq⟩ := q
  exact (h _ _ _ hq).elim
end L2
namespace L2
open PySem PySem.Spec PyProof.Rows
def NoFrz (H0 : Hp) (d : Addr) : Prop := ∀ o u, H0 d ≠ some (.frz o u)
theorem Inv.swap {X : Cx} {pins : List (Addr × Obj)} {σ : St} {H : Hp} {s : Shared} {d : Addr} {u u' : HO} (I : Inv X pins σ H s) (e : H d = some u) (h1 : ∀ xs, u ≠ .tup xs) (h2 : ∀ x, u ≠ .own x) (h3 : ∀ ps, u ≠ .tbl ps) (h4 : NoFrz X.H₀ d)
    (new : ObjOk X.prog X.w (upd H d u') s.heap d u') : Inv X pins σ (upd H d u') s := by
  have nd : ∀ {b : Addr} {v : HO}, H b = some v → v ≠ u → b ≠ d := fun q n => ne_of q e n
  have nn : ∀ {b : Addr}, H b = none → b ≠ d := fun q z => by rw [z, e] at q; cases q
  refine ⟨I.ok, I.os, I.bare, ⟨I.base.keep, I.base.slot, fun b o' a b' c => ?_, I.base.there, fun b xs q => ?_, fun b o' v q => ?_, fun b ps q => ?_⟩, I.loc, I.cell, ?_, fun x c h => ?_, fun p hp => ?_, fun a v q => ?_, I.len⟩
  · have z := I.base.free b o' a b' c
    rw [upd_ne (nn z)]; exact z
  · have z := I.base.tups b xs q
    rw [upd_ne (nd z (fun y => h1 xs y.symm))]; exact z
  · have hb : b ≠ d := fun z => h4 o' v (by rw [← z]; exact q)
    rw [upd_ne hb]; exact I.base.frzs b o' v q
  · obtain ⟨m, z⟩ := I.base.tbls b ps q
    exact ⟨m, by rw [upd_ne (nd z (fun y => h3 _ y.symm))]; exact z⟩
  · rw [upd_ne (nn I.free)]; exact I.free
  · rw [upd_ne (nn (I.freeC x c h))]; exact I.freeC x c h
  · obtain ⟨a, b, c⟩ := I.pin p hp
    exact ⟨a, by rw [upd_ne (nn b)]; exact b, c⟩
  · by_cases ha : a = d
    · subst ha
      rw [upd_same] at q
      cases q
      exact new
    · rw [upd_ne ha] at q
      exact (I.hok a v q).stay (fun _ _ _ z => z) (fun b z => by rw [upd_ne (nd z (fun y => h2 a y.symm))]; exact z) fun b xs z => by rw [upd_ne (nd z (fun y => h1 xs y.symm))]; exact z
section
variable {X : Cx}
end
theorem op_neLK {X : Cx} {K : PySem.W.Frag} (h : X.K = K) (hu : X.A.units + 100 < cLine) : OpR X (compareOp .NotEq) (rEqL K true) := by subst h; exact op_neL hu
end L2
namespace L2
open PySem PySem.Spec PyProof.Rows
structure InC (K : PySem.W.Frag) (x : Str) (C : Addr) : Prop where
  a : PySem.W.nsIn K mainGlobals x = some (some (.ref C))
  pg : PySem.W.plainGet K C Str.empty = true
  hd : PySem.W.hasDictIn K C = true
  po : PySem.W.plainOver K C = true
  sa : PySem.W.findIn K (.ref C) "__setattr__" = some (some (.builtin "object.__setattr__"))
  mak : PySem.W.makesIn K C = true
  kp : PySem.W.keepIn K (.ref C) = true
theorem InC.cls {K : PySem.W.Frag} {x : Str} {C : Addr} (i : InC K x C) : Cls K C := ⟨i.pg, i.hd, i.po, i.sa⟩
structure InM (K : PySem.W.Frag) (C : Addr) (m q : Str) (st : Stmt) : Prop where
  ex : ∃ (f : Addr) (oc : Value) (od : Option Addr) (kV doc pm : Value) (an : Option Addr) (cdv ct : Value) (osl : Array (Option Value)),
    PySem.W.findIn K (.ref C) m = some (some (.ref f)) ∧ PySem.W.isFn K (.ref f) = true ∧ K.lookup f = some ⟨oc, od, .func (PySem.W.fnOf m q (defArgs st) (defBody st) (defScope st) .none kV doc pm an cdv ct), osl⟩ ∧ PySem.W.codeIn K cdv q = true ∧ PySem.W.keepIn K (.ref f) = true
theorem InM.of {K : PySem.W.Frag} {C : Addr} {m q : Str} {st : Stmt} {f : Addr} {oc : Value} {od : Option Addr} {kV doc pm : Value} {an : Option Addr} {cdv ct : Value} {osl : Array (Option Value)}
    (a : PySem.W.findIn K (.ref C) m = some (some (.ref f))) (i : PySem.W.isFn K (.ref f) = true) (l : K.lookup f = some ⟨oc, od, .func (PySem.W.fnOf m q (defArgs st) (defBody st) (defScope st) .none kV doc pm an cdv ct), osl⟩) (c : PySem.W.codeIn K cdv q = true) (k : PySem.W.keepIn K (.ref f) = true) : InM K C m q st :=
  ⟨⟨f, oc, od, kV, doc, pm, an, cdv, ct, osl, a, i, l, c, k⟩⟩
set_option genInjectivity false in
structure MDef (K : PySem.W.Frag) (C : Addr) (m q : Str) (st : Stmt) (ps : List Str) where
  f : Addr
  fd : FuncData
  F : Fun K m q st f fd
  me : Meth K C m f
  b : Binds K fd ps []
theorem InM.def {K : PySem.W.Frag} {C : Addr} {m q : Str} {st : Stmt} {ps : List Str} (i : InM K C m q st)
    (hb : ∀ (kV doc pm : Value) (an : Option Addr) (cdv ct : Value) (us : List Value), us.length = ps.length → bindArgs (PySem.W.fnOf m q (defArgs st) (defBody st) (defScope st) .none kV doc pm an cdv ct) ⟨us, []⟩ = pure (ps.zip us)) : Nonempty (MDef K C m q st ps) := by
  obtain ⟨f, oc, od, kV, doc, pm, an, cdv, ct, osl, a, i, l, c, k⟩ := i.ex
  have F := fun_mk (x := m) (qual := q) (st := st) l c k
  exact ⟨⟨f, _, F, ⟨a, i, k⟩, F.binds hb⟩⟩
section
variable {X : Cx}
end
end L2
namespace L2
open PySem PySem.Spec PyProof.Rows
section
variable {X : Cx} {pins : List (Addr × Obj)} {σ : St} {H : Hp} {s : Shared} {a : Addr} {kvs : List (Key × V)} {k : Key} {u r : Value} {v : V} {A : Around} {E : Value → Shared → Prop}
theorem d_setdef {Q : Value → Shared → Prop} (I : Inv X pins σ H s) (e : H a = some (.dK kvs)) (ry : RelV (kV k) u) (rv : RelV v r) (l : kvs.length < sizeLine)
    (h1 : ∀ x, valV kvs k = some x → ∀ u' s', RelV x u' → Inv X pins σ H s' → Q u' s') (h2 : valV kvs k = none → ∀ s', Inv X pins σ (upd H a (.dK (putK kvs k v))) s' → Q r s') :
    wpAny (model X.prog X.w) A (call (.builtin "dict.setdefault") [.ref a, u, r]) Q E s := by
  obtain ⟨z, hd, vs, rel, dd⟩ := dk_of I.hok e
  have hz : vs.length ≤ sizeLine := by rw [← rel.length]; exact z
  refine call_meetsIn PySem.F.slot_dict_setdefault dd.typeIs PySem.F.entry_dict_setdefault (PySem.F.args_dict_setdefault_3 _ _ _) (kt_meets_setdefault (mixKind X.prog X.w) a (kV_is ry) hd r) ⟨vs, dd, hz, fun w hw => ?_, fun hn h' dd' hs => ?_⟩
  · cases q : valV kvs k with
    | none =>
      have hn : valueAt vs k = none := RelO.none_of (by rw [← q]; exact rel.val k)
      rw [hn] at hw; cases hw
    | some x =>
      obtain ⟨w', hw', rw'⟩ := RelO.some_of (v := x) (o := valueAt vs k) (by rw [← q]; exact rel.val k)
      rw [hw'] at hw
      cases hw
      exact h1 x q _ _ rw' (I.tok _)
  · cases q : valV kvs k with
    | some x =>
      obtain ⟨w', hw', _⟩ := RelO.some_of (v := x) (o := valueAt vs k) (by rw [← q]; exact rel.val k)
      rw [hw'] at hn; cases hn
    | none =>
      have he : ∃ q, h'.get? a = some q := let ⟨q, _, _, hq, _⟩ := dd'; ⟨q, hq⟩
      have hl : (putK kvs k v).length ≤ sizeLine := by have := length_putK kvs k v; omega
      exact h2 q _ (d_write I (by rw [e]; exact True.intro) hs he (dk_new hl hd (rel.put k rv) dd'))
end
def tDSetd (td ty tx : TE) : TE := fun σ H Q => td σ H fun x H1 => ∃ a, x = .ref a ∧ IsD H1 a ∧ ty σ H1 fun y H2 => tx σ H2 fun z H3 => ∃ kvs k, H3 a = some (.dK kvs) ∧ y = kV k ∧ kvs.length < sizeLine ∧
  (∀ v, valV kvs k = some v → Q v H3) ∧ (valV kvs k = none → Q z (upd H3 a (.dK (putK kvs k z))))
theorem pe_dsetd {X : Cx} {o e f : Expr} {apos cpos : Pos} {td ty tx : TE} (ho : PE X o td) (he : PE X e ty) (hf : PE X f tx) (m : M2 X o "setdefault" apos e f cpos) : PE X (.Call (.Attribute o "setdefault" apos) [e, f] [] cpos) (tDSetd td ty tx) := by
  intro pins s σ H Q I h
  refine wpAny_Call_method m.base m.few m.line PySem.F.plainAttrs_dict PySem.F.slot_dict_setdefault PySem.F.type_dict_setdefault (thn (ho pins s σ H _ I h) fun u s1 ⟨x, H1, I1, rx, a, ex, d, q1⟩ => ?_)
  subst ex
  obtain rfl : u = Value.ref a := rx
  obtain ⟨t1, t2, _⟩ := isD_at I1 d
  refine ⟨t1, t2, ?_⟩
  rw [m.trees]
  refine Calls.callWith_builtin rfl (Calls.evalArgs_plain (Calls.spliced_cons (thn (he pins s1 σ H1 _ I1 q1) fun iv s2 ⟨y, H2, I2, ry, q2⟩ =>
    Calls.spliced_cons (thn (hf pins s2 σ H2 _ I2 q2) fun fv s3 ⟨z, H3, I3, rz, kvs, k, ea, ey, hz, q3, q4⟩ => Calls.spliced_nil ?_))))
  subst ey
  exact d_setdef I3 ea ry rz hz (fun x hx u' s' ru I' => ⟨x, H3, I', ru, q3 x hx⟩) fun hn s' I' => ⟨z, _, I', rz, q4 hn⟩
theorem op_eqM {X : Cx} (hu : X.A.units + 100 < cLine) : OpR X (compareOp .Eq) (fun x y H Q => rEq x y H Q ∨ rEqT X.K false x y H Q) := by
  intro pins s σ H x y v u Q I rx ry h
  rcases h with h | h
  · exact op_eq pins s σ H x y v u Q I rx ry h
  · exact op_eqT hu pins s σ H x y v u Q I rx ry h
theorem op_neM {X : Cx} (hu : X.A.units + 100 < cLine) : OpR X (compareOp .NotEq) (fun x y H Q => rNe x y H Q ∨ rEqT X.K true x y H Q) := by
  intro pins s σ H x y v u Q I rx ry h
  rcases h with h | h
  · exact op_ne pins s σ H x y v u Q I rx ry h
  · exact op_neT hu pins s σ H x y v u Q I rx ry h
def tSetLcI (i : Nat) (sel : List (Option Nat)) (td : TE) (g : TG) (tt : TT) (te : TE) : TS := fun D σ H => td σ H fun x H1 => ∃ d kvs, x = .ref d ∧ H1 d = some (.dK kvs) ∧ ∃ W : Nat → Nat → List V → Hp → Prop, (∃ m, W 0 m [] (del H1 d)) ∧
  lcTurn sel g tt te σ (Iti kvs) W fun ys G => ∀ l, G l = none → l ≠ d → D.nx (σ.set i (some (.ref l))) (upd (upd G l (.lst ys)) d (.dK kvs))
theorem ps_setLcI {X : Cx} {i : Nat} {x : Str} {elt o : Expr} {es : List Expr} {x1} {tpos apos cpos : Pos} {ifs : List Expr} {scope : Scope} {pos pos' spos : Pos} {td : TE} {N' : List Str} {sel : List (Option Nat)} {g : TG} {tt : TT} {te : TE}
    (hN : X.N.Nodup) (hi' : X.N[i]? = some x) (hx : Loc X.env.scope x)
    (hc : X.calm = true) (hk : scope.kind = .function) (chk : compChk scope X.env.scope X.N N' sel = true) (ho : PE X o td) (hgk : GKeeps sel g)
    (hb : ∀ (C : Addr) (s : Shared) (H : Hp) (fp : List Addr) (pn : List (Addr × Obj)), PG (cxComp X N' scope C s H fp pn) (.Tuple es x1 tpos) g ∧ PTs (cxComp X N' scope C s H fp pn) ifs tt ∧ PE (cxComp X N' scope C s H fp pn) elt te)
    (hsw : swapsWith (.ListComp elt [⟨.Tuple es x1 tpos, .Call (.Attribute o "items" apos) [] [] cpos, ifs, 0⟩] scope pos) (some (.Name x pos')) spos.line X.env = pure true)
    (hbase : attributeBase o "items" X.env (eval o X.env) = eval o X.env := by rfl) (hline : (apos.endLine == cpos.line) = true := by rfl)
    (hs : ∀ x, foldedSetIterable (.Call (.Attribute o "items" apos) [] [] cpos) X.env x = pure x := by intro _; rfl) (hf : X.fn x = true ∨ X.env.scope.names.lookup x = some .local := by first | exact .inl rfl | exact .inr rfl | assumption) :
    PS X (.Assign [.Name x pos'] (.ListComp elt [⟨.Tuple es x1 tpos, .Call (.Attribute o "items" apos) [] [] cpos, ifs, 0⟩] scope pos) spos) (tSetLcI i sel td g tt te) := by
  intro pins s σ H Dn I h
  have k := chk_ok chk
  rw [exec_Assign_Name_used _ _ _ _ hsw]
  refine wpAny_bind (wpAny_standAt (wpAny_bind ?_))
  show wpAny _ X.A (do let _ ← comprehension (.ListComp elt [⟨.Tuple es x1 tpos, .Call (.Attribute o "items" apos) [] [] cpos, ifs, 0⟩] scope pos) scope X.env _ (newList []) false (eval (.Call (.Attribute o "items" apos) [] [] cpos) X.env) (some (assign (.Name x pos') X.env))) _ _ s
  refine wpAny_bind (wpAny_mono (wpAny_comprehension_free (use := some (assign (.Name x pos') X.env)) (Q := fun _ s' => SP X pins Dn .next s') rfl hs (closureFor_free (clos_cells I k).1) hk k.lo ?_) (fun _ s' hq => wpAny_pure (wpAny_pure hq)) fun _ _ e => e)
  refine wpAny_Call_method0_late hbase hline (thn (ho pins s σ H _ I h) fun v s1 ⟨x, H1, I1, rx, d, kvs, ex, ed, W, ⟨m0, w0⟩, turn⟩ => ?_)
  subst ex
  obtain rfl : v = Value.ref d := rx
  obtain ⟨ob, vs, ep, hob, hS, rel, hat, IF, back⟩ := I1.forget ed
  have dt := hat _ hob
  have dof : s1.heap.DictOf (mixKind X.prog X.w) d vs := by obtain ⟨o', es', q⟩ := dt; exact ⟨o', es', ep, q⟩
  have t2 : ∀ b, Value.ref d = .ref b → ∃ ob, s1.heap.get? b = some ob ∧ ob.dict = none := by
    intro b hb
    cases hb
    obtain ⟨o', es', ep', h1, h2, _⟩ := dof
    exact ⟨o', h1, h2.2.1⟩
  refine ⟨"dict", _, PySem.F.plainAttrs_dict, PySem.F.slot_dict_items, PySem.F.type_dict_items, dof.typeIs, t2, Calls.callWith_builtin rfl (PySem.evalArgs_none ?_)⟩
  refine call_meetsIn PySem.F.slot_dict_items dof.typeIs PySem.F.entry_dict_items (PySem.F.args_dict_items_1 _) (meets_dict_items (mixKind X.prog X.w) d hS) ⟨⟨_, dof⟩, ?_⟩
  have hd1 : d < s1.heap.objs.size := Heap.lt_size hob
  have keep1 : ∀ b u, s1.heap.get? b = some u → (s1.heap.push { cls := .type "dict_items", data := .fields #[.ref d] }).get? b = some u := fun b u q => Heap.get?_push_of_some _ q
  refine wpAny_pyIter_items (knd := mixKind X.prog X.w) (d := d) ⟨_, Heap.get?_push_size _ rfl, rfl, rfl⟩ (hat _ (keep1 _ _ hob)) ?_
  have sz : (s1.heap.push { cls := .type "dict_items", data := .fields #[.ref d] }).objs.size = s1.heap.objs.size + 1 := by rw [Heap.size_push]
  have I2 := IF.kept (t' := s1.toks) (h' := (s1.heap.push { cls := .type "dict_items", data := .fields #[.ref d] }).push { cls := .type "dict_itemiterator", data := .fields #[.none, .bool false, .ref d, .int 0 0, .int vs.length 0, .int ep 0, .none, .none] }) fun b u q => Heap.get?_push_of_some _ (keep1 b u q)
  refine lc_blockP (pd := [(d, ob)]) (fp := [(s1.heap.push { cls := .type "dict_items", data := .fields #[.ref d] }).objs.size]) (RR := fun acc C => compPost (model X.prog X.w) X.A X.xe (some (assign (.Name _ pos') X.env)) (fun _ s' => SP X pins Dn .next s') acc C) hc hk k I2 (fun p hp => List.mem_append_right _ (List.mem_append_right _ hp))
    (turn_items d _ ob kvs vs ep (by rw [sz]; exact Nat.ne_of_lt (Nat.lt_succ_of_lt hd1)) rel hat) ⟨_, _, Heap.get?_push_size _ rfl⟩ (fun b hb => ?_) hb hgk w0 turn ?_
  · have z : b = (s1.heap.push { cls := .type "dict_items", data := .fields #[.ref d] }).objs.size := by simpa using hb
    subst z
    exact IF.fpOk (by rw [sz]; omega) (IF.hok.fresh (by rw [sz]; omega))
  · intro D C s' H' ys m hD I' hns fC q
    have hDd : D ≠ d := fun z => by
      have := (I'.pin (d, ob) (List.mem_append_right _ (List.mem_append_right _ (List.mem_singleton.mpr rfl)))).2.1
      rw [z, upd_same] at this
      cases this
    obtain ⟨oC, eC', epC, eC, dC, rC⟩ := id hns
    have I'' : Inv X ((pins ++ [(d, ob)]) ++ [(C, oC)]) σ (upd H' D (.lst ys)) s' := I'.pins_of fun p hp => by
      rcases List.mem_append.mp hp with hp | hp
      · exact I'.pin p (List.mem_append_right _ hp)
      · rw [List.mem_singleton.mp hp]
        exact ⟨eC, fC.1, fC.2.1, fC.2.2.1, fun v z => by rw [dC] at z; cases z⟩
    refine thn (pg_name (pos := pos') hN hi' hx hf ((pins ++ [(d, ob)]) ++ [(C, oC)]) s' σ _ (.ref D) (.ref D) (fun σ2 H2 => σ2 = σ.set i (some (.ref D)) ∧ H2 = upd H' D (.lst ys)) I'' rfl ⟨rfl, rfl⟩) fun _ s9 h9 => ?_
    obtain ⟨σ9, H9, I9, rfl, rfl⟩ := h9
    have eC9 := (I9.pin (C, oC) (List.mem_append_right _ (List.mem_append_right _ (List.mem_singleton.mpr rfl)))).1
    refine ⟨m, ⟨oC, eC', epC, eC9, dC, rC⟩, fun h' hs' => ?_⟩
    have I3 := (I9.unpinned).turned (t' := s9.toks) (fun b o hb e => (hs'.2 b hb).trans e) fC.1 fC.2.1 fC.2.2.2.1 fC.2.2.2.2.1 fC.2.2.2.2.2
    exact ⟨_, _, back _ _ _ I3, q D hD hDd⟩
end L2
namespace K40
open PySem L2
theorem ifT {c A B : Prop} [Decidable c] (hc : c) (h : A) : if decide c = true then A else B := by
  rw [if_pos (decide_eq_true hc)]; exact h
theorem ifF {c A B : Prop} [Decidable c] (hc : ¬ c) (h : B) : if decide c = true then A else B := by
  rw [if_neg (by rw [decide_eq_false hc]; exact Bool.false_ne_true)]; exact h
abbrev Hst := List (Int × Str)
def atB (P : Hst) (b : Str) : List Int := (P.filter fun x => decide (x.2 = b)).map (·.1)
theorem mem_atB {P : Hst} {b : Str} {w : Int} : w ∈ atB P b ↔ (w, b) ∈ P := by
  unfold atB
  constructor
  · intro h
    obtain ⟨x, hx, e⟩ := List.mem_map.mp h
    obtain ⟨h1, h2⟩ := List.mem_filter.mp hx
    have h2 : x.2 = b := of_decide_eq_true h2
    obtain ⟨x1, x2⟩ := x
    dsimp only at e h2
    subst e h2
    exact h1
  · intro h
    exact List.mem_map.mpr ⟨(w, b), List.mem_filter.mpr ⟨h, by simp⟩, rfl⟩
theorem nd_filter {P : Hst} (q : Int × Str → Bool) (h : (P.map (·.1)).Nodup) : ((P.filter q).map (·.1)).Nodup :=
  h.sublist (List.Sublist.map _ List.filter_sublist)
theorem nd_eq : ∀ {P : Hst} {x y : Int × Str}, (P.map (·.1)).Nodup → x ∈ P → y ∈ P → x.1 = y.1 → x = y
  | [], _, _, _, h, _, _ => by cases h
  | z :: r, x, y, nd, hx, hy, e => by
    have nd' : (z.1 :: r.map (·.1)).Nodup := nd
    obtain ⟨n1, n2⟩ := List.nodup_cons.mp nd'
    rcases List.mem_cons.mp hx with ex | hx'
    · rcases List.mem_cons.mp hy with ey | hy'
      · rw [ex, ey]
      · exact absurd (List.mem_map.mpr ⟨y, hy', by rw [← e, ex]⟩) n1
    · rcases List.mem_cons.mp hy with ey | hy'
      · exact absurd (List.mem_map.mpr ⟨x, hx', by rw [e, ey]⟩) n1
      · exact nd_eq n2 hx' hy' e
def kvsOf (P : Hst) : List (Key × V) := P.map fun x => (Sum.inl x.1, V.str x.2)
theorem kvs_drop (P : Hst) (w : Int) : dropK (kvsOf P) (Sum.inl w) = kvsOf (P.filter fun x => decide (x.1 ≠ w)) := by
  unfold dropK kvsOf
  rw [List.filter_map]
  congr 1
  apply List.filter_congr
  intro x _
  show decide ((Sum.inl x.1 : Key) ≠ Sum.inl w) = decide (x.1 ≠ w)
  have e : ((Sum.inl x.1 : Key) = Sum.inl w) = (x.1 = w) := propext ⟨Sum.inl.inj, fun q => by rw [q]⟩
  by_cases h : x.1 = w
  · simp [h]
  · simp [h]
theorem kvs_none {P : Hst} {w : Int} (h : ¬ w ∈ P.map (·.1)) : valV (kvsOf P) (Sum.inl w : Key) = none := by
  cases e : valV (kvsOf P) (Sum.inl w : Key) with
  | none => rfl
  | some v =>
    have m := valV_in e
    unfold kvsOf at m
    rw [List.map_map] at m
    obtain ⟨x, hx, q⟩ := List.mem_map.mp m
    exact absurd (List.mem_map.mpr ⟨x, hx, Sum.inl.inj q⟩) h
theorem kvs_some {P : Hst} {w : Int} (h : w ∈ P.map (·.1)) : ∃ v, valV (kvsOf P) (Sum.inl w : Key) = some v := by
  cases e : valV (kvsOf P) (Sum.inl w : Key) with
  | some v => exact ⟨v, rfl⟩
  | none =>
    have m := valV_not e
    obtain ⟨x, hx, q⟩ := List.mem_map.mp h
    refine absurd ?_ m
    unfold kvsOf
    rw [List.map_map]
    exact List.mem_map.mpr ⟨x, hx, by show (Sum.inl x.1 : Key) = Sum.inl w; rw [q]⟩
theorem kvs_put {P : Hst} {w : Int} {b : Str} (h : ¬ w ∈ P.map (·.1)) : putK (kvsOf P) (Sum.inl w) (.str b) = kvsOf (P ++ [(w, b)]) := by
  rw [putK_new _ (kvs_none h)]
  unfold kvsOf
  rw [List.map_append]
  rfl
def boxes3 : List Str := ["b", "boxes", "tray"]
def whos8 : List Int := [0, 1, 7, 9, 10, 42, 98, 99]
def leaveP (P : Hst) (w : Int) : Hst := P.filter fun x => decide (x.1 ≠ w)
structure Okp (P : Hst) : Prop where
  nd : (P.map (·.1)).Nodup
  inb : ∀ x ∈ P, x.2 ∈ boxes3
theorem Okp.add {P : Hst} {b : Str} {w : Int} (O : Okp P) (h : b ∈ boxes3) (e : w ∉ P.map (·.1)) : Okp (P ++ [(w, b)]) := by
  refine ⟨?_, fun x hx => ?_⟩
  · rw [List.map_append, List.nodup_append]
    refine ⟨O.nd, by simp, fun x hx y hy q => e ?_⟩
    have : y = w := by simpa using hy
    rw [← this, ← q]; exact hx
  · rcases List.mem_append.mp hx with q | q
    · exact O.inb x q
    · rw [List.mem_singleton.mp q]; exact h
theorem Okp.leave {P : Hst} {w : Int} (O : Okp P) : Okp (leaveP P w) := ⟨nd_filter _ O.nd, fun x hx => O.inb x (List.mem_filter.mp hx).1⟩
theorem atB_add {P : Hst} {w : Int} {b b' : Str} : atB (P ++ [(w, b)]) b' = if b' = b then atB P b ++ [w] else atB P b' := by
  unfold atB
  rw [List.filter_append, List.map_append]
  by_cases e : b' = b
  · subst e; simp
  · have : ¬ b = b' := fun z => e z.symm
    simp [e, this]
theorem atB_leave (P : Hst) (w : Int) (b : Str) : atB (leaveP P w) b = (atB P b).filter fun y => decide (y ≠ w) := by
  unfold leaveP atB
  rw [List.filter_filter, List.filter_map, List.filter_filter]
  congr 1
  apply List.filter_congr
  intro x _
  simp [Bool.and_comm]
theorem mem_keys {P : Hst} {w : Int} (O : Okp P) : w ∈ P.map (·.1) ↔ ∃ b ∈ boxes3, w ∈ atB P b := by
  constructor
  · intro h
    obtain ⟨x, hx, e⟩ := List.mem_map.mp h
    refine ⟨x.2, O.inb x hx, mem_atB.mpr ?_⟩
    rw [← e]; exact hx
  · rintro ⟨b, _, h⟩
    exact List.mem_map.mpr ⟨(w, b), mem_atB.mp h, rfl⟩
def thereF (P : Hst) (w : Int) : List Str := boxes3.filter fun b => decide (w ∈ atB P b)
theorem there_nil {P : Hst} {w : Int} (O : Okp P) : thereF P w = [] ↔ w ∉ P.map (·.1) := by
  rw [mem_keys O, thereF, List.filter_eq_nil_iff]
  simp
theorem one_bell {P : Hst} {w : Int} {b b' : Str} (O : Okp P) (h : w ∈ atB P b) (h' : w ∈ atB P b') : b = b' := by
  have := nd_eq O.nd (mem_atB.mp h) (mem_atB.mp h') rfl
  exact congrArg Prod.snd this
theorem atB_nd {P : Hst} (O : Okp P) (b : Str) : (atB P b).Nodup := nd_filter _ O.nd
theorem atB_len (P : Hst) (b : Str) : (atB P b).length ≤ P.length := by
  unfold atB
  rw [List.length_map]
  exact List.length_filter_le _ _
theorem leave_no {P : Hst} {w : Int} (h : w ∉ P.map (·.1)) : leaveP P w = P :=
  List.filter_eq_self.mpr fun x hx => decide_eq_true fun e => h (List.mem_map.mpr ⟨x, hx, e⟩)
theorem leave_other {P : Hst} {w : Int} {b b' : Str} (O : Okp P) (h : w ∈ atB P b) (n : b' ≠ b) : atB (leaveP P w) b' = atB P b' := by
  rw [atB_leave]
  exact List.filter_eq_self.mpr fun y hy => decide_eq_true fun e => n (one_bell O (e ▸ hy) h)
theorem leave_first {P : Hst} {w : Int} {r : List Int} {b : Str} (O : Okp P) (h : atB P b = w :: r) : atB (leaveP P w) b = r := by
  have nd := atB_nd O b
  rw [atB_leave, h]
  rw [h] at nd
  have hn := (List.nodup_cons.mp nd).1
  rw [List.filter_cons_of_neg (by simp)]
  exact List.filter_eq_self.mpr fun y hy => decide_eq_true fun e => hn (e ▸ hy)
abbrev Mail := Str → List V
def setM (M : Mail) (b : Str) (l : List V) : Mail := fun x => if x = b then l else M x
theorem setM_at (M : Mail) (b : Str) (l : List V) : setM M b l b = l := if_pos rfl
theorem setM_ne (M : Mail) {b x : Str} (l : List V) (h : x ≠ b) : setM M b l x = M x := if_neg h
def isLet : V → Bool
  | .int _ => true
  | .str _ => true
  | _ => false
inductive Deed where
  | send (b : Str) (v : V)
  | take (b : Str) (w : Int)
  | leave (w : Int)
def Deed.vs : Deed → List V
  | .send b v => [.str "send", .str b, v]
  | .take b w => [.str "take", .str b, .int w]
  | .leave w => [.str "leave", .int w]
def okB : Deed → Prop
  | .send b v => b ∈ boxes3 ∧ isLet v = true
  | .take b _ => b ∈ boxes3
  | .leave _ => True
structure Ok (P : Hst) (M : Mail) : Prop where
  p : Okp P
  ex : ∀ b, M b ≠ [] → atB P b = []
  out : ∀ b, b ∉ boxes3 → M b = []
  fl : ∀ b, (M b).all isLet = true
def stepP (P : Hst) (M : Mail) : Deed → Hst
  | .send b _ => match atB P b with
    | [] => P
    | w :: _ => leaveP P w
  | .take b w => if w ∈ P.map (·.1) then P else match M b with
    | [] => P ++ [(w, b)]
    | _ :: _ => P
  | .leave w => leaveP P w
def stepM (P : Hst) (M : Mail) : Deed → Mail
  | .send b v => match atB P b with
    | [] => setM M b (M b ++ [v])
    | _ :: _ => M
  | .take b w => if w ∈ P.map (·.1) then M else match M b with
    | [] => M
    | _ :: r => setM M b r
  | .leave _ => M
theorem Ok.leave {P : Hst} {M : Mail} {w : Int} (O : Ok P M) : Ok (leaveP P w) M := ⟨O.p.leave, fun b h => by rw [atB_leave, O.ex b h]; rfl, O.out, O.fl⟩
theorem Ok.step {P : Hst} {M : Mail} {D : Deed} (O : Ok P M) (h : okB D) : Ok (stepP P M D) (stepM P M D) := by
  cases D with
  | leave w => exact O.leave
  | send b v =>
    show Ok (match atB P b with | [] => P | w :: _ => leaveP P w) (match atB P b with | [] => setM M b (M b ++ [v]) | _ :: _ => M)
    cases e : atB P b with
    | cons w r => exact O.leave
    | nil =>
      show Ok P (setM M b (M b ++ [v]))
      refine ⟨O.p, fun x hx => ?_, fun x hx => ?_, fun x => ?_⟩
      · by_cases q : x = b
        · rw [q]; exact e
        · rw [setM_ne _ _ q] at hx
          exact O.ex x hx
      · by_cases q : x = b
        · exact absurd (q ▸ h.1) hx
        · rw [setM_ne _ _ q]; exact O.out x hx
      · by_cases q : x = b
        · rw [q, setM_at, List.all_append, O.fl b]
          simp [h.2]
        · rw [setM_ne _ _ q]; exact O.fl x
  | take b w =>
    show Ok (if w ∈ P.map (·.1) then P else match M b with | [] => P ++ [(w, b)] | _ :: _ => P) (if w ∈ P.map (·.1) then M else match M b with | [] => M | _ :: r => setM M b r)
    by_cases hw : w ∈ P.map (·.1)
    · rw [if_pos hw, if_pos hw]; exact O
    · rw [if_neg hw, if_neg hw]
      cases e : M b with
      | nil =>
        show Ok (P ++ [(w, b)]) M
        refine ⟨O.p.add h hw, fun x hx => ?_, O.out, O.fl⟩
        rw [atB_add]
        by_cases q : x = b
        · exact absurd (q ▸ e) hx
        · rw [if_neg q]; exact O.ex x hx
      | cons y r =>
        show Ok P (setM M b r)
        refine ⟨O.p, fun x hx => ?_, fun x hx => ?_, fun x => ?_⟩
        · by_cases q : x = b
          · rw [q]; exact O.ex b (by rw [e]; exact fun z => nomatch z)
          · rw [setM_ne _ _ q] at hx
            exact O.ex x hx
        · by_cases q : x = b
          · exact absurd (q ▸ h) hx
          · rw [setM_ne _ _ q]; exact O.out x hx
        · by_cases q : x = b
          · have := O.fl b
            rw [e, List.all_cons, Bool.and_eq_true] at this
            rw [q, setM_at]; exact this.2
          · rw [setM_ne _ _ q]; exact O.fl x
theorem step_len (P : Hst) (M : Mail) (D : Deed) : (stepP P M D).length ≤ P.length + 1 := by
  cases D with
  | leave w => exact Nat.le_succ_of_le (List.length_filter_le _ _)
  | send b v =>
    show (match atB P b with | [] => P | w :: _ => leaveP P w).length ≤ _
    cases atB P b with
    | nil => exact Nat.le_succ _
    | cons w r => exact Nat.le_succ_of_le (List.length_filter_le _ _)
  | take b w =>
    show (if w ∈ P.map (·.1) then P else match M b with | [] => P ++ [(w, b)] | _ :: _ => P).length ≤ _
    by_cases hw : w ∈ P.map (·.1)
    · rw [if_pos hw]; exact Nat.le_succ _
    · rw [if_neg hw]
      cases M b with
      | nil => simp
      | cons y r => exact Nat.le_succ _
theorem mail_len (P : Hst) (M : Mail) (D : Deed) (b : Str) : (stepM P M D b).length ≤ (M b).length + 1 := by
  have sm : ∀ (b' : Str) (l : List V), l.length ≤ (M b').length + 1 → (setM M b' l b).length ≤ (M b).length + 1 := fun b' l h => by
    by_cases q : b = b'
    · subst q; rw [setM_at]; exact h
    · rw [setM_ne _ _ q]; exact Nat.le_succ _
  cases D with
  | leave w => exact Nat.le_succ _
  | send b' v =>
    show ((match atB P b' with | [] => setM M b' (M b' ++ [v]) | _ :: _ => M) b).length ≤ _
    cases atB P b' with
    | nil => exact sm _ _ (by simp)
    | cons w r => exact Nat.le_succ _
  | take b' w =>
    show ((if w ∈ P.map (·.1) then M else match M b' with | [] => M | _ :: r => setM M b' r) b).length ≤ _
    by_cases hw : w ∈ P.map (·.1)
    · rw [if_pos hw]; exact Nat.le_succ _
    · rw [if_neg hw]
      cases e : M b' with
      | nil => exact Nat.le_succ _
      | cons y r => exact sm _ _ (by rw [e]; simp; omega)

def top (i : Nat) : Stmt := PySem.Challenge.pw_nightwatch_k40_boxes.main.body.getD i (.Pass ⟨0, 0, 0, 0⟩)

set_option genInjectivity false in
structure Tx (K : PySem.W.Frag) (mg : Str → Option Value) where
  d_l_mixed : Def K mg "_law_mixed" (top 8) ["_law_cell", "_law_k"]
  d_l_whos : Def K mg "_law_whos" (top 9) []
  d_l_boxes : Def K mg "_law_boxes" (top 10) []
  d_l_drawn : Def K mg "_law_drawn" (top 11) ["_law_model", "_law_x"]
  d_l_at : Def K mg "_law_at" (top 12) ["_law_model", "_law_who"]
  d_l_told : Def K mg "_law_told" (top 13) ["_law_model", "_law_deed"]
  d_l_done : Def K mg "_law_done" (top 14) ["_law_boxes_here", "_law_deed"]
  d_l_alike : Def K mg "_law_alike" (top 15) ["_law_found", "_law_due"]
  d_l_same : Def K mg "_law_same" (top 16) ["_law_boxes_here", "_law_model", "_law_x", "_law_many"]
  C_Lines : Addr
  k_Lines : Cls K C_Lines
  h_Lines : mg "Lines" = some (.ref C_Lines)
  n_Lines_places : NoAttr K C_Lines "places"
  m_Lines___init__ : MDef K C_Lines "__init__" "Lines.__init__" (inClass (top 4) 0) ["self"]
  m_Lines_come : MDef K C_Lines "come" "Lines.come" (inClass (top 4) 1) ["self", "name", "who"]
  m_Lines_leave : MDef K C_Lines "leave" "Lines.leave" (inClass (top 4) 2) ["self", "who"]
  m_Lines_waiting : MDef K C_Lines "waiting" "Lines.waiting" (inClass (top 4) 3) ["self", "name"]
  m_Lines_waits_at : MDef K C_Lines "waits_at" "Lines.waits_at" (inClass (top 4) 4) ["self", "who"]
  m_Lines_busy : MDef K C_Lines "busy" "Lines.busy" (inClass (top 4) 5) ["self"]
  M_Lines : Mk K C_Lines m_Lines___init__.f
  C_Boxes : Addr
  k_Boxes : Cls K C_Boxes
  h_Boxes : mg "Boxes" = some (.ref C_Boxes)
  n_Boxes_takers : NoAttr K C_Boxes "takers"
  n_Boxes_mail : NoAttr K C_Boxes "mail"
  m_Boxes___init__ : MDef K C_Boxes "__init__" "Boxes.__init__" (inClass (top 6) 0) ["self"]
  m_Boxes_send : MDef K C_Boxes "send" "Boxes.send" (inClass (top 6) 1) ["self", "box", "letter"]
  m_Boxes_take : MDef K C_Boxes "take" "Boxes.take" (inClass (top 6) 2) ["self", "box", "who"]
  m_Boxes_leave : MDef K C_Boxes "leave" "Boxes.leave" (inClass (top 6) 3) ["self", "who"]
  m_Boxes_letters : MDef K C_Boxes "letters" "Boxes.letters" (inClass (top 6) 4) ["self", "box"]
  m_Boxes_waiting : MDef K C_Boxes "waiting" "Boxes.waiting" (inClass (top 6) 5) ["self", "box"]
  m_Boxes_waits_at : MDef K C_Boxes "waits_at" "Boxes.waits_at" (inClass (top 6) 6) ["self", "who"]
  m_Boxes_busy : MDef K C_Boxes "busy" "Boxes.busy" (inClass (top 6) 7) ["self"]
  M_Boxes : Mk K C_Boxes m_Boxes___init__.f
  C_NotWaiting : Addr
  x_NotWaiting : XCls K mg "NotWaiting" C_NotWaiting
  n_len : mg "len" = none
  n_sorted : mg "sorted" = none
  n_set : mg "set" = none
  n_list : mg "list" = none
  n_range : mg "range" = none
  n_enumerate : mg "enumerate" = none
  n_isinstance : mg "isinstance" = none
  n_tuple : mg "tuple" = none
  n_bool : mg "bool" = none
section
variable {P : Program} {w : World} {K : PySem.W.Frag} {mg : Str → Option Value} {base : Heap}
seal PE PT PW PA PS PSs PG PGs PI PC PTs PO
def flP (d : Addr) : List (Str × V) := [("places", .ref d)]
structure BAt (C : Addr) (H : Hp) (p d : Addr) (P : Hst) : Prop where
  ob : ∃ dx, H p = some (.ins C dx (flP d))
  dc : H d = some (.dK (kvsOf P))
def But (d : Addr) (H H' : Hp) : Prop := ∀ c o, c ≠ d → H c = some o → H' c = some o
theorem But.refl (d : Addr) (H : Hp) : But d H H := fun _ _ _ h => h
theorem But.trans {d : Addr} {H H1 H2 : Hp} (a : But d H H1) (b : But d H1 H2) : But d H H2 := fun c o n h => b c o n (a c o n h)
theorem But.of {d : Addr} {H H' : Hp} (s : Same H H') : But d H H' := fun c o _ h => s c o h
theorem But.upd {d : Addr} {H : Hp} {u : HO} : But d H (L2.upd H d u) := fun c o n h => by rw [upd_ne n]; exact h
theorem BAt.same {C : Addr} {H H' : Hp} {p d : Addr} {P : Hst} (B : BAt C H p d P) (s : Same H H') : BAt C H' p d P := by
  obtain ⟨⟨dx, h⟩, e⟩ := B
  exact ⟨⟨dx, s _ _ h⟩, s _ _ e⟩
theorem BAt.but {C : Addr} {H H' : Hp} {p d : Addr} {P P' : Hst} (B : BAt C H p d P) (s : But d H H') (e : H' d = some (.dK (kvsOf P'))) : BAt C H' p d P' := by
  obtain ⟨⟨dx, h⟩, e'⟩ := B
  exact ⟨⟨dx, s _ _ (ne_of h e' (fun z => nomatch z)) h⟩, e⟩
theorem fl_at (d : Addr) : (flP d).lookup ("places" : Str) = some (.ref d) := by
  show (putF "places" (.ref d) []).lookup ("places" : Str) = _
  rw [lookup_putF, if_pos rfl]
theorem fl_no (d : Addr) {m : Str} (h : ¬ m = "places") : (flP d).lookup m = none := by
  show (putF "places" (.ref d) []).lookup m = _
  rw [lookup_putF, if_neg h]
  rfl
theorem eqIt_flat {K : PySem.W.Frag} {H : Hp} {n : Nat} {xs ys : List V} (hx : xs.all flatV = true) (hy : ys.all flatV = true) : EqIt K H n xs ys (fun i => eqV ((xs[i]?).getD .non) ((ys[i]?).getD .non)) := fun i x y ex ey => by
  show EqD K H n x y (eqV ((xs[i]?).getD .non) ((ys[i]?).getD .non))
  rw [ex, ey]
  exact .flat (List.all_eq_true.mp hx x (List.mem_of_getElem? ex)) (List.all_eq_true.mp hy y (List.mem_of_getElem? ey))
theorem ints_flat (ns : List Int) : (ns.map V.int).all flatV = true := by
  rw [List.all_eq_true]
  intro x hx
  obtain ⟨n, _, rfl⟩ := List.mem_map.mp hx
  rfl
theorem intV (a b : Int) : eqV (.int a) (.int b) = decide (a = b) := by
  show (a == b) = _
  by_cases e : a = b
  · subst e; simp
  · rw [decide_eq_false e]; simp [e]
theorem ints_eq (ns ms : List Int) : (decide ((ns.map V.int).length = (ms.map V.int).length) && (List.range (ns.map V.int).length).all fun i => eqV (((ns.map V.int)[i]?).getD .non) (((ms.map V.int)[i]?).getD .non)) = decide (ns = ms) := by
  rw [Bool.eq_iff_iff, Bool.and_eq_true, decide_eq_true_eq, decide_eq_true_eq, List.all_eq_true, List.length_map, List.length_map]
  constructor
  · rintro ⟨hl, h⟩
    refine List.ext_getElem hl fun i h1 h2 => ?_
    have := h i (List.mem_range.mpr h1)
    rw [List.getElem?_map, List.getElem?_map, List.getElem?_eq_getElem h1, List.getElem?_eq_getElem h2] at this
    have := (intV ns[i] ms[i]).symm.trans this
    exact of_decide_eq_true this
  · intro e
    subst e
    refine ⟨rfl, fun i hi => ?_⟩
    have h1 := List.mem_range.mp hi
    rw [List.getElem?_map, List.getElem?_eq_getElem h1]
    show eqV (.int ns[i]) (.int ns[i]) = true
    rw [intV]; simp
theorem eqInts {K : PySem.W.Frag} {neg : Bool} {H : Hp} {a b : Addr} {ns ms : List Int} {R : VK} (ha : H a = some (.lst (ns.map V.int))) (hb : H b = some (.lst (ms.map V.int))) (k : R (.bl (neg ^^ decide (ns = ms))) H) : rEqL K neg (.ref a) (.ref b) H R := by
  refine ⟨a, b, _, _, 0, _, rfl, rfl, SqL.of ha, SqL.of hb, by decide, eqIt_flat (ints_flat ns) (ints_flat ms), ?_⟩
  rw [ints_eq]
  exact k
theorem inV_ints (w : Int) (ns : List Int) : inV (.int w) (ns.map V.int) = decide (w ∈ ns) := by
  unfold inV
  rw [Bool.eq_iff_iff, List.any_eq_true, decide_eq_true_eq]
  constructor
  · rintro ⟨z, hz, q⟩
    obtain ⟨n, hn, rfl⟩ := List.mem_map.mp hz
    rw [intV] at q
    have : n = w := of_decide_eq_true q
    subst this
    exact hn
  · intro h
    exact ⟨.int w, List.mem_map.mpr ⟨w, h, rfl⟩, by rw [intV]; simp⟩
theorem inInts {K : PySem.W.Frag} {neg : Bool} {H : Hp} {b : Addr} {m : List Int} {x : Int} {R : VK} (hb : H b = some (.lst (m.map V.int))) (k : R (.bl (neg ^^ decide (x ∈ m))) H) : rIn K neg (.int x) (.ref b) H R := by
  refine ⟨b, _, rfl, .inl (SqL.of hb), rfl, ints_flat m, ?_⟩
  rw [inV_ints]
  cases neg
  · rw [Bool.false_xor] at k; exact k
  · rw [Bool.true_xor] at k; exact k
theorem nilI {K : PySem.W.Frag} {neg : Bool} {G : Hp} {a : Addr} {l : List Int} {R : VK} (h : G a = some (.lst (l.map V.int))) (k : ∀ G', Same G G' → R (.bl (neg ^^ decide (l = []))) G') : 0 ≤ sizeLine ∧ ∀ p, G p = none → rEqL K neg (.ref a) (.ref p) (upd G p (.lst [])) R :=
  ⟨by decide, fun p hp => eqInts (ms := []) ((Same.upd hp) _ _ h) (by rw [upd_same]; rfl) (k _ (Same.upd hp))⟩
theorem _root_.L2.Same.over {H G : Hp} {p : Addr} {o : HO} (s : Same H G) (hp : H p = none) : Same H (L2.upd G p o) := fun b u e => by rw [upd_ne (ne_of_none e hp)]; exact s b u e
theorem six_n {n d j : Nat} (h : j ≤ n) : HT.sIx n d (some (j : Int)) = j := by
  rw [HT.sIx_nat]
  omega
theorem sortedS_pw : ∀ {l : List Str}, PyProof.Rows.sortedS l = true → l.Pairwise (fun a b => a.cps.toList ≤ b.cps.toList)
  | [], _ => .nil
  | x :: r, h => by
    have h : PyProof.Rows.risingS x r = true := h
    induction r generalizing x with
    | nil => exact List.pairwise_singleton _ _
    | cons y r ih =>
      have h : (!PySem.Spec.ltCps y.cps.toList x.cps.toList && PyProof.Rows.risingS y r) = true := h
      rw [Bool.and_eq_true, PyProof.Rows.ltCps_eq] at h
      have hxy : x.cps.toList ≤ y.cps.toList := by
        have := h.1
        simpa using this
      have p := ih y h.2 h.2
      refine List.pairwise_cons.mpr ⟨fun z hz => ?_, p⟩
      rcases List.mem_cons.mp hz with e | hz
      · rw [e]; exact hxy
      · exact List.le_trans hxy ((List.pairwise_cons.mp p).1 z hz)
theorem str_of_cps {a b : Str} (h : a.cps.toList = b.cps.toList) : a = b := by
  obtain ⟨x⟩ := a
  obtain ⟨y⟩ := b
  have : x = y := Array.toList_inj.mp h
  rw [this]
theorem sortedS_one {l m : List Str} (hl : PyProof.Rows.sortedS l = true) (hm : m.Pairwise (fun a b => a.cps.toList ≤ b.cps.toList)) (nl : l.Nodup) (nm : m.Nodup) (h : ∀ b, b ∈ l ↔ b ∈ m) : l = m :=
  List.Perm.eq_of_pairwise (le := fun a b => a.cps.toList ≤ b.cps.toList) (fun a b _ _ p q => str_of_cps (List.le_antisymm p q)) (sortedS_pw hl) hm ((List.perm_ext_iff_of_nodup nl nm).mpr h)
theorem boxes_nd : boxes3.Nodup := by decide +kernel
theorem lc_filt {α : Type} {K : PySem.W.Frag} {a : Addr} {xs : List α} {f : α → V} (q : α → Bool) {sel : List (Option Nat)} {g : TG} {tt : TT} {te : TE} {σ : St} {H : Hp} {Qe : List V → Hp → Prop} (ha : H a = some (.lst (xs.map f))) (hz : xs.length ≤ sizeLine)
    (hs : ∀ x ys G, x ∈ xs → Same H G → g (f x) (selS sel σ) G fun σ2 H2 => tt σ2 H2 fun b H3 => if b = true then te σ2 H3 fun y H4 => Same H H4 ∧ ys ++ [y] = ys ++ (if q x = true then [f x] else []) else Same H H3 ∧ ys = ys ++ (if q x = true then [f x] else []))
    (hd : ∀ G, Same H G → Qe ((xs.filter q).map f) G) : ∃ W : Nat → Nat → List V → Hp → Prop, (∃ m, W 0 m [] H) ∧ lcTurn sel g tt te σ (Itl K a) W Qe := by
  refine lc_list (K := K) (a := a) (xs := xs.map f) (fun i ys G => Same H G ∧ ys = ((xs.take i).filter q).map f) ⟨Same.refl _, rfl⟩ ?_ (by rw [List.length_map]; exact hz) ?_ ?_
  · rintro i ys G hi ⟨s, rfl⟩
    refine ⟨SqL.of (s _ _ ha), ?_⟩
    rw [List.length_map]
    exact Nat.le_trans (List.length_filter_le _ _) (by rw [List.length_take]; omega)
  · rintro i y ys G hi ⟨s, rfl⟩
    rw [List.getElem?_map] at hi
    cases ex : xs[i]? with
    | none => rw [ex] at hi; cases hi
    | some x =>
      rw [ex] at hi
      cases hi
      have e : ((xs.take (i + 1)).filter q).map f = ((xs.take i).filter q).map f ++ (if q x = true then [f x] else []) := by
        rw [List.take_succ, ex, List.filter_append, List.map_append]
        congr 1
        by_cases h : q x = true
        · rw [if_pos h, Option.toList_some, List.filter_cons_of_pos h]; rfl
        · rw [if_neg h, Option.toList_some, List.filter_cons_of_neg h]; rfl
      rw [e]
      exact hs x _ G (List.mem_of_getElem? ex) s
  · rintro ys G ⟨s, rfl⟩
    rw [List.length_map, List.take_length]
    exact hd G s
theorem strs_flat (ns : List Str) : (ns.map V.str).all flatV = true := by
  rw [List.all_eq_true]
  intro x hx
  obtain ⟨n, _, rfl⟩ := List.mem_map.mp hx
  rfl
theorem nilV {K : PySem.W.Frag} {neg : Bool} {G : Hp} {a : Addr} {l : List V} {R : VK} (h : G a = some (.lst l)) (hf : l.all flatV = true) (k : ∀ G', Same G G' → R (.bl (neg ^^ decide (l = []))) G') : 0 ≤ sizeLine ∧ ∀ p, G p = none → rEqL K neg (.ref a) (.ref p) (upd G p (.lst [])) R := by
  refine ⟨by decide, fun p hp => ⟨a, p, _, _, 0, _, rfl, rfl, SqL.of ((Same.upd hp) _ _ h), SqL.of upd_same, by decide, eqIt_flat hf rfl, ?_⟩⟩
  have := k _ (Same.upd (o := .lst []) hp)
  cases l with
  | nil => exact this
  | cons x r => exact this
theorem bT {c : Bool} {A B : Prop} (hc : c = true) (h : A) : if c = true then A else B := by rw [if_pos hc]; exact h
theorem bF {c : Bool} {A B : Prop} (hc : c = false) (h : B) : if c = true then A else B := by rw [if_neg (by rw [hc]; exact Bool.false_ne_true)]; exact h
theorem cut_ints (ns : List Int) (lo hi : Option Int) : ∃ ms : List Int, cutV (ns.map V.int) lo hi = ms.map V.int ∧ ms.length ≤ ns.length := by
  unfold cutV
  refine ⟨(ns.drop (HT.sIx (ns.map V.int).length 0 lo)).take (HT.sIx (ns.map V.int).length (ns.map V.int).length hi - HT.sIx (ns.map V.int).length 0 lo), by rw [List.map_take, List.map_drop], ?_⟩
  rw [List.length_take, List.length_drop]
  omega
def atW (P : Hst) (w : Int) : V := (valV (kvsOf P) (Sum.inl w : Key)).getD .non
theorem valV_mem {kvs : List (Key × V)} {k : Key} {v : V} (h : valV kvs k = some v) : (k, v) ∈ kvs := by
  unfold valV at h
  cases e : kvs.find? fun kv => decide (kv.1 = k) with
  | none => rw [e] at h; cases h
  | some kv =>
    rw [e] at h
    cases h
    have h1 := List.find?_some e
    have h1 : kv.1 = k := of_decide_eq_true h1
    have h2 := List.mem_of_find?_eq_some e
    rw [← h1]
    exact h2
theorem atW_eq {P : Hst} {w : Int} (O : Okp P) : ((thereF P w).map V.str ++ [V.non])[0]? = some (atW P w) ∧ scal (atW P w) (atW P w) = true := by
  unfold atW
  by_cases hw : w ∈ P.map (·.1)
  · obtain ⟨v, hv⟩ := kvs_some hw
    have hm := valV_mem hv
    unfold kvsOf at hm
    obtain ⟨⟨w', b⟩, hx, e⟩ := List.mem_map.mp hm
    have e1 : w' = w := Sum.inl.inj (congrArg Prod.fst e)
    have e2 : V.str b = v := congrArg Prod.snd e
    subst e1 e2
    rw [hv]
    refine ⟨?_, rfl⟩
    cases et : thereF P w' with
    | nil => exact absurd hw ((there_nil O).mp et)
    | cons b0 r =>
      have m0 : b0 ∈ thereF P w' := by rw [et]; exact List.mem_cons_self
      have m1 := of_decide_eq_true (List.mem_filter.mp m0).2
      have : b0 = b := one_bell O m1 (mem_atB.mpr hx)
      subst this
      rfl
  · rw [kvs_none hw, (there_nil O).mpr hw]
    exact ⟨rfl, rfl⟩
theorem atB_ne {P : Hst} {b : Str} : atB P b ≠ [] ↔ b ∈ P.map (·.2) := by
  constructor
  · intro h
    obtain ⟨w, hw⟩ := List.exists_mem_of_ne_nil _ h
    exact List.mem_map.mpr ⟨(w, b), mem_atB.mp hw, rfl⟩
  · intro h e
    obtain ⟨x, hx, q⟩ := List.mem_map.mp h
    have : x.1 ∈ atB P b := mem_atB.mpr (by rw [← q]; exact hx)
    rw [e] at this
    cases this
theorem eqStrs {K : PySem.W.Frag} {neg : Bool} {H : Hp} {a b : Addr} {ns : List Str} {R : VK} (ha : H a = some (.lst (ns.map V.str))) (hb : H b = some (.lst (ns.map V.str))) (k : R (.bl (neg ^^ true)) H) : rEqL K neg (.ref a) (.ref b) H R := by
  refine ⟨a, b, _, _, 0, _, rfl, rfl, SqL.of ha, SqL.of hb, by decide, eqIt_flat (strs_flat ns) (strs_flat ns), ?_⟩
  have e : (decide ((ns.map V.str).length = (ns.map V.str).length) && (List.range (ns.map V.str).length).all fun i => eqV (((ns.map V.str)[i]?).getD .non) (((ns.map V.str)[i]?).getD .non)) = true := by
    rw [Bool.and_eq_true, decide_eq_true_eq, List.all_eq_true]
    refine ⟨rfl, fun i hi => ?_⟩
    have h1 := List.mem_range.mp hi
    rw [List.length_map] at h1
    rw [List.getElem?_map, List.getElem?_eq_getElem h1]
    show (ns[i] == ns[i]) = true
    simp
  rw [e]
  exact k
theorem kvs_vals (P : Hst) : (kvsOf P).map (·.2) = (P.map (·.2)).map V.str := by
  unfold kvsOf
  rw [List.map_map, List.map_map]
  rfl
theorem in_boxes {us : List Str} (nd : us.Nodup) (h : ∀ b ∈ us, b ∈ boxes3) : us.length ≤ 3 := by
  have p : us.Perm (boxes3.filter fun b => decide (b ∈ us)) := (List.perm_ext_iff_of_nodup nd (boxes_nd.filter _)).mpr fun b => by
    rw [List.mem_filter, decide_eq_true_eq]
    exact ⟨fun m => ⟨h b m, m⟩, fun m => m.2⟩
  rw [p.length_eq]
  exact List.length_filter_le _ _
theorem inr_ne {b b' : Str} (h : b' ≠ b) : ¬ (Sum.inr b' : Key) = Sum.inr b := fun z => h (Sum.inr.inj z)
def flB (t m : Addr) : List (Str × V) := putF "mail" (.ref m) (putF "takers" (.ref t) [])
theorem flB_t (t m : Addr) : (flB t m).lookup ("takers" : Str) = some (.ref t) := by
  unfold flB
  rw [lookup_putF, if_neg (by decide +kernel), lookup_putF, if_pos rfl]
theorem flB_m (t m : Addr) : (flB t m).lookup ("mail" : Str) = some (.ref m) := by
  unfold flB
  rw [lookup_putF, if_pos rfl]
theorem flB_no (t m : Addr) {x : Str} (h1 : ¬ x = "takers") (h2 : ¬ x = "mail") : (flB t m).lookup x = none := by
  unfold flB
  rw [lookup_putF, if_neg h2, lookup_putF, if_neg h1]
  rfl
structure MAt (H : Hp) (m : Addr) (kvs : List (Key × V)) (M : Mail) : Prop where
  dc : H m = some (.dK kvs)
  no : ∀ b : Str, valV kvs (Sum.inr b : Key) = none → M b = []
  yes : ∀ (b : Str) (v : V), valV kvs (Sum.inr b : Key) = some v → ∃ a, v = .ref a ∧ H a = some (.lst (M b))
  inj : ∀ (b b' : Str) (a : Addr), valV kvs (Sum.inr b : Key) = some (.ref a) → valV kvs (Sum.inr b' : Key) = some (.ref a) → b = b'
def MailL (kvs : List (Key × V)) (c : Addr) : Prop := ∃ b : Str, valV kvs (Sum.inr b : Key) = some (.ref c)
theorem MAt.lst {H : Hp} {m : Addr} {kvs : List (Key × V)} {M : Mail} (A : MAt H m kvs M) {c : Addr} (h : MailL kvs c) : ∃ xs, H c = some (.lst xs) := by
  obtain ⟨b, hb⟩ := h
  obtain ⟨a, e, h⟩ := A.yes b _ hb
  cases e
  exact ⟨_, h⟩
theorem MAt.same {H H' : Hp} {m : Addr} {kvs : List (Key × V)} {M : Mail} (A : MAt H m kvs M) (s : Same H H') : MAt H' m kvs M :=
  ⟨s _ _ A.dc, A.no, fun b v h => by
    obtain ⟨a, e, q⟩ := A.yes b v h
    exact ⟨a, e, s _ _ q⟩, A.inj⟩
theorem MAt.upd {H : Hp} {m d : Addr} {kvs : List (Key × V)} {M : Mail} {o : HO} (A : MAt H m kvs M) (h1 : m ≠ d) (h2 : ∀ xs, H d ≠ some (.lst xs)) : MAt (L2.upd H d o) m kvs M :=
  ⟨by rw [upd_ne h1]; exact A.dc, A.no, fun b v h => by
    obtain ⟨a, e, q⟩ := A.yes b v h
    refine ⟨a, e, ?_⟩
    rw [upd_ne (fun z => h2 _ (by rw [← z]; exact q))]
    exact q, A.inj⟩
structure BxAt (C CL : Addr) (H : Hp) (x t d m : Addr) (P : Hst) (kvs : List (Key × V)) (M : Mail) : Prop where
  ob : ∃ dx, H x = some (.ins C dx (flB t m))
  ln : BAt CL H t d P
  ml : MAt H m kvs M
  ne : m ≠ d
theorem BxAt.same {C CL : Addr} {H H' : Hp} {x t d m : Addr} {P : Hst} {kvs : List (Key × V)} {M : Mail} (B : BxAt C CL H x t d m P kvs M) (s : Same H H') : BxAt C CL H' x t d m P kvs M := by
  obtain ⟨⟨dx, h⟩, l, q, n⟩ := B
  exact ⟨⟨dx, s _ _ h⟩, l.same s, q.same s, n⟩
theorem BxAt.line {C CL : Addr} {H : Hp} {x t d m : Addr} {P P' : Hst} {kvs : List (Key × V)} {M : Mail} (B : BxAt C CL H x t d m P kvs M) : BxAt C CL (upd H d (.dK (kvsOf P'))) x t d m P' kvs M := by
  obtain ⟨⟨dx, h⟩, ⟨⟨dt, ht⟩, hd⟩, q, n⟩ := B
  exact ⟨⟨dx, by rw [upd_ne (ne_of h hd (fun z => nomatch z))]; exact h⟩, ⟨⟨dt, by rw [upd_ne (ne_of ht hd (fun z => nomatch z))]; exact ht⟩, upd_same⟩, q.upd n (fun xs z => by rw [hd] at z; cases z), n⟩
structure Stp (d m : Addr) (H : Hp) (kvs : List (Key × V)) (H' : Hp) (kvs' : List (Key × V)) : Prop where
  keep : ∀ c o, c ≠ d → c ≠ m → ¬ MailL kvs c → H c = some o → H' c = some o
  news : ∀ c, MailL kvs' c → MailL kvs c ∨ H c = none
  len : kvs'.length ≤ kvs.length + 1
theorem Stp.of {d m : Addr} {H H' : Hp} {kvs : List (Key × V)} (s : Same H H') : Stp d m H kvs H' kvs := ⟨fun c o _ _ _ h => s c o h, fun _ h => .inl h, Nat.le_succ _⟩
theorem Stp.pre {d m : Addr} {H H1 H2 : Hp} {kvs kvs' : List (Key × V)} (s : Same H H1) (b : Stp d m H1 kvs H2 kvs') : Stp d m H kvs H2 kvs' :=
  ⟨fun c o h1 h2 h3 h => b.keep c o h1 h2 h3 (s c o h), fun c h => (b.news c h).imp id fun q => s.free q, b.len⟩
theorem Stp.post {d m : Addr} {H H1 H2 : Hp} {kvs kvs' : List (Key × V)} (b : Stp d m H kvs H1 kvs') (s : Same H1 H2) : Stp d m H kvs H2 kvs' :=
  ⟨fun c o h1 h2 h3 h => s c o (b.keep c o h1 h2 h3 h), b.news, b.len⟩
theorem Stp.d {d m : Addr} {H : Hp} {kvs : List (Key × V)} {o : HO} : Stp d m H kvs (upd H d o) kvs :=
  ⟨fun c o h1 _ _ h => by rw [upd_ne h1]; exact h, fun _ h => .inl h, Nat.le_succ _⟩
theorem MAt.setL {H : Hp} {m a : Addr} {kvs : List (Key × V)} {M : Mail} {b : Str} {xs : List V} (A : MAt H m kvs M) (h : valV kvs (Sum.inr b : Key) = some (.ref a)) : MAt (L2.upd H a (.lst xs)) m kvs (setM M b xs) := by
  obtain ⟨a0, e0, ha⟩ := A.yes b _ h
  cases e0
  refine ⟨by rw [upd_ne (ne_of A.dc ha (fun z => nomatch z))]; exact A.dc, fun b' hb => ?_, fun b' v hv => ?_, A.inj⟩
  · have : b' ≠ b := fun z => by rw [z, h] at hb; cases hb
    rw [setM_ne _ _ this]
    exact A.no b' hb
  · by_cases q : b' = b
    · subst q
      rw [h] at hv
      cases hv
      exact ⟨a, rfl, by rw [upd_same, setM_at]⟩
    · obtain ⟨a', rfl, ha'⟩ := A.yes b' v hv
      refine ⟨a', rfl, ?_⟩
      rw [upd_ne (fun z => q (A.inj b' b a (by rw [← z]; exact hv) h)), setM_ne _ _ q]
      exact ha'
theorem MAt.new {H : Hp} {m p : Addr} {kvs : List (Key × V)} {M : Mail} {b : Str} (A : MAt H m kvs M) (e : valV kvs (Sum.inr b : Key) = none) (hp : H p = some (.lst [])) (np : ¬ MailL kvs p) : MAt (L2.upd H m (.dK (putK kvs (Sum.inr b) (.ref p)))) m (putK kvs (Sum.inr b) (.ref p)) M := by
  have npm : p ≠ m := ne_of hp A.dc (fun z => nomatch z)
  refine ⟨upd_same, fun b' hb => ?_, fun b' v hv => ?_, fun b1 b2 a h1 h2 => ?_⟩
  · rw [valV_put] at hb
    by_cases q : (Sum.inr b' : Key) = Sum.inr b
    · rw [if_pos q] at hb; cases hb
    · rw [if_neg q] at hb
      exact A.no b' hb
  · rw [valV_put] at hv
    by_cases q : b' = b
    · subst q
      rw [if_pos rfl] at hv
      cases hv
      refine ⟨p, rfl, ?_⟩
      rw [upd_ne npm, A.no b' e]
      exact hp
    · rw [if_neg (inr_ne q)] at hv
      obtain ⟨a, rfl, ha⟩ := A.yes b' v hv
      refine ⟨a, rfl, ?_⟩
      rw [upd_ne (ne_of ha A.dc (fun z => nomatch z))]
      exact ha
  · rw [valV_put] at h1 h2
    by_cases q1 : b1 = b
    · by_cases q2 : b2 = b
      · rw [q1, q2]
      · rw [if_pos (by rw [q1])] at h1
        rw [if_neg (inr_ne q2)] at h2
        have : p = a := by injection h1 with z; injection z
        exact absurd ⟨b2, by rw [this]; exact h2⟩ np
    · rw [if_neg (inr_ne q1)] at h1
      by_cases q2 : b2 = b
      · rw [if_pos (by rw [q2])] at h2
        have : p = a := by injection h2 with z; injection z
        exact absurd ⟨b1, by rw [this]; exact h1⟩ np
      · rw [if_neg (inr_ne q2)] at h2
        exact A.inj b1 b2 a h1 h2
theorem BxAt.lst {C CL : Addr} {H : Hp} {x t d m a : Addr} {P : Hst} {kvs : List (Key × V)} {M : Mail} {b : Str} {xs : List V} (B : BxAt C CL H x t d m P kvs M) (h : valV kvs (Sum.inr b : Key) = some (.ref a)) : BxAt C CL (upd H a (.lst xs)) x t d m P kvs (setM M b xs) := by
  obtain ⟨a0, e0, ha⟩ := B.ml.yes b _ h
  cases e0
  obtain ⟨⟨dx, hx⟩, ⟨⟨dt, ht⟩, hd⟩, q, n⟩ := B
  exact ⟨⟨dx, by rw [upd_ne (ne_of hx ha (fun z => nomatch z))]; exact hx⟩, ⟨⟨dt, by rw [upd_ne (ne_of ht ha (fun z => nomatch z))]; exact ht⟩, by rw [upd_ne (ne_of hd ha (fun z => nomatch z))]; exact hd⟩, q.setL h, n⟩
theorem BxAt.new {C CL : Addr} {H : Hp} {x t d m p : Addr} {P : Hst} {kvs : List (Key × V)} {M : Mail} {b : Str} (B : BxAt C CL H x t d m P kvs M) (e : valV kvs (Sum.inr b : Key) = none) (hp : H p = some (.lst [])) (np : ¬ MailL kvs p) : BxAt C CL (upd H m (.dK (putK kvs (Sum.inr b) (.ref p)))) x t d m P (putK kvs (Sum.inr b) (.ref p)) M := by
  obtain ⟨⟨dx, hx⟩, ⟨⟨dt, ht⟩, hd⟩, q, n⟩ := B
  exact ⟨⟨dx, by rw [upd_ne (ne_of hx q.dc (fun z => nomatch z))]; exact hx⟩, ⟨⟨dt, by rw [upd_ne (ne_of ht q.dc (fun z => nomatch z))]; exact ht⟩, by rw [upd_ne (Ne.symm n)]; exact hd⟩, q.new e hp np, n⟩
theorem Stp.lst {d m a : Addr} {H : Hp} {kvs : List (Key × V)} {o : HO} (h : MailL kvs a) : Stp d m H kvs (upd H a o) kvs :=
  ⟨fun c o _ _ h3 hc => by rw [upd_ne (fun z => h3 (by rw [z]; exact h))]; exact hc, fun _ h => .inl h, Nat.le_succ _⟩
theorem Stp.new {d m p : Addr} {H H2 : Hp} {kvs : List (Key × V)} {b : Str} {o o' : HO} (s : Same H H2) (hp : H p = none) : Stp d m H kvs (upd (upd H2 m o) p o') (putK kvs (Sum.inr b) (.ref p)) := by
  refine ⟨fun c q _ h2 _ hc => ?_, fun c h => ?_, length_putK _ _ _⟩
  · rw [upd_ne (ne_of_none hc hp), upd_ne h2]
    exact s c q hc
  · obtain ⟨b', h⟩ := h
    rw [valV_put] at h
    by_cases q : (Sum.inr b' : Key) = Sum.inr b
    · rw [if_pos q] at h
      have : p = c := by injection h with z; injection z
      rw [← this]
      exact .inr hp
    · rw [if_neg q] at h
      exact .inl ⟨b', h⟩
def spInit (C : Addr) : Sp := fun vs H Q _ => ∃ (p dx : Addr), vs = [.ref p] ∧ H p = some (.ins C dx []) ∧ ∀ d, H d = none → Q .non (upd (upd H d (.dK [])) p (.ins C dx (flP d)))
def spCome (C X : Addr) : Sp := fun vs H Q E => ∃ (p d : Addr) (P : Hst) (b : Str) (w : Int), vs = [.ref p, .str b, .int w] ∧ BAt C H p d P ∧ P.length ≤ 100 ∧ (w ∉ P.map (·.1) → Q .non (upd H d (.dK (kvsOf (P ++ [(w, b)]))))) ∧ (w ∈ P.map (·.1) → E (.ref X) none H)
def spLeave (C X : Addr) : Sp := fun vs H Q E => ∃ (p d : Addr) (P : Hst) (w : Int), vs = [.ref p, .int w] ∧ BAt C H p d P ∧ (w ∈ P.map (·.1) → Q .non (upd H d (.dK (kvsOf (leaveP P w))))) ∧ (w ∉ P.map (·.1) → E (.ref X) none H)
def spWaiting (C : Addr) : Sp := fun vs H Q _ => ∃ (p d : Addr) (P : Hst) (b : Str), vs = [.ref p, .str b] ∧ BAt C H p d P ∧ P.length ≤ 100 ∧ ∀ l H', H l = none → Same H H' → H' l = some (.lst ((atB P b).map V.int)) → Q (.ref l) H'
def spWaitsAt (C : Addr) : Sp := fun vs H Q _ => ∃ (p d : Addr) (P : Hst) (w : Int), vs = [.ref p, .int w] ∧ BAt C H p d P ∧ Q (atW P w) H
def spBusy (C : Addr) : Sp := fun vs H Q _ => ∃ (p d : Addr) (P : Hst), vs = [.ref p] ∧ BAt C H p d P ∧ Okp P ∧ P.length ≤ 100 ∧ ∀ (l : Addr) (ns : List Str) (H' : Hp), H l = none → Same H H' → H' l = some (.lst (ns.map V.str)) → ns.Nodup → PyProof.Rows.sortedS ns = true → (∀ b, b ∈ ns ↔ b ∈ P.map (·.2)) → Q (.ref l) H'
def spBInit (C CL : Addr) : Sp := fun vs H Q _ => ∃ (p dx : Addr), vs = [.ref p] ∧ H p = some (.ins C dx []) ∧ ∀ t d m H', (∀ c o, c ≠ p → H c = some o → H' c = some o) → H m = none → H d = none → H t = none → BxAt C CL H' p t d m [] [] (fun _ => []) → Q .non H'
structure Pre (P : Hst) (kvs : List (Key × V)) (M : Mail) : Prop where
  ok : Ok P M
  hp : P.length ≤ 100
  hk : kvs.length ≤ 100
  hm : ∀ b, (M b).length ≤ 100
def spSend (C CL : Addr) : Sp := fun vs H Q _ => ∃ (x t d m : Addr) (P : Hst) (kvs : List (Key × V)) (M : Mail) (b : Str) (n : V), vs = [.ref x, .str b, n] ∧ BxAt C CL H x t d m P kvs M ∧ Pre P kvs M ∧
  (atB P b = [] → ∀ H' kvs', Stp d m H kvs H' kvs' → (kvs' = kvs ∨ ∃ q, kvs' = putK kvs (Sum.inr b) q ∧ valV kvs (Sum.inr b : Key) = none) → BxAt C CL H' x t d m P kvs' (setM M b (M b ++ [n])) → Q .non H') ∧
  (∀ w r, atB P b = w :: r → ∀ H', Stp d m H kvs H' kvs → BxAt C CL H' x t d m (leaveP P w) kvs M → Q (.int w) H')
def spTake (C CL X : Addr) : Sp := fun vs H Q E => ∃ (x t d m : Addr) (P : Hst) (kvs : List (Key × V)) (M : Mail) (b : Str) (w : Int), vs = [.ref x, .str b, .int w] ∧ BxAt C CL H x t d m P kvs M ∧ Pre P kvs M ∧
  (w ∈ P.map (·.1) → E (.ref X) none H) ∧
  (w ∉ P.map (·.1) → M b = [] → ∀ l H', Stp d m H kvs H' kvs → BxAt C CL H' x t d m (P ++ [(w, b)]) kvs M → H' l = some (.tup [.bl false, .non]) → Q (.ref l) H') ∧
  (w ∉ P.map (·.1) → ∀ n r, M b = n :: r → ∀ l H', Stp d m H kvs H' kvs → BxAt C CL H' x t d m P kvs (setM M b r) → H' l = some (.tup [.bl true, n]) → Q (.ref l) H')
def spBLeave (C CL X : Addr) : Sp := fun vs H Q E => ∃ (x t d m : Addr) (P : Hst) (kvs : List (Key × V)) (M : Mail) (w : Int), vs = [.ref x, .int w] ∧ BxAt C CL H x t d m P kvs M ∧
  (w ∈ P.map (·.1) → ∀ H', Stp d m H kvs H' kvs → BxAt C CL H' x t d m (leaveP P w) kvs M → Q .non H') ∧ (w ∉ P.map (·.1) → E (.ref X) none H)
def spLetters (C CL : Addr) : Sp := fun vs H Q _ => ∃ (x t d m : Addr) (P : Hst) (kvs : List (Key × V)) (M : Mail) (b : Str), vs = [.ref x, .str b] ∧ BxAt C CL H x t d m P kvs M ∧ ∀ l H', H l = none → Same H H' → H' l = some (.lst (M b)) → Q (.ref l) H'
def spBWaiting (C CL : Addr) : Sp := fun vs H Q _ => ∃ (x t d m : Addr) (P : Hst) (kvs : List (Key × V)) (M : Mail) (b : Str), vs = [.ref x, .str b] ∧ BxAt C CL H x t d m P kvs M ∧ P.length ≤ 100 ∧ ∀ l H', H l = none → Same H H' → H' l = some (.lst ((atB P b).map V.int)) → Q (.ref l) H'
def spBWaitsAt (C CL : Addr) : Sp := fun vs H Q _ => ∃ (x t d m : Addr) (P : Hst) (kvs : List (Key × V)) (M : Mail) (w : Int), vs = [.ref x, .int w] ∧ BxAt C CL H x t d m P kvs M ∧ Q (atW P w) H
def KsOk (kvs : List (Key × V)) : Prop := ∃ bs : List Str, kvs.map (·.1) = bs.map Sum.inr ∧ bs.Nodup ∧ ∀ b ∈ bs, b ∈ boxes3
def spBBusy (C CL : Addr) : Sp := fun vs H Q _ => ∃ (x t d m : Addr) (P : Hst) (kvs : List (Key × V)) (M : Mail), vs = [.ref x] ∧ BxAt C CL H x t d m P kvs M ∧ Ok P M ∧ P.length ≤ 100 ∧ KsOk kvs ∧
  ∀ (l : Addr) (ns : List Str) (H' : Hp), H l = none → Same H H' → H' l = some (.lst (ns.map V.str)) → ns.Nodup → PyProof.Rows.sortedS ns = true → (∀ b, b ∈ ns ↔ (M b ≠ [] ∨ atB P b ≠ [])) → Q (.ref l) H'
def spMixed : Sp := fun vs H Q _ => ∃ (a k : Int), vs = [.int a, .int k] ∧ 0 ≤ k ∧ k ≤ 1000 ∧ ∀ n : Int, 0 ≤ n → Q (.int n) H
def spWhos : Sp := fun vs H Q _ => vs = [] ∧ ∀ l H', H l = none → Same H H' → H' l = some (.lst (whos8.map V.int)) → Q (.ref l) H'
def spBoxes : Sp := fun vs H Q _ => vs = [] ∧ ∀ l H', H l = none → Same H H' → H' l = some (.lst (boxes3.map V.str)) → Q (.ref l) H'
theorem isLet_flat {l : List V} (h : l.all isLet = true) : l.all flatV = true := by
  rw [List.all_eq_true] at h ⊢
  intro x hx
  have := h x hx
  cases x <;> first | rfl | cases this
theorem atW_no {P : Hst} {w : Int} (h : w ∉ P.map (·.1)) : atW P w = .non := by
  unfold atW
  rw [kvs_none h]; rfl
theorem atW_in {P : Hst} {w : Int} (h : w ∈ P.map (·.1)) : ∃ b, atW P w = .str b ∧ (w, b) ∈ P := by
  obtain ⟨v, hv⟩ := kvs_some h
  have hm := valV_mem hv
  unfold kvsOf at hm
  obtain ⟨⟨w', b⟩, hx, e⟩ := List.mem_map.mp hm
  have e1 : w' = w := Sum.inl.inj (congrArg Prod.fst e)
  have e2 : V.str b = v := congrArg Prod.snd e
  subst e1 e2
  refine ⟨b, ?_, hx⟩
  unfold atW
  rw [hv]; rfl
theorem valV_nd : ∀ {kvs : List (Key × V)} {kv : Key × V}, (kvs.map (·.1)).Nodup → kv ∈ kvs → valV kvs kv.1 = some kv.2
  | p :: r, kv, nd, h => by
    have nd' : (p.1 :: r.map (·.1)).Nodup := nd
    obtain ⟨n1, n2⟩ := List.nodup_cons.mp nd'
    rcases List.mem_cons.mp h with e | h
    · rw [e]; exact valV_pos rfl
    · have hne : ¬ p.1 = kv.1 := fun z => n1 (z ▸ List.mem_map.mpr ⟨kv, h, rfl⟩)
      have := valV_nd n2 h
      unfold valV at this ⊢
      rw [List.find?_cons_of_neg (by simpa using hne)]
      exact this
theorem ks_nd {kvs : List (Key × V)} {bs : List Str} (h : kvs.map (·.1) = bs.map Sum.inr) (nd : bs.Nodup) : (kvs.map (·.1)).Nodup := by
  rw [h]
  exact List.Pairwise.map Sum.inr (fun a b n z => n (Sum.inr.inj z)) nd
theorem KsOk.new {kvs : List (Key × V)} {b : Str} {q : V} (K : KsOk kvs) (hb : b ∈ boxes3) (h : valV kvs (Sum.inr b : Key) = none) : KsOk (putK kvs (Sum.inr b) q) := by
  obtain ⟨bs, h1, h2, h3⟩ := K
  have hn := valV_not h
  rw [h1] at hn
  have hnb : b ∉ bs := fun z => hn (List.mem_map.mpr ⟨b, z, rfl⟩)
  refine ⟨bs ++ [b], ?_, ?_, fun x hx => ?_⟩
  · rw [putK_new _ h, List.map_append, List.map_append, h1]
    rfl
  · rw [List.nodup_append]
    refine ⟨h2, by simp, fun x hx y hy z => hnb ?_⟩
    have : y = b := by simpa using hy
    rw [← this, ← z]; exact hx
  · rcases List.mem_append.mp hx with hx | hx
    · exact h3 x hx
    · rw [List.mem_singleton.mp hx]; exact hb
theorem ks_in {H : Hp} {m : Addr} {kvs : List (Key × V)} {M : Mail} {bs : List Str} {b : Str} (A : MAt H m kvs M) (h : kvs.map (·.1) = bs.map Sum.inr) (hb : M b ≠ []) : b ∈ bs := by
  cases e : valV kvs (Sum.inr b : Key) with
  | none => exact absurd (A.no b e) hb
  | some v =>
    have := valV_in e
    rw [h] at this
    obtain ⟨x, hx, q⟩ := List.mem_map.mp this
    rw [← Sum.inr.inj q]; exact hx
def kin (b : Str) : Str := "in " ++ b
def kln (b : Str) : Str := "line " ++ b
def keys6 : List Str := ["in b", "line b", "in boxes", "line boxes", "in tray", "line tray"]
theorem kin_in : ∀ b ∈ boxes3, kin b ∈ keys6 := by decide +kernel
theorem kln_in : ∀ b ∈ boxes3, kln b ∈ keys6 := by decide +kernel
theorem kin_kln : ∀ b ∈ boxes3, ∀ c ∈ boxes3, kin b ≠ kln c := by decide +kernel
theorem kin_inj : ∀ b ∈ boxes3, ∀ c ∈ boxes3, kin b = kin c → b = c := by decide +kernel
theorem kln_inj : ∀ b ∈ boxes3, ∀ c ∈ boxes3, kln b = kln c → b = c := by decide +kernel
theorem keys_nd : keys6.Nodup := by decide +kernel
def Kvs (a : Str → Addr) (l : List Str) : List (Key × V) := l.map fun k => ((Sum.inr k : Key), V.ref (a k))
structure MdJ (H : Hp) (m : Addr) (a : Str → Addr) (P : Hst) (M : Mail) : Prop where
  dc : H m = some (.dK (Kvs a keys6))
  mi : ∀ b ∈ boxes3, H (a (kin b)) = some (.lst (M b))
  ml : ∀ b ∈ boxes3, H (a (kln b)) = some (.lst ((atB P b).map V.int))
theorem MdJ.same {H H' : Hp} {m : Addr} {a : Str → Addr} {P : Hst} {M : Mail} (A : MdJ H m a P M) (s : Same H H') : MdJ H' m a P M := ⟨s _ _ A.dc, fun b hb => s _ _ (A.mi b hb), fun b hb => s _ _ (A.ml b hb)⟩
theorem valV_kvs {a : Str → Addr} {k : Str} : ∀ {l : List Str}, k ∈ l → valV (Kvs a l) (Sum.inr k : Key) = some (.ref (a k))
  | x :: r, h => by
    by_cases e : x = k
    · subst e
      exact valV_pos rfl
    · have := valV_kvs (a := a) (l := r) (by
        rcases List.mem_cons.mp h with q | q
        · exact absurd q.symm e
        · exact q)
      unfold valV Kvs at this ⊢
      rw [List.map_cons, List.find?_cons_of_neg (by
        intro z
        have z : (Sum.inr x : Key) = Sum.inr k := by simpa using z
        exact e (Sum.inr.inj z))]
      exact this
theorem MdJ.getI {H : Hp} {m : Addr} {a : Str → Addr} {P : Hst} {M : Mail} {b : Str} (A : MdJ H m a P M) (hb : b ∈ boxes3) : DGet H m (.str (kin b)) (some (.ref (a (kin b)))) := by
  have := DGet.k (k := Sum.inr (kin b)) A.dc
  rw [valV_kvs (kin_in b hb)] at this
  exact this
theorem MdJ.getL {H : Hp} {m : Addr} {a : Str → Addr} {P : Hst} {M : Mail} {b : Str} (A : MdJ H m a P M) (hb : b ∈ boxes3) : DGet H m (.str (kln b)) (some (.ref (a (kln b)))) := by
  have := DGet.k (k := Sum.inr (kln b)) A.dc
  rw [valV_kvs (kln_in b hb)] at this
  exact this
def setA (a : Str → Addr) (k : Str) (q : Addr) : Str → Addr := fun x => if x = k then q else a x
theorem put_kvs {a : Str → Addr} {k : Str} {q : Addr} {l : List Str} (h : k ∈ l) : putK (Kvs a l) (Sum.inr k) (.ref q) = Kvs (setA a k q) l := by
  unfold putK Kvs
  rw [if_pos (List.any_eq_true.mpr ⟨_, List.mem_map.mpr ⟨k, h, rfl⟩, by simp⟩), List.map_map]
  apply List.map_congr_left
  intro x _
  show (if (Sum.inr x : Key) = Sum.inr k then ((Sum.inr x : Key), V.ref q) else (Sum.inr x, V.ref (a x))) = (Sum.inr x, V.ref (if x = k then q else a x))
  by_cases e : x = k
  · rw [if_pos (by rw [e]), if_pos e]
  · rw [if_neg (inr_ne e), if_neg e]
theorem MdJ.putI {H : Hp} {m q : Addr} {a : Str → Addr} {P : Hst} {M : Mail} {b : Str} {l : List V} (A : MdJ H m a P M) (hb : b ∈ boxes3) (hq : H q = some (.lst l)) : MdJ (upd H m (.dK (putK (Kvs a keys6) (Sum.inr (kin b)) (.ref q)))) m (setA a (kin b) q) P (setM M b l) := by
  refine ⟨by rw [upd_same, put_kvs (kin_in b hb)], fun c hc => ?_, fun c hc => ?_⟩
  · unfold setA
    by_cases e : c = b
    · rw [e, if_pos rfl, upd_ne (ne_of hq A.dc (fun z => nomatch z)), setM_at]; exact hq
    · rw [if_neg (fun z => e (kin_inj c hc b hb z)), upd_ne (ne_of (A.mi c hc) A.dc (fun z => nomatch z)), setM_ne _ _ e]
      exact A.mi c hc
  · unfold setA
    rw [if_neg (fun z => kin_kln b hb c hc z.symm), upd_ne (ne_of (A.ml c hc) A.dc (fun z => nomatch z))]
    exact A.ml c hc
theorem MdJ.putL {H : Hp} {m q : Addr} {a : Str → Addr} {P P' : Hst} {M : Mail} {b : Str} (A : MdJ H m a P M) (hb : b ∈ boxes3) (hq : H q = some (.lst ((atB P' b).map V.int))) (ho : ∀ c ∈ boxes3, c ≠ b → atB P' c = atB P c) : MdJ (upd H m (.dK (putK (Kvs a keys6) (Sum.inr (kln b)) (.ref q)))) m (setA a (kln b) q) P' M := by
  refine ⟨by rw [upd_same, put_kvs (kln_in b hb)], fun c hc => ?_, fun c hc => ?_⟩
  · unfold setA
    rw [if_neg (fun z => kin_kln c hc b hb z), upd_ne (ne_of (A.mi c hc) A.dc (fun z => nomatch z))]
    exact A.mi c hc
  · unfold setA
    by_cases e : c = b
    · rw [e, if_pos rfl, upd_ne (ne_of hq A.dc (fun z => nomatch z))]; exact hq
    · rw [if_neg (fun z => e (kln_inj c hc b hb z)), upd_ne (ne_of (A.ml c hc) A.dc (fun z => nomatch z)), ho c hc e]
      exact A.ml c hc
def spAt (K : PySem.W.Frag) : Sp := fun vs H Q _ => ∃ (m : Addr) (a : Str → Addr) (P : Hst) (M : Mail) (w : Int), vs = [.ref m, .int w] ∧ MdJ H m a P M ∧ Okp P ∧ P.length ≤ 100 ∧ ∀ H', Same H H' → Q (atW P w) H'
def ToldV (H : Hp) (v : V) (P : Hst) (M : Mail) : Deed → Prop
  | .send b _ => match atB P b with
    | [] => v = .non
    | w :: _ => v = .int w
  | .take b w => (w ∈ P.map (·.1) → v = .str "NotWaiting") ∧ (w ∉ P.map (·.1) → match M b with
    | [] => ∃ t, v = .ref t ∧ H t = some (.tup [.bl false, .non])
    | y :: _ => ∃ t, v = .ref t ∧ H t = some (.tup [.bl true, y]))
  | .leave w => (w ∈ P.map (·.1) → v = .non) ∧ (w ∉ P.map (·.1) → v = .str "NotWaiting")
def spDone (C CL : Addr) : Sp := fun vs H Q _ => ∃ (x t d m p : Addr) (P : Hst) (kvs : List (Key × V)) (M : Mail) (D : Deed), vs = [.ref x, .ref p] ∧ BxAt C CL H x t d m P kvs M ∧ Pre P kvs M ∧ KsOk kvs ∧ H p = some (.tup D.vs) ∧ okB D ∧
  ∀ v H' kvs', Stp d m H kvs H' kvs' → KsOk kvs' → BxAt C CL H' x t d m (stepP P M D) kvs' (stepM P M D) → ToldV H' v P M D → Q v H'
theorem sST : ¬ ("send" : Str) = "take" := by decide +kernel
theorem sSL : ¬ ("send" : Str) = "leave" := by decide +kernel
theorem sTL : ¬ ("take" : Str) = "leave" := by decide +kernel
theorem box_len : ∀ b ∈ boxes3, ("line " : Str).length + b.length ≤ 1000 := by decide +kernel
theorem box_leni : ∀ b ∈ boxes3, ("in " : Str).length + b.length ≤ 1000 := by decide +kernel
def spDrawn (K : PySem.W.Frag) : Sp := fun vs H Q _ => ∃ (m : Addr) (a : Str → Addr) (P : Hst) (M : Mail) (x : Int), vs = [.ref m, .int x] ∧ MdJ H m a P M ∧ P.length ≤ 100 ∧ ∀ (D : Deed) (p : Addr) (H' : Hp), H p = none → Same H H' → H' p = some (.tup D.vs) → okB D → Q (.ref p) H'
def spTold (K : PySem.W.Frag) : Sp := fun vs H Q _ => ∃ (m p : Addr) (a : Str → Addr) (P : Hst) (M : Mail) (D : Deed), vs = [.ref m, .ref p] ∧ MdJ H m a P M ∧ H p = some (.tup D.vs) ∧ Ok P M ∧ okB D ∧ P.length ≤ 100 ∧ (∀ b, (M b).length ≤ 100) ∧
  ∀ v H' a', But m H H' → MdJ H' m a' (stepP P M D) (stepM P M D) → (∀ k, a' k = a k ∨ H (a' k) = none) → ToldV H' v P M D → Q v H'
def spAlike (K : PySem.W.Frag) : Sp := fun vs H Q _ => ∃ (v u : V) (P : Hst) (M : Mail) (D : Deed), vs = [v, u] ∧ ToldV H v P M D ∧ ToldV H u P M D ∧ Ok P M ∧ Q (.bl true) H
def spSame (C CL : Addr) : Sp := fun vs H Q _ => ∃ (x t d q m : Addr) (a : Str → Addr) (P : Hst) (kvs : List (Key × V)) (M : Mail) (z n : Int), vs = [.ref x, .ref m, .int z, .int n] ∧ BxAt C CL H x t d q P kvs M ∧ Pre P kvs M ∧ KsOk kvs ∧ MdJ H m a P M ∧ 0 ≤ n ∧ n ≤ 4 ∧ ∀ H', Same H H' → Q (.bl true) H'
theorem keys_box : ∀ k ∈ keys6, ∃ b ∈ boxes3, k = kin b ∨ k = kln b := by decide +kernel
theorem MdJ.getLE {H : Hp} {m : Addr} {a : Str → Addr} {P : Hst} {M : Mail} {b k : Str} (A : MdJ H m a P M) (hb : b ∈ boxes3) (e : kln b = k) : DGet H m (.str k) (some (.ref (a k))) ∧ H (a k) = some (.lst ((atB P b).map V.int)) := by
  subst e
  exact ⟨A.getL hb, A.ml b hb⟩
theorem MdJ.getIE {H : Hp} {m : Addr} {a : Str → Addr} {P : Hst} {M : Mail} {b k : Str} (A : MdJ H m a P M) (hb : b ∈ boxes3) (e : kin b = k) : DGet H m (.str k) (some (.ref (a k))) ∧ H (a k) = some (.lst (M b)) := by
  subst e
  exact ⟨A.getI hb, A.mi b hb⟩
theorem setA_fr {a : Str → Addr} {k0 : Str} {p : Addr} {H : Hp} (h : H p = none) : ∀ k, setA a k0 p k = a k ∨ H (setA a k0 p k) = none := fun k => by
  unfold setA
  by_cases e : k = k0
  · rw [if_pos e]; exact .inr h
  · rw [if_neg e]; exact .inl rfl
theorem cut1 (x : V) (r : List V) : cutV (x :: r) (some 1) none = r := by
  unfold cutV
  have h1 : HT.sIx (x :: r).length 0 (some ((1 : Nat) : Int)) = 1 := six_n (by show 1 ≤ r.length + 1; omega)
  have h1 : HT.sIx (x :: r).length 0 (some 1) = 1 := h1
  have h2 : HT.sIx (x :: r).length (x :: r).length none = r.length + 1 := rfl
  rw [h1, h2]
  show r.take (r.length + 1 - 1) = r
  exact List.take_of_length_le (by omega)
def pick {α : Type} (a b : α) : Nat → α
  | 0 => a
  | _ => b
theorem at2 {x : Nat → Addr} {j : Nat} (h : j < 2) : [V.ref (x 0), V.ref (x 1)][j]? = some (.ref (x j)) := by
  match j, h with
  | 0, _ => rfl
  | 1, _ => rfl
def setN {α : Type} (P : Nat → α) (i : Nat) (Z : α) : Nat → α := fun j => if j = i then Z else P j
theorem setN_at {α : Type} (P : Nat → α) (i : Nat) (Z : α) : setN P i Z i = Z := if_pos rfl
theorem setN_ne {α : Type} (P : Nat → α) {i j : Nat} (Z : α) (h : j ≠ i) : setN P i Z j = P j := if_neg h
theorem BxAt.kept {C CL : Addr} {H H' : Hp} {x t d q : Addr} {P : Hst} {kvs : List (Key × V)} {M : Mail} (B : BxAt C CL H x t d q P kvs M) (hx : ∀ o, H x = some o → H' x = some o) (ht : ∀ o, H t = some o → H' t = some o) (hd : ∀ o, H d = some o → H' d = some o) (hq : ∀ o, H q = some o → H' q = some o) (hl : ∀ c, MailL kvs c → ∀ o, H c = some o → H' c = some o) : BxAt C CL H' x t d q P kvs M := by
  obtain ⟨⟨dx, h⟩, ⟨⟨dt, h2⟩, h3⟩, A, n⟩ := B
  exact ⟨⟨dx, hx _ h⟩, ⟨⟨dt, ht _ h2⟩, hd _ h3⟩, ⟨hq _ A.dc, A.no, fun b v hv => by
    obtain ⟨a, rfl, ha⟩ := A.yes b v hv
    exact ⟨a, rfl, hl a ⟨b, hv⟩ _ ha⟩, A.inj⟩, n⟩
theorem BxAt.but {C CL y : Addr} {H H' : Hp} {x t d q : Addr} {P : Hst} {kvs : List (Key × V)} {M : Mail} (B : BxAt C CL H x t d q P kvs M) (bt : But y H H') (hx : x ≠ y) (ht : t ≠ y) (hd : d ≠ y) (hq : q ≠ y) (hl : ¬ MailL kvs y) : BxAt C CL H' x t d q P kvs M :=
  B.kept (fun o => bt x o hx) (fun o => bt t o ht) (fun o => bt d o hd) (fun o => bt q o hq) (fun c hc o => bt c o (fun z => hl (z ▸ hc)))
structure Off (d q : Addr) (ks : List (Key × V)) (c : Addr) : Prop where
  d : c ≠ d
  q : c ≠ q
  l : ¬ MailL ks c
def Pb (he : Addr) (d q : Nat → Addr) (ks : Nat → List (Key × V)) (c : Addr) : Prop := c ≠ he ∧ ∀ i < 2, Off (d i) (q i) (ks i) c
def PairAt (H : Hp) (B : Addr → Prop) (t : Addr) : Prop := ∃ (a b : Addr) (l : List V), H t = some (.tup [.ref a, .ref b]) ∧ B a ∧ B b ∧ H a = some (.lst l) ∧ H b = some (.lst l) ∧ l.all isLet = true
structure LwAt (CB CL : Addr) (H : Hp) (e mo he : Addr) (x t d q m : Nat → Addr) (ks : Nat → List (Key × V)) (P R : Nat → Hst) (M W : Nat → Mail) (N : Nat) : Prop where
  ev : H e = some (.lst [.ref (x 0), .ref (x 1)])
  mv : H mo = some (.lst [.ref (m 0), .ref (m 1)])
  pe : Pb he d q ks e
  pmo : Pb he d q ks mo
  b : ∀ i < 2, BxAt CB CL H (x i) (t i) (d i) (q i) (P i) (ks i) (M i)
  ml : ∀ i < 2, ∃ a, MdJ H (m i) a (R i) (W i) ∧ ∀ k ∈ keys6, Pb he d q ks (a k)
  pm : ∀ i < 2, Pb he d q ks (m i)
  nm : ∀ i j, i < 2 → j < 2 → i ≠ j → m i ≠ m j
  nd : ∀ i j, i < 2 → j < 2 → i ≠ j → d i ≠ d j
  nq : ∀ i j, i < 2 → j < 2 → i ≠ j → q i ≠ q j
  dq : ∀ i j, i < 2 → j < 2 → d i ≠ q j
  nl : ∀ i j, i < 2 → j < 2 → i ≠ j → ∀ c, MailL (ks i) c → ¬ MailL (ks j) c
  ph : ∀ i < 2, ¬ MailL (ks i) he
  hd : ∃ ts : List Addr, H he = some (.lst (ts.map V.ref)) ∧ ts.length ≤ N ∧ ∀ t ∈ ts, PairAt H (Pb he d q ks) t
section
variable {CB CL e mo he : Addr} {H H' : Hp} {x t d q m : Nat → Addr} {ks : Nat → List (Key × V)} {P R : Nat → Hst} {M W : Nat → Mail} {N : Nat}
theorem PairAt.kept {B B' : Addr → Prop} {u : Addr} (p : PairAt H B u) (h1 : ∀ l, H u = some (.tup l) → H' u = some (.tup l)) (h2 : ∀ c l, B c → H c = some (.lst l) → H' c = some (.lst l) ∧ B' c) : PairAt H' B' u := by
  obtain ⟨a, b, l, g1, g2, g3, g4, g5, g6⟩ := p
  exact ⟨a, b, l, h1 _ g1, (h2 _ _ g2 g4).2, (h2 _ _ g3 g5).2, (h2 _ _ g2 g4).1, (h2 _ _ g3 g5).1, g6⟩
theorem LwAt.same (L : LwAt CB CL H e mo he x t d q m ks P R M W N) (s : Same H H') : LwAt CB CL H' e mo he x t d q m ks P R M W N := by
  obtain ⟨ts, h1, h2, h3⟩ := L.hd
  exact ⟨s _ _ L.ev, s _ _ L.mv, L.pe, L.pmo, fun i hi => (L.b i hi).same s, fun i hi => by
    obtain ⟨a, h, g⟩ := L.ml i hi
    exact ⟨a, h.same s, g⟩, L.pm, L.nm, L.nd, L.nq, L.dq, L.nl, L.ph, ts, s _ _ h1, h2, fun u hu => (h3 u hu).kept (fun _ h => s _ _ h) (fun c o b h => ⟨s _ _ h, b⟩)⟩
theorem LwAt.heN (L : LwAt CB CL H e mo he x t d q m ks P R M W N) {c : Addr} (h : H c = none) : c ≠ he := fun z => by
  obtain ⟨ts, g, _⟩ := L.hd
  rw [← z, h] at g
  cases g
theorem LwAt.fre (L : LwAt CB CL H e mo he x t d q m ks P R M W N) {c : Addr} (h : H c = none) : Pb he d q ks c := by
  refine ⟨L.heN h, fun i hi => ⟨fun z => ?_, fun z => ?_, fun z => ?_⟩⟩
  · have := (L.b i hi).ln.dc
    rw [← z, h] at this
    cases this
  · have := (L.b i hi).ml.dc
    rw [← z, h] at this
    cases this
  · obtain ⟨xs, g⟩ := (L.b i hi).ml.lst z
    rw [h] at g
    cases g
theorem LwAt.told {i : Nat} {Z : Hst} {Y : Mail} {a' a : Str → Addr} (L : LwAt CB CL H e mo he x t d q m ks P R M W N) (hi : i < 2) (pa : ∀ k ∈ keys6, Pb he d q ks (a k)) (hm : ∃ kvs, H (m i) = some (.dK kvs)) (bt : But (m i) H H') (MJ : MdJ H' (m i) a' Z Y) (fr : ∀ k, a' k = a k ∨ H (a' k) = none) : LwAt CB CL H' e mo he x t d q m ks P (setN R i Z) M (setN W i Y) N := by
  obtain ⟨kvs, hm⟩ := hm
  obtain ⟨ts, h1, h2, h3⟩ := L.hd
  have nl : ∀ {c : Addr} {o : HO}, H c = some o → (∀ kvs, o ≠ .dK kvs) → H' c = some o := fun {c o} h n => bt c o (ne_of h hm (n kvs)) h
  refine ⟨nl L.ev (fun _ z => nomatch z), nl L.mv (fun _ z => nomatch z), L.pe, L.pmo, fun j hj => ?_, fun j hj => ?_, L.pm, L.nm, L.nd, L.nq, L.dq, L.nl, L.ph, ts, nl h1 (fun _ z => nomatch z), h2, fun u hu => ?_⟩
  · obtain ⟨⟨dx, g1⟩, ⟨⟨dt, g2⟩, _⟩, _, _⟩ := id (L.b j hj)
    have o := (L.pm i hi).2 j hj
    exact (L.b j hj).but bt (ne_of g1 hm (fun z => nomatch z)) (ne_of g2 hm (fun z => nomatch z)) (Ne.symm o.d) (Ne.symm o.q) o.l
  · by_cases c : j = i
    · subst c
      rw [setN_at, setN_at]
      refine ⟨a', MJ, fun k hk => ?_⟩
      rcases fr k with z | z
      · rw [z]; exact pa k hk
      · exact L.fre z
    · rw [setN_ne _ _ c, setN_ne _ _ c]
      obtain ⟨a0, g, gp⟩ := L.ml j hj
      exact ⟨a0, ⟨bt _ _ (L.nm j i hj hi c) g.dc, fun b hb => nl (g.mi b hb) (fun _ z => nomatch z), fun b hb => nl (g.ml b hb) (fun _ z => nomatch z)⟩, gp⟩
  · exact (h3 u hu).kept (fun _ h => nl h (fun _ z => nomatch z)) (fun c l b h => ⟨nl h (fun _ z => nomatch z), b⟩)
theorem LwAt.done {i : Nat} {Z : Hst} {Y : Mail} {kvs' : List (Key × V)} (L : LwAt CB CL H e mo he x t d q m ks P R M W N) (hi : i < 2) (st : Stp (d i) (q i) H (ks i) H' kvs') (B : BxAt CB CL H' (x i) (t i) (d i) (q i) Z kvs' Y) : LwAt CB CL H' e mo he x t d q m (setN ks i kvs') (setN P i Z) R (setN M i Y) W N ∧ (∀ c o, Pb he d q ks c → H c = some o → H' c = some o ∧ Pb he d q (setN ks i kvs') c) ∧ ∀ c l, H c = some (.tup l) → H' c = some (.tup l) := by
  obtain ⟨ts, h1, h2, h3⟩ := L.hd
  have hdi := (L.b i hi).ln.dc
  have hqi := (L.b i hi).ml.dc
  have nn : ∀ {c : Addr} {o : HO}, H c = some o → MailL kvs' c → MailL (ks i) c := fun {c o} h z => (st.news c z).elim id fun w => by rw [h] at w; cases w
  have pk : ∀ c o, Pb he d q ks c → H c = some o → H' c = some o ∧ Pb he d q (setN ks i kvs') c := fun c o p h => by
    refine ⟨st.keep c o (p.2 i hi).d (p.2 i hi).q (p.2 i hi).l h, p.1, fun j hj => ⟨(p.2 j hj).d, (p.2 j hj).q, ?_⟩⟩
    by_cases c' : j = i
    · subst c'
      rw [setN_at]
      exact fun z => (p.2 j hj).l (nn h z)
    · rw [setN_ne _ _ c']
      exact (p.2 j hj).l
  have ok : ∀ {c : Addr} {o : HO}, H c = some o → (∀ kvs, o ≠ .dK kvs) → (∀ l, o ≠ .lst l) → H' c = some o := fun {c o} h n1 n2 => st.keep c o (ne_of h hdi (n1 _)) (ne_of h hqi (n1 _)) (fun z => by
    obtain ⟨xs, g⟩ := (L.b i hi).ml.lst z
    rw [h] at g
    cases g
    exact n2 _ rfl) h
  have tu : ∀ c l, H c = some (.tup l) → H' c = some (.tup l) := fun c l h => ok h (fun _ z => nomatch z) (fun _ z => nomatch z)
  have alive : ∀ {j : Nat} {c : Addr}, j < 2 → MailL (ks j) c → ∃ xs, H c = some (.lst xs) := fun {j c} hj z => (L.b j hj).ml.lst z
  refine ⟨⟨(pk _ _ L.pe L.ev).1, (pk _ _ L.pmo L.mv).1, (pk _ _ L.pe L.ev).2, (pk _ _ L.pmo L.mv).2, fun j hj => ?_, fun j hj => ?_, fun j hj => ?_, L.nm, L.nd, L.nq, L.dq, fun i' j' hi' hj' n c z1 z2 => ?_, fun j hj z => ?_, ts, ?_, h2, fun u hu => ?_⟩, pk, tu⟩
  · by_cases c : j = i
    · subst c
      rw [setN_at, setN_at, setN_at]
      exact B
    · rw [setN_ne _ _ c, setN_ne _ _ c, setN_ne _ _ c]
      obtain ⟨⟨dx, g1⟩, ⟨⟨dt, g2⟩, g3⟩, g4, _⟩ := id (L.b j hj)
      refine (L.b j hj).kept (fun o h => ?_) (fun o h => ?_) (fun o h => ?_) (fun o h => ?_) (fun c' hc o h => ?_)
      · rw [g1] at h; cases h
        exact ok g1 (fun _ z => nomatch z) (fun _ z => nomatch z)
      · rw [g2] at h; cases h
        exact ok g2 (fun _ z => nomatch z) (fun _ z => nomatch z)
      · refine st.keep _ _ (L.nd j i hj hi c) (L.dq j i hj hi) (fun z => ?_) h
        obtain ⟨xs, g⟩ := alive hi z
        rw [g3] at g; cases g
      · refine st.keep _ _ (Ne.symm (L.dq i j hi hj)) (L.nq j i hj hi c) (fun z => ?_) h
        obtain ⟨xs, g⟩ := alive hi z
        rw [g4.dc] at g; cases g
      · obtain ⟨xs, g⟩ := alive hj hc
        exact st.keep _ _ (ne_of g hdi (fun z => nomatch z)) (ne_of g hqi (fun z => nomatch z)) (L.nl j i hj hi c c' hc) h
  · obtain ⟨a, g, gp⟩ := L.ml j hj
    exact ⟨a, ⟨(pk _ _ (L.pm j hj) g.dc).1, fun b hb => (pk _ _ (gp _ (kin_in b hb)) (g.mi b hb)).1, fun b hb => (pk _ _ (gp _ (kln_in b hb)) (g.ml b hb)).1⟩, fun k hk => by
      have : ∃ b ∈ boxes3, k = kin b ∨ k = kln b := keys_box k hk
      obtain ⟨b, hb, rfl | rfl⟩ := this
      · exact (pk _ _ (gp _ hk) (g.mi b hb)).2
      · exact (pk _ _ (gp _ hk) (g.ml b hb)).2⟩
  · obtain ⟨a, g, gp⟩ := L.ml j hj
    exact (pk _ _ (L.pm j hj) g.dc).2
  · by_cases c1 : i' = i
    · subst c1
      rw [setN_at] at z1
      rw [setN_ne _ _ (Ne.symm n)] at z2
      rcases st.news c z1 with w | w
      · exact L.nl i' j' hi' hj' n c w z2
      · obtain ⟨xs, g⟩ := alive hj' z2
        rw [w] at g; cases g
    · rw [setN_ne _ _ c1] at z1
      by_cases c2 : j' = i
      · subst c2
        rw [setN_at] at z2
        rcases st.news c z2 with w | w
        · exact L.nl i' j' hi' hj' n c z1 w
        · obtain ⟨xs, g⟩ := alive hi' z1
          rw [w] at g; cases g
      · rw [setN_ne _ _ c2] at z2
        exact L.nl i' j' hi' hj' n c z1 z2
  · by_cases c : j = i
    · subst c
      rw [setN_at] at z
      exact L.ph j hj (nn h1 z)
    · rw [setN_ne _ _ c] at z
      exact L.ph j hj z
  · exact st.keep _ _ (ne_of h1 hdi (fun z => nomatch z)) (ne_of h1 hqi (fun z => nomatch z)) (L.ph i hi) h1
  · exact (h3 u hu).kept (fun l h => tu u l h) (fun c l b h => pk c _ b h)
theorem LwAt.app {u : Addr} {ts : List Addr} (L : LwAt CB CL H e mo he x t d q m ks P R M W N) (pt : PairAt H (Pb he d q ks) u) (h1 : H he = some (.lst (ts.map V.ref))) (h2 : ts.length ≤ N) (h3 : ∀ t ∈ ts, PairAt H (Pb he d q ks) t) : LwAt CB CL (upd H he (.lst (ts.map V.ref ++ [V.ref u]))) e mo he x t d q m ks P R M W (N + 1) := by
  have bt : But he H (upd H he (.lst (ts.map V.ref ++ [V.ref u]))) := But.upd
  have pk : ∀ c l, Pb he d q ks c → H c = some (.lst l) → (upd H he (.lst (ts.map V.ref ++ [V.ref u]))) c = some (.lst l) ∧ Pb he d q ks c := fun c l p h => ⟨bt c _ p.1 h, p⟩
  have tu : ∀ {c l}, H c = some (.tup l) → (upd H he (.lst (ts.map V.ref ++ [V.ref u]))) c = some (.tup l) := fun {c l} h => bt c _ (ne_of h h1 (fun z => nomatch z)) h
  refine ⟨bt _ _ L.pe.1 L.ev, bt _ _ L.pmo.1 L.mv, L.pe, L.pmo, fun j hj => ?_, fun j hj => ?_, L.pm, L.nm, L.nd, L.nq, L.dq, L.nl, L.ph, ts ++ [u], by rw [upd_same, List.map_append]; rfl, by rw [List.length_append]; exact Nat.succ_le_succ h2, fun u' hu' => ?_⟩
  · obtain ⟨⟨dx, g1⟩, ⟨⟨dt, g2⟩, g3⟩, g4, _⟩ := id (L.b j hj)
    exact (L.b j hj).but bt (ne_of g1 h1 (fun z => nomatch z)) (ne_of g2 h1 (fun z => nomatch z)) (ne_of g3 h1 (fun z => nomatch z)) (ne_of g4.dc h1 (fun z => nomatch z)) (L.ph j hj)
  · obtain ⟨a, g, gp⟩ := L.ml j hj
    exact ⟨a, ⟨bt _ _ (L.pm j hj).1 g.dc, fun b hb => bt _ _ (gp _ (kin_in b hb)).1 (g.mi b hb), fun b hb => bt _ _ (gp _ (kln_in b hb)).1 (g.ml b hb)⟩, gp⟩
  · rcases List.mem_append.mp hu' with z | z
    · exact (h3 u' z).kept (fun l h => tu h) pk
    · rw [List.mem_singleton.mp z]; exact pt.kept (fun l h => tu h) pk
theorem LwAt.up {N' : Nat} (L : LwAt CB CL H e mo he x t d q m ks P R M W N) (h : N ≤ N') : LwAt CB CL H e mo he x t d q m ks P R M W N' := by
  obtain ⟨ts, h1, h2, h3⟩ := L.hd
  exact ⟨L.ev, L.mv, L.pe, L.pmo, L.b, L.ml, L.pm, L.nm, L.nd, L.nq, L.dq, L.nl, L.ph, ts, h1, Nat.le_trans h2 h, h3⟩
theorem LwAt.push {u : Addr} {Q : VK} (L : LwAt CB CL H e mo he x t d q m ks P R M W N) (hN : N < 1000) (pt : PairAt H (Pb he d q ks) u) (k : ∀ o, LwAt CB CL (upd H he o) e mo he x t d q m ks P R M W (N + 1) → Q .non (upd H he o)) : rAppend (.ref he) [.ref u] H Q := by
  obtain ⟨ts, h, hl, hp⟩ := L.hd
  exact ⟨he, _, _, rfl, rfl, h, by rw [List.length_map]; exact small1000 (by omega), k _ (L.app pt h hl hp)⟩
theorem LwAt.heL {K : PySem.W.Frag} (L : LwAt CB CL H e mo he x t d q m ks P R M W N) : ∃ xs, SqL K H he xs := by
  obtain ⟨ts, h, _⟩ := L.hd
  exact ⟨_, SqL.of h⟩
end
def Scr (K : PySem.W.Frag) (G : Hp) (a : Addr) (B : Addr → Prop) (xs : List V) : Prop := ((G a = some (.lst xs) ∨ ∃ o, G a = some (.frz o (.lst xs))) ∧ B a) ∨ ∀ G', SqL K G' a xs
theorem Scr.sq {K : PySem.W.Frag} {G : Hp} {a : Addr} {B : Addr → Prop} {xs : List V} (h : Scr K G a B xs) : SqL K G a xs := by
  rcases h with ⟨h | ⟨o, h⟩, _⟩ | h
  · exact .inl (.inl h)
  · exact .inl (.inr ⟨o, h⟩)
  · exact h G
theorem Scr.kept {K : PySem.W.Frag} {G G' : Hp} {a : Addr} {B B' : Addr → Prop} {xs : List V} (h : Scr K G a B xs) (k : ∀ c o, (∀ kvs, o ≠ .dK kvs) → B c → G c = some o → G' c = some o ∧ B' c) : Scr K G' a B' xs := by
  rcases h with ⟨h | ⟨o, h⟩, b⟩ | h
  · have := k a (.lst xs) (fun _ z => nomatch z) b h
    exact .inl ⟨.inl this.1, this.2⟩
  · have := k a (.frz o (.lst xs)) (fun _ z => nomatch z) b h
    exact .inl ⟨.inr ⟨o, this.1⟩, this.2⟩
  · exact .inr h
theorem Scr.same {K : PySem.W.Frag} {G G' : Hp} {a : Addr} {B : Addr → Prop} {xs : List V} (h : Scr K G a B xs) (s : Same G G') : Scr K G' a B xs := h.kept fun c o _ b e => ⟨s c o e, b⟩
def But2 (y z : Addr) (H H' : Hp) : Prop := ∀ c o, c ≠ y → c ≠ z → H c = some o → H' c = some o
def MdF (G : Hp) (m : Addr) (n : Nat) : Prop := ∃ a, G m = some (.dK (Kvs a (keys6.take n))) ∧ ∀ k ∈ keys6.take n, G (a k) = some (.lst [])
theorem MdF.same {m : Addr} {n : Nat} {G G' : Hp} (M : MdF G m n) (s : Same G G') : MdF G' m n := by
  obtain ⟨a, h1, h2⟩ := M
  exact ⟨a, s _ _ h1, fun k hk => s _ _ (h2 k hk)⟩
theorem MdF.but {y m : Addr} {n : Nat} {G G' : Hp} {kvs : List (Key × V)} (M : MdF G m n) (bt : But y G G') (ne : m ≠ y) (hy : G y = some (.dK kvs)) : MdF G' m n := by
  obtain ⟨a, h1, h2⟩ := M
  exact ⟨a, bt _ _ ne h1, fun b hb => bt _ _ (ne_of (h2 b hb) hy (fun z => nomatch z)) (h2 b hb)⟩
theorem new_kvs {a : Str → Addr} {k : Str} {p : Addr} {l : List Str} (h : k ∉ l) : putK (Kvs a l) (Sum.inr k) (.ref p) = Kvs (setA a k p) (l ++ [k]) := by
  have hn : valV (Kvs a l) (Sum.inr k : Key) = none := by
    cases e : valV (Kvs a l) (Sum.inr k : Key) with
    | none => rfl
    | some v =>
      have m := valV_in e
      unfold Kvs at m
      rw [List.map_map] at m
      obtain ⟨x, hx, z⟩ := List.mem_map.mp m
      have z : x = k := Sum.inr.inj z
      rw [z] at hx
      exact absurd hx h
  rw [putK_new _ hn]
  unfold Kvs
  rw [List.map_append]
  congr 1
  · apply List.map_congr_left
    intro x hx
    unfold setA
    rw [if_neg (fun (z : x = k) => h (z ▸ hx))]
  · show [((Sum.inr k : Key), V.ref p)] = [(Sum.inr k, V.ref (if k = k then p else a k))]
    rw [if_pos rfl]
theorem MdF.put {m p : Addr} {n : Nat} {k : Str} {G : Hp} {a : Str → Addr} (h1 : G m = some (.dK (Kvs a (keys6.take n)))) (h2 : ∀ k ∈ keys6.take n, G (a k) = some (.lst [])) (hk : keys6[n]? = some k) (hq : G p = some (.lst [])) : MdF (upd G m (.dK (putK (Kvs a (keys6.take n)) (Sum.inr k) (.ref p)))) m (n + 1) := by
  have hnb : k ∉ keys6.take n := by
    have nd := keys_nd
    rw [← List.take_append_drop n keys6, List.nodup_append] at nd
    intro z
    refine nd.2.2 k z k ?_ rfl
    exact List.mem_of_getElem? (i := 0) (by rw [List.getElem?_drop, Nat.add_zero]; exact hk)
  have et : keys6.take (n + 1) = keys6.take n ++ [k] := by rw [List.take_succ, hk]; rfl
  refine ⟨setA a k p, ?_, fun c hc => ?_⟩
  · rw [upd_same, new_kvs hnb, et]
  · unfold setA
    rw [et] at hc
    by_cases e : c = k
    · rw [if_pos e, upd_ne (ne_of hq h1 (fun z => nomatch z))]; exact hq
    · rw [if_neg e]
      rcases List.mem_append.mp hc with hc | hc
      · have h2 := h2 c hc
        rw [upd_ne (ne_of h2 h1 (fun z => nomatch z))]; exact h2
      · exact absurd (List.mem_singleton.mp hc) e
theorem md_lt (a : Str → Addr) (n : Nat) : (Kvs a (keys6.take n)).length < sizeLine := by
  unfold Kvs
  rw [List.length_map, List.length_take]
  exact small1000 (by show min n 6 ≤ 1000; omega)
theorem md_len (a : Str → Addr) : (Kvs a keys6).length < sizeLine := by
  unfold Kvs
  rw [List.length_map]
  decide
theorem key_at : ∀ j < 3, ∀ b, boxes3[j]? = some b → keys6[2 * j]? = some (kin b) ∧ keys6[2 * j + 1]? = some (kln b) := fun j hj b hb => by
  match j, hj with
  | 0, _ => cases hb; decide +kernel
  | 1, _ => cases hb; decide +kernel
  | 2, _ => cases hb; decide +kernel
theorem MdF.all {m : Addr} {G : Hp} (F : MdF G m 6) : ∃ a, MdJ G m a [] (fun _ => []) ∧ ∀ k ∈ keys6, G (a k) = some (.lst []) := by
  obtain ⟨a, h1, h2⟩ := F
  exact ⟨a, ⟨h1, fun b hb => h2 _ (kin_in b hb), fun b hb => h2 _ (kln_in b hb)⟩, h2⟩
theorem let_self {v : V} (h : isLet v = true) : eqV v v = true := by
  cases v with
  | int n => show (n == n) = true; simp
  | str s => show (s == s) = true; simp
  | _ => cases h
theorem eqLets {K : PySem.W.Frag} {neg : Bool} {H : Hp} {a b : Addr} {l : List V} {R : VK} (hl : l.all isLet = true) (ha : H a = some (.lst l)) (hb : H b = some (.lst l)) (k : R (.bl (neg ^^ true)) H) : rEqL K neg (.ref a) (.ref b) H R := by
  refine ⟨a, b, _, _, 0, _, rfl, rfl, SqL.of ha, SqL.of hb, by decide, eqIt_flat (isLet_flat hl) (isLet_flat hl), ?_⟩
  have e : (decide (l.length = l.length) && (List.range l.length).all fun i => eqV ((l[i]?).getD .non) ((l[i]?).getD .non)) = true := by
    rw [Bool.and_eq_true, decide_eq_true_eq, List.all_eq_true]
    refine ⟨rfl, fun i hi => ?_⟩
    have h1 := List.mem_range.mp hi
    rw [List.getElem?_eq_getElem h1]
    exact let_self (List.all_eq_true.mp hl _ (List.getElem_mem h1))
  rw [e]
  exact k
theorem told_two {H : Hp} {v u : V} {P : Hst} {M : Mail} {D : Deed} (a : ToldV H v P M D) (b : ToldV H u P M D) (O : Ok P M) : (v = u ∧ (u = .non ∨ (∃ n, u = .int n) ∨ ∃ z, u = .str z)) ∨ ∃ (t1 t2 : Addr) (c : Bool) (y : V), v = .ref t1 ∧ u = .ref t2 ∧ H t1 = some (.tup [.bl c, y]) ∧ H t2 = some (.tup [.bl c, y]) ∧ (y = .non ∨ (∃ n, y = .int n) ∨ ∃ z, y = .str z) := by
  cases D with
  | send b' n =>
    cases e : atB P b' with
    | nil =>
      simp only [ToldV, e] at a b
      exact .inl ⟨by rw [a, b], .inl b⟩
    | cons w r =>
      simp only [ToldV, e] at a b
      exact .inl ⟨by rw [a, b], .inr (.inl ⟨w, b⟩)⟩
  | take b' w =>
    by_cases hw : w ∈ P.map (·.1)
    · exact .inl ⟨by rw [a.1 hw, b.1 hw], .inr (.inr ⟨_, b.1 hw⟩)⟩
    · have a := a.2 hw
      have b := b.2 hw
      cases e : M b' with
      | nil =>
        simp only [e] at a b
        obtain ⟨t1, e1, h1⟩ := a
        obtain ⟨t2, e2, h2⟩ := b
        exact .inr ⟨t1, t2, false, .non, e1, e2, h1, h2, .inl rfl⟩
      | cons y r =>
        simp only [e] at a b
        obtain ⟨t1, e1, h1⟩ := a
        obtain ⟨t2, e2, h2⟩ := b
        refine .inr ⟨t1, t2, true, y, e1, e2, h1, h2, .inr ?_⟩
        have := O.fl b'
        rw [e, List.all_cons, Bool.and_eq_true] at this
        have := this.1
        cases y with
        | int n => exact .inl ⟨n, rfl⟩
        | str z => exact .inr ⟨z, rfl⟩
        | _ => cases this
  | leave w =>
    by_cases hw : w ∈ P.map (·.1)
    · exact .inl ⟨by rw [a.1 hw, b.1 hw], .inl (b.1 hw)⟩
    · exact .inl ⟨by rw [a.2 hw, b.2 hw], .inr (.inr ⟨_, b.2 hw⟩)⟩
theorem ToldV.kept {H H' : Hp} {v : V} {P : Hst} {M : Mail} {D : Deed} (a : ToldV H v P M D) (k : ∀ c l, H c = some (.tup l) → H' c = some (.tup l)) : ToldV H' v P M D := by
  cases D with
  | send b w => exact a
  | leave w => exact a
  | take b w =>
    refine ⟨a.1, fun hw => ?_⟩
    have a := a.2 hw
    cases e : M b with
    | nil =>
      simp only [e] at a ⊢
      obtain ⟨t, e, h⟩ := a
      exact ⟨t, e, k _ _ h⟩
    | cons y r =>
      simp only [e] at a ⊢
      obtain ⟨t, e, h⟩ := a
      exact ⟨t, e, k _ _ h⟩
theorem boxes_pw : boxes3.Pairwise (fun a b => a.cps.toList ≤ b.cps.toList) := by decide +kernel
theorem busy_eq {P : Hst} {M : Mail} {ns : List Str} (O : Ok P M) (nd : ns.Nodup) (so : PyProof.Rows.sortedS ns = true) (hm : ∀ b, b ∈ ns ↔ (M b ≠ [] ∨ atB P b ≠ [])) : ns = boxes3.filter fun b => !decide (M b ++ (atB P b).map V.int = []) := by
  refine sortedS_one so (boxes_pw.filter _) nd (boxes_nd.filter _) fun b => ?_
  rw [hm, List.mem_filter]
  have e : (!decide (M b ++ (atB P b).map V.int = [])) = true ↔ (M b ≠ [] ∨ atB P b ≠ []) := by
    rw [Bool.not_eq_true', decide_eq_false_iff_not, List.append_eq_nil_iff, List.map_eq_nil_iff]
    constructor
    · intro h
      by_cases z : M b = []
      · exact .inr fun y => h ⟨z, y⟩
      · exact .inl z
    · rintro (h | h) ⟨z, y⟩
      · exact h z
      · exact h y
  rw [e]
  refine ⟨fun h => ⟨?_, h⟩, fun h => h.2⟩
  rcases h with h | h
  · refine Decidable.byContradiction fun z => h (O.out b z)
  · obtain ⟨x, hx, q⟩ := List.mem_map.mp (atB_ne.mp h)
    rw [← q]; exact O.p.inb x hx
theorem initS {C : Addr} {H H' : Hp} {x dx d q : Addr} (nx : H x = none) (ndx : H dx = none) (nex : dx ≠ x) (kp : ∀ c o, c ≠ x → (upd (upd H dx (.own x)) x (.ins C dx [])) c = some o → H' c = some o) (hd : (upd (upd H dx (.own x)) x (.ins C dx [])) d = none) (hq : (upd (upd H dx (.own x)) x (.ins C dx [])) q = none) : Same H H' ∧ H d = none ∧ H q = none := by
  have s0 : Same H (upd (upd H dx (.own x)) x (.ins C dx [])) := (Same.upd ndx).trans (Same.upd (by rw [upd_ne (Ne.symm nex)]; exact nx))
  exact ⟨fun c o e => kp c o (ne_of_none e nx) (s0 c o e), s0.free hd, s0.free hq⟩
theorem But2.lst2 {m0 m1 c : Addr} {H G : Hp} {l : List V} {n : Nat → Nat} (kp : But2 m0 m1 H G) (hm : ∀ t < 2, MdF H (pick m0 m1 t) (n t)) (h : H c = some (.lst l)) : G c = some (.lst l) := by
  obtain ⟨a0, g0, _⟩ := hm 0 (by decide)
  obtain ⟨a1, g1, _⟩ := hm 1 (by decide)
  exact kp c _ (ne_of h g0 (fun z => nomatch z)) (ne_of h g1 (fun z => nomatch z)) h
structure PreN (P : Hst) (kvs : List (Key × V)) (M : Mail) (n : Nat) : Prop where
  ok : Ok P M
  hp : P.length ≤ n
  hk : kvs.length ≤ n
  hm : ∀ b, (M b).length ≤ n
  ko : KsOk kvs
theorem PreN.nil : PreN [] [] (fun _ => []) 0 := ⟨⟨⟨List.nodup_nil, fun x hx => by cases hx⟩, fun _ h => absurd rfl h, fun _ _ => rfl, fun _ => rfl⟩, Nat.le_refl _, Nat.le_refl _, fun _ => Nat.le_refl _, [], rfl, List.nodup_nil, fun _ h => by cases h⟩
theorem PreN.pre {P : Hst} {kvs : List (Key × V)} {M : Mail} {n : Nat} (h : PreN P kvs M n) (hn : n ≤ 100) : Pre P kvs M := ⟨h.ok, Nat.le_trans h.hp hn, Nat.le_trans h.hk hn, fun b => Nat.le_trans (h.hm b) hn⟩
theorem PreN.step {P : Hst} {kvs kvs' : List (Key × V)} {M : Mail} {n : Nat} {D : Deed} (h : PreN P kvs M n) (ok : okB D) (hk : kvs'.length ≤ kvs.length + 1) (ko : KsOk kvs') : PreN (stepP P M D) kvs' (stepM P M D) (n + 1) :=
  ⟨h.ok.step ok, Nat.le_trans (step_len P M D) (Nat.succ_le_succ h.hp), Nat.le_trans hk (Nat.succ_le_succ h.hk), fun b => Nat.le_trans (mail_len P M D b) (Nat.succ_le_succ (h.hm b)), ko⟩
theorem PreN.up {P : Hst} {kvs : List (Key × V)} {M : Mail} {n n' : Nat} (h : PreN P kvs M n) (hn : n ≤ n') : PreN P kvs M n' := ⟨h.ok, Nat.le_trans h.hp hn, Nat.le_trans h.hk hn, fun b => Nat.le_trans (h.hm b) hn, h.ko⟩
def spLaw (K : PySem.W.Frag) : Sp := fun vs H Q _ => ∃ (a : Addr) (ns : List Int), vs = [.ref a] ∧ SqL K H a (ns.map V.int) ∧ ns.length ≤ 63 ∧ ∀ H', Q (.bl true) H'


theorem sc_Lines___init__ : FnScope ["self"] ["self"] (defScope (inClass (top 4) 0)) := ⟨rfl, rfl, rfl, by decide +kernel, rfl, by decide +kernel, by decide +kernel⟩
theorem ok_Lines___init__ (T : Tx K mg) : FnOk P w K mg base CX0 1 T.m_Lines___init__.f T.m_Lines___init__.fd ["self"] (spInit T.C_Lines) := by
  refine T.m_Lines___init__.F.ok sc_Lines___init__ (fun vs H Q E h => ?_) (fun cdv A outer s H vs Q E hr h => ?_)
  · obtain ⟨p, dx, rfl, _⟩ := h
    rfl
  · obtain ⟨p, dx, rfl, hp, k⟩ := h
    refine ⟨_, (pss_one (ps_fld (pv 0) pe_dnewK rfl)), ?_⟩
    intro d hd
    have npd : p ≠ d := ne_of_none hp hd
    exact ⟨_, rfl, p, T.C_Lines, dx, [], rfl, (by rw [upd_ne npd]; exact hp), T.k_Lines, T.n_Lines_places, (by show 0 < 1000; decide), k d hd⟩
theorem sc_Lines_come : FnScope ["self", "name", "who"] ["self", "name", "who"] (defScope (inClass (top 4) 1)) := ⟨rfl, rfl, rfl, by decide +kernel, rfl, by decide +kernel, by decide +kernel⟩
theorem ok_Lines_come (T : Tx K mg) : FnOk P w K mg base (CXX P w) 1 T.m_Lines_come.f T.m_Lines_come.fd ["self", "name", "who"] (spCome T.C_Lines T.C_NotWaiting) := by
  refine T.m_Lines_come.F.okX sc_Lines_come (fun vs H Q E h => ?_) (fun cdv A outer s H vs Q E hr h => ?_)
  · obtain ⟨p, d, P, b, w, rfl, _⟩ := h
    rfl
  · obtain ⟨p, d, P, b, w, rfl, B, hl, k, kx⟩ := h
    have hu1 := hu_of hr
    obtain ⟨⟨dx, h1⟩, hd⟩ := id B
    refine ⟨_, (pss_cons (ps_if (pt_cmp (pc_din hu1 (pv 2) (pe_fld (pv 0) rfl)))
    (pss_one (ps_raise leavesX rfl rfl T.x_NotWaiting))
    pss_nil)
    (pss_one (ps_dput hu1 (pe_fld (pv 0) rfl) (pv 2) (pv 1) rfl))), ?_⟩
    (simp only [tLst, tTup, tDNewK, _root_.L2.start, cxOf_K, cxComp_K, tSeq, tAsg, gName, tRet, tRetN, tDrop, tIfS, tTest, tB, tNot, tAnd, tOr, tAndV, tOrV, tNotV, tOp, tUn, tVar, tC, tCons, tNil, tStrs, tCB, tCall, tChain, tBM, tBM0, tPart, tNoPart, tSl, tIf, tNext, tTrue, selS, Option.bind_none, Option.bind_some, Option.join_some, if_true, rI, rI0, rU, rEq, rNe, rStarts, rSlS, lenV_str, tyV, List.map_cons, List.map_nil, List.length_cons, List.length_nil, List.replicate, List.cons_append, List.nil_append, List.append_nil, Nat.reduceAdd, Nat.reduceSub, Nat.zero_add, Nat.add_zero, Nat.sub_self, List.getElem?_cons_zero, List.getElem?_cons_succ, List.set_cons_zero, List.set_cons_succ, Option.some.injEq, V.int.injEq, V.str.injEq, V.ref.injEq, V.bl.injEq, V.ty.injEq, List.cons.injEq, exists_eq_left, exists_eq_left', exists_eq_right, exists_and_left, exists_eq, and_true, true_and, and_self, and_assoc, tFld, sFld, tMeth, tMake, tDIn, tDNotIn, sDPut, tDPop1, tLcI, tNever, tDGet, tDGet1, tDGet2, tDSetd, tSetLcI])
    refine ⟨_, _, _, h1, T.k_Lines, T.n_Lines_places, _, fl_at d, d, rfl, _, DGet.k (k := Sum.inl w) hd, ?_⟩
    by_cases hw : w ∈ P.map (·.1)
    · obtain ⟨v, hv⟩ := kvs_some hw
      rw [hv]
      exact kx hw
    · rw [kvs_none hw]
      refine ⟨_, _, _, h1, T.k_Lines, T.n_Lines_places, _, fl_at d, d, rfl, _, DPut.k (k := Sum.inl w) hd (by unfold kvsOf; rw [List.length_map]; exact small1000 (by omega)), ?_⟩
      rw [kvs_put hw]
      exact k hw
theorem sc_Lines_leave : FnScope ["self", "who"] ["self", "who"] (defScope (inClass (top 4) 2)) := ⟨rfl, rfl, rfl, by decide +kernel, rfl, by decide +kernel, by decide +kernel⟩
theorem ok_Lines_leave (T : Tx K mg) : FnOk P w K mg base (CXX P w) 1 T.m_Lines_leave.f T.m_Lines_leave.fd ["self", "who"] (spLeave T.C_Lines T.C_NotWaiting) := by
  refine T.m_Lines_leave.F.okX sc_Lines_leave (fun vs H Q E h => ?_) (fun cdv A outer s H vs Q E hr h => ?_)
  · obtain ⟨p, d, P, w, rfl, _⟩ := h
    rfl
  · obtain ⟨p, d, P, w, rfl, B, k, kx⟩ := h
    have hu1 := hu_of hr
    obtain ⟨⟨dx, h1⟩, hd⟩ := id B
    refine ⟨_, (pss_cons (ps_if (pt_cmp (pc_dnotin hu1 (pv 1) (pe_fld (pv 0) rfl)))
    (pss_one (ps_raise leavesX rfl rfl T.x_NotWaiting))
    pss_nil)
    (pss_one (ps_expr (pe_dpop1 (pe_fld (pv 0) rfl) (pv 1) ⟨rfl, rfl, rfl, rfl⟩)))), ?_⟩
    (simp only [tLst, tTup, tDNewK, _root_.L2.start, cxOf_K, cxComp_K, tSeq, tAsg, gName, tRet, tRetN, tDrop, tIfS, tTest, tB, tNot, tAnd, tOr, tAndV, tOrV, tNotV, tOp, tUn, tVar, tC, tCons, tNil, tStrs, tCB, tCall, tChain, tBM, tBM0, tPart, tNoPart, tSl, tIf, tNext, tTrue, selS, Option.bind_none, Option.bind_some, Option.join_some, if_true, rI, rI0, rU, rEq, rNe, rStarts, rSlS, lenV_str, tyV, List.map_cons, List.map_nil, List.length_cons, List.length_nil, List.replicate, List.cons_append, List.nil_append, List.append_nil, Nat.reduceAdd, Nat.reduceSub, Nat.zero_add, Nat.add_zero, Nat.sub_self, List.getElem?_cons_zero, List.getElem?_cons_succ, List.set_cons_zero, List.set_cons_succ, Option.some.injEq, V.int.injEq, V.str.injEq, V.ref.injEq, V.bl.injEq, V.ty.injEq, List.cons.injEq, exists_eq_left, exists_eq_left', exists_eq_right, exists_and_left, exists_eq, and_true, true_and, and_self, and_assoc, tFld, sFld, tMeth, tMake, tDIn, tDNotIn, sDPut, tDPop1, tLcI, tNever, tDGet, tDGet1, tDGet2, tDSetd, tSetLcI])
    refine ⟨_, _, _, h1, T.k_Lines, T.n_Lines_places, _, fl_at d, d, rfl, _, DGet.k (k := Sum.inl w) hd, ?_⟩
    by_cases hw : w ∈ P.map (·.1)
    · obtain ⟨v, hv⟩ := kvs_some hw
      rw [hv]
      refine ⟨_, _, _, h1, T.k_Lines, T.n_Lines_places, _, fl_at d, d, rfl, .inl ⟨_, .inl hd⟩, kvsOf P, hd, Sum.inl w, rfl, v, hv, ?_⟩
      rw [kvs_drop]
      exact k hw
    · rw [kvs_none hw]
      exact kx hw
theorem sc_Lines_waiting : FnScope ["self", "name"] ["self", "name"] (defScope (inClass (top 4) 3)) := ⟨rfl, rfl, rfl, by decide +kernel, rfl, by decide +kernel, by decide +kernel⟩
theorem ok_Lines_waiting (T : Tx K mg) : FnOk P w K mg base CX0 1 T.m_Lines_waiting.f T.m_Lines_waiting.fd ["self", "name"] (spWaiting T.C_Lines) := by
  refine T.m_Lines_waiting.F.ok sc_Lines_waiting (fun vs H Q E h => ?_) (fun cdv A outer s H vs Q E hr h => ?_)
  · obtain ⟨p, d, P, b, rfl, _⟩ := h
    rfl
  · obtain ⟨p, d, P, b, rfl, B, hl, k⟩ := h
    obtain ⟨⟨dx, h1⟩, hd⟩ := id B
    refine ⟨_, (pss_one (ps_ret (pe_lcI (N' := ["who", "place", "name"]) (sel := [none, none, some 1]) rfl rfl rfl (pe_fld (pv 0) rfl) (gk_two rfl rfl) (fun _ _ _ _ _ => ⟨(pg_tup rfl (pgs_cons (pg_name (i := 0) (show (["who", "place", "name"] : List Str).Nodup by decide +kernel) rfl (Or.inl rfl)) (pgs_cons (pg_name (i := 1) (show (["who", "place", "name"] : List Str).Nodup by decide +kernel) rfl (Or.inl rfl)) pgs_nil))), (pts_one (pt_cmpR op_eq (pv 1) (pv 2) (nomark _))), (pv 0)⟩)))), ?_⟩
    refine ⟨_, rfl, p, T.C_Lines, dx, _, _, rfl, h1, T.k_Lines, T.n_Lines_places, fl_at d, d, kvsOf P, rfl, hd, ?_⟩
    have hk : (kvsOf P).length = P.length := by unfold kvsOf; rw [List.length_map]
    have hat : ∀ j, (atB (P.take j) b).length ≤ j := fun j => by
      unfold atB
      rw [List.length_map]
      exact Nat.le_trans (List.length_filter_le _ _) (by rw [List.length_take]; omega)
    refine lc_items (fun i ys G => Same (del H d) G ∧ ys = (atB (P.take i) b).map V.int) ⟨Same.refl _, rfl⟩ ?_ (by rw [hk]; exact Nat.le_of_lt (small1000 (by omega))) ?_ ?_
    · rintro i ys G hi ⟨_, rfl⟩
      rw [List.length_map]; exact hat i
    · rintro i kv ys G q hx ⟨sG, rfl⟩ hq
      unfold kvsOf at hx
      rw [List.getElem?_map] at hx
      cases ex : P[i]? with
      | none => rw [ex] at hx; cases hx
      | some x =>
        rw [ex] at hx
        cases hx
        have s2 : Same (del H d) (upd G q (.tup [V.int x.1, V.str x.2])) := sG.trans (Same.upd hq)
        refine ⟨q, _, rfl, SqT.of upd_same, rfl, _, _, rfl, _, _, rfl, rfl, ?_⟩
        (simp only [_root_.L2.start, cxOf_K, cxComp_K, tSeq, tAsg, gName, tRet, tRetN, tDrop, tIfS, tTest, tB, tNot, tAnd, tOr, tAndV, tOrV, tNotV, tOp, tUn, tVar, tC, tCons, tNil, tStrs, tCB, tCall, tChain, tBM, tBM0, tPart, tNoPart, tSl, tIf, tNext, tTrue, selS, Option.bind_none, Option.bind_some, Option.join_some, if_true, rI, rI0, rU, rEq, rNe, rStarts, rSlS, lenV_str, tyV, List.map_cons, List.map_nil, List.length_cons, List.length_nil, List.replicate, List.cons_append, List.nil_append, List.append_nil, Nat.reduceAdd, Nat.reduceSub, Nat.zero_add, Nat.add_zero, Nat.sub_self, List.getElem?_cons_zero, List.getElem?_cons_succ, List.set_cons_zero, List.set_cons_succ, Option.some.injEq, V.int.injEq, V.str.injEq, V.ref.injEq, V.bl.injEq, V.ty.injEq, List.cons.injEq, exists_eq_left, exists_eq_left', exists_eq_right, exists_and_left, exists_eq, and_true, true_and, and_self, and_assoc, tFld, sFld, tMeth, tMake, tDIn, tDNotIn, sDPut, tDPop1, tLcI, tNever, tDGet, tDGet1, tDGet2, tDSetd, tSetLcI])
        have et : P.take (i + 1) = P.take i ++ [x] := by rw [List.take_succ, ex]; rfl
        by_cases e : x.2 = b
        · have e2 : atB (P.take (i + 1)) b = atB (P.take i) b ++ [x.1] := by
            unfold atB
            rw [et, List.filter_append, List.map_append, List.filter_cons_of_pos (by simp [e])]
            rfl
          refine ⟨rfl, ?_⟩
          rw [if_pos (by rw [e]; simp)]
          exact ⟨s2, by rw [e2, List.map_append]; rfl⟩
        · have e2 : atB (P.take (i + 1)) b = atB (P.take i) b := by
            unfold atB
            rw [et, List.filter_append, List.map_append, List.filter_cons_of_neg (by simp [e])]
            simp
          refine ⟨rfl, ?_⟩
          rw [if_neg (by simp [e])]
          exact ⟨s2, by rw [e2]⟩
    · rintro ys G ⟨sG, rfl⟩ D hD hDd
      rw [hk, List.take_length]
      refine k D _ ?_ (Same.back (sG.trans (Same.upd hD)) hd) ?_
      · cases e : H D with
        | none => rfl
        | some o =>
          have := sG D o (by rw [del_ne hDd]; exact e)
          rw [hD] at this; cases this
      · rw [upd_ne hDd, upd_same]
theorem sc_Lines_waits_at : FnScope ["self", "who"] ["self", "who"] (defScope (inClass (top 4) 4)) := ⟨rfl, rfl, rfl, by decide +kernel, rfl, by decide +kernel, by decide +kernel⟩
theorem ok_Lines_waits_at (T : Tx K mg) : FnOk P w K mg base CX0 1 T.m_Lines_waits_at.f T.m_Lines_waits_at.fd ["self", "who"] (spWaitsAt T.C_Lines) := by
  refine T.m_Lines_waits_at.F.ok sc_Lines_waits_at (fun vs H Q E h => ?_) (fun cdv A outer s H vs Q E hr h => ?_)
  · obtain ⟨p, d, P, w, rfl, _⟩ := h
    rfl
  · obtain ⟨p, d, P, w, rfl, B, k⟩ := h
    have hu1 := hu_of hr
    obtain ⟨⟨dx, h1⟩, hd⟩ := id B
    refine ⟨_, (pss_one (ps_ret (pe_dget1 hu1 (pe_fld (pv 0) rfl) (pv 1) ⟨rfl, rfl, rfl, rfl⟩))), ?_⟩
    (simp only [tLst, tTup, tDNewK, _root_.L2.start, cxOf_K, cxComp_K, tSeq, tAsg, gName, tRet, tRetN, tDrop, tIfS, tTest, tB, tNot, tAnd, tOr, tAndV, tOrV, tNotV, tOp, tUn, tVar, tC, tCons, tNil, tStrs, tCB, tCall, tChain, tBM, tBM0, tPart, tNoPart, tSl, tIf, tNext, tTrue, selS, Option.bind_none, Option.bind_some, Option.join_some, if_true, rI, rI0, rU, rEq, rNe, rStarts, rSlS, lenV_str, tyV, List.map_cons, List.map_nil, List.length_cons, List.length_nil, List.replicate, List.cons_append, List.nil_append, List.append_nil, Nat.reduceAdd, Nat.reduceSub, Nat.zero_add, Nat.add_zero, Nat.sub_self, List.getElem?_cons_zero, List.getElem?_cons_succ, List.set_cons_zero, List.set_cons_succ, Option.some.injEq, V.int.injEq, V.str.injEq, V.ref.injEq, V.bl.injEq, V.ty.injEq, List.cons.injEq, exists_eq_left, exists_eq_left', exists_eq_right, exists_and_left, exists_eq, and_true, true_and, and_self, and_assoc, tFld, sFld, tMeth, tMake, tDIn, tDNotIn, sDPut, tDPop1, tLcI, tNever, tDGet, tDGet1, tDGet2, tDSetd, tSetLcI])
    exact ⟨_, _, _, h1, T.k_Lines, T.n_Lines_places, _, fl_at d, d, rfl, .inl ⟨_, .inl hd⟩, _, DGet.k (k := Sum.inl w) hd, k⟩
theorem sc_Lines_busy : FnScope ["self"] ["self"] (defScope (inClass (top 4) 5)) := ⟨rfl, rfl, rfl, by decide +kernel, rfl, by decide +kernel, by decide +kernel⟩
theorem ok_Lines_busy (T : Tx K mg) : FnOk P w K mg base CX0 1 T.m_Lines_busy.f T.m_Lines_busy.fd ["self"] (spBusy T.C_Lines) := by
  refine T.m_Lines_busy.F.ok sc_Lines_busy (fun vs H Q E h => ?_) (fun cdv A outer s H vs Q E hr h => ?_)
  · obtain ⟨p, d, P, rfl, _⟩ := h
    rfl
  · obtain ⟨p, d, Z, rfl, B, O, hl, k⟩ := h
    have hu1 := hu_of hr
    obtain ⟨⟨dx, h1⟩, hd⟩ := id B
    refine ⟨_, (pss_one (ps_ret (pe_callB (call_sortedSs (P := P) (w := w) rfl rfl rfl) (by rfl) T.n_sorted bt_sorted (pa_cons (pe_callTy (call_setLs (P := P) (w := w) rfl rfl rfl) (by rfl) T.n_set bt_set (pa_cons (pe_callTy (call_listV rfl) (by rfl) T.n_list bt_list (pa_cons (pe_bm0 PySem.F.plainAttrs_dict PySem.F.slot_dict_values PySem.F.type_dict_values mt_values (pe_fld (pv 0) rfl)) pa_nil)) pa_nil)) pa_nil)))), ?_⟩
    (simp only [tLst, tTup, tDNewK, _root_.L2.start, cxOf_K, cxComp_K, tSeq, tAsg, gName, tRet, tRetN, tDrop, tIfS, tTest, tB, tNot, tAnd, tOr, tAndV, tOrV, tNotV, tOp, tUn, tVar, tC, tCons, tNil, tStrs, tCB, tCall, tChain, tBM, tBM0, tPart, tNoPart, tSl, tIf, tNext, tTrue, selS, Option.bind_none, Option.bind_some, Option.join_some, if_true, rI, rI0, rU, rEq, rNe, rStarts, rSlS, lenV_str, tyV, List.map_cons, List.map_nil, List.length_cons, List.length_nil, List.replicate, List.cons_append, List.nil_append, List.append_nil, Nat.reduceAdd, Nat.reduceSub, Nat.zero_add, Nat.add_zero, Nat.sub_self, List.getElem?_cons_zero, List.getElem?_cons_succ, List.set_cons_zero, List.set_cons_succ, Option.some.injEq, V.int.injEq, V.str.injEq, V.ref.injEq, V.bl.injEq, V.ty.injEq, List.cons.injEq, exists_eq_left, exists_eq_left', exists_eq_right, exists_and_left, exists_eq, and_true, true_and, and_self, and_assoc, tFld, sFld, tMeth, tMake, tDIn, tDNotIn, sDPut, tDPop1, tLcI, tNever, tDGet, tDGet1, tDGet2, tDSetd, tSetLcI])
    refine ⟨_, _, _, h1, T.k_Lines, T.n_Lines_places, _, fl_at d, .inr (.inr (.inl (.inl ⟨_, hd⟩))), d, _, rfl, rfl, hd, fun v hv => ⟨v, rfl, d, upd_same, _, (Same.upd hv) _ _ hd, fun l hl2 => ⟨Z.map (·.2), SqL.of (by rw [upd_same, kvs_vals]), ?_, fun S hS => ⟨_, upd_same, fun us nd hm => ?_, fun l2 ns hl3 nd so hm => ?_⟩⟩⟩⟩
    · rw [List.length_map]
      exact Nat.lt_of_le_of_lt (Nat.succ_le_succ hl) (by decide)
    · exact Nat.lt_of_le_of_lt (in_boxes nd fun b hb => by
        obtain ⟨x, hx, e⟩ := List.mem_map.mp ((hm b).mp hb)
        rw [← e]; exact O.inb x hx) (by decide)
    · have s3 := ((Same.upd (H := H) (o := valHO v d) hv).trans (Same.upd (o := .lst ((kvsOf Z).map (·.2))) hl2)).trans (Same.upd (o := setHOs P w S (Z.map (·.2))) hS)
      exact k l2 ns _ (s3.free hl3) (s3.trans (Same.upd hl3)) upd_same nd so hm
theorem sc_Boxes___init__ : FnScope ["self"] ["self"] (defScope (inClass (top 6) 0)) := ⟨rfl, rfl, rfl, by decide +kernel, rfl, by decide +kernel, by decide +kernel⟩
theorem ok_Boxes___init__ (T : Tx K mg)
    (G_Lines___init__ : FnOk P w K mg base CX0 1 T.m_Lines___init__.f T.m_Lines___init__.fd ["self"] (spInit T.C_Lines)) : FnOk P w K mg base CX0 3 T.m_Boxes___init__.f T.m_Boxes___init__.fd ["self"] (spBInit T.C_Boxes T.C_Lines) := by
  refine T.m_Boxes___init__.F.ok sc_Boxes___init__ (fun vs H Q E h => ?_) (fun cdv A outer s H vs Q E hr h => ?_)
  · obtain ⟨p, dx, rfl, _⟩ := h
    rfl
  · obtain ⟨p, dx, rfl, hp, k⟩ := h
    refine ⟨_, (pss_cons (ps_fld (pv 0) (pe_make0 T.M_Lines G_Lines___init__ hr rfl T.h_Lines T.m_Lines___init__.b .nil pass0) rfl)
    (pss_one (ps_fld (pv 0) pe_dnewK rfl))), ?_⟩
    (simp only [tLst, tTup, tDNewK, _root_.L2.start, cxOf_K, cxComp_K, tSeq, tAsg, gName, tRet, tRetN, tDrop, tIfS, tTest, tB, tNot, tAnd, tOr, tAndV, tOrV, tNotV, tOp, tUn, tVar, tC, tCons, tNil, tStrs, tCB, tCall, tChain, tBM, tBM0, tPart, tNoPart, tSl, tIf, tNext, tTrue, selS, Option.bind_none, Option.bind_some, Option.join_some, if_true, rI, rI0, rU, rEq, rNe, rStarts, rSlS, lenV_str, tyV, List.map_cons, List.map_nil, List.length_cons, List.length_nil, List.replicate, List.cons_append, List.nil_append, List.append_nil, Nat.reduceAdd, Nat.reduceSub, Nat.zero_add, Nat.add_zero, Nat.sub_self, List.getElem?_cons_zero, List.getElem?_cons_succ, List.set_cons_zero, List.set_cons_succ, Option.some.injEq, V.int.injEq, V.str.injEq, V.ref.injEq, V.bl.injEq, V.ty.injEq, List.cons.injEq, exists_eq_left, exists_eq_left', exists_eq_right, exists_and_left, exists_eq, and_true, true_and, and_self, and_assoc, tFld, sFld, tMeth, tMake, tDIn, tDNotIn, sDPut, tDPop1, tLcI, tNever, tDGet, tDGet1, tDGet2, tDSetd, tSetLcI])
    intro t dt nt ndt nedt
    have s0 : Same H (upd (upd H dt (.own t)) t (.ins T.C_Lines dt [])) := (Same.upd ndt).trans (Same.upd (by rw [upd_ne (Ne.symm nedt)]; exact nt))
    refine ⟨t, dt, rfl, upd_same, fun d hd => ⟨rfl, ?_⟩⟩
    have ndH : H d = none := s0.free hd
    have ntd : t ≠ d := ne_of_none upd_same hd
    have s1 : Same H (upd (upd (upd (upd H dt (.own t)) t (.ins T.C_Lines dt [])) d (.dK [])) t (.ins T.C_Lines dt (flP d))) := fun c o e => by
      rw [upd_ne (ne_of_none e nt)]
      exact (Same.upd hd) c o (s0 c o e)
    have B0 : BAt T.C_Lines (upd (upd (upd (upd H dt (.own t)) t (.ins T.C_Lines dt [])) d (.dK [])) t (.ins T.C_Lines dt (flP d))) t d [] := ⟨⟨dt, upd_same⟩, by rw [upd_ne (Ne.symm ntd), upd_same]; rfl⟩
    generalize upd (upd (upd (upd H dt (.own t)) t (.ins T.C_Lines dt [])) d (.dK [])) t (.ins T.C_Lines dt (flP d)) = H2 at s1 B0
    obtain ⟨⟨dy, b1⟩, b2⟩ := B0
    have hp2 := s1 _ _ hp
    have npt : t ≠ p := fun z => by rw [z, hp] at nt; cases nt
    have npd : d ≠ p := ne_of b2 hp2 (fun z => nomatch z)
    refine ⟨_, _, _, hp2, T.k_Boxes, T.n_Boxes_takers, by decide, fun m hm => ?_⟩
    have nmp : m ≠ p := fun z => by rw [z, upd_same] at hm; cases hm
    have hm2 : H2 m = none := by rw [upd_ne nmp] at hm; exact hm
    have nmt : t ≠ m := ne_of_none b1 hm2
    have nmd : d ≠ m := ne_of_none b2 hm2
    refine ⟨_, _, _, by rw [upd_ne (Ne.symm nmp), upd_same], T.k_Boxes, T.n_Boxes_mail, by show 1 < 1000; decide, k t d m _ (fun c o hc e => ?_) (s1.free hm2) ndH nt ?_⟩
    · have e2 := s1 _ _ e
      rw [upd_ne hc, upd_ne (ne_of_none e2 hm2), upd_ne hc]
      exact e2
    · refine ⟨⟨dx, upd_same⟩, ⟨⟨dy, by rw [upd_ne npt, upd_ne nmt, upd_ne npt]; exact b1⟩, by rw [upd_ne npd, upd_ne nmd, upd_ne npd]; exact b2⟩, ⟨by rw [upd_ne nmp, upd_same], fun _ _ => rfl, (fun b v h => by cases h), (fun b b' a h => by cases h)⟩, Ne.symm nmd⟩
theorem sc_Boxes_letters : FnScope ["self", "box"] ["self", "box"] (defScope (inClass (top 6) 4)) := ⟨rfl, rfl, rfl, by decide +kernel, rfl, by decide +kernel, by decide +kernel⟩
theorem ok_Boxes_letters (T : Tx K mg) : FnOk P w K mg base CX0 1 T.m_Boxes_letters.f T.m_Boxes_letters.fd ["self", "box"] (spLetters T.C_Boxes T.C_Lines) := by
  refine T.m_Boxes_letters.F.ok sc_Boxes_letters (fun vs H Q E h => ?_) (fun cdv A outer s H vs Q E hr h => ?_)
  · obtain ⟨x, t, d, m, P, kvs, M, b, rfl, _⟩ := h
    rfl
  · obtain ⟨x, t, d, m, P, kvs, M, b, rfl, B, k⟩ := h
    have hu1 := hu_of hr
    obtain ⟨⟨dx, h1⟩, _, Ml, _⟩ := id B
    refine ⟨_, (pss_one (ps_ret (pe_callTy call_list_of (by rfl) T.n_list bt_list (pa_cons (pe_dget2 hu1 (pe_fld (pv 0) rfl) (pv 1) (pe_lst pa_nil) ⟨rfl, rfl, rfl, rfl⟩) pa_nil)))), ?_⟩
    (simp only [tLst, tTup, tDNewK, _root_.L2.start, cxOf_K, cxComp_K, tSeq, tAsg, gName, tRet, tRetN, tDrop, tIfS, tTest, tB, tNot, tAnd, tOr, tAndV, tOrV, tNotV, tOp, tUn, tVar, tC, tCons, tNil, tStrs, tCB, tCall, tChain, tBM, tBM0, tPart, tNoPart, tSl, tIf, tNext, tTrue, selS, Option.bind_none, Option.bind_some, Option.join_some, if_true, rI, rI0, rU, rEq, rNe, rStarts, rSlS, lenV_str, tyV, List.map_cons, List.map_nil, List.length_cons, List.length_nil, List.replicate, List.cons_append, List.nil_append, List.append_nil, Nat.reduceAdd, Nat.reduceSub, Nat.zero_add, Nat.add_zero, Nat.sub_self, List.getElem?_cons_zero, List.getElem?_cons_succ, List.set_cons_zero, List.set_cons_succ, Option.some.injEq, V.int.injEq, V.str.injEq, V.ref.injEq, V.bl.injEq, V.ty.injEq, List.cons.injEq, exists_eq_left, exists_eq_left', exists_eq_right, exists_and_left, exists_eq, and_true, true_and, and_self, and_assoc, tFld, sFld, tMeth, tMake, tDIn, tDNotIn, sDPut, tDPop1, tLcI, tNever, tDGet, tDGet1, tDGet2, tDSetd, tSetLcI])
    refine ⟨_, _, _, h1, T.k_Boxes, T.n_Boxes_mail, _, flB_m t m, m, rfl, .inl ⟨_, .inl Ml.dc⟩, by decide, fun p hp => ⟨_, DGet.k (k := Sum.inr b) ((Same.upd hp) _ _ Ml.dc), ?_⟩⟩
    have s1 : Same H (upd H p (.lst [])) := Same.upd hp
    cases e : valV kvs (Sum.inr b : Key) with
    | none =>
      refine ⟨p, rfl, _, .inl (SqL.of upd_same), fun l hl => k l _ (s1.free hl) (s1.trans (Same.upd hl)) ?_⟩
      rw [upd_same, Ml.no b e]
    | some v =>
      obtain ⟨a, rfl, ha⟩ := Ml.yes b v e
      exact ⟨a, rfl, _, .inl (SqL.of (s1 _ _ ha)), fun l hl => k l _ (s1.free hl) (s1.trans (Same.upd hl)) upd_same⟩
theorem sc_Boxes_send : FnScope ["self", "box", "letter", "takers"] ["self", "box", "letter"] (defScope (inClass (top 6) 1)) := ⟨rfl, rfl, rfl, by decide +kernel, rfl, by decide +kernel, by decide +kernel⟩
theorem ok_Boxes_send (T : Tx K mg)
    (G_Lines_waiting : FnOk P w K mg base CX0 1 T.m_Lines_waiting.f T.m_Lines_waiting.fd ["self", "name"] (spWaiting T.C_Lines))
    (G_Lines_leave : FnOk P w K mg base (CXX P w) 1 T.m_Lines_leave.f T.m_Lines_leave.fd ["self", "who"] (spLeave T.C_Lines T.C_NotWaiting)) : FnOk P w K mg base CX0 2 T.m_Boxes_send.f T.m_Boxes_send.fd ["self", "box", "letter"] (spSend T.C_Boxes T.C_Lines) := by
  refine T.m_Boxes_send.F.ok sc_Boxes_send (fun vs H Q E h => ?_) (fun cdv A outer s H vs Q E hr h => ?_)
  · obtain ⟨x, t, d, m, P, kvs, M, b, n, rfl, _⟩ := h
    rfl
  · obtain ⟨x, t, d, m, P, kvs, M, b, n, rfl, B, Pr, k1, k2⟩ := h
    have hu := hu100 hr
    have hu1 := hu_of hr
    obtain ⟨⟨dx, h1⟩, Bl, Ml, nmd⟩ := id B
    obtain ⟨⟨dt, ht⟩, hd⟩ := id Bl
    refine ⟨_, (pss_cons (ps_set (i := 3) sc_Boxes_send.nd rfl (Or.inl rfl) (pe_meth (pe_fld (pv 0) rfl) T.k_Lines T.m_Lines_waiting.me G_Lines_waiting (hr.mono (by omega)) T.m_Lines_waiting.b .nil pass0 (pa_cons (pv 1) pa_nil)))
    (pss_cons (ps_if (pt_cmpR (op_eqL hu) (pv 3) (pe_lst pa_nil) (nomark _))
    (pss_cons (ps_expr (pe_bm PySem.F.plainAttrs_list PySem.F.slot_list_append PySem.F.type_list_append mt_append (pe_dsetd (pe_fld (pv 0) rfl) (pv 1) (pe_lst pa_nil) ⟨rfl, rfl, rfl, rfl⟩) (pa_cons (pv 2) pa_nil)))
    (pss_one (ps_ret pe_non)))
    pss_nil)
    (pss_cons (ps_expr (pe_meth (pe_fld (pv 0) rfl) T.k_Lines T.m_Lines_leave.me G_Lines_leave (hr.mono (by omega)) T.m_Lines_leave.b .nil (passN (E := fun _ _ _ => False) (fun _ _ _ z => z)) (pa_cons (pe_ix ix_list (pv 3) pe_int (fun _ _ => rfl)) pa_nil)))
    (pss_one (ps_ret (pe_ix ix_list (pv 3) pe_int (fun _ _ => rfl))))))), ?_⟩
    (simp only [tLst, tTup, tDNewK, _root_.L2.start, cxOf_K, cxComp_K, tSeq, tAsg, gName, tRet, tRetN, tDrop, tIfS, tTest, tB, tNot, tAnd, tOr, tAndV, tOrV, tNotV, tOp, tUn, tVar, tC, tCons, tNil, tStrs, tCB, tCall, tChain, tBM, tBM0, tPart, tNoPart, tSl, tIf, tNext, tTrue, selS, Option.bind_none, Option.bind_some, Option.join_some, if_true, rI, rI0, rU, rEq, rNe, rStarts, rSlS, lenV_str, tyV, List.map_cons, List.map_nil, List.length_cons, List.length_nil, List.replicate, List.cons_append, List.nil_append, List.append_nil, Nat.reduceAdd, Nat.reduceSub, Nat.zero_add, Nat.add_zero, Nat.sub_self, List.getElem?_cons_zero, List.getElem?_cons_succ, List.set_cons_zero, List.set_cons_succ, Option.some.injEq, V.int.injEq, V.str.injEq, V.ref.injEq, V.bl.injEq, V.ty.injEq, List.cons.injEq, exists_eq_left, exists_eq_left', exists_eq_right, exists_and_left, exists_eq, and_true, true_and, and_self, and_assoc, tFld, sFld, tMeth, tMake, tDIn, tDNotIn, sDPut, tDPop1, tLcI, tNever, tDGet, tDGet1, tDGet2, tDSetd, tSetLcI])
    refine ⟨_, _, _, h1, T.k_Boxes, T.n_Boxes_takers, _, flB_t t m, t, rfl, dt, _, ht, fl_no d (by decide +kernel), t, d, P, b, rfl, Bl, Pr.hp, fun l H1 hln s1 hl1 => ⟨by decide, fun p hp => ?_⟩⟩
    have s2 : Same H (upd H1 p (.lst [])) := s1.trans (Same.upd hp)
    have hl2 := (Same.upd (o := .lst []) hp) _ _ hl1
    have hp2 : (upd H1 p (.lst [])) p = some (.lst (([] : List Int).map V.int)) := upd_same
    generalize upd H1 p (.lst []) = H2 at s2 hl2 hp2
    refine eqInts hl2 hp2 ⟨_, rfl, ?_⟩
    have B2 := B.same s2
    obtain ⟨⟨dy, g1⟩, ⟨⟨dz, gt⟩, gd⟩, Ml2, _⟩ := id B2
    rw [Bool.false_xor]
    by_cases e : atB P b = []
    · refine ifT e ?_
      refine ⟨_, _, _, g1, T.k_Boxes, T.n_Boxes_mail, _, flB_m t m, m, rfl, .inl ⟨_, .inl Ml2.dc⟩, by decide, fun q hq => ?_⟩
      have s3 : Same H2 (upd H2 q (.lst [])) := Same.upd hq
      have hq3 : (upd H2 q (.lst [])) q = some (.lst []) := upd_same
      have nq : H q = none := s2.free hq
      have s23 := s2.trans s3
      generalize upd H2 q (.lst []) = H3 at s3 hq3 s23
      have B3 := B.same s23
      have nM : ¬ MailL kvs q := fun z => by
        obtain ⟨xs, hx⟩ := Ml.lst z
        rw [hx] at nq; cases nq
      refine ⟨kvs, B3.ml.dc, Sum.inr b, rfl, small1000 (by have := Pr.hk; omega), fun v hv => ?_, fun hn => ?_⟩
      · obtain ⟨a, rfl, ha⟩ := B3.ml.yes b v hv
        refine ⟨.inl ⟨_, SqL.of ha⟩, a, _, _, rfl, rfl, ha, by exact small1000 (by have := Pr.hm b; omega), ?_⟩
        exact k1 e _ _ (Stp.pre s23 (Stp.lst ⟨b, hv⟩)) (.inl rfl) (B3.lst hv)
      · have B4 := B3.new hn hq3 nM
        have hv : valV (putK kvs (Sum.inr b) (V.ref q)) (Sum.inr b : Key) = some (.ref q) := by rw [valV_put, if_pos rfl]
        have nqm : q ≠ m := ne_of hq3 B3.ml.dc (fun z => nomatch z)
        have hq4 : (upd H3 m (.dK (putK kvs (Sum.inr b) (V.ref q)))) q = some (.lst []) := by rw [upd_ne nqm]; exact hq3
        refine ⟨.inl ⟨_, SqL.of hq4⟩, q, _, _, rfl, rfl, hq4, by decide, ?_⟩
        have e1 : ([] : List V) ++ [n] = M b ++ [n] := by rw [Ml.no b hn]
        rw [e1]
        exact k1 e _ _ (Stp.new s23 nq) (.inr ⟨_, rfl, hn⟩) (B4.lst hv)
    · refine ifF e ?_
      cases ea : atB P b with
      | nil => exact absurd ea e
      | cons w r =>
        have mw : w ∈ P.map (·.1) := List.mem_map.mpr ⟨(w, b), mem_atB.mp (by rw [ea]; exact List.mem_cons_self), rfl⟩
        rw [ea] at hl2
        refine ⟨_, _, _, g1, T.k_Boxes, T.n_Boxes_takers, _, flB_t t m, t, rfl, dz, _, gt, fl_no d (by decide +kernel), ?_⟩
        have ix : ∀ {G' : Hp} {R : VK}, G' l = some (.lst ((w :: r).map V.int)) → R (.int w) G' → rIxL K (.ref l) (.int 0) G' R := fun g rr => ⟨l, _, _, .int w, rfl, rfl, SqL.of g, atI_nat (j := 0) rfl, rr⟩
        refine ix hl2 ⟨t, d, P, w, rfl, B2.ln, fun _ => ix ?_ (k2 w r ea _ (Stp.pre s2 Stp.d) B2.line), fun z => absurd mw z⟩
        rw [upd_ne (ne_of hl2 gd (fun z => nomatch z))]
        exact hl2
theorem sc_Boxes_take : FnScope ["self", "box", "who"] ["self", "box", "who"] (defScope (inClass (top 6) 2)) := ⟨rfl, rfl, rfl, by decide +kernel, rfl, by decide +kernel, by decide +kernel⟩
theorem ok_Boxes_take (T : Tx K mg)
    (G_Lines_waits_at : FnOk P w K mg base CX0 1 T.m_Lines_waits_at.f T.m_Lines_waits_at.fd ["self", "who"] (spWaitsAt T.C_Lines))
    (G_Lines_come : FnOk P w K mg base (CXX P w) 1 T.m_Lines_come.f T.m_Lines_come.fd ["self", "name", "who"] (spCome T.C_Lines T.C_NotWaiting))
    (G_Boxes_letters : FnOk P w K mg base CX0 1 T.m_Boxes_letters.f T.m_Boxes_letters.fd ["self", "box"] (spLetters T.C_Boxes T.C_Lines)) : FnOk P w K mg base (CXX P w) 2 T.m_Boxes_take.f T.m_Boxes_take.fd ["self", "box", "who"] (spTake T.C_Boxes T.C_Lines T.C_NotWaiting) := by
  refine T.m_Boxes_take.F.okX sc_Boxes_take (fun vs H Q E h => ?_) (fun cdv A outer s H vs Q E hr h => ?_)
  · obtain ⟨x, t, d, m, P, kvs, M, b, w, rfl, _⟩ := h
    rfl
  · obtain ⟨x, t, d, m, P, kvs, M, b, w, rfl, B, Pr, kx, k1, k2⟩ := h
    have hu := hu100 hr
    have hu1 := hu_of hr
    obtain ⟨⟨dx, h1⟩, Bl, Ml, nmd⟩ := id B
    obtain ⟨⟨dt, ht⟩, hd⟩ := id Bl
    refine ⟨_, (pss_cons (ps_if (pt_cmpR op_notN (pe_meth (pe_fld (pv 0) rfl) T.k_Lines T.m_Lines_waits_at.me G_Lines_waits_at (hr.mono (by omega)) T.m_Lines_waits_at.b .nil pass0 (pa_cons (pv 2) pa_nil)) pe_non (nomark _))
    (pss_one (ps_raise leavesX rfl rfl T.x_NotWaiting))
    pss_nil)
    (pss_cons (ps_if (pt_cmpR (op_eqL hu) (pe_meth (pv 0) T.k_Boxes T.m_Boxes_letters.me G_Boxes_letters (hr.mono (by omega)) T.m_Boxes_letters.b .nil pass0 (pa_cons (pv 1) pa_nil)) (pe_lst pa_nil) (nomark _))
    (pss_cons (ps_expr (pe_meth (pe_fld (pv 0) rfl) T.k_Lines T.m_Lines_come.me G_Lines_come (hr.mono (by omega)) T.m_Lines_come.b .nil (passX leavesX (fun _ _ _ z => z)) (pa_cons (pv 1) (pa_cons (pv 2) pa_nil))))
    (pss_one (ps_ret (pe_tup (pa_cons pe_bl (pa_cons pe_non pa_nil))))))
    pss_nil)
    (pss_one (ps_ret (pe_tup (pa_cons pe_bl (pa_cons (pe_bm PySem.F.plainAttrs_list PySem.F.slot_list_pop PySem.F.type_list_pop mt_popAt (pe_dget hu1 (pe_fld (pv 0) rfl) (pv 1) (fun _ _ => rfl)) (pa_cons pe_int pa_nil)) pa_nil))))))), ?_⟩
    (simp only [tLst, tTup, tDNewK, _root_.L2.start, cxOf_K, cxComp_K, tSeq, tAsg, gName, tRet, tRetN, tDrop, tIfS, tTest, tB, tNot, tAnd, tOr, tAndV, tOrV, tNotV, tOp, tUn, tVar, tC, tCons, tNil, tStrs, tCB, tCall, tChain, tBM, tBM0, tPart, tNoPart, tSl, tIf, tNext, tTrue, selS, Option.bind_none, Option.bind_some, Option.join_some, if_true, rI, rI0, rU, rEq, rNe, rStarts, rSlS, lenV_str, tyV, List.map_cons, List.map_nil, List.length_cons, List.length_nil, List.replicate, List.cons_append, List.nil_append, List.append_nil, Nat.reduceAdd, Nat.reduceSub, Nat.zero_add, Nat.add_zero, Nat.sub_self, List.getElem?_cons_zero, List.getElem?_cons_succ, List.set_cons_zero, List.set_cons_succ, Option.some.injEq, V.int.injEq, V.str.injEq, V.ref.injEq, V.bl.injEq, V.ty.injEq, List.cons.injEq, exists_eq_left, exists_eq_left', exists_eq_right, exists_and_left, exists_eq, and_true, true_and, and_self, and_assoc, tFld, sFld, tMeth, tMake, tDIn, tDNotIn, sDPut, tDPop1, tLcI, tNever, tDGet, tDGet1, tDGet2, tDSetd, tSetLcI])
    refine ⟨_, _, _, h1, T.k_Boxes, T.n_Boxes_takers, _, flB_t t m, t, rfl, dt, _, ht, fl_no d (by decide +kernel), t, d, P, w, rfl, Bl, ?_⟩
    show if (!decide (atW P w = V.non)) = true then _ else _
    by_cases hw : w ∈ P.map (·.1)
    · obtain ⟨b0, e0, _⟩ := atW_in hw
      exact bT (by rw [e0]; rfl) (kx hw)
    refine bF (by rw [atW_no hw]; rfl) ⟨_, _, h1, flB_no t m (by decide +kernel) (by decide +kernel), x, t, d, m, P, kvs, M, b, rfl, B, fun l H1 hln s1 hl1 => nilV hl1 (isLet_flat (Pr.ok.fl b)) fun H2 t2 => ⟨_, rfl, ?_⟩⟩
    have s2 := s1.trans t2
    have B2 := B.same s2
    obtain ⟨⟨dy, g1⟩, ⟨⟨dz, gt⟩, gd⟩, Ml2, _⟩ := id B2
    by_cases e : M b = []
    · refine bT (by rw [decide_eq_true e]; rfl) ⟨_, _, _, g1, T.k_Boxes, T.n_Boxes_takers, _, flB_t t m, t, rfl, dz, _, gt, fl_no d (by decide +kernel), t, d, P, b, w, rfl, B2.ln, Pr.hp, fun _ => ?_, fun z => absurd z hw⟩
      refine ⟨by decide, fun l3 hl3 => ?_⟩
      have s4 := Same.upd (o := .tup [.bl false, .non]) hl3
      exact k1 hw e l3 _ ((Stp.pre s2 Stp.d).post s4) ((B2.line (P' := P ++ [(w, b)])).same s4) upd_same
    · refine bF (by rw [decide_eq_false e]; rfl) ?_
      cases em : M b with
      | nil => exact absurd em e
      | cons n r =>
        cases ev : valV kvs (Sum.inr b : Key) with
        | none => exact absurd (Ml.no b ev) e
        | some v =>
          obtain ⟨a, rfl, ha⟩ := Ml2.yes b v ev
          rw [em] at ha
          have hg : DGet H2 m (V.str b) (some (.ref a)) := by
            have := DGet.k (k := Sum.inr b) Ml2.dc
            rw [ev] at this
            exact this
          refine ⟨_, _, _, g1, T.k_Boxes, T.n_Boxes_mail, _, flB_m t m, m, rfl, .ref a, hg, .inl ⟨_, SqL.of ha⟩, a, _, 0, 0, n, rfl, rfl, ha, by decide, by decide, (by simp [seqIndex?]), rfl, by decide, fun p3 hp3 => ?_⟩
          have s4 := Same.upd (o := .tup [.bl true, n]) hp3
          exact k2 hw n r em p3 _ ((Stp.pre s2 (Stp.lst ⟨b, ev⟩)).post s4) ((B2.lst (xs := r) ev).same s4) upd_same
theorem sc_Boxes_leave : FnScope ["self", "who"] ["self", "who"] (defScope (inClass (top 6) 3)) := ⟨rfl, rfl, rfl, by decide +kernel, rfl, by decide +kernel, by decide +kernel⟩
theorem ok_Boxes_leave (T : Tx K mg)
    (G_Lines_leave : FnOk P w K mg base (CXX P w) 1 T.m_Lines_leave.f T.m_Lines_leave.fd ["self", "who"] (spLeave T.C_Lines T.C_NotWaiting)) : FnOk P w K mg base (CXX P w) 2 T.m_Boxes_leave.f T.m_Boxes_leave.fd ["self", "who"] (spBLeave T.C_Boxes T.C_Lines T.C_NotWaiting) := by
  refine T.m_Boxes_leave.F.okX sc_Boxes_leave (fun vs H Q E h => ?_) (fun cdv A outer s H vs Q E hr h => ?_)
  · obtain ⟨x, t, d, m, P, kvs, M, w, rfl, _⟩ := h
    rfl
  · obtain ⟨x, t, d, m, P, kvs, M, w, rfl, B, k, kx⟩ := h
    obtain ⟨⟨dx, h1⟩, Bl, Ml, nmd⟩ := id B
    obtain ⟨⟨dt, ht⟩, hd⟩ := id Bl
    refine ⟨_, (pss_one (ps_expr (pe_meth (pe_fld (pv 0) rfl) T.k_Lines T.m_Lines_leave.me G_Lines_leave (hr.mono (by omega)) T.m_Lines_leave.b .nil (passX leavesX (fun _ _ _ z => z)) (pa_cons (pv 1) pa_nil)))), ?_⟩
    (simp only [tLst, tTup, tDNewK, _root_.L2.start, cxOf_K, cxComp_K, tSeq, tAsg, gName, tRet, tRetN, tDrop, tIfS, tTest, tB, tNot, tAnd, tOr, tAndV, tOrV, tNotV, tOp, tUn, tVar, tC, tCons, tNil, tStrs, tCB, tCall, tChain, tBM, tBM0, tPart, tNoPart, tSl, tIf, tNext, tTrue, selS, Option.bind_none, Option.bind_some, Option.join_some, if_true, rI, rI0, rU, rEq, rNe, rStarts, rSlS, lenV_str, tyV, List.map_cons, List.map_nil, List.length_cons, List.length_nil, List.replicate, List.cons_append, List.nil_append, List.append_nil, Nat.reduceAdd, Nat.reduceSub, Nat.zero_add, Nat.add_zero, Nat.sub_self, List.getElem?_cons_zero, List.getElem?_cons_succ, List.set_cons_zero, List.set_cons_succ, Option.some.injEq, V.int.injEq, V.str.injEq, V.ref.injEq, V.bl.injEq, V.ty.injEq, List.cons.injEq, exists_eq_left, exists_eq_left', exists_eq_right, exists_and_left, exists_eq, and_true, true_and, and_self, and_assoc, tFld, sFld, tMeth, tMake, tDIn, tDNotIn, sDPut, tDPop1, tLcI, tNever, tDGet, tDGet1, tDGet2, tDSetd, tSetLcI])
    exact ⟨_, _, _, h1, T.k_Boxes, T.n_Boxes_takers, _, flB_t t m, t, rfl, dt, _, ht, fl_no d (by decide +kernel), t, d, P, w, rfl, Bl, fun hw => k hw _ Stp.d B.line, kx⟩
theorem sc_Boxes_waiting : FnScope ["self", "box"] ["self", "box"] (defScope (inClass (top 6) 5)) := ⟨rfl, rfl, rfl, by decide +kernel, rfl, by decide +kernel, by decide +kernel⟩
theorem ok_Boxes_waiting (T : Tx K mg)
    (G_Lines_waiting : FnOk P w K mg base CX0 1 T.m_Lines_waiting.f T.m_Lines_waiting.fd ["self", "name"] (spWaiting T.C_Lines)) : FnOk P w K mg base CX0 2 T.m_Boxes_waiting.f T.m_Boxes_waiting.fd ["self", "box"] (spBWaiting T.C_Boxes T.C_Lines) := by
  refine T.m_Boxes_waiting.F.ok sc_Boxes_waiting (fun vs H Q E h => ?_) (fun cdv A outer s H vs Q E hr h => ?_)
  · obtain ⟨x, t, d, m, P, kvs, M, b, rfl, _⟩ := h
    rfl
  · obtain ⟨x, t, d, m, P, kvs, M, b, rfl, B, hl, k⟩ := h
    obtain ⟨⟨dx, h1⟩, Bl, Ml, nmd⟩ := id B
    obtain ⟨⟨dt, ht⟩, hd⟩ := id Bl
    refine ⟨_, (pss_one (ps_ret (pe_meth (pe_fld (pv 0) rfl) T.k_Lines T.m_Lines_waiting.me G_Lines_waiting (hr.mono (by omega)) T.m_Lines_waiting.b .nil pass0 (pa_cons (pv 1) pa_nil)))), ?_⟩
    (simp only [tLst, tTup, tDNewK, _root_.L2.start, cxOf_K, cxComp_K, tSeq, tAsg, gName, tRet, tRetN, tDrop, tIfS, tTest, tB, tNot, tAnd, tOr, tAndV, tOrV, tNotV, tOp, tUn, tVar, tC, tCons, tNil, tStrs, tCB, tCall, tChain, tBM, tBM0, tPart, tNoPart, tSl, tIf, tNext, tTrue, selS, Option.bind_none, Option.bind_some, Option.join_some, if_true, rI, rI0, rU, rEq, rNe, rStarts, rSlS, lenV_str, tyV, List.map_cons, List.map_nil, List.length_cons, List.length_nil, List.replicate, List.cons_append, List.nil_append, List.append_nil, Nat.reduceAdd, Nat.reduceSub, Nat.zero_add, Nat.add_zero, Nat.sub_self, List.getElem?_cons_zero, List.getElem?_cons_succ, List.set_cons_zero, List.set_cons_succ, Option.some.injEq, V.int.injEq, V.str.injEq, V.ref.injEq, V.bl.injEq, V.ty.injEq, List.cons.injEq, exists_eq_left, exists_eq_left', exists_eq_right, exists_and_left, exists_eq, and_true, true_and, and_self, and_assoc, tFld, sFld, tMeth, tMake, tDIn, tDNotIn, sDPut, tDPop1, tLcI, tNever, tDGet, tDGet1, tDGet2, tDSetd, tSetLcI])
    exact ⟨_, _, _, h1, T.k_Boxes, T.n_Boxes_takers, _, flB_t t m, t, rfl, dt, _, ht, fl_no d (by decide +kernel), t, d, P, b, rfl, Bl, hl, k⟩
theorem sc_Boxes_waits_at : FnScope ["self", "who"] ["self", "who"] (defScope (inClass (top 6) 6)) := ⟨rfl, rfl, rfl, by decide +kernel, rfl, by decide +kernel, by decide +kernel⟩
theorem ok_Boxes_waits_at (T : Tx K mg)
    (G_Lines_waits_at : FnOk P w K mg base CX0 1 T.m_Lines_waits_at.f T.m_Lines_waits_at.fd ["self", "who"] (spWaitsAt T.C_Lines)) : FnOk P w K mg base CX0 2 T.m_Boxes_waits_at.f T.m_Boxes_waits_at.fd ["self", "who"] (spBWaitsAt T.C_Boxes T.C_Lines) := by
  refine T.m_Boxes_waits_at.F.ok sc_Boxes_waits_at (fun vs H Q E h => ?_) (fun cdv A outer s H vs Q E hr h => ?_)
  · obtain ⟨x, t, d, m, P, kvs, M, w, rfl, _⟩ := h
    rfl
  · obtain ⟨x, t, d, m, P, kvs, M, w, rfl, B, k⟩ := h
    obtain ⟨⟨dx, h1⟩, Bl, Ml, nmd⟩ := id B
    obtain ⟨⟨dt, ht⟩, hd⟩ := id Bl
    refine ⟨_, (pss_one (ps_ret (pe_meth (pe_fld (pv 0) rfl) T.k_Lines T.m_Lines_waits_at.me G_Lines_waits_at (hr.mono (by omega)) T.m_Lines_waits_at.b .nil pass0 (pa_cons (pv 1) pa_nil)))), ?_⟩
    (simp only [tLst, tTup, tDNewK, _root_.L2.start, cxOf_K, cxComp_K, tSeq, tAsg, gName, tRet, tRetN, tDrop, tIfS, tTest, tB, tNot, tAnd, tOr, tAndV, tOrV, tNotV, tOp, tUn, tVar, tC, tCons, tNil, tStrs, tCB, tCall, tChain, tBM, tBM0, tPart, tNoPart, tSl, tIf, tNext, tTrue, selS, Option.bind_none, Option.bind_some, Option.join_some, if_true, rI, rI0, rU, rEq, rNe, rStarts, rSlS, lenV_str, tyV, List.map_cons, List.map_nil, List.length_cons, List.length_nil, List.replicate, List.cons_append, List.nil_append, List.append_nil, Nat.reduceAdd, Nat.reduceSub, Nat.zero_add, Nat.add_zero, Nat.sub_self, List.getElem?_cons_zero, List.getElem?_cons_succ, List.set_cons_zero, List.set_cons_succ, Option.some.injEq, V.int.injEq, V.str.injEq, V.ref.injEq, V.bl.injEq, V.ty.injEq, List.cons.injEq, exists_eq_left, exists_eq_left', exists_eq_right, exists_and_left, exists_eq, and_true, true_and, and_self, and_assoc, tFld, sFld, tMeth, tMake, tDIn, tDNotIn, sDPut, tDPop1, tLcI, tNever, tDGet, tDGet1, tDGet2, tDSetd, tSetLcI])
    exact ⟨_, _, _, h1, T.k_Boxes, T.n_Boxes_takers, _, flB_t t m, t, rfl, dt, _, ht, fl_no d (by decide +kernel), t, d, P, w, rfl, Bl, k⟩
theorem sc_Boxes_busy : FnScope ["self", "filled"] ["self"] (defScope (inClass (top 6) 7)) := ⟨rfl, rfl, rfl, by decide +kernel, rfl, by decide +kernel, by decide +kernel⟩
theorem ok_Boxes_busy (T : Tx K mg)
    (G_Lines_busy : FnOk P w K mg base CX0 1 T.m_Lines_busy.f T.m_Lines_busy.fd ["self"] (spBusy T.C_Lines)) : FnOk P w K mg base CX0 2 T.m_Boxes_busy.f T.m_Boxes_busy.fd ["self"] (spBBusy T.C_Boxes T.C_Lines) := by
  refine T.m_Boxes_busy.F.ok sc_Boxes_busy (fun vs H Q E h => ?_) (fun cdv A outer s H vs Q E hr h => ?_)
  · obtain ⟨x, t, d, m, P, kvs, M, rfl, _⟩ := h
    rfl
  · obtain ⟨x, t, d, m, Z, kvs, M, rfl, B, O, hl, KO, k⟩ := h
    have hu := hu100 hr
    have hu1 := hu_of hr
    obtain ⟨⟨dx, h1⟩, Bl, Ml, nmd⟩ := id B
    obtain ⟨⟨dt, ht⟩, hd⟩ := id Bl
    refine ⟨_, (pss_cons (ps_setLcI (i := 1) sc_Boxes_busy.nd rfl (Or.inl rfl) (N' := ["box", "letters"]) (sel := [none, none]) rfl rfl rfl (pe_fld (pv 0) rfl) (gk_two rfl rfl) (fun _ _ _ _ _ => ⟨(pg_tup rfl (pgs_cons (pg_name (i := 0) (show (["box", "letters"] : List Str).Nodup by decide +kernel) rfl (Or.inl rfl)) (pgs_cons (pg_name (i := 1) (show (["box", "letters"] : List Str).Nodup by decide +kernel) rfl (Or.inl rfl)) pgs_nil))), (pts_one (pt_cmpR (op_neLK (K := K) rfl hu) (pv 1) (pe_lst pa_nil) (nomark _))), (pv 0)⟩) rfl)
    (pss_one (ps_ret (pe_callB call_sortedLs (by rfl) T.n_sorted bt_sorted (pa_cons (pe_op op_cat (pv 1) (pe_meth0 (pe_fld (pv 0) rfl) T.k_Lines T.m_Lines_busy.me G_Lines_busy (hr.mono (by omega)) T.m_Lines_busy.b .nil pass0)) pa_nil))))), ?_⟩
    (simp only [tLst, tTup, tDNewK, _root_.L2.start, cxOf_K, cxComp_K, tSeq, tAsg, gName, tRet, tRetN, tDrop, tIfS, tTest, tB, tNot, tAnd, tOr, tAndV, tOrV, tNotV, tOp, tUn, tVar, tC, tCons, tNil, tStrs, tCB, tCall, tChain, tBM, tBM0, tPart, tNoPart, tSl, tIf, tNext, tTrue, selS, Option.bind_none, Option.bind_some, Option.join_some, if_true, rI, rI0, rU, rEq, rNe, rStarts, rSlS, lenV_str, tyV, List.map_cons, List.map_nil, List.length_cons, List.length_nil, List.replicate, List.cons_append, List.nil_append, List.append_nil, Nat.reduceAdd, Nat.reduceSub, Nat.zero_add, Nat.add_zero, Nat.sub_self, List.getElem?_cons_zero, List.getElem?_cons_succ, List.set_cons_zero, List.set_cons_succ, Option.some.injEq, V.int.injEq, V.str.injEq, V.ref.injEq, V.bl.injEq, V.ty.injEq, List.cons.injEq, exists_eq_left, exists_eq_left', exists_eq_right, exists_and_left, exists_eq, and_true, true_and, and_self, and_assoc, tFld, sFld, tMeth, tMake, tDIn, tDNotIn, sDPut, tDPop1, tLcI, tNever, tDGet, tDGet1, tDGet2, tDSetd, tSetLcI])
    obtain ⟨bs, ks, nbs, hbs⟩ := KO
    have hkl : kvs.length = bs.length := by
      have := congrArg List.length ks
      rwa [List.length_map, List.length_map] at this
    have hb3 := in_boxes nbs hbs
    refine ⟨_, _, _, h1, T.k_Boxes, T.n_Boxes_mail, _, flB_m t m, m, rfl, kvs, Ml.dc, lc_items (fun i ys G => Same (del H m) G ∧ ys = ((bs.take i).filter fun b => !decide (M b = [])).map V.str) ⟨Same.refl _, rfl⟩ ?_ (by rw [hkl]; exact Nat.le_of_lt (small1000 (by omega))) ?_ ?_⟩
    · rintro i ys G hi ⟨_, rfl⟩
      rw [List.length_map]
      exact Nat.le_trans (List.length_filter_le _ _) (by rw [List.length_take]; omega)
    · rintro i kv ys G q hx ⟨sG, rfl⟩ hq
      obtain ⟨k0, v0⟩ := kv
      have hm0 : (k0, v0) ∈ kvs := List.mem_of_getElem? hx
      have hk0 : (kvs.map (·.1))[i]? = some k0 := by rw [List.getElem?_map, hx]; rfl
      rw [ks, List.getElem?_map] at hk0
      cases eb : bs[i]? with
      | none => rw [eb] at hk0; cases hk0
      | some b =>
        rw [eb] at hk0
        cases hk0
        obtain ⟨a, ea, ha⟩ := Ml.yes b v0 (valV_nd (ks_nd ks nbs) hm0)
        cases ea
        have s2 : Same (del H m) (upd G q (.tup [V.str b, V.ref a])) := sG.trans (Same.upd hq)
        have ha2 := s2 a _ (by rw [del_ne (ne_of ha Ml.dc (fun z => nomatch z))]; exact ha)
        refine ⟨q, _, rfl, SqT.of upd_same, rfl, _, _, rfl, _, _, rfl, rfl, ?_⟩
        (simp only [tLst, tTup, tDNewK, _root_.L2.start, cxOf_K, cxComp_K, tSeq, tAsg, gName, tRet, tRetN, tDrop, tIfS, tTest, tB, tNot, tAnd, tOr, tAndV, tOrV, tNotV, tOp, tUn, tVar, tC, tCons, tNil, tStrs, tCB, tCall, tChain, tBM, tBM0, tPart, tNoPart, tSl, tIf, tNext, tTrue, selS, Option.bind_none, Option.bind_some, Option.join_some, if_true, rI, rI0, rU, rEq, rNe, rStarts, rSlS, lenV_str, tyV, List.map_cons, List.map_nil, List.length_cons, List.length_nil, List.replicate, List.cons_append, List.nil_append, List.append_nil, Nat.reduceAdd, Nat.reduceSub, Nat.zero_add, Nat.add_zero, Nat.sub_self, List.getElem?_cons_zero, List.getElem?_cons_succ, List.set_cons_zero, List.set_cons_succ, Option.some.injEq, V.int.injEq, V.str.injEq, V.ref.injEq, V.bl.injEq, V.ty.injEq, List.cons.injEq, exists_eq_left, exists_eq_left', exists_eq_right, exists_and_left, exists_eq, and_true, true_and, and_self, and_assoc, tFld, sFld, tMeth, tMake, tDIn, tDNotIn, sDPut, tDPop1, tLcI, tNever, tDGet, tDGet1, tDGet2, tDSetd, tSetLcI])
        refine nilV ha2 (isLet_flat (O.fl b)) fun G3 t3 => ⟨_, rfl, ?_⟩
        have et : bs.take (i + 1) = bs.take i ++ [b] := by rw [List.take_succ, eb]; rfl
        by_cases e : M b = []
        · refine bF (by rw [decide_eq_true e]; rfl) ⟨s2.trans t3, ?_⟩
          rw [et, List.filter_append, List.filter_cons_of_neg (by simp [e])]
          simp
        · refine bT (by rw [decide_eq_false e]; rfl) ⟨s2.trans t3, ?_⟩
          rw [et, List.filter_append, List.filter_cons_of_pos (by simp [e]), List.map_append]
          rfl
    · rintro ys G ⟨sG, rfl⟩ l hln hlm
      rw [hkl, List.take_length]
      have s2 : Same H (upd (upd G l (.lst ((bs.filter fun b => !decide (M b = [])).map V.str))) m (.dK kvs)) := Same.back (sG.trans (Same.upd hln)) Ml.dc
      have hl2 : (upd (upd G l (.lst ((bs.filter fun b => !decide (M b = [])).map V.str))) m (.dK kvs)) l = some (.lst ((bs.filter fun b => !decide (M b = [])).map V.str)) := by rw [upd_ne hlm, upd_same]
      generalize upd (upd G l (.lst ((bs.filter fun b => !decide (M b = [])).map V.str))) m (.dK kvs) = G2 at s2 hl2
      have B2 := B.same s2
      obtain ⟨⟨dy, g1⟩, ⟨⟨dz, gt⟩, gd⟩, _, _⟩ := id B2
      refine ⟨_, _, _, g1, T.k_Boxes, T.n_Boxes_takers, _, flB_t t m, t, rfl, dz, _, gt, fl_no d (by decide +kernel), t, d, Z, rfl, B2.ln, O.p, hl, fun l2 ns2 G3 _ s3 h3 nd2 so2 hm2 => ?_⟩
      have nf : (bs.filter fun b => !decide (M b = [])).Nodup := nbs.filter _
      have lf := in_boxes nf (fun b hb => hbs b (List.mem_filter.mp hb).1)
      have l2' := in_boxes nd2 (fun b hb => by
        obtain ⟨y, hy, e⟩ := List.mem_map.mp ((hm2 b).mp hb)
        rw [← e]; exact O.p.inb y hy)
      refine ⟨l, l2, _, _, rfl, rfl, s3 _ _ hl2, h3, ?_, fun r hr => ⟨r, rfl, (bs.filter fun b => !decide (M b = [])) ++ ns2, SqL.of (by rw [upd_same, List.map_append]), ?_, fun l3 ns3 hl3 pm so => ?_⟩⟩
      · rw [List.length_map, List.length_map]
        exact Nat.le_of_lt (small1000 (by omega))
      · rw [List.length_append]; omega
      · have s4 := (s2.trans s3).trans (Same.upd (o := .lst ((bs.filter fun b => !decide (M b = [])).map V.str ++ ns2.map V.str)) hr)
        have ndA : ((bs.filter fun b => !decide (M b = [])) ++ ns2).Nodup := by
          rw [List.nodup_append]
          refine ⟨nf, nd2, fun b hb c hc e => ?_⟩
          subst e
          have m1 : M b ≠ [] := by
            have := (List.mem_filter.mp hb).2
            simpa using this
          exact atB_ne.mpr ((hm2 b).mp hc) (O.ex b m1)
        refine k l3 ns3 _ (s4.free hl3) (s4.trans (Same.upd hl3)) upd_same (pm.nodup_iff.mpr ndA) so fun b => ?_
        rw [pm.mem_iff, List.mem_append, hm2, atB_ne, List.mem_filter]
        constructor
        · rintro (⟨_, h⟩ | h)
          · exact .inl (by simpa using h)
          · exact .inr h
        · rintro (h | h)
          · exact .inl ⟨ks_in Ml ks h, by simpa using h⟩
          · exact .inr h
theorem sc_l_mixed : FnScope ["_law_cell", "_law_k"] ["_law_cell", "_law_k"] (defScope (top 8)) := ⟨rfl, rfl, rfl, by decide +kernel, rfl, by decide +kernel, by decide +kernel⟩
theorem ok_l_mixed (T : Tx K mg) : FnOk P w K mg base CX0 1 T.d_l_mixed.f T.d_l_mixed.fd ["_law_cell", "_law_k"] (spMixed) := by
  refine T.d_l_mixed.F.ok sc_l_mixed (fun vs H Q E h => ?_) (fun cdv A outer s H vs Q E hr h => ?_)
  · obtain ⟨a, i, rfl, _⟩ := h
    rfl
  · obtain ⟨a, i, rfl, h0, h1, k⟩ := h
    refine ⟨_, (pss_one (ps_ret (pe_op op_mod (pe_op op_pow (pe_op op_mod (pe_op op_add (pe_op op_mul (pv 0) pe_int) (pe_op op_mul (pe_op op_add (pv 1) pe_int) pe_int)) pe_int) pe_int) pe_int))), ?_⟩
    (simp only [_root_.L2.start, cxOf_K, cxComp_K, tSeq, tAsg, gName, tRet, tRetN, tDrop, tIfS, tTest, tB, tNot, tAnd, tOr, tAndV, tOrV, tNotV, tOp, tUn, tVar, tC, tCons, tNil, tStrs, tCB, tCall, tChain, tBM, tBM0, tPart, tNoPart, tSl, tIf, tNext, tTrue, selS, Option.bind_none, Option.bind_some, Option.join_some, if_true, rI, rI0, rU, rEq, rNe, rStarts, rSlS, lenV_str, tyV, List.map_cons, List.map_nil, List.length_cons, List.length_nil, List.replicate, List.cons_append, List.nil_append, List.append_nil, Nat.reduceAdd, Nat.reduceSub, Nat.zero_add, Nat.add_zero, Nat.sub_self, List.getElem?_cons_zero, List.getElem?_cons_succ, List.set_cons_zero, List.set_cons_succ, Option.some.injEq, V.int.injEq, V.str.injEq, V.ref.injEq, V.bl.injEq, V.ty.injEq, List.cons.injEq, exists_eq_left, exists_eq_left', exists_eq_right, exists_and_left, exists_eq, and_true, true_and, and_self, and_assoc, tFld, sFld, tMeth, tMake, tDIn, tDNotIn, sDPut, tDPop1, tLcI, tNever, tDGet, tDGet1, tDGet2, tDSetd, tSetLcI])
    have e1 := Int.emod_nonneg (a * 48271 + (i + 1) * 1299721) (show (2147483647 : Int) ≠ 0 by decide)
    have e2 := Int.emod_lt_of_pos (a * 48271 + (i + 1) * 1299721) (show (0 : Int) < 2147483647 by decide)
    exact ⟨.inr ⟨by decide, by decide⟩, .inr ⟨by decide, by decide⟩, by decide, ⟨by decide, by decide, by omega⟩, by decide, k _ (Int.emod_nonneg _ (by decide))⟩
theorem sc_l_whos : FnScope [] [] (defScope (top 9)) := ⟨rfl, rfl, rfl, by decide +kernel, rfl, by decide +kernel, by decide +kernel⟩
theorem ok_l_whos (T : Tx K mg) : FnOk P w K mg base CX0 1 T.d_l_whos.f T.d_l_whos.fd [] (spWhos) := by
  refine T.d_l_whos.F.ok sc_l_whos (fun vs H Q E h => ?_) (fun cdv A outer s H vs Q E hr h => ?_)
  · obtain ⟨rfl, _⟩ := h
    rfl
  · obtain ⟨rfl, k⟩ := h
    refine ⟨_, (pss_one (ps_ret (pe_lst (pa_cons pe_int (pa_cons pe_int (pa_cons pe_int (pa_cons pe_int (pa_cons pe_int (pa_cons pe_int (pa_cons pe_int (pa_cons pe_int pa_nil))))))))))), ?_⟩
    (simp only [tLst, tTup, tDNewK, _root_.L2.start, cxOf_K, cxComp_K, tSeq, tAsg, gName, tRet, tRetN, tDrop, tIfS, tTest, tB, tNot, tAnd, tOr, tAndV, tOrV, tNotV, tOp, tUn, tVar, tC, tCons, tNil, tStrs, tCB, tCall, tChain, tBM, tBM0, tPart, tNoPart, tSl, tIf, tNext, tTrue, selS, Option.bind_none, Option.bind_some, Option.join_some, if_true, rI, rI0, rU, rEq, rNe, rStarts, rSlS, lenV_str, tyV, List.map_cons, List.map_nil, List.length_cons, List.length_nil, List.replicate, List.cons_append, List.nil_append, List.append_nil, Nat.reduceAdd, Nat.reduceSub, Nat.zero_add, Nat.add_zero, Nat.sub_self, List.getElem?_cons_zero, List.getElem?_cons_succ, List.set_cons_zero, List.set_cons_succ, Option.some.injEq, V.int.injEq, V.str.injEq, V.ref.injEq, V.bl.injEq, V.ty.injEq, List.cons.injEq, exists_eq_left, exists_eq_left', exists_eq_right, exists_and_left, exists_eq, and_true, true_and, and_self, and_assoc, tFld, sFld, tMeth, tMake, tDIn, tDNotIn, sDPut, tDPop1, tLcI, tNever, tDGet, tDGet1, tDGet2, tDSetd, tSetLcI])
    exact ⟨by decide, fun p hp => k p _ hp (Same.upd hp) upd_same⟩
theorem sc_l_boxes : FnScope [] [] (defScope (top 10)) := ⟨rfl, rfl, rfl, by decide +kernel, rfl, by decide +kernel, by decide +kernel⟩
theorem ok_l_boxes (T : Tx K mg) : FnOk P w K mg base CX0 1 T.d_l_boxes.f T.d_l_boxes.fd [] (spBoxes) := by
  refine T.d_l_boxes.F.ok sc_l_boxes (fun vs H Q E h => ?_) (fun cdv A outer s H vs Q E hr h => ?_)
  · obtain ⟨rfl, _⟩ := h
    rfl
  · obtain ⟨rfl, k⟩ := h
    refine ⟨_, (pss_one (ps_ret (pe_lst (pa_strs (zs := ["b", "boxes", "tray"]) (by decide +kernel))))), ?_⟩
    (simp only [tLst, tTup, tDNewK, _root_.L2.start, cxOf_K, cxComp_K, tSeq, tAsg, gName, tRet, tRetN, tDrop, tIfS, tTest, tB, tNot, tAnd, tOr, tAndV, tOrV, tNotV, tOp, tUn, tVar, tC, tCons, tNil, tStrs, tCB, tCall, tChain, tBM, tBM0, tPart, tNoPart, tSl, tIf, tNext, tTrue, selS, Option.bind_none, Option.bind_some, Option.join_some, if_true, rI, rI0, rU, rEq, rNe, rStarts, rSlS, lenV_str, tyV, List.map_cons, List.map_nil, List.length_cons, List.length_nil, List.replicate, List.cons_append, List.nil_append, List.append_nil, Nat.reduceAdd, Nat.reduceSub, Nat.zero_add, Nat.add_zero, Nat.sub_self, List.getElem?_cons_zero, List.getElem?_cons_succ, List.set_cons_zero, List.set_cons_succ, Option.some.injEq, V.int.injEq, V.str.injEq, V.ref.injEq, V.bl.injEq, V.ty.injEq, List.cons.injEq, exists_eq_left, exists_eq_left', exists_eq_right, exists_and_left, exists_eq, and_true, true_and, and_self, and_assoc, tFld, sFld, tMeth, tMake, tDIn, tDNotIn, sDPut, tDPop1, tLcI, tNever, tDGet, tDGet1, tDGet2, tDSetd, tSetLcI])
    exact ⟨by decide, fun p hp => k p _ hp (Same.upd hp) upd_same⟩
theorem sc_l_drawn : FnScope ["_law_model", "_law_x", "_law_box", "_law_who", "_law_there"] ["_law_model", "_law_x"] (defScope (top 11)) := ⟨rfl, rfl, rfl, by decide +kernel, rfl, by decide +kernel, by decide +kernel⟩
theorem ok_l_drawn (T : Tx K mg)
    (G_l_whos : FnOk P w K mg base CX0 1 T.d_l_whos.f T.d_l_whos.fd [] (spWhos))
    (G_l_boxes : FnOk P w K mg base CX0 1 T.d_l_boxes.f T.d_l_boxes.fd [] (spBoxes)) : FnOk P w K mg base CX0 2 T.d_l_drawn.f T.d_l_drawn.fd ["_law_model", "_law_x"] (spDrawn K) := by
  refine T.d_l_drawn.F.ok sc_l_drawn (fun vs H Q E h => ?_) (fun cdv A outer s H vs Q E hr h => ?_)
  · obtain ⟨m, a, P, M, x, rfl, _⟩ := h
    rfl
  · obtain ⟨m, a, Z, M, x, rfl, A, hl, k⟩ := h
    have hu := hu100 hr
    have hu1 := hu_of hr
    refine ⟨_, (pss_cons (ps_set (i := 2) sc_l_drawn.nd rfl (Or.inl rfl) (pe_ix ix_list (pe_call0 G_l_boxes (hr.mono (by omega)) rfl T.d_l_boxes.hm T.d_l_boxes.F.kp T.d_l_boxes.b .nil pass0) (pe_op op_mod (pe_op op_fdiv (pv 1) pe_int) pe_int) (fun _ _ => rfl)))
    (pss_cons (ps_set (i := 3) sc_l_drawn.nd rfl (Or.inl rfl) (pe_ix ix_list (pe_call0 G_l_whos (hr.mono (by omega)) rfl T.d_l_whos.hm T.d_l_whos.F.kp T.d_l_whos.b .nil pass0) (pe_op op_mod (pe_op op_fdiv (pv 1) pe_int) pe_int) (fun _ _ => rfl)))
    (pss_cons (ps_set (i := 4) sc_l_drawn.nd rfl (Or.inl rfl) (pe_op op_cat (pe_op op_cat (pe_dget hu1 (pv 0) pe_str (fun _ _ => rfl)) (pe_dget hu1 (pv 0) pe_str (fun _ _ => rfl))) (pe_dget hu1 (pv 0) pe_str (fun _ _ => rfl))))
    (pss_mid (ps_if (PW.pt (pw_and (pt_cmpR (op_neL hu) (pv 4) (pe_lst pa_nil) (nomark _)) (pw_and1 (pt_cmpR op_eq (pe_op op_mod (pe_op op_fdiv (pv 1) pe_int) pe_int) pe_int (nomark _)))))
    (pss_one (ps_set (i := 3) sc_l_drawn.nd rfl (Or.inl rfl) (pe_ix ix_list (pv 4) (pe_op op_mod (pe_op op_fdiv (pv 1) pe_int) (pe_callB call_len (by rfl) T.n_len bt_len (pa_cons (pv 4) pa_nil))) (fun _ _ => rfl))))
    pss_nil)
    (pss_mid (ps_if (pt_cmpR op_lt (pe_op op_mod (pv 1) pe_int) pe_int (nomark _))
    (pss_one (ps_ret (pe_tup (pa_cons pe_str (pa_cons (pv 2) (pa_cons (pe_ix ix_list (pe_lst (pa_cons (pe_op op_mod (pe_op op_fdiv (pv 1) pe_int) pe_int) (pa_cons (pe_op op_mod (pe_op op_fdiv (pv 1) pe_int) pe_int) (pa_cons pe_str (pa_cons pe_str (pa_cons pe_str pa_nil)))))) (pe_op op_mod (pe_op op_fdiv (pv 1) pe_int) pe_int) (fun _ _ => rfl)) pa_nil))))))
    pss_nil)
    (pss_mid (ps_if (pt_cmpR op_lt (pe_op op_mod (pv 1) pe_int) pe_int (nomark _))
    (pss_one (ps_ret (pe_tup (pa_cons pe_str (pa_cons (pv 2) (pa_cons (pv 3) pa_nil))))))
    pss_nil)
    (pss_one (ps_ret (pe_tup (pa_cons pe_str (pa_cons (pv 3) pa_nil))))))))))), ?_⟩
    (simp only [tLst, tTup, tDNewK, _root_.L2.start, cxOf_K, cxComp_K, tSeq, tAsg, gName, tRet, tRetN, tDrop, tIfS, tTest, tB, tNot, tAnd, tOr, tAndV, tOrV, tNotV, tOp, tUn, tVar, tC, tCons, tNil, tStrs, tCB, tCall, tChain, tBM, tBM0, tPart, tNoPart, tSl, tIf, tNext, tTrue, selS, Option.bind_none, Option.bind_some, Option.join_some, if_true, rI, rI0, rU, rEq, rNe, rStarts, rSlS, lenV_str, tyV, List.map_cons, List.map_nil, List.length_cons, List.length_nil, List.replicate, List.cons_append, List.nil_append, List.append_nil, Nat.reduceAdd, Nat.reduceSub, Nat.zero_add, Nat.add_zero, Nat.sub_self, List.getElem?_cons_zero, List.getElem?_cons_succ, List.set_cons_zero, List.set_cons_succ, Option.some.injEq, V.int.injEq, V.str.injEq, V.ref.injEq, V.bl.injEq, V.ty.injEq, List.cons.injEq, exists_eq_left, exists_eq_left', exists_eq_right, exists_and_left, exists_eq, and_true, true_and, and_self, and_assoc, tFld, sFld, tMeth, tMake, tDIn, tDNotIn, sDPut, tDPop1, tLcI, tNever, tDGet, tDGet1, tDGet2, tDSetd, tSetLcI])
    obtain ⟨j, hj, ej⟩ : ∃ j : Nat, j < 3 ∧ x / 8 % 3 = (j : Nat) := ⟨(x / 8 % 3).toNat, by omega, by omega⟩
    obtain ⟨b, hb, hbm⟩ : ∃ b, boxes3[j]? = some b ∧ b ∈ boxes3 := ⟨boxes3[j]'hj, List.getElem?_eq_getElem hj, List.getElem_mem _⟩
    obtain ⟨j2, hj2, ej2⟩ : ∃ j : Nat, j < 8 ∧ x / 24 % 8 = (j : Nat) := ⟨(x / 24 % 8).toNat, by omega, by omega⟩
    have hj2' : j2 < whos8.length := hj2
    obtain ⟨w0, hw⟩ : ∃ w, whos8[j2]? = some w := ⟨_, List.getElem?_eq_getElem hj2'⟩
    refine ⟨rfl, fun lb G0 hlb s0 h0 => ⟨⟨by decide, by decide⟩, by decide, lb, _, _, .str b, rfl, rfl, SqL.of h0, by rw [ej]; exact atI_nat (show (boxes3.map V.str)[j]? = some (.str b) by rw [List.getElem?_map, hb]; rfl), rfl, fun lw G1 hlw s1 h1 => ⟨⟨by decide, by decide⟩, by decide, lw, _, _, .int w0, rfl, rfl, SqL.of h1, by rw [ej2]; exact atI_nat (show (whos8.map V.int)[j2]? = some (.int w0) by rw [List.getElem?_map, hw]; rfl), ?_⟩⟩⟩
    have s2 := s0.trans s1
    obtain ⟨g1, l1⟩ := (A.same s2).getLE (b := "b") (k := "line b") (by decide +kernel) (by decide +kernel)
    obtain ⟨g2, l2⟩ := (A.same s2).getLE (b := "boxes") (k := "line boxes") (by decide +kernel) (by decide +kernel)
    have c1 := atB_len Z "b"
    have c2 := atB_len Z "boxes"
    have c3 := atB_len Z "tray"
    clear h0 h1 s0 s1 hlb hlw
    refine ⟨_, g1, _, g2, a "line b", a "line boxes", _, _, rfl, rfl, l1, l2, ?_, fun p1 hp1 => ?_⟩
    · rw [List.length_map, List.length_map]
      exact Nat.le_of_lt (small1000 (by omega))
    have t3 := Same.upd (o := .lst ((atB Z "b").map V.int ++ (atB Z "boxes").map V.int)) hp1
    have h3 : (upd G1 p1 (.lst ((atB Z "b").map V.int ++ (atB Z "boxes").map V.int))) p1 = some (.lst ((atB Z "b").map V.int ++ (atB Z "boxes").map V.int)) := upd_same
    have s3 := s2.trans t3
    generalize upd G1 p1 (.lst ((atB Z "b").map V.int ++ (atB Z "boxes").map V.int)) = G3 at s3 h3 ⊢
    clear t3 hp1 g1 g2 l1 l2 s2
    obtain ⟨g3, l3⟩ := (A.same s3).getLE (b := "tray") (k := "line tray") (by decide +kernel) (by decide +kernel)
    refine ⟨_, g3, p1, a "line tray", _, _, rfl, rfl, h3, l3, ?_, fun l hp2 => ?_⟩
    · rw [List.length_append, List.length_map, List.length_map, List.length_map]
      exact Nat.le_of_lt (small1000 (by omega))
    have hG : ∃ ys : List Int, (atB Z "b").map V.int ++ (atB Z "boxes").map V.int ++ (atB Z "tray").map V.int = ys.map V.int := ⟨atB Z "b" ++ atB Z "boxes" ++ atB Z "tray", by rw [List.map_append, List.map_append]⟩
    obtain ⟨ys, ey⟩ := hG
    rw [ey]
    have s5 := s3.trans (Same.upd (o := .lst (ys.map V.int)) hp2)
    have hG : (upd G3 l (.lst (ys.map V.int))) l = some (.lst (ys.map V.int)) := upd_same
    generalize upd G3 l (.lst (ys.map V.int)) = G5 at s5 hG ⊢
    clear hp2 g3 l3 h3 s3
    refine ⟨fun σ' G' => ∃ w' : Int, σ' = [some (.ref m), some (.int x), some (.str b), some (.int w'), some (.ref l)] ∧ Same H G', ?_, ?_⟩
    · (simp only [tLst, tTup, tDNewK, _root_.L2.start, cxOf_K, cxComp_K, tSeq, tAsg, gName, tRet, tRetN, tDrop, tIfS, tTest, tB, tNot, tAnd, tOr, tAndV, tOrV, tNotV, tOp, tUn, tVar, tC, tCons, tNil, tStrs, tCB, tCall, tChain, tBM, tBM0, tPart, tNoPart, tSl, tIf, tNext, tTrue, selS, Option.bind_none, Option.bind_some, Option.join_some, if_true, rI, rI0, rU, rEq, rNe, rStarts, rSlS, lenV_str, tyV, List.map_cons, List.map_nil, List.length_cons, List.length_nil, List.replicate, List.cons_append, List.nil_append, List.append_nil, Nat.reduceAdd, Nat.reduceSub, Nat.zero_add, Nat.add_zero, Nat.sub_self, List.getElem?_cons_zero, List.getElem?_cons_succ, List.set_cons_zero, List.set_cons_succ, Option.some.injEq, V.int.injEq, V.str.injEq, V.ref.injEq, V.bl.injEq, V.ty.injEq, List.cons.injEq, exists_eq_left, exists_eq_left', exists_eq_right, exists_and_left, exists_eq, and_true, true_and, and_self, and_assoc, tFld, sFld, tMeth, tMake, tDIn, tDNotIn, sDPut, tDPop1, tLcI, tNever, tDGet, tDGet1, tDGet2, tDSetd, tSetLcI])
      refine nilI hG fun G6 t6 => ⟨_, rfl, ?_⟩
      by_cases e : ys = []
      · rw [decide_eq_true e]
        exact iteF (iteF (s5.trans t6))
      · rw [decide_eq_false e]
        refine iteT ⟨⟨by decide, by decide⟩, by decide, rfl, ?_⟩
        by_cases e2 : x / 192 % 3 = 0
        · have hpos : 0 < ys.length := List.length_pos_iff.mpr e
          have hlen : (ys.map V.int).length = ys.length := List.length_map _
          refine ifT e2 ⟨⟨by decide, by decide⟩, _, .inl ⟨_, SqL.of (t6 _ _ hG), rfl⟩, by rw [hlen]; omega, ?_⟩
          rw [hlen]
          have a1 := Int.emod_nonneg (x / 576) (show (ys.length : Int) ≠ 0 by omega)
          have a2 := Int.emod_lt_of_pos (x / 576) (show (0 : Int) < ys.length by omega)
          obtain ⟨j3, hj3, ej3⟩ : ∃ j : Nat, j < ys.length ∧ x / 576 % (ys.length : Int) = (j : Nat) := ⟨(x / 576 % (ys.length : Int)).toNat, by omega, by omega⟩
          rw [ej3]
          exact ⟨l, _, _, .int ys[j3], rfl, rfl, SqL.of (t6 _ _ hG), atI_nat (by rw [List.getElem?_map, List.getElem?_eq_getElem hj3]; rfl), _, rfl, s5.trans t6⟩
        · exact ifF e2 (s5.trans t6)
    · rintro σ' G' ⟨w', rfl, s6⟩
      refine ⟨fun σ2 G2 => σ2 = [some (.ref m), some (.int x), some (.str b), some (.int w'), some (.ref l)] ∧ Same H G2, ?_, ?_⟩
      · (simp only [tLst, tTup, tDNewK, _root_.L2.start, cxOf_K, cxComp_K, tSeq, tAsg, gName, tRet, tRetN, tDrop, tIfS, tTest, tB, tNot, tAnd, tOr, tAndV, tOrV, tNotV, tOp, tUn, tVar, tC, tCons, tNil, tStrs, tCB, tCall, tChain, tBM, tBM0, tPart, tNoPart, tSl, tIf, tNext, tTrue, selS, Option.bind_none, Option.bind_some, Option.join_some, if_true, rI, rI0, rU, rEq, rNe, rStarts, rSlS, lenV_str, tyV, List.map_cons, List.map_nil, List.length_cons, List.length_nil, List.replicate, List.cons_append, List.nil_append, List.append_nil, Nat.reduceAdd, Nat.reduceSub, Nat.zero_add, Nat.add_zero, Nat.sub_self, List.getElem?_cons_zero, List.getElem?_cons_succ, List.set_cons_zero, List.set_cons_succ, Option.some.injEq, V.int.injEq, V.str.injEq, V.ref.injEq, V.bl.injEq, V.ty.injEq, List.cons.injEq, exists_eq_left, exists_eq_left', exists_eq_right, exists_and_left, exists_eq, and_true, true_and, and_self, and_assoc, tFld, sFld, tMeth, tMake, tDIn, tDNotIn, sDPut, tDPop1, tLcI, tNever, tDGet, tDGet1, tDGet2, tDSetd, tSetLcI])
        refine ⟨by decide, ?_⟩
        by_cases c1 : x % 8 < 4
        · refine ifT c1 ⟨⟨by decide, by decide⟩, by decide, ⟨by decide, by decide⟩, by decide, by decide, fun p2 hp2 => ⟨⟨by decide, by decide⟩, by decide, ?_⟩⟩
          obtain ⟨j4, hj4, ej4⟩ : ∃ j : Nat, j < 5 ∧ x / 20000 % 5 = (j : Nat) := ⟨(x / 20000 % 5).toNat, by omega, by omega⟩
          obtain ⟨v, hv, hvl⟩ : ∃ v, [V.int (x / 576 % 9), V.int (x / 576 % 1000000), V.str ":off", V.str ":late", V.str "hi"][j4]? = some v ∧ isLet v = true := by
            match j4, hj4 with
            | 0, _ => exact ⟨_, rfl, rfl⟩
            | 1, _ => exact ⟨_, rfl, rfl⟩
            | 2, _ => exact ⟨_, rfl, rfl⟩
            | 3, _ => exact ⟨_, rfl, rfl⟩
            | 4, _ => exact ⟨_, rfl, rfl⟩
          rw [ej4]
          have s7 := s6.trans (Same.upd (o := .lst [V.int (x / 576 % 9), V.int (x / 576 % 1000000), V.str ":off", V.str ":late", V.str "hi"]) hp2)
          exact ⟨p2, _, _, v, rfl, rfl, SqL.of upd_same, atI_nat hv, by decide, fun p hp => k (.send b v) p _ (s7.free hp) (s7.trans (Same.upd hp)) upd_same ⟨hbm, hvl⟩⟩
        · exact ifF c1 s6
      · rintro σ2 G2 ⟨rfl, s7⟩
        refine ⟨fun σ2 G2 => σ2 = [some (.ref m), some (.int x), some (.str b), some (.int w'), some (.ref l)] ∧ Same H G2, ?_, ?_⟩
        · (simp only [tLst, tTup, tDNewK, _root_.L2.start, cxOf_K, cxComp_K, tSeq, tAsg, gName, tRet, tRetN, tDrop, tIfS, tTest, tB, tNot, tAnd, tOr, tAndV, tOrV, tNotV, tOp, tUn, tVar, tC, tCons, tNil, tStrs, tCB, tCall, tChain, tBM, tBM0, tPart, tNoPart, tSl, tIf, tNext, tTrue, selS, Option.bind_none, Option.bind_some, Option.join_some, if_true, rI, rI0, rU, rEq, rNe, rStarts, rSlS, lenV_str, tyV, List.map_cons, List.map_nil, List.length_cons, List.length_nil, List.replicate, List.cons_append, List.nil_append, List.append_nil, Nat.reduceAdd, Nat.reduceSub, Nat.zero_add, Nat.add_zero, Nat.sub_self, List.getElem?_cons_zero, List.getElem?_cons_succ, List.set_cons_zero, List.set_cons_succ, Option.some.injEq, V.int.injEq, V.str.injEq, V.ref.injEq, V.bl.injEq, V.ty.injEq, List.cons.injEq, exists_eq_left, exists_eq_left', exists_eq_right, exists_and_left, exists_eq, and_true, true_and, and_self, and_assoc, tFld, sFld, tMeth, tMake, tDIn, tDNotIn, sDPut, tDPop1, tLcI, tNever, tDGet, tDGet1, tDGet2, tDSetd, tSetLcI])
          refine ⟨by decide, ?_⟩
          by_cases c1 : x % 8 < 7
          · exact ifT c1 ⟨by decide, fun p hp => k (.take b w') p _ (s7.free hp) (s7.trans (Same.upd hp)) upd_same hbm⟩
          · exact ifF c1 s7
        · rintro σ3 G5 ⟨rfl, s8⟩
          (simp only [tLst, tTup, tDNewK, _root_.L2.start, cxOf_K, cxComp_K, tSeq, tAsg, gName, tRet, tRetN, tDrop, tIfS, tTest, tB, tNot, tAnd, tOr, tAndV, tOrV, tNotV, tOp, tUn, tVar, tC, tCons, tNil, tStrs, tCB, tCall, tChain, tBM, tBM0, tPart, tNoPart, tSl, tIf, tNext, tTrue, selS, Option.bind_none, Option.bind_some, Option.join_some, if_true, rI, rI0, rU, rEq, rNe, rStarts, rSlS, lenV_str, tyV, List.map_cons, List.map_nil, List.length_cons, List.length_nil, List.replicate, List.cons_append, List.nil_append, List.append_nil, Nat.reduceAdd, Nat.reduceSub, Nat.zero_add, Nat.add_zero, Nat.sub_self, List.getElem?_cons_zero, List.getElem?_cons_succ, List.set_cons_zero, List.set_cons_succ, Option.some.injEq, V.int.injEq, V.str.injEq, V.ref.injEq, V.bl.injEq, V.ty.injEq, List.cons.injEq, exists_eq_left, exists_eq_left', exists_eq_right, exists_and_left, exists_eq, and_true, true_and, and_self, and_assoc, tFld, sFld, tMeth, tMake, tDIn, tDNotIn, sDPut, tDPop1, tLcI, tNever, tDGet, tDGet1, tDGet2, tDSetd, tSetLcI])
          exact ⟨by decide, fun p hp => k (.leave w') p _ (s8.free hp) (s8.trans (Same.upd hp)) upd_same True.intro⟩
theorem sc_l_at : FnScope ["_law_model", "_law_who"] ["_law_model", "_law_who"] (defScope (top 12)) := ⟨rfl, rfl, rfl, by decide +kernel, rfl, by decide +kernel, by decide +kernel⟩
theorem ok_l_at (T : Tx K mg)
    (G_l_boxes : FnOk P w K mg base CX0 1 T.d_l_boxes.f T.d_l_boxes.fd [] (spBoxes)) : FnOk P w K mg base CX0 2 T.d_l_at.f T.d_l_at.fd ["_law_model", "_law_who"] (spAt K) := by
  refine T.d_l_at.F.ok sc_l_at (fun vs H Q E h => ?_) (fun cdv A outer s H vs Q E hr h => ?_)
  · obtain ⟨m, a, P, M, w, rfl, _⟩ := h
    rfl
  · obtain ⟨m, a, Z, M, w0, rfl, A0, O, hl, k⟩ := h
    have hu := hu100 hr
    have hu1 := hu_of hr
    refine ⟨_, (pss_one (ps_ret (pe_ix ix_list (pe_op op_cat (pe_lc (N' := ["_law_box", "_law_model", "_law_who"]) (sel := [none, some 0, some 1]) rfl rfl rfl (pi_list (pe_call0 G_l_boxes (hr.mono (by omega)) rfl T.d_l_boxes.hm T.d_l_boxes.F.kp T.d_l_boxes.b .nil pass0)) (gk_name rfl) (fun _ _ _ _ _ => ⟨(pg_name (i := 0) (show (["_law_box", "_law_model", "_law_who"] : List Str).Nodup by decide +kernel) rfl (Or.inl rfl)), (pts_one (pt_cmpR (op_in_seqK (K := K) rfl) (pv 2) (pe_dget hu1 (pv 1) (pe_op op_add_str pe_str (pv 0)) (fun _ _ => rfl)) (by with_unfolding_all rfl))), (pv 0)⟩)) (pe_lst (pa_cons pe_non pa_nil))) pe_int (fun _ _ => rfl)))), ?_⟩
    (simp only [tLst, tTup, tDNewK, _root_.L2.start, cxOf_K, cxComp_K, tSeq, tAsg, gName, tRet, tRetN, tDrop, tIfS, tTest, tB, tNot, tAnd, tOr, tAndV, tOrV, tNotV, tOp, tUn, tVar, tC, tCons, tNil, tStrs, tCB, tCall, tChain, tBM, tBM0, tPart, tNoPart, tSl, tIf, tNext, tTrue, selS, Option.bind_none, Option.bind_some, Option.join_some, if_true, rI, rI0, rU, rEq, rNe, rStarts, rSlS, lenV_str, tyV, List.map_cons, List.map_nil, List.length_cons, List.length_nil, List.replicate, List.cons_append, List.nil_append, List.append_nil, Nat.reduceAdd, Nat.reduceSub, Nat.zero_add, Nat.add_zero, Nat.sub_self, List.getElem?_cons_zero, List.getElem?_cons_succ, List.set_cons_zero, List.set_cons_succ, Option.some.injEq, V.int.injEq, V.str.injEq, V.ref.injEq, V.bl.injEq, V.ty.injEq, List.cons.injEq, exists_eq_left, exists_eq_left', exists_eq_right, exists_and_left, exists_eq, and_true, true_and, and_self, and_assoc, tFld, sFld, tMeth, tMake, tDIn, tDNotIn, sDPut, tDPop1, tLcI, tNever, tDGet, tDGet1, tDGet2, tDSetd, tSetLcI])
    refine ⟨rfl, fun lb G0 _ s0 h0 => ⟨lb, rfl, ⟨_, SqL.of h0⟩, lc_filt (K := K) (xs := boxes3) (f := V.str) (fun b => decide (w0 ∈ atB Z b)) h0 (by decide) ?_ ?_⟩⟩
    · intro b ys G hb sG
      (simp only [tLst, tTup, tDNewK, _root_.L2.start, cxOf_K, cxComp_K, tSeq, tAsg, gName, tRet, tRetN, tDrop, tIfS, tTest, tB, tNot, tAnd, tOr, tAndV, tOrV, tNotV, tOp, tUn, tVar, tC, tCons, tNil, tStrs, tCB, tCall, tChain, tBM, tBM0, tPart, tNoPart, tSl, tIf, tNext, tTrue, selS, Option.bind_none, Option.bind_some, Option.join_some, if_true, rI, rI0, rU, rEq, rNe, rStarts, rSlS, lenV_str, tyV, List.map_cons, List.map_nil, List.length_cons, List.length_nil, List.replicate, List.cons_append, List.nil_append, List.append_nil, Nat.reduceAdd, Nat.reduceSub, Nat.zero_add, Nat.add_zero, Nat.sub_self, List.getElem?_cons_zero, List.getElem?_cons_succ, List.set_cons_zero, List.set_cons_succ, Option.some.injEq, V.int.injEq, V.str.injEq, V.ref.injEq, V.bl.injEq, V.ty.injEq, List.cons.injEq, exists_eq_left, exists_eq_left', exists_eq_right, exists_and_left, exists_eq, and_true, true_and, and_self, and_assoc, tFld, sFld, tMeth, tMake, tDIn, tDNotIn, sDPut, tDPop1, tLcI, tNever, tDGet, tDGet1, tDGet2, tDSetd, tSetLcI])
      have A1 := A0.same (s0.trans sG)
      refine ⟨Nat.le_of_lt (small1000 (box_len b hb)), _, A1.getL hb, inInts (A1.ml b hb) ⟨_, rfl, ?_⟩⟩
      rw [Bool.false_xor]
      by_cases e : w0 ∈ atB Z b
      · exact ifT e ⟨sG, by rw [if_pos (decide_eq_true e)]⟩
      · exact ifF e ⟨sG, by simp [e]⟩
    · intro G sG l hl8
      refine ⟨by decide, fun p hp => ⟨l, p, _, _, rfl, rfl, (Same.upd hp) _ _ upd_same, upd_same, ?_, fun r hr => ⟨r, _, _, atW Z w0, rfl, rfl, SqL.of upd_same, atI_nat (j := 0) (atW_eq O).1, ?_⟩⟩⟩
      · rw [List.length_map]
        have h4 : (boxes3.filter fun b => decide (w0 ∈ atB Z b)).length ≤ 3 := List.length_filter_le _ _
        exact Nat.le_of_lt (small1000 (by show (boxes3.filter fun b => decide (w0 ∈ atB Z b)).length + 1 ≤ 1000; omega))
      · exact k _ ((((s0.trans sG).trans (Same.upd hl8)).trans (Same.upd hp)).trans (Same.upd hr))
theorem sc_l_told : FnScope ["_law_model", "_law_deed", "_law_box", "_law_line", "_law_lying"] ["_law_model", "_law_deed"] (defScope (top 13)) := ⟨rfl, rfl, rfl, by decide +kernel, rfl, by decide +kernel, by decide +kernel⟩
theorem ok_l_told (T : Tx K mg)
    (G_l_at : FnOk P w K mg base CX0 2 T.d_l_at.f T.d_l_at.fd ["_law_model", "_law_who"] (spAt K)) : FnOk P w K mg base CX0 3 T.d_l_told.f T.d_l_told.fd ["_law_model", "_law_deed"] (spTold K) := by
  refine T.d_l_told.F.ok sc_l_told (fun vs H Q E h => ?_) (fun cdv A outer s H vs Q E hr h => ?_)
  · obtain ⟨m, p, a, P, M, D, rfl, _⟩ := h
    rfl
  · obtain ⟨m, p, a, Z, M, D, rfl, A, hp, O, ok, hl, hm, k⟩ := h
    have hu := hu100 hr
    have hu1 := hu_of hr
    refine ⟨_, (pss_cons (ps_if (pt_cmpR op_eq (pe_ix ix_tup (pv 1) pe_int (fun _ _ => rfl)) pe_str (nomark _))
    (pss_cons (ps_set (i := 2) sc_l_told.nd rfl (Or.inl rfl) (pe_call G_l_at (hr.mono (by omega)) rfl T.d_l_at.hm T.d_l_at.F.kp T.d_l_at.b .nil pass0 (pa_cons (pv 0) (pa_cons (pe_ix ix_tup (pv 1) pe_int (fun _ _ => rfl)) pa_nil))))
    (pss_cons (ps_if (pt_cmpR op_isN (pv 2) pe_non (nomark _))
    (pss_one (ps_ret pe_str))
    pss_nil)
    (pss_cons (ps_dput hu1 (pv 0) (pe_op op_add_str pe_str (pv 2)) (pe_lc (N' := ["_law_one", "_law_deed"]) (sel := [none, some 1]) rfl rfl rfl (pi_list (pe_dget hu1 (pv 0) (pe_op op_add_str pe_str (pv 2)) (fun _ _ => rfl))) (gk_name rfl) (fun _ _ _ _ _ => ⟨(pg_name (i := 0) (show (["_law_one", "_law_deed"] : List Str).Nodup by decide +kernel) rfl (Or.inl rfl)), (pts_one (pt_cmpR op_ne (pv 0) (pe_ix (ix_tupK (K := K) rfl) (pv 1) pe_int (fun _ _ => rfl)) (nomark _))), (pv 0)⟩)) rfl)
    (pss_one (ps_ret pe_non)))))
    pss_nil)
    (pss_cons (ps_set (i := 3) sc_l_told.nd rfl (Or.inl rfl) (pe_dget hu1 (pv 0) (pe_op op_add_str pe_str (pe_ix ix_tup (pv 1) pe_int (fun _ _ => rfl))) (fun _ _ => rfl)))
    (pss_cons (ps_set (i := 4) sc_l_told.nd rfl (Or.inl rfl) (pe_dget hu1 (pv 0) (pe_op op_add_str pe_str (pe_ix ix_tup (pv 1) pe_int (fun _ _ => rfl))) (fun _ _ => rfl)))
    (pss_cons (ps_if (PW.pt (pw_and (pt_cmpR op_eq (pe_ix ix_tup (pv 1) pe_int (fun _ _ => rfl)) pe_str (nomark _)) (pw_and1 (pt_cmpR (op_neL hu) (pv 3) (pe_lst pa_nil) (nomark _)))))
    (pss_cons (ps_dput hu1 (pv 0) (pe_op op_add_str pe_str (pe_ix ix_tup (pv 1) pe_int (fun _ _ => rfl))) (pe_slice sl_list (pv 3) (po_some pe_int) po_none) rfl)
    (pss_one (ps_ret (pe_ix ix_list (pv 3) pe_int (fun _ _ => rfl)))))
    pss_nil)
    (pss_cons (ps_if (pt_cmpR op_eq (pe_ix ix_tup (pv 1) pe_int (fun _ _ => rfl)) pe_str (nomark _))
    (pss_cons (ps_dput hu1 (pv 0) (pe_op op_add_str pe_str (pe_ix ix_tup (pv 1) pe_int (fun _ _ => rfl))) (pe_op op_cat (pv 4) (pe_lst (pa_cons (pe_ix ix_tup (pv 1) pe_int (fun _ _ => rfl)) pa_nil))) rfl)
    (pss_one (ps_ret pe_non)))
    pss_nil)
    (pss_cons (ps_if (pt_cmpR op_notN (pe_call G_l_at (hr.mono (by omega)) rfl T.d_l_at.hm T.d_l_at.F.kp T.d_l_at.b .nil pass0 (pa_cons (pv 0) (pa_cons (pe_ix ix_tup (pv 1) pe_int (fun _ _ => rfl)) pa_nil))) pe_non (nomark _))
    (pss_one (ps_ret pe_str))
    pss_nil)
    (pss_cons (ps_if (pt_cmpR (op_eqL hu) (pv 4) (pe_lst pa_nil) (nomark _))
    (pss_cons (ps_dput hu1 (pv 0) (pe_op op_add_str pe_str (pe_ix ix_tup (pv 1) pe_int (fun _ _ => rfl))) (pe_op op_cat (pv 3) (pe_lst (pa_cons (pe_ix ix_tup (pv 1) pe_int (fun _ _ => rfl)) pa_nil))) rfl)
    (pss_one (ps_ret (pe_tup (pa_cons pe_bl (pa_cons pe_non pa_nil))))))
    pss_nil)
    (pss_cons (ps_dput hu1 (pv 0) (pe_op op_add_str pe_str (pe_ix ix_tup (pv 1) pe_int (fun _ _ => rfl))) (pe_slice sl_list (pv 4) (po_some pe_int) po_none) rfl)
    (pss_one (ps_ret (pe_tup (pa_cons pe_bl (pa_cons (pe_ix ix_list (pv 4) pe_int (fun _ _ => rfl)) pa_nil))))))))))))), ?_⟩
    (simp only [tLst, tTup, tDNewK, _root_.L2.start, cxOf_K, cxComp_K, tSeq, tAsg, gName, tRet, tRetN, tDrop, tIfS, tTest, tB, tNot, tAnd, tOr, tAndV, tOrV, tNotV, tOp, tUn, tVar, tC, tCons, tNil, tStrs, tCB, tCall, tChain, tBM, tBM0, tPart, tNoPart, tSl, tIf, tNext, tTrue, selS, Option.bind_none, Option.bind_some, Option.join_some, if_true, rI, rI0, rU, rEq, rNe, rStarts, rSlS, lenV_str, tyV, List.map_cons, List.map_nil, List.length_cons, List.length_nil, List.replicate, List.cons_append, List.nil_append, List.append_nil, Nat.reduceAdd, Nat.reduceSub, Nat.zero_add, Nat.add_zero, Nat.sub_self, List.getElem?_cons_zero, List.getElem?_cons_succ, List.set_cons_zero, List.set_cons_succ, Option.some.injEq, V.int.injEq, V.str.injEq, V.ref.injEq, V.bl.injEq, V.ty.injEq, List.cons.injEq, exists_eq_left, exists_eq_left', exists_eq_right, exists_and_left, exists_eq, and_true, true_and, and_self, and_assoc, tFld, sFld, tMeth, tMake, tDIn, tDNotIn, sDPut, tDPop1, tLcI, tNever, tDGet, tDGet1, tDGet2, tDSetd, tSetLcI])
    have ix : ∀ {j : Nat} {v : V} {G' : Hp} {R : VK}, Same H G' → D.vs[j]? = some v → R v G' → rIxT K (.ref p) (.int (j : Nat)) G' R := fun s' hv r => ⟨p, _, _, _, rfl, rfl, SqT.of (s' _ _ hp), atI_nat hv, r⟩
    have s0 := Same.refl H
    cases D with
    | leave w0 =>
      refine ix (j := 0) s0 rfl ⟨rfl, ifT rfl (ix (j := 1) s0 rfl ⟨m, a, Z, M, w0, rfl, A, O.p, hl, fun G1 s1 => ?_⟩)⟩
      by_cases hw : w0 ∈ Z.map (·.1)
      · obtain ⟨b, e, hbm⟩ := atW_in hw
        have hb : b ∈ boxes3 := O.p.inb _ hbm
        rw [e]
        refine ifF (fun z => nomatch z) ?_
        (simp only [tLst, tTup, tDNewK, _root_.L2.start, cxOf_K, cxComp_K, tSeq, tAsg, gName, tRet, tRetN, tDrop, tIfS, tTest, tB, tNot, tAnd, tOr, tAndV, tOrV, tNotV, tOp, tUn, tVar, tC, tCons, tNil, tStrs, tCB, tCall, tChain, tBM, tBM0, tPart, tNoPart, tSl, tIf, tNext, tTrue, selS, Option.bind_none, Option.bind_some, Option.join_some, if_true, rI, rI0, rU, rEq, rNe, rStarts, rSlS, lenV_str, tyV, List.map_cons, List.map_nil, List.length_cons, List.length_nil, List.replicate, List.cons_append, List.nil_append, List.append_nil, Nat.reduceAdd, Nat.reduceSub, Nat.zero_add, Nat.add_zero, Nat.sub_self, List.getElem?_cons_zero, List.getElem?_cons_succ, List.set_cons_zero, List.set_cons_succ, Option.some.injEq, V.int.injEq, V.str.injEq, V.ref.injEq, V.bl.injEq, V.ty.injEq, List.cons.injEq, exists_eq_left, exists_eq_left', exists_eq_right, exists_and_left, exists_eq, and_true, true_and, and_self, and_assoc, tFld, sFld, tMeth, tMake, tDIn, tDNotIn, sDPut, tDPop1, tLcI, tNever, tDGet, tDGet1, tDGet2, tDSetd, tSetLcI])
        have le := Nat.le_of_lt (small1000 (box_len b hb))
        have A1 := A.same s1
        refine ⟨_, rfl, _, rfl, _, rfl, b, rfl, le, m, _, rfl, A1.getL hb, a (kln b), rfl, ⟨_, SqL.of (A1.ml b hb)⟩, lc_filt (K := K) (xs := atB Z b) (f := V.int) (fun y => decide (y ≠ w0)) (A1.ml b hb) ?_ ?_ ?_⟩
        · have := atB_len Z b
          exact Nat.le_of_lt (small1000 (by omega))
        · intro y ys G4 hy s4
          (simp only [tLst, tTup, tDNewK, _root_.L2.start, cxOf_K, cxComp_K, tSeq, tAsg, gName, tRet, tRetN, tDrop, tIfS, tTest, tB, tNot, tAnd, tOr, tAndV, tOrV, tNotV, tOp, tUn, tVar, tC, tCons, tNil, tStrs, tCB, tCall, tChain, tBM, tBM0, tPart, tNoPart, tSl, tIf, tNext, tTrue, selS, Option.bind_none, Option.bind_some, Option.join_some, if_true, rI, rI0, rU, rEq, rNe, rStarts, rSlS, lenV_str, tyV, List.map_cons, List.map_nil, List.length_cons, List.length_nil, List.replicate, List.cons_append, List.nil_append, List.append_nil, Nat.reduceAdd, Nat.reduceSub, Nat.zero_add, Nat.add_zero, Nat.sub_self, List.getElem?_cons_zero, List.getElem?_cons_succ, List.set_cons_zero, List.set_cons_succ, Option.some.injEq, V.int.injEq, V.str.injEq, V.ref.injEq, V.bl.injEq, V.ty.injEq, List.cons.injEq, exists_eq_left, exists_eq_left', exists_eq_right, exists_and_left, exists_eq, and_true, true_and, and_self, and_assoc, tFld, sFld, tMeth, tMake, tDIn, tDNotIn, sDPut, tDPop1, tLcI, tNever, tDGet, tDGet1, tDGet2, tDSetd, tSetLcI])
          refine ix (j := 1) (s1.trans s4) rfl ⟨rfl, ?_⟩
          by_cases e : y = w0
          · exact bF (by simp [e]) ⟨s4, by simp [e]⟩
          · exact bT (by simp [e]) ⟨s4, by simp [e]⟩
        · intro G4 s4 q hq
          have t5 := s4.trans (Same.upd (o := .lst (((atB Z b).filter fun y => decide (y ≠ w0)).map V.int)) hq)
          have A5 := A1.same t5
          refine ⟨le, _, DPut.k (k := Sum.inr (kln b)) A5.dc (md_len a), ?_⟩
          refine k _ _ _ ((But.of (s1.trans t5)).trans But.upd) (A5.putL hb (by rw [upd_same]; show _ = some (HO.lst ((atB (leaveP Z w0) b).map V.int)); rw [atB_leave]) (fun c _ n => leave_other O.p (mem_atB.mpr hbm) n)) (setA_fr ((s1.trans s4).free hq)) ⟨fun _ => rfl, fun z => absurd hw z⟩
      · rw [atW_no hw]
        refine ifT rfl (k _ _ a (But.of s1) ?_ (fun _ => .inl rfl) ⟨fun z => absurd z hw, fun _ => rfl⟩)
        show MdJ G1 m a (leaveP Z w0) M
        rw [leave_no hw]; exact A.same s1
    | send b v =>
      have hb := ok.1
      have le := Nat.le_of_lt (small1000 (box_len b hb))
      have li := Nat.le_of_lt (small1000 (box_leni b hb))
      refine ix (j := 0) s0 rfl ⟨rfl, ifF (fun z => sSL (V.str.inj z)) (ix (j := 1) s0 rfl ⟨b, rfl, le, _, A.getL hb, ix (j := 1) s0 rfl ⟨b, rfl, li, _, A.getI hb, ix (j := 0) s0 rfl ⟨rfl, ifT rfl (nilI (A.ml b hb) fun G1 s1 => ⟨_, rfl, ?_⟩)⟩⟩⟩)⟩
      have A1 := A.same s1
      cases e : atB Z b with
      | nil =>
        rw [decide_eq_true rfl]
        refine iteF (ix (j := 0) s1 rfl ⟨rfl, ifT rfl (ix (j := 2) s1 rfl ⟨by decide, fun q hq => ?_⟩)⟩)
        have t2 := Same.upd (o := .lst [v]) hq
        have s2 := s1.trans t2
        refine ⟨a (kin b), q, _, _, rfl, rfl, t2 _ _ (A1.mi b hb), upd_same, ?_, fun r hr => ?_⟩
        · have := hm b
          exact Nat.le_of_lt (small1000 (by show (M b).length + 1 ≤ 1000; omega))
        have t3 := Same.upd (o := .lst (M b ++ [v])) hr
        have s3 := s2.trans t3
        have A3 := (A1.same t2).same t3
        refine ix (j := 1) s3 rfl ⟨b, rfl, li, _, DPut.k (k := Sum.inr (kin b)) A3.dc (md_len a), ?_⟩
        refine k _ _ _ ((But.of s3).trans But.upd) ?_ (setA_fr (k0 := kin b) (s2.free hr)) ?_
        · simp only [stepP, stepM, e]
          exact A3.putI hb upd_same
        · simp only [ToldV, e]
      | cons w0 r0 =>
        rw [decide_eq_false (fun z => nomatch z)]
        have hL := A1.ml b hb
        rw [e] at hL
        refine iteT ⟨a (kln b), _, rfl, SqL.of hL, fun q hq => ?_⟩
        rw [List.map_cons, cut1]
        have t3 := Same.upd (o := .lst (r0.map V.int)) hq
        have s3 := s1.trans t3
        have A3 := A1.same t3
        have hL3 := t3 _ _ hL
        refine ix (j := 1) s3 rfl ⟨b, rfl, le, _, DPut.k (k := Sum.inr (kln b)) A3.dc (md_len a), a (kln b), _, _, .int w0, rfl, rfl, SqL.of (by rw [upd_ne (ne_of hL3 A3.dc (fun z => nomatch z))]; exact hL3), atI_nat (j := 0) rfl, ?_⟩
        refine k _ _ _ ((But.of s3).trans But.upd) ?_ (setA_fr (k0 := kln b) (s1.free hq)) ?_
        · simp only [stepP, stepM, e]
          have m0 : w0 ∈ atB Z b := by rw [e]; exact List.mem_cons_self
          exact A3.putL hb (by rw [upd_same, leave_first O.p e]) (fun c _ n => leave_other O.p m0 n)
        · simp only [ToldV, e]
    | take b w0 =>
      have hb : b ∈ boxes3 := ok
      have le := Nat.le_of_lt (small1000 (box_len b hb))
      have li := Nat.le_of_lt (small1000 (box_leni b hb))
      refine ix (j := 0) s0 rfl ⟨rfl, ifF (fun z => sTL (V.str.inj z)) (ix (j := 1) s0 rfl ⟨b, rfl, le, _, A.getL hb, ix (j := 1) s0 rfl ⟨b, rfl, li, _, A.getI hb, ix (j := 0) s0 rfl ⟨rfl, ifF (fun z => sST (V.str.inj z).symm) (iteF (ix (j := 0) s0 rfl ⟨rfl, ifF (fun z => sST (V.str.inj z).symm) (ix (j := 2) s0 rfl ⟨m, a, Z, M, w0, rfl, A, O.p, hl, fun G1 s1 => ?_⟩)⟩))⟩⟩⟩)⟩
      have A1 := A.same s1
      by_cases hw : w0 ∈ Z.map (·.1)
      · obtain ⟨b', e, _⟩ := atW_in hw
        rw [e]
        refine bT (by simp) (k _ _ a (But.of s1) ?_ (fun _ => .inl rfl) ⟨fun _ => rfl, fun z => absurd hw z⟩)
        simp only [stepP, stepM, if_pos hw]
        exact A1
      · rw [atW_no hw]
        refine bF (by simp) (nilV (A1.mi b hb) (isLet_flat (O.fl b)) fun G2 s2' => ⟨_, rfl, ?_⟩)
        have A2 := A1.same s2'
        have s2 := s1.trans s2'
        clear A1 s1 s2'
        cases e : M b with
        | nil =>
          rw [decide_eq_true rfl]
          refine iteT (ix (j := 2) s2 rfl ⟨by decide, fun q hq => ?_⟩)
          have t3 := Same.upd (o := .lst [V.int w0]) hq
          refine ⟨a (kln b), q, _, _, rfl, rfl, t3 _ _ (A2.ml b hb), upd_same, ?_, fun r hr => ?_⟩
          · have := atB_len Z b
            rw [List.length_map]
            exact Nat.le_of_lt (small1000 (by show (atB Z b).length + 1 ≤ 1000; omega))
          have t4 := Same.upd (o := .lst ((atB Z b).map V.int ++ [V.int w0])) hr
          have s4 := (s2.trans t3).trans t4
          have A4 := (A2.same t3).same t4
          refine ix (j := 1) s4 rfl ⟨b, rfl, le, _, DPut.k (k := Sum.inr (kln b)) A4.dc (md_len a), by decide, fun u hu' => ?_⟩
          refine k _ _ _ (((But.of s4).trans But.upd).trans (But.of (Same.upd hu'))) ?_ (setA_fr (k0 := kln b) ((s2.trans t3).free hr)) ⟨fun z => absurd z hw, fun _ => ?_⟩
          · simp only [stepP, stepM, if_neg hw, e]
            exact (A4.putL hb (by rw [upd_same, atB_add, if_pos rfl, List.map_append]; rfl) (fun c _ n => by rw [atB_add, if_neg n])).same (Same.upd hu')
          · simp only [e]
            exact ⟨u, rfl, upd_same⟩
        | cons y r0 =>
          rw [decide_eq_false (fun z => nomatch z)]
          have hL := A2.mi b hb
          rw [e] at hL
          refine iteF ⟨a (kin b), _, rfl, SqL.of hL, fun q hq => ?_⟩
          rw [cut1]
          have t3 := Same.upd (o := .lst r0) hq
          have s3 := s2.trans t3
          have A3 := A2.same t3
          have hL3 := t3 _ _ hL
          refine ix (j := 1) s3 rfl ⟨b, rfl, li, _, DPut.k (k := Sum.inr (kin b)) A3.dc (md_len a), a (kin b), _, _, y, rfl, rfl, SqL.of (by rw [upd_ne (ne_of hL3 A3.dc (fun z => nomatch z))]; exact hL3), atI_nat (j := 0) rfl, by decide, fun u hu' => ?_⟩
          refine k _ _ _ (((But.of s3).trans But.upd).trans (But.of (Same.upd hu'))) ?_ (setA_fr (k0 := kin b) (s2.free hq)) ⟨fun z => absurd z hw, fun _ => ?_⟩
          · simp only [stepP, stepM, if_neg hw, e]
            exact (A3.putI hb upd_same).same (Same.upd hu')
          · simp only [e]
            exact ⟨u, rfl, upd_same⟩
theorem sc_l_done : FnScope ["_law_boxes_here", "_law_deed"] ["_law_boxes_here", "_law_deed"] (defScope (top 14)) := ⟨rfl, rfl, rfl, by decide +kernel, rfl, by decide +kernel, by decide +kernel⟩
theorem ok_l_done (T : Tx K mg)
    (G_Boxes_send : FnOk P w K mg base CX0 2 T.m_Boxes_send.f T.m_Boxes_send.fd ["self", "box", "letter"] (spSend T.C_Boxes T.C_Lines))
    (G_Boxes_take : FnOk P w K mg base (CXX P w) 2 T.m_Boxes_take.f T.m_Boxes_take.fd ["self", "box", "who"] (spTake T.C_Boxes T.C_Lines T.C_NotWaiting))
    (G_Boxes_leave : FnOk P w K mg base (CXX P w) 2 T.m_Boxes_leave.f T.m_Boxes_leave.fd ["self", "who"] (spBLeave T.C_Boxes T.C_Lines T.C_NotWaiting)) : FnOk P w K mg base CX0 3 T.d_l_done.f T.d_l_done.fd ["_law_boxes_here", "_law_deed"] (spDone T.C_Boxes T.C_Lines) := by
  refine T.d_l_done.F.okT sc_l_done T.x_NotWaiting rfl (fun vs H Q E h => ?_) (fun _ _ => rfl) (by decide) (fun cdv A outer s H vs Q E hr h => ?_)
  · obtain ⟨x, t, d, m, p, P, kvs, M, D, rfl, _⟩ := h
    rfl
  · obtain ⟨x, t, d, m, p, Z, kvs, M, D, rfl, B, Pr, KO, hp, ok, k⟩ := h
    have hu := hu100 hr
    have hu1 := hu_of hr
    obtain ⟨⟨dx, h1⟩, Bl, Ml, nmd⟩ := id B
    refine ⟨_, (pss_cons (ps_if (pt_cmpR op_eq (pe_ix ix_tup (pv 1) pe_int (fun _ _ => rfl)) pe_str (nomark _))
    (pss_one (ps_ret (pe_meth (pv 0) T.k_Boxes T.m_Boxes_send.me G_Boxes_send (hr.mono (by omega)) T.m_Boxes_send.b .nil pass0 (pa_cons (pe_ix ix_tup (pv 1) pe_int (fun _ _ => rfl)) (pa_cons (pe_ix ix_tup (pv 1) pe_int (fun _ _ => rfl)) pa_nil)))))
    pss_nil)
    (pss_cons (ps_if (pt_cmpR op_eq (pe_ix ix_tup (pv 1) pe_int (fun _ _ => rfl)) pe_str (nomark _))
    (pss_one (ps_ret (pe_meth (pv 0) T.k_Boxes T.m_Boxes_take.me G_Boxes_take (hr.mono (by omega)) T.m_Boxes_take.b .nil passT (pa_cons (pe_ix ix_tup (pv 1) pe_int (fun _ _ => rfl)) (pa_cons (pe_ix ix_tup (pv 1) pe_int (fun _ _ => rfl)) pa_nil)))))
    pss_nil)
    (pss_one (ps_ret (pe_meth (pv 0) T.k_Boxes T.m_Boxes_leave.me G_Boxes_leave (hr.mono (by omega)) T.m_Boxes_leave.b .nil passT (pa_cons (pe_ix ix_tup (pv 1) pe_int (fun _ _ => rfl)) pa_nil)))))), ?_⟩
    (simp only [tLst, tTup, tDNewK, _root_.L2.start, cxOf_K, cxComp_K, tSeq, tAsg, gName, tRet, tRetN, tDrop, tIfS, tTest, tB, tNot, tAnd, tOr, tAndV, tOrV, tNotV, tOp, tUn, tVar, tC, tCons, tNil, tStrs, tCB, tCall, tChain, tBM, tBM0, tPart, tNoPart, tSl, tIf, tNext, tTrue, selS, Option.bind_none, Option.bind_some, Option.join_some, if_true, rI, rI0, rU, rEq, rNe, rStarts, rSlS, lenV_str, tyV, List.map_cons, List.map_nil, List.length_cons, List.length_nil, List.replicate, List.cons_append, List.nil_append, List.append_nil, Nat.reduceAdd, Nat.reduceSub, Nat.zero_add, Nat.add_zero, Nat.sub_self, List.getElem?_cons_zero, List.getElem?_cons_succ, List.set_cons_zero, List.set_cons_succ, Option.some.injEq, V.int.injEq, V.str.injEq, V.ref.injEq, V.bl.injEq, V.ty.injEq, List.cons.injEq, exists_eq_left, exists_eq_left', exists_eq_right, exists_and_left, exists_eq, and_true, true_and, and_self, and_assoc, tFld, sFld, tMeth, tMake, tDIn, tDNotIn, sDPut, tDPop1, tLcI, tNever, tDGet, tDGet1, tDGet2, tDSetd, tSetLcI])
    have ix : ∀ {j : Nat} {v : V} {R : VK}, D.vs[j]? = some v → R v H → rIxT K (.ref p) (.int (j : Nat)) H R := fun hv r => ⟨p, _, _, _, rfl, rfl, SqT.of hp, atI_nat hv, r⟩
    cases D with
    | send b n =>
      refine ix (j := 0) rfl ⟨rfl, ifT rfl ⟨dx, _, h1, flB_no t m (by decide +kernel) (by decide +kernel), ix (j := 1) rfl (ix (j := 2) rfl ⟨x, t, d, m, Z, kvs, M, b, n, rfl, B, Pr, fun e H' kvs' st kk B' => ?_, fun w0 r e H' st B' => ?_⟩)⟩⟩
      · refine k _ _ kvs' st ?_ ?_ ?_
        · rcases kk with rfl | ⟨q, rfl, hn⟩
          · exact KO
          · exact KO.new ok.1 hn
        · simp only [stepP, stepM, e]; exact B'
        · simp only [ToldV, e]
      · refine k _ _ kvs st KO ?_ ?_
        · simp only [stepP, stepM, e]; exact B'
        · simp only [ToldV, e]
    | take b w0 =>
      refine ix (j := 0) rfl ⟨rfl, ifF (fun z => sST (V.str.inj z).symm) (ix (j := 0) rfl ⟨rfl, ifT rfl ⟨dx, _, h1, flB_no t m (by decide +kernel) (by decide +kernel), ix (j := 1) rfl (ix (j := 2) rfl ⟨x, t, d, m, Z, kvs, M, b, w0, rfl, B, Pr, fun hw => ⟨rfl, ?_⟩, fun hw e l H' st B' h' => ?_, fun hw y r e l H' st B' h' => ?_⟩)⟩⟩)⟩
      · refine k _ _ kvs (Stp.of (Same.refl _)) KO ?_ ⟨fun _ => rfl, fun z => absurd hw z⟩
        simp only [stepP, stepM, if_pos hw]; exact B
      · refine k _ _ kvs st KO ?_ ⟨fun z => absurd z hw, fun _ => ?_⟩
        · simp only [stepP, stepM, if_neg hw, e]; exact B'
        · simp only [e]; exact ⟨l, rfl, h'⟩
      · refine k _ _ kvs st KO ?_ ⟨fun z => absurd z hw, fun _ => ?_⟩
        · simp only [stepP, stepM, if_neg hw, e]; exact B'
        · simp only [e]; exact ⟨l, rfl, h'⟩
    | leave w0 =>
      refine ix (j := 0) rfl ⟨rfl, ifF (fun z => sSL (V.str.inj z).symm) (ix (j := 0) rfl ⟨rfl, ifF (fun z => sTL (V.str.inj z).symm) ⟨dx, _, h1, flB_no t m (by decide +kernel) (by decide +kernel), ix (j := 1) rfl ⟨x, t, d, m, Z, kvs, M, w0, rfl, B, fun hw H' st B' => k _ _ kvs st KO B' ⟨fun _ => rfl, fun z => absurd hw z⟩, fun hw => ⟨rfl, ?_⟩⟩⟩⟩)⟩
      refine k _ _ kvs (Stp.of (Same.refl _)) KO ?_ ⟨fun z => absurd z hw, fun _ => rfl⟩
      show BxAt _ _ _ _ _ _ _ (leaveP Z w0) _ _
      rw [leave_no hw]; exact B
theorem sc_l_alike : FnScope ["_law_found", "_law_due"] ["_law_found", "_law_due"] (defScope (top 15)) := ⟨rfl, rfl, rfl, by decide +kernel, rfl, by decide +kernel, by decide +kernel⟩
theorem ok_l_alike (T : Tx K mg) : FnOk P w K mg base CX0 1 T.d_l_alike.f T.d_l_alike.fd ["_law_found", "_law_due"] (spAlike K) := by
  refine T.d_l_alike.F.ok sc_l_alike (fun vs H Q E h => ?_) (fun cdv A outer s H vs Q E hr h => ?_)
  · obtain ⟨v, u, P, M, D, rfl, _⟩ := h
    rfl
  · obtain ⟨v, u, Z, M, D, rfl, fv, fu, O, k⟩ := h
    have hu := hu100 hr
    have hu1 := hu_of hr
    refine ⟨_, (pss_cons (ps_if (PW.pt (pw_and (pt_val (pe_callB call_isinst (by rfl) T.n_isinstance bt_isinstance (pa_cons (pv 1) (pa_cons (pe_bltn (v := .ty "tuple") rfl T.n_tuple bt_tuple rfl) pa_nil)))) (pw_and1 (pt_val (pe_callB call_isinst (by rfl) T.n_isinstance bt_isinstance (pa_cons (pv 0) (pa_cons (pe_bltn (v := .ty "tuple") rfl T.n_tuple bt_tuple rfl) pa_nil)))))))
    (pss_one (ps_ret (pe_and (pe_cmpR (op_eqM hu) (pv 0) (pv 1) (nomark _)) (pe_and (pe_callB call_isinst (by rfl) T.n_isinstance bt_isinstance (pa_cons (pe_ix ix_tup (pv 0) pe_int (fun _ _ => rfl)) (pa_cons (pe_bltn (v := .ty "bool") rfl T.n_bool bt_bool rfl) pa_nil))) (pe_one (pe_not (pe_callB call_isinst (by rfl) T.n_isinstance bt_isinstance (pa_cons (pe_ix ix_tup (pv 0) pe_int (fun _ _ => rfl)) (pa_cons (pe_bltn (v := .ty "bool") rfl T.n_bool bt_bool rfl) pa_nil)))))))))
    pss_nil)
    (pss_one (ps_ret (pe_and (pe_cmpR (op_eqM hu) (pv 0) (pv 1) (nomark _)) (pe_one (pe_cmpR op_eq (pe_callB call_isinst (by rfl) T.n_isinstance bt_isinstance (pa_cons (pv 0) (pa_cons (pe_bltn (v := .ty "bool") rfl T.n_bool bt_bool rfl) pa_nil))) (pe_callB call_isinst (by rfl) T.n_isinstance bt_isinstance (pa_cons (pv 1) (pa_cons (pe_bltn (v := .ty "bool") rfl T.n_bool bt_bool rfl) pa_nil))) (nomark _))))))), ?_⟩
    (simp only [tLst, tTup, tDNewK, _root_.L2.start, cxOf_K, cxComp_K, tSeq, tAsg, gName, tRet, tRetN, tDrop, tIfS, tTest, tB, tNot, tAnd, tOr, tAndV, tOrV, tNotV, tOp, tUn, tVar, tC, tCons, tNil, tStrs, tCB, tCall, tChain, tBM, tBM0, tPart, tNoPart, tSl, tIf, tNext, tTrue, selS, Option.bind_none, Option.bind_some, Option.join_some, if_true, rI, rI0, rU, rEq, rNe, rStarts, rSlS, lenV_str, tyV, List.map_cons, List.map_nil, List.length_cons, List.length_nil, List.replicate, List.cons_append, List.nil_append, List.append_nil, Nat.reduceAdd, Nat.reduceSub, Nat.zero_add, Nat.add_zero, Nat.sub_self, List.getElem?_cons_zero, List.getElem?_cons_succ, List.set_cons_zero, List.set_cons_succ, Option.some.injEq, V.int.injEq, V.str.injEq, V.ref.injEq, V.bl.injEq, V.ty.injEq, List.cons.injEq, exists_eq_left, exists_eq_left', exists_eq_right, exists_and_left, exists_eq, and_true, true_and, and_self, and_assoc, tFld, sFld, tMeth, tMake, tDIn, tDNotIn, sDPut, tDPop1, tLcI, tNever, tDGet, tDGet1, tDGet2, tDSetd, tSetLcI])
    rcases told_two fv fu O with ⟨rfl, h⟩ | ⟨t1, t2, c, y, rfl, rfl, h1, h2, hy⟩
    · rcases h with rfl | ⟨n, rfl⟩ | ⟨z, rfl⟩
      · exact ⟨_, .non, false, rfl, iteF (iteF (.inl ⟨rfl, ifT rfl ⟨_, .non, false, rfl, _, .non, false, rfl, rfl, k⟩⟩))⟩
      · exact ⟨_, .int n, false, rfl, iteF (iteF (.inl ⟨rfl, ifT rfl ⟨_, .int n, false, rfl, _, .int n, false, rfl, rfl, k⟩⟩))⟩
      · exact ⟨_, .str z, false, rfl, iteF (iteF (.inl ⟨rfl, ifT rfl ⟨_, .str z, false, rfl, _, .str z, false, rfl, rfl, k⟩⟩))⟩
    · have hf : [V.bl c, y].all flatV = true := by
        rcases hy with rfl | ⟨n, rfl⟩ | ⟨z, rfl⟩ <;> rfl
      have he : ((List.range (min [V.bl c, y].length [V.bl c, y].length)).all fun i => eqV (([V.bl c, y][i]?).getD .non) (([V.bl c, y][i]?).getD .non)) = true := by
        have h1 : eqV (.bl c) (.bl c) = true := by cases c <;> rfl
        have h2 : eqV y y = true := by
          rcases hy with rfl | ⟨n, rfl⟩ | ⟨z, rfl⟩
          · rfl
          · exact let_self rfl
          · exact let_self rfl
        show (eqV (.bl c) (.bl c) && (eqV y y && true)) = true
        rw [h1, h2]; rfl
      refine ⟨_, .tup h2, true, rfl, iteT ⟨_, .tup h1, true, rfl, iteT (.inr ⟨t1, t2, _, _, 0, _, rfl, rfl, SqT.of h1, SqT.of h2, by decide, eqIt_flat hf hf, _, rfl, bT (by rw [he]; rfl) ⟨t1, _, _, .bl c, rfl, rfl, SqT.of h1, atI_nat (j := 0) rfl, _, .bl c, true, rfl, iteT ⟨t1, _, _, y, rfl, rfl, SqT.of h1, atI_nat (j := 1) rfl, ?_⟩⟩⟩)⟩⟩
      rcases hy with rfl | ⟨n, rfl⟩ | ⟨z, rfl⟩
      · exact ⟨_, .non, false, rfl, k⟩
      · exact ⟨_, .int n, false, rfl, k⟩
      · exact ⟨_, .str z, false, rfl, k⟩
theorem sc_l_same : FnScope ["_law_boxes_here", "_law_model", "_law_x", "_law_many", "_law_k", "_law_box", "_law_who", "_law_having"] ["_law_boxes_here", "_law_model", "_law_x", "_law_many"] (defScope (top 16)) := ⟨rfl, rfl, rfl, by decide +kernel, rfl, by decide +kernel, by decide +kernel⟩
theorem ok_l_same (T : Tx K mg)
    (G_Boxes_letters : FnOk P w K mg base CX0 1 T.m_Boxes_letters.f T.m_Boxes_letters.fd ["self", "box"] (spLetters T.C_Boxes T.C_Lines))
    (G_Boxes_waiting : FnOk P w K mg base CX0 2 T.m_Boxes_waiting.f T.m_Boxes_waiting.fd ["self", "box"] (spBWaiting T.C_Boxes T.C_Lines))
    (G_Boxes_waits_at : FnOk P w K mg base CX0 2 T.m_Boxes_waits_at.f T.m_Boxes_waits_at.fd ["self", "who"] (spBWaitsAt T.C_Boxes T.C_Lines))
    (G_Boxes_busy : FnOk P w K mg base CX0 2 T.m_Boxes_busy.f T.m_Boxes_busy.fd ["self"] (spBBusy T.C_Boxes T.C_Lines))
    (G_l_whos : FnOk P w K mg base CX0 1 T.d_l_whos.f T.d_l_whos.fd [] (spWhos))
    (G_l_boxes : FnOk P w K mg base CX0 1 T.d_l_boxes.f T.d_l_boxes.fd [] (spBoxes))
    (G_l_at : FnOk P w K mg base CX0 2 T.d_l_at.f T.d_l_at.fd ["_law_model", "_law_who"] (spAt K)) : FnOk P w K mg base CX0 3 T.d_l_same.f T.d_l_same.fd ["_law_boxes_here", "_law_model", "_law_x", "_law_many"] (spSame T.C_Boxes T.C_Lines) := by
  refine T.d_l_same.F.ok sc_l_same (fun vs H Q E h => ?_) (fun cdv A outer s H vs Q E hr h => ?_)
  · obtain ⟨x, t, d, q, m, a, P, kvs, M, z, n, rfl, _⟩ := h
    rfl
  · obtain ⟨x, t, d, q, m, a, Z, kvs, M, z, n, rfl, B, Pr, KO, A, n0, n4, k⟩ := h
    have hu := hu100 hr
    have hu1 := hu_of hr
    have O := Pr.ok
    have hl := Pr.hp
    have ins : ∀ {G : Hp}, Same H G → ∃ dx, G x = some (.ins T.C_Boxes dx (flB t q)) := fun sG => (B.same sG).ob
    refine ⟨_, (pss_cons (ps_for PassesOwn.never rfl (pi_list (pe_slice sl_list (pe_ix ix_list (pe_lst (pa_cons (pe_lst (pa_cons pe_int (pa_cons pe_int (pa_cons pe_int (pa_cons pe_int pa_nil))))) (pa_cons (pe_lst (pa_cons pe_int (pa_cons pe_int (pa_cons pe_int (pa_cons pe_int pa_nil))))) (pa_cons (pe_lst (pa_cons pe_int (pa_cons pe_int (pa_cons pe_int (pa_cons pe_int pa_nil))))) (pa_cons (pe_lst (pa_cons pe_int (pa_cons pe_int (pa_cons pe_int (pa_cons pe_int pa_nil))))) pa_nil))))) (pe_op op_mod (pv 2) pe_int) (fun _ _ => rfl)) po_none (po_some (pv 3)))) (pg_name (i := 4) sc_l_same.nd rfl (Or.inl rfl))
    (pss_cons (ps_for PassesOwn.never rfl (pi_list (pe_lc (N' := ["_law_j", "_law_x"]) (sel := [none, some 2]) rfl rfl rfl (pi_range1 rfl T.n_range (pa_cons pe_int pa_nil)) (gk_name rfl) (fun _ _ _ _ _ => ⟨(pg_name (i := 0) (show (["_law_j", "_law_x"] : List Str).Nodup by decide +kernel) rfl (Or.inl rfl)), pts_nil, (pe_ix (ix_listK (K := K) rfl) (pe_call0 G_l_boxes (hr.mono (by omega)) rfl T.d_l_boxes.hm T.d_l_boxes.F.kp T.d_l_boxes.b .nil pass0) (pe_op op_mod (pe_op op_add (pe_op op_fdiv (pv 1) pe_int) (pv 0)) pe_int) (fun _ _ => rfl))⟩))) (pg_name (i := 5) sc_l_same.nd rfl (Or.inl rfl))
    (pss_mid (ps_if (PW.pt (pw_and (pt_cmpR op_eq (pv 4) pe_int (nomark _)) (pw_and1 (pt_cmpR (op_neL hu) (pe_meth (pv 0) T.k_Boxes T.m_Boxes_letters.me G_Boxes_letters (hr.mono (by omega)) T.m_Boxes_letters.b .nil pass0 (pa_cons (pv 5) pa_nil)) (pe_dget hu1 (pv 1) (pe_op op_add_str pe_str (pv 5)) (fun _ _ => rfl)) (nomark _)))))
    (pss_one (ps_ret pe_bl))
    pss_nil)
    (pss_one (ps_if (PW.pt (pw_and (pt_cmpR op_eq (pv 4) pe_int (nomark _)) (pw_and1 (pt_cmpR (op_neL hu) (pe_meth (pv 0) T.k_Boxes T.m_Boxes_waiting.me G_Boxes_waiting (hr.mono (by omega)) T.m_Boxes_waiting.b .nil pass0 (pa_cons (pv 5) pa_nil)) (pe_dget hu1 (pv 1) (pe_op op_add_str pe_str (pv 5)) (fun _ _ => rfl)) (nomark _)))))
    (pss_one (ps_ret pe_bl))
    pss_nil))))
    (pss_cons (ps_for PassesOwn.never rfl (pi_list (pe_lc (N' := ["_law_j", "_law_x"]) (sel := [none, some 2]) rfl rfl rfl (pi_range1 rfl T.n_range (pa_cons pe_int pa_nil)) (gk_name rfl) (fun _ _ _ _ _ => ⟨(pg_name (i := 0) (show (["_law_j", "_law_x"] : List Str).Nodup by decide +kernel) rfl (Or.inl rfl)), pts_nil, (pe_ix (ix_listK (K := K) rfl) (pe_call0 G_l_whos (hr.mono (by omega)) rfl T.d_l_whos.hm T.d_l_whos.F.kp T.d_l_whos.b .nil pass0) (pe_op op_mod (pe_op op_add (pe_op op_fdiv (pv 1) pe_int) (pv 0)) pe_int) (fun _ _ => rfl))⟩))) (pg_name (i := 6) sc_l_same.nd rfl (Or.inl rfl))
    (pss_one (ps_if (PW.pt (pw_and (pt_cmpR op_eq (pv 4) pe_int (nomark _)) (pw_and1 (pt_cmpR (op_neM hu) (pe_meth (pv 0) T.k_Boxes T.m_Boxes_waits_at.me G_Boxes_waits_at (hr.mono (by omega)) T.m_Boxes_waits_at.b .nil pass0 (pa_cons (pv 6) pa_nil)) (pe_call G_l_at (hr.mono (by omega)) rfl T.d_l_at.hm T.d_l_at.F.kp T.d_l_at.b .nil pass0 (pa_cons (pv 1) (pa_cons (pv 6) pa_nil))) (nomark _)))))
    (pss_one (ps_ret pe_bl))
    pss_nil)))
    (pss_cons (ps_setLc (i := 7) sc_l_same.nd rfl (Or.inl rfl) (N' := ["_law_box", "_law_model"]) (sel := [none, some 1]) rfl rfl rfl (pi_list (pe_call0 G_l_boxes (hr.mono (by omega)) rfl T.d_l_boxes.hm T.d_l_boxes.F.kp T.d_l_boxes.b .nil pass0)) (gk_name rfl) (fun _ _ _ _ _ => ⟨(pg_name (i := 0) (show (["_law_box", "_law_model"] : List Str).Nodup by decide +kernel) rfl (Or.inl rfl)), (pts_one (pt_cmpR (op_neLK (K := K) rfl hu) (pe_op op_cat (pe_dget hu1 (pv 1) (pe_op op_add_str pe_str (pv 0)) (fun _ _ => rfl)) (pe_dget hu1 (pv 1) (pe_op op_add_str pe_str (pv 0)) (fun _ _ => rfl))) (pe_lst pa_nil) (nomark _))), (pv 0)⟩) rfl)
    (pss_one (ps_if (PW.pt (pw_and (pt_cmpR op_eq (pv 4) pe_int (nomark _)) (pw_and1 (pt_cmpR (op_neL hu) (pe_meth0 (pv 0) T.k_Boxes T.m_Boxes_busy.me G_Boxes_busy (hr.mono (by omega)) T.m_Boxes_busy.b .nil pass0) (pv 7) (nomark _)))))
    (pss_one (ps_ret pe_bl))
    pss_nil))))))
    (pss_mid (ps_if (pt_cmpR op_eq (pv 3) pe_int (nomark _))
    (pss_cons (ps_expr (pe_bm PySem.F.plainAttrs_list PySem.F.slot_list_append PySem.F.type_list_append mt_append (pe_meth (pv 0) T.k_Boxes T.m_Boxes_letters.me G_Boxes_letters (hr.mono (by omega)) T.m_Boxes_letters.b .nil pass0 (pa_cons pe_str pa_nil)) (pa_cons pe_str pa_nil)))
    (pss_cons (ps_expr (pe_bm0 PySem.F.plainAttrs_list PySem.F.slot_list_clear PySem.F.type_list_clear mt_clear (pe_meth (pv 0) T.k_Boxes T.m_Boxes_waiting.me G_Boxes_waiting (hr.mono (by omega)) T.m_Boxes_waiting.b .nil pass0 (pa_cons pe_str pa_nil))))
    (pss_one (ps_expr (pe_bm PySem.F.plainAttrs_list PySem.F.slot_list_append PySem.F.type_list_append mt_append (pe_meth0 (pv 0) T.k_Boxes T.m_Boxes_busy.me G_Boxes_busy (hr.mono (by omega)) T.m_Boxes_busy.b .nil pass0) (pa_cons pe_str pa_nil))))))
    pss_nil)
    (pss_mid (ps_if (PW.pt (pw_and (pt_cmpR op_eq (pv 3) pe_int (nomark _)) (pw_and1 (pt_cmpR (op_neL hu) (pe_meth (pv 0) T.k_Boxes T.m_Boxes_letters.me G_Boxes_letters (hr.mono (by omega)) T.m_Boxes_letters.b .nil pass0 (pa_cons pe_str pa_nil)) (pe_dget hu1 (pv 1) pe_str (fun _ _ => rfl)) (nomark _)))))
    (pss_one (ps_ret pe_bl))
    pss_nil)
    (pss_one (ps_ret (pe_or (pe_cmpR op_lt (pv 3) pe_int (nomark _)) (pe_one (pe_and (pe_cmpR (op_eqL hu) (pe_meth (pv 0) T.k_Boxes T.m_Boxes_waiting.me G_Boxes_waiting (hr.mono (by omega)) T.m_Boxes_waiting.b .nil pass0 (pa_cons pe_str pa_nil)) (pe_lst pa_nil) (nomark _)) (pe_one (pe_cmpR (op_eqL hu) (pe_meth (pv 0) T.k_Boxes T.m_Boxes_letters.me G_Boxes_letters (hr.mono (by omega)) T.m_Boxes_letters.b .nil pass0 (pa_cons pe_str pa_nil)) (pe_lst pa_nil) (nomark _))))))))))), ?_⟩
    (simp only [tLst, tTup, tDNewK, _root_.L2.start, cxOf_K, cxComp_K, tSeq, tAsg, gName, tRet, tRetN, tDrop, tIfS, tTest, tB, tNot, tAnd, tOr, tAndV, tOrV, tNotV, tOp, tUn, tVar, tC, tCons, tNil, tStrs, tCB, tCall, tChain, tBM, tBM0, tPart, tNoPart, tSl, tIf, tNext, tTrue, selS, Option.bind_none, Option.bind_some, Option.join_some, if_true, rI, rI0, rU, rEq, rNe, rStarts, rSlS, lenV_str, tyV, List.map_cons, List.map_nil, List.length_cons, List.length_nil, List.replicate, List.cons_append, List.nil_append, List.append_nil, Nat.reduceAdd, Nat.reduceSub, Nat.zero_add, Nat.add_zero, Nat.sub_self, List.getElem?_cons_zero, List.getElem?_cons_succ, List.set_cons_zero, List.set_cons_succ, Option.some.injEq, V.int.injEq, V.str.injEq, V.ref.injEq, V.bl.injEq, V.ty.injEq, List.cons.injEq, exists_eq_left, exists_eq_left', exists_eq_right, exists_and_left, exists_eq, and_true, true_and, and_self, and_assoc, tFld, sFld, tMeth, tMake, tDIn, tDNotIn, sDPut, tDPop1, tLcI, tNever, tDGet, tDGet1, tDGet2, tDSetd, tSetLcI])
    refine ⟨by decide, fun p1 h1 => ⟨by decide, fun p2 h2 => ⟨by decide, fun p3 h3 => ⟨by decide, fun p4 h4 => ⟨(by show (4 : Nat) ≤ sizeLine; decide), fun p5 h5 => ?_⟩⟩⟩⟩⟩
    have t1 := Same.upd (o := .lst (([0, 1, 2, 3] : List Int).map V.int)) h1
    have t2 := Same.upd (o := .lst (([3, 2, 1, 0] : List Int).map V.int)) h2
    have t3 := Same.upd (o := .lst (([2, 0, 3, 1] : List Int).map V.int)) h3
    have t4 := Same.upd (o := .lst (([1, 3, 0, 2] : List Int).map V.int)) h4
    have t5 := Same.upd (o := .lst [V.ref p1, .ref p2, .ref p3, .ref p4]) h5
    have s5 := (((t1.trans t2).trans t3).trans t4).trans t5
    obtain ⟨j, hj, ej⟩ : ∃ j : Nat, j < 4 ∧ z % 4 = (j : Nat) := ⟨(z % 4).toNat, by omega, by omega⟩
    have hG : ∃ (G : Hp), G = upd (upd (upd (upd (upd H p1 (.lst (([0, 1, 2, 3] : List Int).map V.int))) p2 (.lst (([3, 2, 1, 0] : List Int).map V.int))) p3 (.lst (([2, 0, 3, 1] : List Int).map V.int))) p4 (.lst (([1, 3, 0, 2] : List Int).map V.int))) p5 (.lst [V.ref p1, .ref p2, .ref p3, .ref p4]) := ⟨_, rfl⟩
    obtain ⟨G5, eG⟩ := hG
    have e5 : G5 p5 = some (.lst [V.ref p1, .ref p2, .ref p3, .ref p4]) := by rw [eG]; exact upd_same
    have hq : ∃ (r : Addr) (ks : List Int), [V.ref p1, .ref p2, .ref p3, .ref p4][j]? = some (.ref r) ∧ G5 r = some (.lst (ks.map V.int)) := by
      rw [eG]
      match j, hj with
      | 0, _ => exact ⟨p1, [0, 1, 2, 3], rfl, t5 _ _ (t4 _ _ (t3 _ _ (t2 _ _ upd_same)))⟩
      | 1, _ => exact ⟨p2, [3, 2, 1, 0], rfl, t5 _ _ (t4 _ _ (t3 _ _ upd_same))⟩
      | 2, _ => exact ⟨p3, [2, 0, 3, 1], rfl, t5 _ _ (t4 _ _ upd_same)⟩
      | 3, _ => exact ⟨p4, [1, 3, 0, 2], rfl, t5 _ _ upd_same⟩
    obtain ⟨r, ks, hq1, hq2⟩ := hq
    refine ⟨_, rfl, z, 4, rfl, rfl, (by show (0 : Int) < 4; decide), p5, _, _, .ref r, rfl, rfl, SqL.of (eG ▸ e5), by rw [ej]; exact atI_nat hq1, _, rfl, n, rfl, r, _, rfl, SqL.of (eG ▸ hq2), fun ca hca => ?_⟩
    obtain ⟨ms, hms, hml⟩ := cut_ints ks none (some n)
    rw [hms]
    have s6 : Same H (upd _ ca (.lst (ms.map V.int))) := s5.trans (Same.upd (o := .lst (ms.map V.int)) hca)
    have e6 : upd (upd (upd (upd (upd (upd H p1 (.lst [.int 0, .int 1, .int 2, .int 3])) p2 (.lst [.int 3, .int 2, .int 1, .int 0])) p3 (.lst [.int 2, .int 0, .int 3, .int 1])) p4 (.lst [.int 1, .int 3, .int 0, .int 2])) p5 (.lst [V.ref p1, .ref p2, .ref p3, .ref p4])) ca (.lst (ms.map V.int)) ca = some (.lst (ms.map V.int)) := upd_same
    refine ⟨ca, rfl, ⟨_, SqL.of upd_same⟩, ?_⟩
    generalize upd (upd (upd (upd (upd (upd H p1 (.lst [.int 0, .int 1, .int 2, .int 3])) p2 (.lst [.int 3, .int 2, .int 1, .int 0])) p3 (.lst [.int 2, .int 0, .int 3, .int 1])) p4 (.lst [.int 1, .int 3, .int 0, .int 2])) p5 (.lst [V.ref p1, .ref p2, .ref p3, .ref p4])) ca (.lst (ms.map V.int)) = G6 at s6 e6 ⊢
    clear hca hq2 hq1 e5 eG s5 t5 t4 t3 t2 t1 h5 h4 h3 h2 h1
    refine for_list (K := K) (a := ca) (xs := ms.map V.int) (fun i σ G => ∃ (v4 v5 v6 v7 : Option V), σ = [some (.ref x), some (.ref m), some (.int z), some (.int n), v4, v5, v6, v7] ∧ Same G6 G) ⟨_, _, _, _, rfl, Same.refl _⟩ (fun i σ G _ ⟨_, _, _, _, _, sG⟩ => SqL.of (sG _ _ e6)) ?_ ?_
    · rintro i y σ G hi ⟨v4, v5, v6, v7, rfl, sG⟩
      rw [List.getElem?_map] at hi
      cases en : ms[i]? with
      | none => rw [en] at hi; cases hi
      | some kk =>
        rw [en] at hi
        cases hi
        (simp only [tLst, tTup, tDNewK, _root_.L2.start, cxOf_K, cxComp_K, tSeq, tAsg, gName, tRet, tRetN, tDrop, tIfS, tTest, tB, tNot, tAnd, tOr, tAndV, tOrV, tNotV, tOp, tUn, tVar, tC, tCons, tNil, tStrs, tCB, tCall, tChain, tBM, tBM0, tPart, tNoPart, tSl, tIf, tNext, tTrue, selS, Option.bind_none, Option.bind_some, Option.join_some, if_true, rI, rI0, rU, rEq, rNe, rStarts, rSlS, lenV_str, tyV, List.map_cons, List.map_nil, List.length_cons, List.length_nil, List.replicate, List.cons_append, List.nil_append, List.append_nil, Nat.reduceAdd, Nat.reduceSub, Nat.zero_add, Nat.add_zero, Nat.sub_self, List.getElem?_cons_zero, List.getElem?_cons_succ, List.set_cons_zero, List.set_cons_succ, Option.some.injEq, V.int.injEq, V.str.injEq, V.ref.injEq, V.bl.injEq, V.ty.injEq, List.cons.injEq, exists_eq_left, exists_eq_left', exists_eq_right, exists_and_left, exists_eq, and_true, true_and, and_self, and_assoc, tFld, sFld, tMeth, tMake, tDIn, tDNotIn, sDPut, tDPop1, tLcI, tNever, tDGet, tDGet1, tDGet2, tDSetd, tSetLcI])
        have sH := s6.trans sG
        refine ⟨3, rfl, by decide, by decide, lc_range (lo := 0) (n := (3 : Int).toNat) (fun i ys G2 => Same G G2 ∧ ∃ bs : List Str, ys = bs.map V.str ∧ (∀ b ∈ bs, b ∈ boxes3) ∧ bs.length = i) ⟨Same.refl _, [], rfl, (fun _ h => by cases h), rfl⟩ ?_ (by decide) ?_ ?_⟩
        · rintro i ys G2 hi ⟨s2, bs, rfl, hb, hlen⟩
          rw [List.length_map]; omega
        · rintro i ys G2 hi ⟨s2, bs, rfl, hb, hlen⟩
          (simp only [tLst, tTup, tDNewK, _root_.L2.start, cxOf_K, cxComp_K, tSeq, tAsg, gName, tRet, tRetN, tDrop, tIfS, tTest, tB, tNot, tAnd, tOr, tAndV, tOrV, tNotV, tOp, tUn, tVar, tC, tCons, tNil, tStrs, tCB, tCall, tChain, tBM, tBM0, tPart, tNoPart, tSl, tIf, tNext, tTrue, selS, Option.bind_none, Option.bind_some, Option.join_some, if_true, rI, rI0, rU, rEq, rNe, rStarts, rSlS, lenV_str, tyV, List.map_cons, List.map_nil, List.length_cons, List.length_nil, List.replicate, List.cons_append, List.nil_append, List.append_nil, Nat.reduceAdd, Nat.reduceSub, Nat.zero_add, Nat.add_zero, Nat.sub_self, List.getElem?_cons_zero, List.getElem?_cons_succ, List.set_cons_zero, List.set_cons_succ, Option.some.injEq, V.int.injEq, V.str.injEq, V.ref.injEq, V.bl.injEq, V.ty.injEq, List.cons.injEq, exists_eq_left, exists_eq_left', exists_eq_right, exists_and_left, exists_eq, and_true, true_and, and_self, and_assoc, tFld, sFld, tMeth, tMake, tDIn, tDNotIn, sDPut, tDPop1, tLcI, tNever, tDGet, tDGet1, tDGet2, tDSetd, tSetLcI])
          refine ⟨rfl, fun lb G5 _ s5 h5 => ⟨⟨by decide, by decide⟩, by decide, ?_⟩⟩
          obtain ⟨j, hj, ej⟩ : ∃ j : Nat, j < 3 ∧ (z / 4 + (0 + (i : Int))) % 3 = (j : Nat) := ⟨((z / 4 + (0 + (i : Int))) % 3).toNat, by omega, by omega⟩
          obtain ⟨b, hb1, hbm⟩ : ∃ b, boxes3[j]? = some b ∧ b ∈ boxes3 := ⟨boxes3[j]'hj, List.getElem?_eq_getElem hj, List.getElem_mem _⟩
          rw [ej]
          refine ⟨lb, _, _, .str b, rfl, rfl, SqL.of h5, atI_nat (show (boxes3.map V.str)[j]? = some (.str b) by rw [List.getElem?_map, hb1]; rfl), s2.trans s5, bs ++ [b], by rw [List.map_append]; rfl, fun b' h' => ?_, by rw [List.length_append, hlen]; rfl⟩
          rcases List.mem_append.mp h' with h' | h'
          · exact hb b' h'
          · rw [List.mem_singleton.mp h']; exact hbm
        · rintro ys G2 ⟨s2, bs, rfl, hb, hlen⟩ D1 hD1
          have s3 := s2.trans (Same.upd (o := .lst (bs.map V.str)) hD1)
          have e3 : (upd G2 D1 (.lst (bs.map V.str))) D1 = some (.lst (bs.map V.str)) := upd_same
          generalize upd G2 D1 (.lst (bs.map V.str)) = G3 at s3 e3
          refine ⟨D1, rfl, ⟨_, SqL.of e3⟩, for_list (K := K) (a := D1) (xs := bs.map V.str) (fun i σ G' => ∃ (v5 : Option V), σ = [some (.ref x), some (.ref m), some (.int z), some (.int n), some (.int kk), v5, v6, v7] ∧ Same G3 G') ⟨_, rfl, Same.refl _⟩ (fun i σ G' _ ⟨_, _, sG'⟩ => SqL.of (sG' _ _ e3)) ?_ ?_⟩
          · rintro i y σ G4 hi ⟨v5, rfl, s4⟩
            rw [List.getElem?_map] at hi
            cases eb : bs[i]? with
            | none => rw [eb] at hi; cases hi
            | some b =>
              rw [eb] at hi
              cases hi
              have hbm := hb b (List.mem_of_getElem? eb)
              have le := Nat.le_of_lt (small1000 (box_len b hbm))
              have li := Nat.le_of_lt (small1000 (box_leni b hbm))
              have s34 := (sH.trans s3).trans s4
              refine ⟨fun σ' G' => σ' = [some (.ref x), some (.ref m), some (.int z), some (.int n), some (.int kk), some (.str b), v6, v7] ∧ Same G3 G', ?_, ?_⟩
              · (simp only [tLst, tTup, tDNewK, _root_.L2.start, cxOf_K, cxComp_K, tSeq, tAsg, gName, tRet, tRetN, tDrop, tIfS, tTest, tB, tNot, tAnd, tOr, tAndV, tOrV, tNotV, tOp, tUn, tVar, tC, tCons, tNil, tStrs, tCB, tCall, tChain, tBM, tBM0, tPart, tNoPart, tSl, tIf, tNext, tTrue, selS, Option.bind_none, Option.bind_some, Option.join_some, if_true, rI, rI0, rU, rEq, rNe, rStarts, rSlS, lenV_str, tyV, List.map_cons, List.map_nil, List.length_cons, List.length_nil, List.replicate, List.cons_append, List.nil_append, List.append_nil, Nat.reduceAdd, Nat.reduceSub, Nat.zero_add, Nat.add_zero, Nat.sub_self, List.getElem?_cons_zero, List.getElem?_cons_succ, List.set_cons_zero, List.set_cons_succ, Option.some.injEq, V.int.injEq, V.str.injEq, V.ref.injEq, V.bl.injEq, V.ty.injEq, List.cons.injEq, exists_eq_left, exists_eq_left', exists_eq_right, exists_and_left, exists_eq, and_true, true_and, and_self, and_assoc, tFld, sFld, tMeth, tMake, tDIn, tDNotIn, sDPut, tDPop1, tLcI, tNever, tDGet, tDGet1, tDGet2, tDSetd, tSetLcI])
                refine ⟨rfl, ?_⟩
                by_cases c : kk = 0
                · obtain ⟨dx, hx⟩ := ins s34
                  refine ifT c ⟨dx, _, hx, flB_no t q (by decide +kernel) (by decide +kernel), x, t, d, q, Z, kvs, M, b, rfl, B.same s34, fun l G5 _ s5 h5 => ?_⟩
                  have A5 := A.same (s34.trans s5)
                  exact ⟨li, _, A5.getI hbm, eqLets (O.fl b) h5 (A5.mi b hbm) ⟨_, rfl, bF rfl (s4.trans s5)⟩⟩
                · exact ifF c (iteF s4)
              · rintro σ' G' ⟨rfl, s4'⟩
                have s34 := (sH.trans s3).trans s4'
                (simp only [tLst, tTup, tDNewK, _root_.L2.start, cxOf_K, cxComp_K, tSeq, tAsg, gName, tRet, tRetN, tDrop, tIfS, tTest, tB, tNot, tAnd, tOr, tAndV, tOrV, tNotV, tOp, tUn, tVar, tC, tCons, tNil, tStrs, tCB, tCall, tChain, tBM, tBM0, tPart, tNoPart, tSl, tIf, tNext, tTrue, selS, Option.bind_none, Option.bind_some, Option.join_some, if_true, rI, rI0, rU, rEq, rNe, rStarts, rSlS, lenV_str, tyV, List.map_cons, List.map_nil, List.length_cons, List.length_nil, List.replicate, List.cons_append, List.nil_append, List.append_nil, Nat.reduceAdd, Nat.reduceSub, Nat.zero_add, Nat.add_zero, Nat.sub_self, List.getElem?_cons_zero, List.getElem?_cons_succ, List.set_cons_zero, List.set_cons_succ, Option.some.injEq, V.int.injEq, V.str.injEq, V.ref.injEq, V.bl.injEq, V.ty.injEq, List.cons.injEq, exists_eq_left, exists_eq_left', exists_eq_right, exists_and_left, exists_eq, and_true, true_and, and_self, and_assoc, tFld, sFld, tMeth, tMake, tDIn, tDNotIn, sDPut, tDPop1, tLcI, tNever, tDGet, tDGet1, tDGet2, tDSetd, tSetLcI])
                refine ⟨rfl, ?_⟩
                by_cases c : kk = 1
                · obtain ⟨dx, hx⟩ := ins s34
                  refine ifT c ⟨dx, _, hx, flB_no t q (by decide +kernel) (by decide +kernel), x, t, d, q, Z, kvs, M, b, rfl, B.same s34, hl, fun l G5 _ s5 h5 => ?_⟩
                  have A5 := A.same (s34.trans s5)
                  exact ⟨le, _, A5.getL hbm, eqInts h5 (A5.ml b hbm) ⟨_, rfl, bF (by rw [decide_eq_true rfl]; rfl) (s4'.trans s5)⟩⟩
                · exact ifF c (iteF s4')
          · rintro σ G4 ⟨v5, rfl, s4⟩
            (simp only [tLst, tTup, tDNewK, _root_.L2.start, cxOf_K, cxComp_K, tSeq, tAsg, gName, tRet, tRetN, tDrop, tIfS, tTest, tB, tNot, tAnd, tOr, tAndV, tOrV, tNotV, tOp, tUn, tVar, tC, tCons, tNil, tStrs, tCB, tCall, tChain, tBM, tBM0, tPart, tNoPart, tSl, tIf, tNext, tTrue, selS, Option.bind_none, Option.bind_some, Option.join_some, if_true, rI, rI0, rU, rEq, rNe, rStarts, rSlS, lenV_str, tyV, List.map_cons, List.map_nil, List.length_cons, List.length_nil, List.replicate, List.cons_append, List.nil_append, List.append_nil, Nat.reduceAdd, Nat.reduceSub, Nat.zero_add, Nat.add_zero, Nat.sub_self, List.getElem?_cons_zero, List.getElem?_cons_succ, List.set_cons_zero, List.set_cons_succ, Option.some.injEq, V.int.injEq, V.str.injEq, V.ref.injEq, V.bl.injEq, V.ty.injEq, List.cons.injEq, exists_eq_left, exists_eq_left', exists_eq_right, exists_and_left, exists_eq, and_true, true_and, and_self, and_assoc, tFld, sFld, tMeth, tMake, tDIn, tDNotIn, sDPut, tDPop1, tLcI, tNever, tDGet, tDGet1, tDGet2, tDSetd, tSetLcI])
            have sK := (sH.trans s3).trans s4
            have sK6 := (sG.trans s3).trans s4
            clear s4 e3 hb hlen s3 hD1 s2
            refine ⟨8, rfl, by decide, by decide, lc_range (lo := 0) (n := (8 : Int).toNat) (fun i ys G2 => Same G4 G2 ∧ ∃ bs : List Int, ys = bs.map V.int ∧ bs.length = i) ⟨Same.refl _, [], rfl, rfl⟩ ?_ (by decide) ?_ ?_⟩
            · rintro i ys G2 hi ⟨s2, bs, rfl, hlen⟩
              rw [List.length_map]; omega
            · rintro i ys G2 hi ⟨s2, bs, rfl, hlen⟩
              (simp only [tLst, tTup, tDNewK, _root_.L2.start, cxOf_K, cxComp_K, tSeq, tAsg, gName, tRet, tRetN, tDrop, tIfS, tTest, tB, tNot, tAnd, tOr, tAndV, tOrV, tNotV, tOp, tUn, tVar, tC, tCons, tNil, tStrs, tCB, tCall, tChain, tBM, tBM0, tPart, tNoPart, tSl, tIf, tNext, tTrue, selS, Option.bind_none, Option.bind_some, Option.join_some, if_true, rI, rI0, rU, rEq, rNe, rStarts, rSlS, lenV_str, tyV, List.map_cons, List.map_nil, List.length_cons, List.length_nil, List.replicate, List.cons_append, List.nil_append, List.append_nil, Nat.reduceAdd, Nat.reduceSub, Nat.zero_add, Nat.add_zero, Nat.sub_self, List.getElem?_cons_zero, List.getElem?_cons_succ, List.set_cons_zero, List.set_cons_succ, Option.some.injEq, V.int.injEq, V.str.injEq, V.ref.injEq, V.bl.injEq, V.ty.injEq, List.cons.injEq, exists_eq_left, exists_eq_left', exists_eq_right, exists_and_left, exists_eq, and_true, true_and, and_self, and_assoc, tFld, sFld, tMeth, tMake, tDIn, tDNotIn, sDPut, tDPop1, tLcI, tNever, tDGet, tDGet1, tDGet2, tDSetd, tSetLcI])
              refine ⟨rfl, fun lb G5 _ s5 h5 => ⟨⟨by decide, by decide⟩, by decide, ?_⟩⟩
              obtain ⟨j, hj, ej⟩ : ∃ j : Nat, j < 8 ∧ (z / 4 + (0 + (i : Int))) % 8 = (j : Nat) := ⟨((z / 4 + (0 + (i : Int))) % 8).toNat, by omega, by omega⟩
              have hj' : j < whos8.length := hj
              obtain ⟨b, hb1⟩ : ∃ b, whos8[j]? = some b := ⟨_, List.getElem?_eq_getElem hj'⟩
              rw [ej]
              exact ⟨lb, _, _, .int b, rfl, rfl, SqL.of h5, atI_nat (show (whos8.map V.int)[j]? = some (.int b) by rw [List.getElem?_map, hb1]; rfl), s2.trans s5, bs ++ [b], by rw [List.map_append]; rfl, by rw [List.length_append, hlen]; rfl⟩
            · rintro ys G2 ⟨s2, bs, rfl, hlen⟩ D1 hD1
              have s3 := s2.trans (Same.upd (o := .lst (bs.map V.int)) hD1)
              have e3 : (upd G2 D1 (.lst (bs.map V.int))) D1 = some (.lst (bs.map V.int)) := upd_same
              generalize upd G2 D1 (.lst (bs.map V.int)) = G3 at s3 e3
              refine ⟨D1, rfl, ⟨_, SqL.of e3⟩, for_list (K := K) (a := D1) (xs := bs.map V.int) (fun i σ G' => ∃ (v6 : Option V), σ = [some (.ref x), some (.ref m), some (.int z), some (.int n), some (.int kk), v5, v6, v7] ∧ Same G3 G') ⟨_, rfl, Same.refl _⟩ (fun i σ G' _ ⟨_, _, sG'⟩ => SqL.of (sG' _ _ e3)) ?_ ?_⟩
              · rintro i y σ G5 hi ⟨v6, rfl, s5⟩
                rw [List.getElem?_map] at hi
                cases eb : bs[i]? with
                | none => rw [eb] at hi; cases hi
                | some w1 =>
                  rw [eb] at hi
                  cases hi
                  have sH5 := (sK.trans s3).trans s5
                  (simp only [tLst, tTup, tDNewK, _root_.L2.start, cxOf_K, cxComp_K, tSeq, tAsg, gName, tRet, tRetN, tDrop, tIfS, tTest, tB, tNot, tAnd, tOr, tAndV, tOrV, tNotV, tOp, tUn, tVar, tC, tCons, tNil, tStrs, tCB, tCall, tChain, tBM, tBM0, tPart, tNoPart, tSl, tIf, tNext, tTrue, selS, Option.bind_none, Option.bind_some, Option.join_some, if_true, rI, rI0, rU, rEq, rNe, rStarts, rSlS, lenV_str, tyV, List.map_cons, List.map_nil, List.length_cons, List.length_nil, List.replicate, List.cons_append, List.nil_append, List.append_nil, Nat.reduceAdd, Nat.reduceSub, Nat.zero_add, Nat.add_zero, Nat.sub_self, List.getElem?_cons_zero, List.getElem?_cons_succ, List.set_cons_zero, List.set_cons_succ, Option.some.injEq, V.int.injEq, V.str.injEq, V.ref.injEq, V.bl.injEq, V.ty.injEq, List.cons.injEq, exists_eq_left, exists_eq_left', exists_eq_right, exists_and_left, exists_eq, and_true, true_and, and_self, and_assoc, tFld, sFld, tMeth, tMake, tDIn, tDNotIn, sDPut, tDPop1, tLcI, tNever, tDGet, tDGet1, tDGet2, tDSetd, tSetLcI])
                  refine ⟨rfl, ?_⟩
                  by_cases c : kk = 2
                  · obtain ⟨dx, hx⟩ := ins sH5
                    exact ifT c ⟨dx, _, hx, flB_no t q (by decide +kernel) (by decide +kernel), x, t, d, q, Z, kvs, M, w1, rfl, B.same sH5, m, a, Z, M, w1, rfl, A.same sH5, O.p, hl, fun G7 s7 => .inl ⟨(atW_eq O.p).2, bF (by simp) (s5.trans s7)⟩⟩
                  · exact ifF c (iteF s5)
              · rintro σ G5 ⟨v6, rfl, s5⟩
                (simp only [tLst, tTup, tDNewK, _root_.L2.start, cxOf_K, cxComp_K, tSeq, tAsg, gName, tRet, tRetN, tDrop, tIfS, tTest, tB, tNot, tAnd, tOr, tAndV, tOrV, tNotV, tOp, tUn, tVar, tC, tCons, tNil, tStrs, tCB, tCall, tChain, tBM, tBM0, tPart, tNoPart, tSl, tIf, tNext, tTrue, selS, Option.bind_none, Option.bind_some, Option.join_some, if_true, rI, rI0, rU, rEq, rNe, rStarts, rSlS, lenV_str, tyV, List.map_cons, List.map_nil, List.length_cons, List.length_nil, List.replicate, List.cons_append, List.nil_append, List.append_nil, Nat.reduceAdd, Nat.reduceSub, Nat.zero_add, Nat.add_zero, Nat.sub_self, List.getElem?_cons_zero, List.getElem?_cons_succ, List.set_cons_zero, List.set_cons_succ, Option.some.injEq, V.int.injEq, V.str.injEq, V.ref.injEq, V.bl.injEq, V.ty.injEq, List.cons.injEq, exists_eq_left, exists_eq_left', exists_eq_right, exists_and_left, exists_eq, and_true, true_and, and_self, and_assoc, tFld, sFld, tMeth, tMake, tDIn, tDNotIn, sDPut, tDPop1, tLcI, tNever, tDGet, tDGet1, tDGet2, tDSetd, tSetLcI])
                have sH5 := (sK.trans s3).trans s5
                have sK5 := (sK6.trans s3).trans s5
                clear s5 e3 hlen s3 hD1 s2
                refine ⟨rfl, fun lb G7 _ s7 h7 => ⟨lb, rfl, ⟨_, SqL.of h7⟩, lc_filt (K := K) (xs := boxes3) (f := V.str) (fun b => !decide (M b ++ (atB Z b).map V.int = [])) h7 (by decide) ?_ ?_⟩⟩
                · intro b ys G8 hb s8
                  (simp only [tLst, tTup, tDNewK, _root_.L2.start, cxOf_K, cxComp_K, tSeq, tAsg, gName, tRet, tRetN, tDrop, tIfS, tTest, tB, tNot, tAnd, tOr, tAndV, tOrV, tNotV, tOp, tUn, tVar, tC, tCons, tNil, tStrs, tCB, tCall, tChain, tBM, tBM0, tPart, tNoPart, tSl, tIf, tNext, tTrue, selS, Option.bind_none, Option.bind_some, Option.join_some, if_true, rI, rI0, rU, rEq, rNe, rStarts, rSlS, lenV_str, tyV, List.map_cons, List.map_nil, List.length_cons, List.length_nil, List.replicate, List.cons_append, List.nil_append, List.append_nil, Nat.reduceAdd, Nat.reduceSub, Nat.zero_add, Nat.add_zero, Nat.sub_self, List.getElem?_cons_zero, List.getElem?_cons_succ, List.set_cons_zero, List.set_cons_succ, Option.some.injEq, V.int.injEq, V.str.injEq, V.ref.injEq, V.bl.injEq, V.ty.injEq, List.cons.injEq, exists_eq_left, exists_eq_left', exists_eq_right, exists_and_left, exists_eq, and_true, true_and, and_self, and_assoc, tFld, sFld, tMeth, tMake, tDIn, tDNotIn, sDPut, tDPop1, tLcI, tNever, tDGet, tDGet1, tDGet2, tDSetd, tSetLcI])
                  have A8 := A.same ((sH5.trans s7).trans s8)
                  have le := Nat.le_of_lt (small1000 (box_len b hb))
                  have li := Nat.le_of_lt (small1000 (box_leni b hb))
                  refine ⟨li, _, A8.getI hb, le, _, A8.getL hb, a (kin b), a (kln b), _, _, rfl, rfl, A8.mi b hb, A8.ml b hb, ?_, fun r hr => ?_⟩
                  · have := Pr.hm b
                    have := atB_len Z b
                    rw [List.length_map]
                    exact Nat.le_of_lt (small1000 (by omega))
                  refine nilV upd_same ?_ fun G9 t9 => ⟨_, rfl, ?_⟩
                  · rw [List.all_append, isLet_flat (O.fl b), ints_flat]; rfl
                  have s9 := s8.trans ((Same.upd (o := .lst (M b ++ (atB Z b).map V.int)) hr).trans t9)
                  by_cases e : M b ++ (atB Z b).map V.int = []
                  · exact bF (by rw [decide_eq_true e]; rfl) ⟨s9, by simp [e]⟩
                  · exact bT (by rw [decide_eq_false e]; rfl) ⟨s9, by simp [e]⟩
                · intro G8 s8 l2 hl2
                  (simp only [tLst, tTup, tDNewK, _root_.L2.start, cxOf_K, cxComp_K, tSeq, tAsg, gName, tRet, tRetN, tDrop, tIfS, tTest, tB, tNot, tAnd, tOr, tAndV, tOrV, tNotV, tOp, tUn, tVar, tC, tCons, tNil, tStrs, tCB, tCall, tChain, tBM, tBM0, tPart, tNoPart, tSl, tIf, tNext, tTrue, selS, Option.bind_none, Option.bind_some, Option.join_some, if_true, rI, rI0, rU, rEq, rNe, rStarts, rSlS, lenV_str, tyV, List.map_cons, List.map_nil, List.length_cons, List.length_nil, List.replicate, List.cons_append, List.nil_append, List.append_nil, Nat.reduceAdd, Nat.reduceSub, Nat.zero_add, Nat.add_zero, Nat.sub_self, List.getElem?_cons_zero, List.getElem?_cons_succ, List.set_cons_zero, List.set_cons_succ, Option.some.injEq, V.int.injEq, V.str.injEq, V.ref.injEq, V.bl.injEq, V.ty.injEq, List.cons.injEq, exists_eq_left, exists_eq_left', exists_eq_right, exists_and_left, exists_eq, and_true, true_and, and_self, and_assoc, tFld, sFld, tMeth, tMake, tDIn, tDNotIn, sDPut, tDPop1, tLcI, tNever, tDGet, tDGet1, tDGet2, tDSetd, tSetLcI])
                  have s78 := (s7.trans s8).trans (Same.upd (o := .lst ((boxes3.filter fun b => !decide (M b ++ (atB Z b).map V.int = [])).map V.str)) hl2)
                  refine ⟨rfl, ?_⟩
                  by_cases c : kk = 3
                  · obtain ⟨dx, hx⟩ := ins (sH5.trans s78)
                    refine ifT c ⟨dx, _, hx, flB_no t q (by decide +kernel) (by decide +kernel), x, t, d, q, Z, kvs, M, rfl, B.same (sH5.trans s78), O, hl, KO, fun lz ns G9 _ s9 h9 nd so hm => ?_⟩
                    have e := busy_eq O nd so hm
                    rw [e] at h9
                    exact eqStrs h9 (s9 _ _ upd_same) ⟨_, rfl, bF rfl ((sK5.trans s78).trans s9)⟩
                  · exact ifF c (iteF (sK5.trans s78))
    · rintro σ G ⟨v4, v5, v6, v7, rfl, sG⟩
      have sH := s6.trans sG
      refine ⟨fun σ' G' => σ' = [some (.ref x), some (.ref m), some (.int z), some (.int n), v4, v5, v6, v7] ∧ Same H G', ?_, ?_⟩
      · (simp only [tLst, tTup, tDNewK, _root_.L2.start, cxOf_K, cxComp_K, tSeq, tAsg, gName, tRet, tRetN, tDrop, tIfS, tTest, tB, tNot, tAnd, tOr, tAndV, tOrV, tNotV, tOp, tUn, tVar, tC, tCons, tNil, tStrs, tCB, tCall, tChain, tBM, tBM0, tPart, tNoPart, tSl, tIf, tNext, tTrue, selS, Option.bind_none, Option.bind_some, Option.join_some, if_true, rI, rI0, rU, rEq, rNe, rStarts, rSlS, lenV_str, tyV, List.map_cons, List.map_nil, List.length_cons, List.length_nil, List.replicate, List.cons_append, List.nil_append, List.append_nil, Nat.reduceAdd, Nat.reduceSub, Nat.zero_add, Nat.add_zero, Nat.sub_self, List.getElem?_cons_zero, List.getElem?_cons_succ, List.set_cons_zero, List.set_cons_succ, Option.some.injEq, V.int.injEq, V.str.injEq, V.ref.injEq, V.bl.injEq, V.ty.injEq, List.cons.injEq, exists_eq_left, exists_eq_left', exists_eq_right, exists_and_left, exists_eq, and_true, true_and, and_self, and_assoc, tFld, sFld, tMeth, tMake, tDIn, tDNotIn, sDPut, tDPop1, tLcI, tNever, tDGet, tDGet1, tDGet2, tDSetd, tSetLcI])
        refine ⟨rfl, ?_⟩
        by_cases c : n = 4
        · obtain ⟨dx, hx⟩ := ins sH
          refine ifT c ⟨dx, _, hx, flB_no t q (by decide +kernel) (by decide +kernel), x, t, d, q, Z, kvs, M, "boxes", rfl, B.same sH, fun l G1 hln s1 h1 => ⟨.inl ⟨_, SqL.of h1⟩, l, _, _, rfl, rfl, h1, ?_, ?_⟩⟩
          · exact small1000 (by have := Pr.hm "boxes"; omega)
          have s2 := sH.trans (s1.over (o := .lst (M "boxes" ++ [V.str "z"])) hln)
          generalize upd G1 l (.lst (M "boxes" ++ [V.str "z"])) = G2 at s2 ⊢
          obtain ⟨dx2, hx2⟩ := ins s2
          refine ⟨dx2, _, hx2, flB_no t q (by decide +kernel) (by decide +kernel), x, t, d, q, Z, kvs, M, "boxes", rfl, B.same s2, hl, fun l2 G3 hl2 s3 h3 => ⟨.inl ⟨_, SqL.of h3⟩, l2, _, rfl, rfl, h3, ?_⟩⟩
          have s4 := s2.trans (s3.over (o := .lst []) hl2)
          generalize upd G3 l2 (.lst []) = G4 at s4 ⊢
          obtain ⟨dx3, hx3⟩ := ins s4
          refine ⟨dx3, _, hx3, flB_no t q (by decide +kernel) (by decide +kernel), x, t, d, q, Z, kvs, M, rfl, B.same s4, O, hl, KO, fun l3 ns G5 hl3 s5 h5 nd so hm => ⟨.inl ⟨_, SqL.of h5⟩, l3, _, _, rfl, rfl, h5, ?_, (s4.trans s5).over (s4.free hl3)⟩⟩
          rw [busy_eq O nd so hm, List.length_map]
          have h3 : (boxes3.filter fun b => !decide (M b ++ (atB Z b).map V.int = [])).length ≤ 3 := List.length_filter_le _ _
          exact small1000 (by omega)
        · exact ifF c sH
      · rintro σ' G' ⟨rfl, s7⟩
        refine ⟨fun σ' G' => σ' = [some (.ref x), some (.ref m), some (.int z), some (.int n), v4, v5, v6, v7] ∧ Same H G', ?_, ?_⟩
        · (simp only [tLst, tTup, tDNewK, _root_.L2.start, cxOf_K, cxComp_K, tSeq, tAsg, gName, tRet, tRetN, tDrop, tIfS, tTest, tB, tNot, tAnd, tOr, tAndV, tOrV, tNotV, tOp, tUn, tVar, tC, tCons, tNil, tStrs, tCB, tCall, tChain, tBM, tBM0, tPart, tNoPart, tSl, tIf, tNext, tTrue, selS, Option.bind_none, Option.bind_some, Option.join_some, if_true, rI, rI0, rU, rEq, rNe, rStarts, rSlS, lenV_str, tyV, List.map_cons, List.map_nil, List.length_cons, List.length_nil, List.replicate, List.cons_append, List.nil_append, List.append_nil, Nat.reduceAdd, Nat.reduceSub, Nat.zero_add, Nat.add_zero, Nat.sub_self, List.getElem?_cons_zero, List.getElem?_cons_succ, List.set_cons_zero, List.set_cons_succ, Option.some.injEq, V.int.injEq, V.str.injEq, V.ref.injEq, V.bl.injEq, V.ty.injEq, List.cons.injEq, exists_eq_left, exists_eq_left', exists_eq_right, exists_and_left, exists_eq, and_true, true_and, and_self, and_assoc, tFld, sFld, tMeth, tMake, tDIn, tDNotIn, sDPut, tDPop1, tLcI, tNever, tDGet, tDGet1, tDGet2, tDSetd, tSetLcI])
          refine ⟨rfl, ?_⟩
          by_cases c : n = 4
          · obtain ⟨dx, hx⟩ := ins s7
            refine ifT c ⟨dx, _, hx, flB_no t q (by decide +kernel) (by decide +kernel), x, t, d, q, Z, kvs, M, "boxes", rfl, B.same s7, fun l G1 _ s1 h1 => ?_⟩
            obtain ⟨g1, g2⟩ := (A.same (s7.trans s1)).getIE (b := "boxes") (k := "in boxes") (by decide +kernel) (by decide +kernel)
            exact ⟨_, g1, eqLets (O.fl "boxes") h1 g2 ⟨_, rfl, bF rfl (s7.trans s1)⟩⟩
          · exact ifF c (iteF s7)
        · rintro σ2 G2 ⟨rfl, s8⟩
          (simp only [tLst, tTup, tDNewK, _root_.L2.start, cxOf_K, cxComp_K, tSeq, tAsg, gName, tRet, tRetN, tDrop, tIfS, tTest, tB, tNot, tAnd, tOr, tAndV, tOrV, tNotV, tOp, tUn, tVar, tC, tCons, tNil, tStrs, tCB, tCall, tChain, tBM, tBM0, tPart, tNoPart, tSl, tIf, tNext, tTrue, selS, Option.bind_none, Option.bind_some, Option.join_some, if_true, rI, rI0, rU, rEq, rNe, rStarts, rSlS, lenV_str, tyV, List.map_cons, List.map_nil, List.length_cons, List.length_nil, List.replicate, List.cons_append, List.nil_append, List.append_nil, Nat.reduceAdd, Nat.reduceSub, Nat.zero_add, Nat.add_zero, Nat.sub_self, List.getElem?_cons_zero, List.getElem?_cons_succ, List.set_cons_zero, List.set_cons_succ, Option.some.injEq, V.int.injEq, V.str.injEq, V.ref.injEq, V.bl.injEq, V.ty.injEq, List.cons.injEq, exists_eq_left, exists_eq_left', exists_eq_right, exists_and_left, exists_eq, and_true, true_and, and_self, and_assoc, tFld, sFld, tMeth, tMake, tDIn, tDNotIn, sDPut, tDPop1, tLcI, tNever, tDGet, tDGet1, tDGet2, tDSetd, tSetLcI])
          by_cases c : n < 4
          · exact ifT c (k _ s8)
          · obtain ⟨dx, hx⟩ := ins s8
            have nb : ("none" : Str) ∉ boxes3 := by decide +kernel
            have an : atB Z "none" = [] := by
              cases e : atB Z "none" with
              | nil => rfl
              | cons w0 r0 =>
                have : w0 ∈ atB Z "none" := by rw [e]; exact List.mem_cons_self
                exact absurd (O.p.inb _ (mem_atB.mp this)) nb
            refine ifF c ⟨dx, _, hx, flB_no t q (by decide +kernel) (by decide +kernel), x, t, d, q, Z, kvs, M, "none", rfl, B.same s8, hl, fun l G3 _ s3 h3 => nilI h3 fun G4 s4 => ⟨_, rfl, bT (by rw [decide_eq_true an]; rfl) ?_⟩⟩
            have s9 := (s8.trans s3).trans s4
            obtain ⟨dx2, hx2⟩ := ins s9
            refine ⟨dx2, _, hx2, flB_no t q (by decide +kernel) (by decide +kernel), x, t, d, q, Z, kvs, M, "none", rfl, B.same s9, fun l2 G5 _ s5 h5 => nilV h5 (isLet_flat (O.fl _)) fun G6 s6 => ?_⟩
            rw [decide_eq_true (O.out _ nb)]
            exact k _ ((s9.trans s5).trans s6)
theorem sc_law : FnScope ["_law_script", "_law_every", "_law_models", "_law_model", "_law_box", "_law_held", "_law_place", "_law_cell", "_law_x", "_law_deed", "_law_due", "_law_k"] ["_law_script"] (defScope (top 17)) := ⟨rfl, rfl, rfl, by decide +kernel, rfl, by decide +kernel, by decide +kernel⟩
theorem ok_law (T : Tx K mg) {f : Addr} {fd : FuncData} (F : Fun K "law" "law" (top 17) f fd)
    (G_Boxes___init__ : FnOk P w K mg base CX0 3 T.m_Boxes___init__.f T.m_Boxes___init__.fd ["self"] (spBInit T.C_Boxes T.C_Lines))
    (G_Boxes_letters : FnOk P w K mg base CX0 1 T.m_Boxes_letters.f T.m_Boxes_letters.fd ["self", "box"] (spLetters T.C_Boxes T.C_Lines))
    (G_l_mixed : FnOk P w K mg base CX0 1 T.d_l_mixed.f T.d_l_mixed.fd ["_law_cell", "_law_k"] (spMixed))
    (G_l_boxes : FnOk P w K mg base CX0 1 T.d_l_boxes.f T.d_l_boxes.fd [] (spBoxes))
    (G_l_drawn : FnOk P w K mg base CX0 2 T.d_l_drawn.f T.d_l_drawn.fd ["_law_model", "_law_x"] (spDrawn K))
    (G_l_told : FnOk P w K mg base CX0 3 T.d_l_told.f T.d_l_told.fd ["_law_model", "_law_deed"] (spTold K))
    (G_l_done : FnOk P w K mg base CX0 3 T.d_l_done.f T.d_l_done.fd ["_law_boxes_here", "_law_deed"] (spDone T.C_Boxes T.C_Lines))
    (G_l_alike : FnOk P w K mg base CX0 1 T.d_l_alike.f T.d_l_alike.fd ["_law_found", "_law_due"] (spAlike K))
    (G_l_same : FnOk P w K mg base CX0 3 T.d_l_same.f T.d_l_same.fd ["_law_boxes_here", "_law_model", "_law_x", "_law_many"] (spSame T.C_Boxes T.C_Lines)) : FnOk P w K mg base CX0 5 f fd ["_law_script"] (spLaw K) := by
  refine F.ok sc_law (fun vs H Q E h => ?_) (fun cdv A outer s H vs Q E hr h => ?_)
  · obtain ⟨a, ns, rfl, _⟩ := h
    rfl
  · obtain ⟨a, ns, rfl, ha, hns, k⟩ := h
    have hu := hu100 hr
    have hu1 := hu_of hr
    refine ⟨_, (pss_cons (ps_set (i := 1) sc_law.nd rfl (Or.inl rfl) (pe_lst (pa_cons (pe_make0 T.M_Boxes G_Boxes___init__ (hr.mono (by omega)) rfl T.h_Boxes T.m_Boxes___init__.b .nil pass0) (pa_cons (pe_make0 T.M_Boxes G_Boxes___init__ (hr.mono (by omega)) rfl T.h_Boxes T.m_Boxes___init__.b .nil pass0) pa_nil))))
    (pss_cons (ps_set (i := 2) sc_law.nd rfl (Or.inl rfl) (pe_lst (pa_cons pe_dnewK (pa_cons pe_dnewK pa_nil))))
    (pss_cons (ps_for PassesOwn.never rfl (pi_list (pv 2)) (pg_name (i := 3) sc_law.nd rfl (Or.inl rfl))
    (pss_one (ps_for PassesOwn.never rfl (pi_list (pe_call0 G_l_boxes (hr.mono (by omega)) rfl T.d_l_boxes.hm T.d_l_boxes.F.kp T.d_l_boxes.b .nil pass0)) (pg_name (i := 4) sc_law.nd rfl (Or.inl rfl))
    (pss_cons (ps_dput hu1 (pv 3) (pe_op op_add_str pe_str (pv 4)) (pe_lst pa_nil) rfl)
    (pss_one (ps_dput hu1 (pv 3) (pe_op op_add_str pe_str (pv 4)) (pe_lst pa_nil) rfl))))))
    (pss_cons (ps_set (i := 5) sc_law.nd rfl (Or.inl rfl) (pe_lst pa_nil))
    (pss_cons (ps_for PassesOwn.never rfl (pi_enum rfl T.n_enumerate (pa_cons (pe_slice sl_list (pv 0) po_none (po_some pe_int)) pa_nil)) (pg_tup (n := 2) rfl (pgs_cons (pg_name (i := 6) sc_law.nd rfl (Or.inl rfl)) (pgs_cons (pg_name (i := 7) sc_law.nd rfl (Or.inl rfl)) pgs_nil)))
    (pss_cons (ps_set (i := 8) sc_law.nd rfl (Or.inl rfl) (pe_call G_l_mixed (hr.mono (by omega)) rfl T.d_l_mixed.hm T.d_l_mixed.F.kp T.d_l_mixed.b .nil pass0 (pa_cons (pv 7) (pa_cons (pv 6) pa_nil))))
    (pss_cons (ps_set (i := 9) sc_law.nd rfl (Or.inl rfl) (pe_call G_l_drawn (hr.mono (by omega)) rfl T.d_l_drawn.hm T.d_l_drawn.F.kp T.d_l_drawn.b .nil pass0 (pa_cons (pe_ix ix_list (pv 2) (pe_op op_mod (pv 8) pe_int) (fun _ _ => rfl)) (pa_cons (pe_op op_fdiv (pv 8) pe_int) pa_nil))))
    (pss_cons (ps_set (i := 10) sc_law.nd rfl (Or.inl rfl) (pe_call G_l_told (hr.mono (by omega)) rfl T.d_l_told.hm T.d_l_told.F.kp T.d_l_told.b .nil pass0 (pa_cons (pe_ix ix_list (pv 2) (pe_op op_mod (pv 8) pe_int) (fun _ _ => rfl)) (pa_cons (pv 9) pa_nil))))
    (pss_mid (ps_if (pt_not (pt_val (pe_call G_l_alike (hr.mono (by omega)) rfl T.d_l_alike.hm T.d_l_alike.F.kp T.d_l_alike.b .nil pass0 (pa_cons (pe_call G_l_done (hr.mono (by omega)) rfl T.d_l_done.hm T.d_l_done.F.kp T.d_l_done.b .nil pass0 (pa_cons (pe_ix ix_list (pv 1) (pe_op op_mod (pv 8) pe_int) (fun _ _ => rfl)) (pa_cons (pv 9) pa_nil))) (pa_cons (pv 10) pa_nil)))))
    (pss_one (ps_ret pe_bl))
    pss_nil)
    (pss_cons (ps_for PassesOwn.never rfl (pi_range1 rfl T.n_range (pa_cons pe_int pa_nil)) (pg_name (i := 11) sc_law.nd rfl (Or.inl rfl))
    (pss_one (ps_if (pt_not (pt_val (pe_call G_l_same (hr.mono (by omega)) rfl T.d_l_same.hm T.d_l_same.F.kp T.d_l_same.b .nil pass0 (pa_cons (pe_ix ix_list (pv 1) (pv 11) (fun _ _ => rfl)) (pa_cons (pe_ix ix_list (pv 2) (pv 11) (fun _ _ => rfl)) (pa_cons (pe_op op_add (pe_op op_fdiv (pv 8) pe_int) (pv 11)) (pa_cons (pe_op op_mod (pe_op op_fdiv (pv 8) pe_int) pe_int) pa_nil)))))))
    (pss_one (ps_ret pe_bl))
    pss_nil)))
    (pss_cons (ps_set (i := 4) sc_law.nd rfl (Or.inl rfl) (pe_ix ix_list (pe_call0 G_l_boxes (hr.mono (by omega)) rfl T.d_l_boxes.hm T.d_l_boxes.F.kp T.d_l_boxes.b .nil pass0) (pe_op op_mod (pe_op op_fdiv (pv 8) pe_int) pe_int) (fun _ _ => rfl)))
    (pss_one (ps_if (pt_cmpR op_eq (pe_op op_mod (pe_op op_fdiv (pv 8) pe_int) pe_int) pe_int (nomark _))
    (pss_one (ps_expr (pe_bm PySem.F.plainAttrs_list PySem.F.slot_list_append PySem.F.type_list_append mt_append (pv 5) (pa_cons (pe_tup (pa_cons (pe_meth (pe_ix ix_list (pv 1) (pe_op op_mod (pv 8) pe_int) (fun _ _ => rfl)) T.k_Boxes T.m_Boxes_letters.me G_Boxes_letters (hr.mono (by omega)) T.m_Boxes_letters.b .nil pass0 (pa_cons (pv 4) pa_nil)) (pa_cons (pe_dget hu1 (pe_ix ix_list (pv 2) (pe_op op_mod (pv 8) pe_int) (fun _ _ => rfl)) (pe_op op_add_str pe_str (pv 4)) (fun _ _ => rfl)) pa_nil))) pa_nil))))
    pss_nil)))))))))
    (pss_mid (ps_if (PW.pt (pw_or (pt_not (pt_val (pe_call G_l_same (hr.mono (by omega)) rfl T.d_l_same.hm T.d_l_same.F.kp T.d_l_same.b .nil pass0 (pa_cons (pe_ix ix_list (pv 1) pe_int (fun _ _ => rfl)) (pa_cons (pe_ix ix_list (pv 2) pe_int (fun _ _ => rfl)) (pa_cons (pe_callB call_len (by rfl) T.n_len bt_len (pa_cons (pv 0) pa_nil)) (pa_cons pe_int pa_nil))))))) (pw_or1 (pt_not (pt_val (pe_call G_l_same (hr.mono (by omega)) rfl T.d_l_same.hm T.d_l_same.F.kp T.d_l_same.b .nil pass0 (pa_cons (pe_ix ix_list (pv 1) pe_int (fun _ _ => rfl)) (pa_cons (pe_ix ix_list (pv 2) pe_int (fun _ _ => rfl)) (pa_cons pe_int (pa_cons pe_int pa_nil))))))))))
    (pss_one (ps_ret pe_bl))
    pss_nil)
    (pss_one (ps_ret (pe_cmpR (op_eqL hu) (pe_lc (N' := ["_law_one"]) (sel := [none]) rfl rfl rfl (pi_list (pv 5)) (gk_name rfl) (fun _ _ _ _ _ => ⟨(pg_name (i := 0) (show (["_law_one"] : List Str).Nodup by decide +kernel) rfl (Or.inl rfl)), (pts_one (pt_cmpR (op_neLK (K := K) rfl hu) (pe_ix (ix_tupK (K := K) rfl) (pv 0) pe_int (fun _ _ => rfl)) (pe_ix (ix_tupK (K := K) rfl) (pv 0) pe_int (fun _ _ => rfl)) (nomark _))), (pv 0)⟩)) (pe_lst pa_nil) (nomark _)))))))))), ?_⟩
    (simp only [tLst, tTup, tDNewK, _root_.L2.start, cxOf_K, cxComp_K, tSeq, tAsg, gName, tRet, tRetN, tDrop, tIfS, tTest, tB, tNot, tAnd, tOr, tAndV, tOrV, tNotV, tOp, tUn, tVar, tC, tCons, tNil, tStrs, tCB, tCall, tChain, tBM, tBM0, tPart, tNoPart, tSl, tIf, tNext, tTrue, selS, Option.bind_none, Option.bind_some, Option.join_some, if_true, rI, rI0, rU, rEq, rNe, rStarts, rSlS, lenV_str, tyV, List.map_cons, List.map_nil, List.length_cons, List.length_nil, List.replicate, List.cons_append, List.nil_append, List.append_nil, Nat.reduceAdd, Nat.reduceSub, Nat.zero_add, Nat.add_zero, Nat.sub_self, List.getElem?_cons_zero, List.getElem?_cons_succ, List.set_cons_zero, List.set_cons_succ, Option.some.injEq, V.int.injEq, V.str.injEq, V.ref.injEq, V.bl.injEq, V.ty.injEq, List.cons.injEq, exists_eq_left, exists_eq_left', exists_eq_right, exists_and_left, exists_eq, and_true, true_and, and_self, and_assoc, tFld, sFld, tMeth, tMake, tDIn, tDNotIn, sDPut, tDPop1, tLcI, tNever, tDGet, tDGet1, tDGet2, tDSetd, tSetLcI])
    intro x0 dx0 nx0 ndx0 nex0
    refine ⟨x0, dx0, rfl, upd_same, fun t0 d0 q0 H0 kp0 nq0 nd0 _ B0 => ⟨rfl, ?_⟩⟩
    obtain ⟨s0, nd0, nq0⟩ := initS nx0 ndx0 nex0 kp0 nd0 nq0
    clear kp0 nx0 ndx0 nex0
    intro x1 dx1 nx1 ndx1 nex1
    refine ⟨x1, dx1, rfl, upd_same, fun t1 d1 q1 H1 kp1 nq1 nd1 _ B1 => ⟨rfl, by decide, fun e hen => ?_⟩⟩
    obtain ⟨s1, nd1, nq1⟩ := initS nx1 ndx1 nex1 kp1 nd1 nq1
    clear kp1 nx1 ndx1 nex1
    have dd01 : d0 ≠ d1 := ne_of_none B0.ln.dc nd1
    have dq01 : d0 ≠ q1 := ne_of_none B0.ln.dc nq1
    have qd01 : q0 ≠ d1 := ne_of_none B0.ml.dc nd1
    have qq01 : q0 ≠ q1 := ne_of_none B0.ml.dc nq1
    have hd1 := s0.free nd1
    have hq1 := s0.free nq1
    have B0 := B0.same s1
    have sA := s0.trans s1
    clear s0 s1 nd1 nq1
    have t3 := Same.upd (o := .lst [V.ref x0, .ref x1]) hen
    have e3 : (upd H1 e (.lst [V.ref x0, .ref x1])) e = some (.lst [V.ref x0, .ref x1]) := upd_same
    have B0 := B0.same t3
    have B1 := B1.same t3
    have sA := sA.trans t3
    generalize upd H1 e (.lst [V.ref x0, .ref x1]) = H3 at e3 B0 B1 sA ⊢
    clear t3 hen
    intro m0 hm0
    have dm00 : d0 ≠ m0 := ne_of_none B0.ln.dc hm0
    have dm10 : d1 ≠ m0 := ne_of_none B1.ln.dc hm0
    have qm00 : q0 ≠ m0 := ne_of_none B0.ml.dc hm0
    have qm10 : q1 ≠ m0 := ne_of_none B1.ml.dc hm0
    have t4 := Same.upd (o := .dK []) hm0
    have f0 : (upd H3 m0 (.dK [])) m0 = some (.dK []) := upd_same
    have B0 := B0.same t4
    have B1 := B1.same t4
    have sA := sA.trans t4
    have e3 := t4 _ _ e3
    generalize upd H3 m0 (.dK []) = H4 at f0 e3 B0 B1 sA ⊢
    clear t4 hm0
    intro m1 hm1
    have dm01 : d0 ≠ m1 := ne_of_none B0.ln.dc hm1
    have dm11 : d1 ≠ m1 := ne_of_none B1.ln.dc hm1
    have qm01 : q0 ≠ m1 := ne_of_none B0.ml.dc hm1
    have qm11 : q1 ≠ m1 := ne_of_none B1.ml.dc hm1
    have mm01 : m0 ≠ m1 := ne_of_none f0 hm1
    have t5 := Same.upd (o := .dK []) hm1
    have f1 : (upd H4 m1 (.dK [])) m1 = some (.dK []) := upd_same
    have B0 := B0.same t5
    have B1 := B1.same t5
    have sA := sA.trans t5
    have e3 := t5 _ _ e3
    have f0 := t5 _ _ f0
    generalize upd H4 m1 (.dK []) = H5 at f0 f1 e3 B0 B1 sA ⊢
    clear t5 hm1
    refine ⟨by decide, fun mo hmo => ?_⟩
    have t6 := Same.upd (o := .lst [V.ref m0, .ref m1]) hmo
    have e7 : (upd H5 mo (.lst [V.ref m0, .ref m1])) mo = some (.lst [V.ref m0, .ref m1]) := upd_same
    have B0 := B0.same t6
    have B1 := B1.same t6
    have sA := sA.trans t6
    have e3 := t6 _ _ e3
    have f0 := t6 _ _ f0
    have f1 := t6 _ _ f1
    generalize upd H5 mo (.lst [V.ref m0, .ref m1]) = H7 at f0 f1 e3 e7 B0 B1 sA ⊢
    clear t6 hmo
    have hm7 : ∀ t < 2, MdF H7 (pick m0 m1 t) (if t < 0 then 6 else 0) := fun t ht => by
      rw [if_neg (Nat.not_lt_zero t)]
      match t, ht with
      | 0, _ => exact ⟨fun _ => m0, f0, fun _ h => by cases h⟩
      | 1, _ => exact ⟨fun _ => m0, f1, fun _ h => by cases h⟩
    have two : ∀ {R : Nat → Nat → Prop}, (R 0 1) → (R 1 0) → ∀ i j, i < 2 → j < 2 → i ≠ j → R i j := fun {R} h1 h2 i j hi hj n => by
      match i, j, hi, hj with
      | 0, 0, _, _ => exact absurd rfl n
      | 0, 1, _, _ => exact h1
      | 1, 0, _, _ => exact h2
      | 1, 1, _, _ => exact absurd rfl n
    have one : ∀ {R : Nat → Prop}, R 0 → R 1 → ∀ i < 2, R i := fun {R} h0 h1 i hi => by
      match i, hi with
      | 0, _ => exact h0
      | 1, _ => exact h1
    have nm := two (R := fun i j => pick m0 m1 i ≠ pick m0 m1 j) mm01 mm01.symm
    have nd := two (R := fun i j => pick d0 d1 i ≠ pick d0 d1 j) dd01 dd01.symm
    have nq := two (R := fun i j => pick q0 q1 i ≠ pick q0 q1 j) qq01 qq01.symm
    have dq : ∀ i j, i < 2 → j < 2 → pick d0 d1 i ≠ pick q0 q1 j := fun i j hi hj => by
      match i, j, hi, hj with
      | 0, 0, _, _ => exact B0.ne.symm
      | 0, 1, _, _ => exact dq01
      | 1, 0, _, _ => exact qd01.symm
      | 1, 1, _, _ => exact B1.ne.symm
    have dm : ∀ i j, i < 2 → j < 2 → pick m0 m1 j ≠ pick d0 d1 i ∧ pick m0 m1 j ≠ pick q0 q1 i := fun i j hi hj => by
      match i, j, hi, hj with
      | 0, 0, _, _ => exact ⟨dm00.symm, qm00.symm⟩
      | 0, 1, _, _ => exact ⟨dm01.symm, qm01.symm⟩
      | 1, 0, _, _ => exact ⟨dm10.symm, qm10.symm⟩
      | 1, 1, _, _ => exact ⟨dm11.symm, qm11.symm⟩
    have Bs : ∀ i < 2, BxAt T.C_Boxes T.C_Lines H7 (pick x0 x1 i) (pick t0 t1 i) (pick d0 d1 i) (pick q0 q1 i) [] [] (fun _ => []) := one B0 B1
    have hdn : ∀ i < 2, H (pick d0 d1 i) = none := one nd0 hd1
    have hqn : ∀ i < 2, H (pick q0 q1 i) = none := one nq0 hq1
    clear dd01 dq01 qd01 qq01 dm00 dm01 dm10 dm11 qm00 qm01 qm10 qm11 f0 f1 B0 B1 nd0 hd1 nq0 hq1 one two
    refine ⟨_, rfl, mo, rfl, ⟨_, SqL.of e7⟩, ?_⟩
    refine for_list (K := K) (a := mo) (xs := [V.ref m0, .ref m1]) (fun i σ G => ∃ v3 v4 : Option V, σ = [some (.ref a), some (.ref e), some (.ref mo), v3, v4, none, none, none, none, none, none, none] ∧ But2 m0 m1 H7 G ∧ ∀ t < 2, MdF G (pick m0 m1 t) (if t < i then 6 else 0))
      ⟨none, none, rfl, fun _ _ _ _ h => h, hm7⟩ (fun i σ G _ ⟨_, _, _, kp, _⟩ => SqL.of (kp.lst2 hm7 e7)) ?_ ?_
    · rintro i y σ G hi ⟨v3, v4, rfl, kp, hm⟩
      have hi2 : i < 2 := (List.getElem?_eq_some_iff.mp hi).1
      cases (show some (V.ref (pick m0 m1 i)) = some y from (at2 (x := pick m0 m1) hi2).symm.trans hi)
      (simp only [tLst, tTup, tDNewK, _root_.L2.start, cxOf_K, cxComp_K, tSeq, tAsg, gName, tRet, tRetN, tDrop, tIfS, tTest, tB, tNot, tAnd, tOr, tAndV, tOrV, tNotV, tOp, tUn, tVar, tC, tCons, tNil, tStrs, tCB, tCall, tChain, tBM, tBM0, tPart, tNoPart, tSl, tIf, tNext, tTrue, selS, Option.bind_none, Option.bind_some, Option.join_some, if_true, rI, rI0, rU, rEq, rNe, rStarts, rSlS, lenV_str, tyV, List.map_cons, List.map_nil, List.length_cons, List.length_nil, List.replicate, List.cons_append, List.nil_append, List.append_nil, Nat.reduceAdd, Nat.reduceSub, Nat.zero_add, Nat.add_zero, Nat.sub_self, List.getElem?_cons_zero, List.getElem?_cons_succ, List.set_cons_zero, List.set_cons_succ, Option.some.injEq, V.int.injEq, V.str.injEq, V.ref.injEq, V.bl.injEq, V.ty.injEq, List.cons.injEq, exists_eq_left, exists_eq_left', exists_eq_right, exists_and_left, exists_eq, and_true, true_and, and_self, and_assoc, tFld, sFld, tMeth, tMake, tDIn, tDNotIn, sDPut, tDPop1, tLcI, tNever, tDGet, tDGet1, tDGet2, tDSetd, tSetLcI])
      refine ⟨rfl, fun lb G1 _ s1 h1 => ⟨lb, rfl, ⟨_, SqL.of h1⟩, for_list (K := K) (a := lb) (xs := boxes3.map V.str) (fun j σ G2 => ∃ v4 : Option V, σ = [some (.ref a), some (.ref e), some (.ref mo), some (.ref (pick m0 m1 i)), v4, none, none, none, none, none, none, none] ∧ But (pick m0 m1 i) G1 G2 ∧ ∀ t < 2, MdF G2 (pick m0 m1 t) (if t < i then 6 else if t = i then 2 * j else 0))
        ⟨_, rfl, But.refl _ _, fun t ht => ?_⟩ (fun j σ G2 _ ⟨_, _, kp2, _⟩ => SqL.of ?_) ?_ ?_⟩⟩
      · have := (hm t ht).same s1
        by_cases c : t < i
        · rw [if_pos c] at this ⊢; exact this
        · rw [if_neg c] at this
          rw [if_neg c]
          by_cases c2 : t = i
          · rw [if_pos c2]; exact this
          · rw [if_neg c2]; exact this
      · obtain ⟨aa, g, _⟩ := (hm i hi2).same s1
        exact kp2 _ _ (ne_of h1 g (fun z => nomatch z)) h1
      · rintro j y σ G2 hj ⟨v4, rfl, kp2, hm2⟩
        rw [List.getElem?_map] at hj
        cases eb : boxes3[j]? with
        | none => rw [eb] at hj; cases hj
        | some b =>
          rw [eb] at hj
          cases hj
          have hj3 : j < 3 := (List.getElem?_eq_some_iff.mp eb).1
          have hbm := List.mem_of_getElem? eb
          have le := Nat.le_of_lt (small1000 (box_len b hbm))
          have li := Nat.le_of_lt (small1000 (box_leni b hbm))
          (simp only [tLst, tTup, tDNewK, _root_.L2.start, cxOf_K, cxComp_K, tSeq, tAsg, gName, tRet, tRetN, tDrop, tIfS, tTest, tB, tNot, tAnd, tOr, tAndV, tOrV, tNotV, tOp, tUn, tVar, tC, tCons, tNil, tStrs, tCB, tCall, tChain, tBM, tBM0, tPart, tNoPart, tSl, tIf, tNext, tTrue, selS, Option.bind_none, Option.bind_some, Option.join_some, if_true, rI, rI0, rU, rEq, rNe, rStarts, rSlS, lenV_str, tyV, List.map_cons, List.map_nil, List.length_cons, List.length_nil, List.replicate, List.cons_append, List.nil_append, List.append_nil, Nat.reduceAdd, Nat.reduceSub, Nat.zero_add, Nat.add_zero, Nat.sub_self, List.getElem?_cons_zero, List.getElem?_cons_succ, List.set_cons_zero, List.set_cons_succ, Option.some.injEq, V.int.injEq, V.str.injEq, V.ref.injEq, V.bl.injEq, V.ty.injEq, List.cons.injEq, exists_eq_left, exists_eq_left', exists_eq_right, exists_and_left, exists_eq, and_true, true_and, and_self, and_assoc, tFld, sFld, tMeth, tMake, tDIn, tDNotIn, sDPut, tDPop1, tLcI, tNever, tDGet, tDGet1, tDGet2, tDSetd, tSetLcI])
          refine ⟨by decide, fun r1 hr1 => ⟨li, ?_⟩⟩
          have u3 := Same.upd (o := .lst []) hr1
          have h3 : (upd G2 r1 (.lst [])) r1 = some (.lst []) := upd_same
          generalize upd G2 r1 (.lst []) = G3 at u3 h3 ⊢
          have F3 := (hm2 i hi2).same u3
          rw [if_neg (Nat.lt_irrefl i), if_pos rfl] at F3
          obtain ⟨aa, g1, g2⟩ := F3
          refine ⟨_, DPut.k (k := Sum.inr (kin b)) g1 (md_lt aa (2 * j)), by decide, fun r2 hr2 => ⟨le, ?_⟩⟩
          have F4 := MdF.put g1 g2 (key_at j hj3 b eb).1 h3
          have bt4 : But (pick m0 m1 i) G3 (upd G3 (pick m0 m1 i) (.dK (putK (Kvs aa (keys6.take (2 * j))) (Sum.inr (kin b)) (.ref r1)))) := But.upd
          have O4 : ∀ t < 2, t ≠ i → MdF (upd G3 (pick m0 m1 i) (.dK (putK (Kvs aa (keys6.take (2 * j))) (Sum.inr (kin b)) (.ref r1)))) (pick m0 m1 t) (if t < i then 6 else 0) := fun t ht c2 => by
            have := ((hm2 t ht).same u3).but bt4 (nm t i ht hi2 c2) g1
            rw [if_neg c2] at this
            exact this
          generalize upd G3 (pick m0 m1 i) (.dK (putK (Kvs aa (keys6.take (2 * j))) (Sum.inr (kin b)) (.ref r1))) = G4 at F4 bt4 O4 hr2 ⊢
          have u5 := Same.upd (o := .lst []) hr2
          have h5 : (upd G4 r2 (.lst [])) r2 = some (.lst []) := upd_same
          generalize upd G4 r2 (.lst []) = G5 at u5 h5 ⊢
          obtain ⟨ab, g3, g4⟩ := F4.same u5
          refine ⟨_, DPut.k (k := Sum.inr (kln b)) g3 (md_lt ab (2 * j + 1)), kp2.trans ((But.of u3).trans (bt4.trans ((But.of u5).trans But.upd))), fun t ht => ?_⟩
          by_cases c2 : t = i
          · subst c2
            rw [if_neg (Nat.lt_irrefl t), if_pos rfl]
            exact MdF.put g3 g4 (key_at j hj3 b eb).2 h5
          · have := ((O4 t ht c2).same u5).but (But.upd (u := .dK (putK (Kvs ab (keys6.take (2 * j + 1))) (Sum.inr (kln b)) (.ref r2)))) (nm t i ht hi2 c2) g3
            rw [if_neg c2]
            exact this
      · rintro σ G2 ⟨v4, rfl, kp2, hm2⟩
        refine ⟨_, _, rfl, ?_, fun t ht => ?_⟩
        · intro c o n1 n2 h
          refine kp2 c o ?_ (s1 _ _ (kp c o n1 n2 h))
          match i, hi2 with
          | 0, _ => exact n1
          | 1, _ => exact n2
        have := hm2 t ht
        by_cases c : t < i
        · rw [if_pos c] at this
          rw [if_pos (Nat.lt_succ_of_lt c)]; exact this
        · by_cases c2 : t = i
          · rw [if_neg c, if_pos c2] at this
            rw [if_pos (by omega)]; exact this
          · rw [if_neg c, if_neg c2] at this
            rw [if_neg (by omega)]; exact this
    · rintro σ G ⟨v3, v4, rfl, kp, hm⟩
      (simp only [tLst, tTup, tDNewK, _root_.L2.start, cxOf_K, cxComp_K, tSeq, tAsg, gName, tRet, tRetN, tDrop, tIfS, tTest, tB, tNot, tAnd, tOr, tAndV, tOrV, tNotV, tOp, tUn, tVar, tC, tCons, tNil, tStrs, tCB, tCall, tChain, tBM, tBM0, tPart, tNoPart, tSl, tIf, tNext, tTrue, selS, Option.bind_none, Option.bind_some, Option.join_some, if_true, rI, rI0, rU, rEq, rNe, rStarts, rSlS, lenV_str, tyV, List.map_cons, List.map_nil, List.length_cons, List.length_nil, List.replicate, List.cons_append, List.nil_append, List.append_nil, Nat.reduceAdd, Nat.reduceSub, Nat.zero_add, Nat.add_zero, Nat.sub_self, List.getElem?_cons_zero, List.getElem?_cons_succ, List.set_cons_zero, List.set_cons_succ, Option.some.injEq, V.int.injEq, V.str.injEq, V.ref.injEq, V.bl.injEq, V.ty.injEq, List.cons.injEq, exists_eq_left, exists_eq_left', exists_eq_right, exists_and_left, exists_eq, and_true, true_and, and_self, and_assoc, tFld, sFld, tMeth, tMake, tDIn, tDNotIn, sDPut, tDPop1, tLcI, tNever, tDGet, tDGet1, tDGet2, tDSetd, tSetLcI])
      refine ⟨by decide, fun he hhe => ?_⟩
      have kl : ∀ {c : Addr} {o : HO}, (∀ kvs, o ≠ .dK kvs) → H7 c = some o → G c = some o := fun {c o} n h => by
        obtain ⟨a0, g0, _⟩ := hm7 0 (by decide)
        obtain ⟨a1, g1, _⟩ := hm7 1 (by decide)
        exact kp c o (ne_of h g0 (n _)) (ne_of h g1 (n _)) h
      have e3 := kl (o := .lst [V.ref x0, .ref x1]) (fun _ z => nomatch z) e3
      have e7 := kl (o := .lst [V.ref m0, .ref m1]) (fun _ z => nomatch z) e7
      have Bs : ∀ i < 2, BxAt T.C_Boxes T.C_Lines G (pick x0 x1 i) (pick t0 t1 i) (pick d0 d1 i) (pick q0 q1 i) [] [] (fun _ => []) := fun i hi => by
        obtain ⟨⟨dx, g1⟩, ⟨⟨dt, g2⟩, g3⟩, g4, _⟩ := id (Bs i hi)
        refine (Bs i hi).kept (fun o h => ?_) (fun o h => ?_) (fun o h => ?_) (fun o h => ?_) (fun c ⟨b, hc⟩ => by cases hc)
        · rw [g1] at h; cases h; exact kl (fun _ z => nomatch z) g1
        · rw [g2] at h; cases h; exact kl (fun _ z => nomatch z) g2
        · exact kp _ _ (dm i 0 hi (by decide)).1.symm (dm i 1 hi (by decide)).1.symm h
        · exact kp _ _ (dm i 0 hi (by decide)).2.symm (dm i 1 hi (by decide)).2.symm h
      have ha : Scr K G a (fun c => H c ≠ none) (ns.map V.int) := by
        rcases ha with (z | ⟨o, z⟩) | z
        · exact .inl ⟨.inl (kl (fun _ z => nomatch z) (sA _ _ z)), fun y => by rw [z] at y; cases y⟩
        · exact .inl ⟨.inr ⟨o, kl (fun _ z => nomatch z) (sA _ _ z)⟩, fun y => by rw [z] at y; cases y⟩
        · exact .inr fun _ => .inr z
      clear hm7 kp kl
      have u1 := Same.upd (o := .lst []) hhe
      have h1 : (upd G he (.lst [])) he = some (.lst []) := upd_same
      have hPb : ∀ {c : Addr} {o : HO}, G c = some o → (∀ i < 2, c ≠ pick d0 d1 i ∧ c ≠ pick q0 q1 i) → Pb he (pick d0 d1) (pick q0 q1) (fun _ => []) c := fun {c o} h n => ⟨ne_of_none h hhe, fun i hi => ⟨(n i hi).1, (n i hi).2, fun ⟨b, hb⟩ => by cases hb⟩⟩
      have hPl : ∀ {c : Addr} {l : List V}, G c = some (.lst l) → Pb he (pick d0 d1) (pick q0 q1) (fun _ => []) c := fun {c l} h => hPb h fun i hi => ⟨ne_of h (Bs i hi).ln.dc (fun z => nomatch z), ne_of h (Bs i hi).ml.dc (fun z => nomatch z)⟩
      have L : LwAt T.C_Boxes T.C_Lines (upd G he (.lst [])) e mo he (pick x0 x1) (pick t0 t1) (pick d0 d1) (pick q0 q1) (pick m0 m1) (fun _ => []) (fun _ => []) (fun _ => []) (fun _ _ => []) (fun _ _ => []) 0 := by
        refine ⟨u1 _ _ e3, u1 _ _ e7, hPl e3, hPl e7, fun i hi => (Bs i hi).same u1, fun i hi => ?_, fun i hi => ?_, nm, nd, nq, dq, fun i j hi hj n c ⟨b, hb⟩ => (by cases hb), fun i hi ⟨b, hb⟩ => (by cases hb), [], h1, Nat.le_refl _, fun t ht => by cases ht⟩
        · have F := hm i hi
          rw [if_pos (show i < [V.ref m0, V.ref m1].length from hi)] at F
          obtain ⟨aa, MJ, hk⟩ := F.all
          exact ⟨aa, MJ.same u1, fun k hk' => hPl (hk k hk')⟩
        · obtain ⟨aa, g, _⟩ := hm i hi
          exact hPb g fun j hj => dm j i hj hi
      have S : Scr K (upd G he (.lst [])) a (Pb he (pick d0 d1) (pick q0 q1) (fun _ => [])) (ns.map V.int) := by
        have S0 := ha.same u1
        rcases ha with ⟨z, hn⟩ | z
        · have hG : G a ≠ none := by
            rcases z with z | ⟨o, z⟩ <;> rw [z] <;> exact fun z => nomatch z
          have pb : Pb he (pick d0 d1) (pick q0 q1) (fun _ => []) a := ⟨fun z => hG (z ▸ hhe), fun i hi => ⟨fun z => hn (z ▸ hdn i hi), fun z => hn (z ▸ hqn i hi), fun ⟨b, hb⟩ => by cases hb⟩⟩
          rcases z with z | ⟨o, z⟩
          · exact .inl ⟨.inl (u1 _ _ z), pb⟩
          · exact .inl ⟨.inr ⟨o, u1 _ _ z⟩, pb⟩
        · exact .inr z
      generalize upd G he (.lst []) = G1 at L S ⊢
      clear hPb hPl h1 u1 ha Bs e3 e7 hhe hm hdn hqn nm nd nq dq dm mm01 sA
      obtain ⟨ms, hms, hml⟩ := cut_ints ns none (some 40)
      refine ⟨_, rfl, 40, rfl, a, _, rfl, S.sq, fun ca hca => ?_⟩
      rw [hms]
      refine ⟨ca, rfl, ⟨_, SqL.of upd_same⟩, ?_⟩
      have pca := L.fre hca
      have t2 := Same.upd (o := .lst (ms.map V.int)) hca
      have L := L.same t2
      have S := S.same t2
      have c2 : (upd G1 ca (.lst (ms.map V.int))) ca = some (.lst (ms.map V.int)) := upd_same
      generalize upd G1 ca (.lst (ms.map V.int)) = G2 at L S c2 ⊢
      clear t2 hca
      refine for_enum (K := K) (a := ca) (xs := ms.map V.int) (fun i σ G => ∃ (v3 v4 v6 v7 v8 v9 v10 v11 : Option V) (ks : Nat → List (Key × V)) (P : Nat → Hst) (M : Nat → Mail), σ = [some (.ref a), some (.ref e), some (.ref mo), v3, v4, some (.ref he), v6, v7, v8, v9, v10, v11] ∧ G ca = some (.lst (ms.map V.int)) ∧ Pb he (pick d0 d1) (pick q0 q1) ks ca ∧ Scr K G a (Pb he (pick d0 d1) (pick q0 q1) ks) (ns.map V.int) ∧ LwAt T.C_Boxes T.C_Lines G e mo he (pick x0 x1) (pick t0 t1) (pick d0 d1) (pick q0 q1) (pick m0 m1) ks P P M M i ∧ ∀ j < 2, PreN (P j) (ks j) (M j) i)
        ⟨_, _, none, none, none, none, none, none, _, _, _, rfl, c2, pca, S, L, fun j _ => PreN.nil⟩ (fun i σ G _ ⟨_, _, _, _, _, _, _, _, _, _, _, _, h, _⟩ => SqL.of h) ?_ ?_
      · rintro i y r σ G hi ⟨v3, v4, v6, v7, v8, v9, v10, v11, ks, Z, M, rfl, hc, pca, S, L, O⟩ hr0
        rw [List.getElem?_map] at hi
        cases en : ms[i]? with
        | none => rw [en] at hi; cases hi
        | some n =>
          rw [en] at hi
          cases hi
          have him : i < ms.length := (List.getElem?_eq_some_iff.mp en).1
          refine ⟨r, _, rfl, SqT.of upd_same, rfl, _, _, rfl, _, _, rfl, rfl, ?_⟩
          (simp only [tLst, tTup, tDNewK, _root_.L2.start, cxOf_K, cxComp_K, tSeq, tAsg, gName, tRet, tRetN, tDrop, tIfS, tTest, tB, tNot, tAnd, tOr, tAndV, tOrV, tNotV, tOp, tUn, tVar, tC, tCons, tNil, tStrs, tCB, tCall, tChain, tBM, tBM0, tPart, tNoPart, tSl, tIf, tNext, tTrue, selS, Option.bind_none, Option.bind_some, Option.join_some, if_true, rI, rI0, rU, rEq, rNe, rStarts, rSlS, lenV_str, tyV, List.map_cons, List.map_nil, List.length_cons, List.length_nil, List.replicate, List.cons_append, List.nil_append, List.append_nil, Nat.reduceAdd, Nat.reduceSub, Nat.zero_add, Nat.add_zero, Nat.sub_self, List.getElem?_cons_zero, List.getElem?_cons_succ, List.set_cons_zero, List.set_cons_succ, Option.some.injEq, V.int.injEq, V.str.injEq, V.ref.injEq, V.bl.injEq, V.ty.injEq, List.cons.injEq, exists_eq_left, exists_eq_left', exists_eq_right, exists_and_left, exists_eq, and_true, true_and, and_self, and_assoc, tFld, sFld, tMeth, tMake, tDIn, tDNotIn, sDPut, tDPop1, tLcI, tNever, tDGet, tDGet1, tDGet2, tDSetd, tSetLcI])
          have u0 : Same G (upd G r (.tup [V.int (i : Nat), V.int n])) := Same.upd hr0
          have L := L.same u0
          have S := S.same u0
          have hc := u0 _ _ hc
          generalize upd G r (.tup [V.int (i : Nat), V.int n]) = G0 at L S hc ⊢
          clear u0 hr0
          refine ⟨n, (i : Int), rfl, by omega, by omega, fun z hz0 => ⟨z, rfl, by decide, ?_⟩⟩
          obtain ⟨j, hj, ej⟩ : ∃ j : Nat, j < 2 ∧ z % 2 = (j : Nat) := ⟨(z % 2).toNat, by omega, by omega⟩
          have Pr := (O j hj).pre (by omega)
          obtain ⟨aa, MJ, pa⟩ := L.ml j hj
          refine ⟨mo, _, _, .ref (pick m0 m1 j), rfl, rfl, SqL.of L.mv, by rw [ej]; exact atI_nat (at2 hj), z, rfl, ⟨by decide, by decide⟩, pick m0 m1 j, aa, Z j, M j, z / 2, rfl, MJ, Pr.hp, fun D p G1 hp s1 h1 ok => ?_⟩
          have L1 := L.same s1
          have MJ1 := MJ.same s1
          have hc1 := s1 _ _ hc
          refine ⟨z, rfl, by decide, mo, _, _, .ref (pick m0 m1 j), rfl, rfl, SqL.of L1.mv, by rw [ej]; exact atI_nat (at2 hj), pick m0 m1 j, p, aa, Z j, M j, D, rfl, MJ1, h1, Pr.ok, ok, Pr.hp, Pr.hm, fun u G2 a' bt2 MJ2 fr tv => ?_⟩
          have L2 := L1.told hj pa ⟨_, MJ1.dc⟩ bt2 MJ2 fr
          have nl2 : ∀ {c : Addr} {o : HO}, (∀ kvs, o ≠ .dK kvs) → G1 c = some o → G2 c = some o := fun {c o} n h => bt2 c o (ne_of h MJ1.dc (n _)) h
          have S2 := (S.same s1).kept (G' := G2) fun c o n b h => ⟨nl2 n h, b⟩
          have hc2 := nl2 (o := .lst (ms.map V.int)) (fun _ z => nomatch z) hc1
          have h12 := nl2 (o := .tup D.vs) (fun _ z => nomatch z) h1
          clear nl2 bt2 MJ2 fr MJ1 hc1 L1 s1 MJ pa S hc L hp h1
          refine ⟨fun σ' G' => ∃ ks' : Nat → List (Key × V), σ' = [some (.ref a), some (.ref e), some (.ref mo), v3, v4, some (.ref he), some (.int (i : Nat)), some (.int n), some (.int z), some (.ref p), some u, v11] ∧ G' ca = some (.lst (ms.map V.int)) ∧ Pb he (pick d0 d1) (pick q0 q1) ks' ca ∧ Scr K G' a (Pb he (pick d0 d1) (pick q0 q1) ks') (ns.map V.int) ∧ LwAt T.C_Boxes T.C_Lines G' e mo he (pick x0 x1) (pick t0 t1) (pick d0 d1) (pick q0 q1) (pick m0 m1) ks' (setN Z j (stepP (Z j) (M j) D)) (setN Z j (stepP (Z j) (M j) D)) (setN M j (stepM (Z j) (M j) D)) (setN M j (stepM (Z j) (M j) D)) i ∧ ∀ t < 2, PreN (setN Z j (stepP (Z j) (M j) D) t) (ks' t) (setN M j (stepM (Z j) (M j) D) t) (i + 1), ?_, ?_⟩
          · (simp only [tLst, tTup, tDNewK, _root_.L2.start, cxOf_K, cxComp_K, tSeq, tAsg, gName, tRet, tRetN, tDrop, tIfS, tTest, tB, tNot, tAnd, tOr, tAndV, tOrV, tNotV, tOp, tUn, tVar, tC, tCons, tNil, tStrs, tCB, tCall, tChain, tBM, tBM0, tPart, tNoPart, tSl, tIf, tNext, tTrue, selS, Option.bind_none, Option.bind_some, Option.join_some, if_true, rI, rI0, rU, rEq, rNe, rStarts, rSlS, lenV_str, tyV, List.map_cons, List.map_nil, List.length_cons, List.length_nil, List.replicate, List.cons_append, List.nil_append, List.append_nil, Nat.reduceAdd, Nat.reduceSub, Nat.zero_add, Nat.add_zero, Nat.sub_self, List.getElem?_cons_zero, List.getElem?_cons_succ, List.set_cons_zero, List.set_cons_succ, Option.some.injEq, V.int.injEq, V.str.injEq, V.ref.injEq, V.bl.injEq, V.ty.injEq, List.cons.injEq, exists_eq_left, exists_eq_left', exists_eq_right, exists_and_left, exists_eq, and_true, true_and, and_self, and_assoc, tFld, sFld, tMeth, tMake, tDIn, tDNotIn, sDPut, tDPop1, tLcI, tNever, tDGet, tDGet1, tDGet2, tDSetd, tSetLcI])
            refine ⟨by decide, e, _, _, .ref (pick x0 x1 j), rfl, rfl, SqL.of L2.ev, by rw [ej]; exact atI_nat (at2 hj), pick x0 x1 j, pick t0 t1 j, pick d0 d1 j, pick q0 q1 j, p, Z j, ks j, M j, D, rfl, L2.b j hj, Pr, (O j hj).ko, h12, ok, fun v G3 kvs' st ko B' fv => ?_⟩
            obtain ⟨L3, pk, tu⟩ := L2.done hj st B'
            refine ⟨v, u, Z j, M j, D, rfl, fv, tv.kept tu, Pr.ok, _, rfl, iteF ⟨(pk _ _ pca hc2).1, setN ks j kvs', (pk _ _ pca hc2).2, S2.kept (fun c o _ b h => pk c o b h), L3, fun t ht => ?_⟩⟩
            by_cases c : t = j
            · subst c
              rw [setN_at, setN_at, setN_at]
              exact (O t ht).step ok st.len ko
            · rw [setN_ne _ _ c, setN_ne _ _ c, setN_ne _ _ c]
              exact (O t ht).up (Nat.le_succ _)
          clear L2 S2 hc2 h12 tv Pr pca O
          generalize setN Z j (stepP (Z j) (M j) D) = Z3
          generalize setN M j (stepM (Z j) (M j) D) = M3
          rintro σ' G3 ⟨ks3, rfl, hc3, pca3, S3, L3, O3⟩
          (simp only [tLst, tTup, tDNewK, _root_.L2.start, cxOf_K, cxComp_K, tSeq, tAsg, gName, tRet, tRetN, tDrop, tIfS, tTest, tB, tNot, tAnd, tOr, tAndV, tOrV, tNotV, tOp, tUn, tVar, tC, tCons, tNil, tStrs, tCB, tCall, tChain, tBM, tBM0, tPart, tNoPart, tSl, tIf, tNext, tTrue, selS, Option.bind_none, Option.bind_some, Option.join_some, if_true, rI, rI0, rU, rEq, rNe, rStarts, rSlS, lenV_str, tyV, List.map_cons, List.map_nil, List.length_cons, List.length_nil, List.replicate, List.cons_append, List.nil_append, List.append_nil, Nat.reduceAdd, Nat.reduceSub, Nat.zero_add, Nat.add_zero, Nat.sub_self, List.getElem?_cons_zero, List.getElem?_cons_succ, List.set_cons_zero, List.set_cons_succ, Option.some.injEq, V.int.injEq, V.str.injEq, V.ref.injEq, V.bl.injEq, V.ty.injEq, List.cons.injEq, exists_eq_left, exists_eq_left', exists_eq_right, exists_and_left, exists_eq, and_true, true_and, and_self, and_assoc, tFld, sFld, tMeth, tMake, tDIn, tDNotIn, sDPut, tDPop1, tLcI, tNever, tDGet, tDGet1, tDGet2, tDSetd, tSetLcI])
          refine ⟨2, rfl, by decide, by decide, for_range (lo := 0) (n := (2 : Int).toNat) (fun t σ G' => ∃ w11 : Option V, σ = [some (.ref a), some (.ref e), some (.ref mo), v3, v4, some (.ref he), some (.int (i : Nat)), some (.int n), some (.int z), some (.ref p), some u, w11] ∧ Same G3 G') ⟨_, rfl, Same.refl _⟩ ?_ ?_⟩
          · rintro t σ G6 ht ⟨w11, rfl, s6⟩
            (simp only [tLst, tTup, tDNewK, _root_.L2.start, cxOf_K, cxComp_K, tSeq, tAsg, gName, tRet, tRetN, tDrop, tIfS, tTest, tB, tNot, tAnd, tOr, tAndV, tOrV, tNotV, tOp, tUn, tVar, tC, tCons, tNil, tStrs, tCB, tCall, tChain, tBM, tBM0, tPart, tNoPart, tSl, tIf, tNext, tTrue, selS, Option.bind_none, Option.bind_some, Option.join_some, if_true, rI, rI0, rU, rEq, rNe, rStarts, rSlS, lenV_str, tyV, List.map_cons, List.map_nil, List.length_cons, List.length_nil, List.replicate, List.cons_append, List.nil_append, List.append_nil, Nat.reduceAdd, Nat.reduceSub, Nat.zero_add, Nat.add_zero, Nat.sub_self, List.getElem?_cons_zero, List.getElem?_cons_succ, List.set_cons_zero, List.set_cons_succ, Option.some.injEq, V.int.injEq, V.str.injEq, V.ref.injEq, V.bl.injEq, V.ty.injEq, List.cons.injEq, exists_eq_left, exists_eq_left', exists_eq_right, exists_and_left, exists_eq, and_true, true_and, and_self, and_assoc, tFld, sFld, tMeth, tMake, tDIn, tDNotIn, sDPut, tDPop1, tLcI, tNever, tDGet, tDGet1, tDGet2, tDSetd, tSetLcI])
            have ht : t < 2 := ht
            have L6 := L3.same s6
            obtain ⟨ab, MJ, _⟩ := L6.ml t ht
            rw [Int.zero_add]
            exact ⟨e, _, _, .ref (pick x0 x1 t), rfl, rfl, SqL.of L6.ev, atI_nat (at2 ht), mo, _, _, .ref (pick m0 m1 t), rfl, rfl, SqL.of L6.mv, atI_nat (at2 ht), ⟨by decide, by decide⟩, ⟨by decide, by decide⟩, by decide, _, _, _, _, _, ab, Z3 t, ks3 t, M3 t, _, _, rfl, L6.b t ht, (O3 t ht).pre (by omega), (O3 t ht).ko, MJ, by omega, by omega, fun G7 s7 => ⟨_, rfl, iteF (s6.trans s7)⟩⟩
          · rintro σ G6 ⟨w11, rfl, s6⟩
            (simp only [tLst, tTup, tDNewK, _root_.L2.start, cxOf_K, cxComp_K, tSeq, tAsg, gName, tRet, tRetN, tDrop, tIfS, tTest, tB, tNot, tAnd, tOr, tAndV, tOrV, tNotV, tOp, tUn, tVar, tC, tCons, tNil, tStrs, tCB, tCall, tChain, tBM, tBM0, tPart, tNoPart, tSl, tIf, tNext, tTrue, selS, Option.bind_none, Option.bind_some, Option.join_some, if_true, rI, rI0, rU, rEq, rNe, rStarts, rSlS, lenV_str, tyV, List.map_cons, List.map_nil, List.length_cons, List.length_nil, List.replicate, List.cons_append, List.nil_append, List.append_nil, Nat.reduceAdd, Nat.reduceSub, Nat.zero_add, Nat.add_zero, Nat.sub_self, List.getElem?_cons_zero, List.getElem?_cons_succ, List.set_cons_zero, List.set_cons_succ, Option.some.injEq, V.int.injEq, V.str.injEq, V.ref.injEq, V.bl.injEq, V.ty.injEq, List.cons.injEq, exists_eq_left, exists_eq_left', exists_eq_right, exists_and_left, exists_eq, and_true, true_and, and_self, and_assoc, tFld, sFld, tMeth, tMake, tDIn, tDNotIn, sDPut, tDPop1, tLcI, tNever, tDGet, tDGet1, tDGet2, tDSetd, tSetLcI])
            obtain ⟨j2, hj2, ej2⟩ : ∃ j : Nat, j < 3 ∧ z / 140 % 3 = (j : Nat) := ⟨(z / 140 % 3).toNat, by omega, by omega⟩
            obtain ⟨b, hb, hbm⟩ : ∃ b, boxes3[j2]? = some b ∧ b ∈ boxes3 := ⟨boxes3[j2]'hj2, List.getElem?_eq_getElem hj2, List.getElem_mem _⟩
            refine ⟨rfl, fun lb G7 _ s7 h7 => ⟨⟨by decide, by decide⟩, by decide, lb, _, _, .str b, rfl, rfl, SqL.of h7, by rw [ej2]; exact atI_nat (show (boxes3.map V.str)[j2]? = some (.str b) by rw [List.getElem?_map, hb]; rfl), ⟨by decide, by decide⟩, by decide, rfl, ?_⟩⟩
            have s67 := s6.trans s7
            have L7 := L3.same s67
            have S7 := S3.same s67
            have hc7 := s67 _ _ hc3
            by_cases c : z / 420 % 2 = 0
            · obtain ⟨dx, hx⟩ := (L7.b j hj).ob
              refine ifT c ⟨.inl L7.heL, by decide, e, _, _, .ref (pick x0 x1 j), rfl, rfl, SqL.of L7.ev, by rw [ej]; exact atI_nat (at2 hj), pick x0 x1 j, rfl, dx, _, hx, flB_no _ _ (by decide +kernel) (by decide +kernel), _, _, _, _, _, _, _, b, rfl, L7.b j hj, fun l G8 hl8 s8 h8 => ?_⟩
              have L8 := L7.same s8
              obtain ⟨ab, MJ8, pa⟩ := L8.ml j hj
              refine ⟨by decide, mo, _, _, .ref (pick m0 m1 j), rfl, rfl, SqL.of L8.mv, by rw [ej]; exact atI_nat (at2 hj), b, rfl, Nat.le_of_lt (small1000 (box_leni b hbm)), _, rfl, _, MJ8.getI hbm, by decide, fun u2 hu2 => ?_⟩
              have u9 := Same.upd (o := .tup [V.ref l, .ref (ab (kin b))]) hu2
              exact (L8.same u9).push (by omega) ⟨l, ab (kin b), M3 j b, upd_same, L7.fre hl8, pa (kin b) (kin_in b hbm), u9 _ _ h8, u9 _ _ (MJ8.mi b hbm), (O3 j hj).ok.fl b⟩ fun o L' => ⟨by rw [upd_ne pca3.1]; exact u9 _ _ (s8 _ _ hc7), ks3, pca3, ((S7.same s8).same u9).kept (fun c o' _ b h => ⟨by rw [upd_ne b.1]; exact h, b⟩), Z3, M3, L', O3⟩
            · exact ifF c ⟨hc7, ks3, pca3, S7, Z3, M3, L7.up (Nat.le_succ _), O3⟩
      · rintro σ G ⟨v3, v4, v6, v7, v8, v9, v10, v11, ks, Z, M, rfl, hc, pca, S, L, O⟩
        rw [List.length_map] at L O
        have hi4 : ms.length ≤ 100 := by omega
        refine ⟨fun σ' G' => σ' = [some (.ref a), some (.ref e), some (.ref mo), v3, v4, some (.ref he), v6, v7, v8, v9, v10, v11] ∧ Same G G', ?_, ?_⟩
        · (simp only [tLst, tTup, tDNewK, _root_.L2.start, cxOf_K, cxComp_K, tSeq, tAsg, gName, tRet, tRetN, tDrop, tIfS, tTest, tB, tNot, tAnd, tOr, tAndV, tOrV, tNotV, tOp, tUn, tVar, tC, tCons, tNil, tStrs, tCB, tCall, tChain, tBM, tBM0, tPart, tNoPart, tSl, tIf, tNext, tTrue, selS, Option.bind_none, Option.bind_some, Option.join_some, if_true, rI, rI0, rU, rEq, rNe, rStarts, rSlS, lenV_str, tyV, List.map_cons, List.map_nil, List.length_cons, List.length_nil, List.replicate, List.cons_append, List.nil_append, List.append_nil, Nat.reduceAdd, Nat.reduceSub, Nat.zero_add, Nat.add_zero, Nat.sub_self, List.getElem?_cons_zero, List.getElem?_cons_succ, List.set_cons_zero, List.set_cons_succ, Option.some.injEq, V.int.injEq, V.str.injEq, V.ref.injEq, V.bl.injEq, V.ty.injEq, List.cons.injEq, exists_eq_left, exists_eq_left', exists_eq_right, exists_and_left, exists_eq, and_true, true_and, and_self, and_assoc, tFld, sFld, tMeth, tMake, tDIn, tDNotIn, sDPut, tDPop1, tLcI, tNever, tDGet, tDGet1, tDGet2, tDSetd, tSetLcI])
          obtain ⟨ab, MJ, _⟩ := L.ml 0 (by decide)
          refine ⟨e, _, _, .ref (pick x0 x1 0), rfl, rfl, SqL.of L.ev, atI_nat (at2 (j := 0) (by decide)), mo, _, _, .ref (pick m0 m1 0), rfl, rfl, SqL.of L.mv, atI_nat (at2 (j := 0) (by decide)), _, .inl ⟨_, S.sq, rfl⟩, _, _, _, _, _, ab, Z 0, ks 0, M 0, _, _, rfl, L.b 0 (by decide), (O 0 (by decide)).pre hi4, (O 0 (by decide)).ko, MJ, by decide, by decide, fun G1 s1 => ?_⟩
          have L1 := L.same s1
          obtain ⟨ab1, MJ1, _⟩ := L1.ml 1 (by decide)
          exact ⟨_, rfl, iteF ⟨e, _, _, .ref (pick x0 x1 1), rfl, rfl, SqL.of L1.ev, atI_nat (at2 (j := 1) (by decide)), mo, _, _, .ref (pick m0 m1 1), rfl, rfl, SqL.of L1.mv, atI_nat (at2 (j := 1) (by decide)), _, _, _, _, _, ab1, Z 1, ks 1, M 1, _, _, rfl, L1.b 1 (by decide), (O 1 (by decide)).pre hi4, (O 1 (by decide)).ko, MJ1, by decide, by decide, fun G2 s2 => ⟨_, rfl, iteF (s1.trans s2)⟩⟩⟩
        · rintro σ' G6 ⟨rfl, s6⟩
          (simp only [tLst, tTup, tDNewK, _root_.L2.start, cxOf_K, cxComp_K, tSeq, tAsg, gName, tRet, tRetN, tDrop, tIfS, tTest, tB, tNot, tAnd, tOr, tAndV, tOrV, tNotV, tOp, tUn, tVar, tC, tCons, tNil, tStrs, tCB, tCall, tChain, tBM, tBM0, tPart, tNoPart, tSl, tIf, tNext, tTrue, selS, Option.bind_none, Option.bind_some, Option.join_some, if_true, rI, rI0, rU, rEq, rNe, rStarts, rSlS, lenV_str, tyV, List.map_cons, List.map_nil, List.length_cons, List.length_nil, List.replicate, List.cons_append, List.nil_append, List.append_nil, Nat.reduceAdd, Nat.reduceSub, Nat.zero_add, Nat.add_zero, Nat.sub_self, List.getElem?_cons_zero, List.getElem?_cons_succ, List.set_cons_zero, List.set_cons_succ, Option.some.injEq, V.int.injEq, V.str.injEq, V.ref.injEq, V.bl.injEq, V.ty.injEq, List.cons.injEq, exists_eq_left, exists_eq_left', exists_eq_right, exists_and_left, exists_eq, and_true, true_and, and_self, and_assoc, tFld, sFld, tMeth, tMake, tDIn, tDNotIn, sDPut, tDPop1, tLcI, tNever, tDGet, tDGet1, tDGet2, tDSetd, tSetLcI])
          have L6 := L.same s6
          obtain ⟨ts, h1, h2, h3⟩ := L6.hd
          refine ⟨_, rfl, he, rfl, ⟨_, SqL.of h1⟩, lc_filt (K := K) (xs := ts) (f := V.ref) (fun _ => false) h1 (Nat.le_of_lt (small1000 (by omega))) ?_ ?_⟩
          · intro t ys G7 ht s7
            (simp only [tLst, tTup, tDNewK, _root_.L2.start, cxOf_K, cxComp_K, tSeq, tAsg, gName, tRet, tRetN, tDrop, tIfS, tTest, tB, tNot, tAnd, tOr, tAndV, tOrV, tNotV, tOp, tUn, tVar, tC, tCons, tNil, tStrs, tCB, tCall, tChain, tBM, tBM0, tPart, tNoPart, tSl, tIf, tNext, tTrue, selS, Option.bind_none, Option.bind_some, Option.join_some, if_true, rI, rI0, rU, rEq, rNe, rStarts, rSlS, lenV_str, tyV, List.map_cons, List.map_nil, List.length_cons, List.length_nil, List.replicate, List.cons_append, List.nil_append, List.append_nil, Nat.reduceAdd, Nat.reduceSub, Nat.zero_add, Nat.add_zero, Nat.sub_self, List.getElem?_cons_zero, List.getElem?_cons_succ, List.set_cons_zero, List.set_cons_succ, Option.some.injEq, V.int.injEq, V.str.injEq, V.ref.injEq, V.bl.injEq, V.ty.injEq, List.cons.injEq, exists_eq_left, exists_eq_left', exists_eq_right, exists_and_left, exists_eq, and_true, true_and, and_self, and_assoc, tFld, sFld, tMeth, tMake, tDIn, tDNotIn, sDPut, tDPop1, tLcI, tNever, tDGet, tDGet1, tDGet2, tDSetd, tSetLcI])
            obtain ⟨p1, p2, ls, g1, _, _, g2, g3, g4⟩ := h3 t ht
            exact ⟨t, _, _, .ref p1, rfl, rfl, SqT.of (s7 _ _ g1), atI_nat (j := 0) rfl, t, _, _, .ref p2, rfl, rfl, SqT.of (s7 _ _ g1), atI_nat (j := 1) rfl, eqLets g4 (s7 _ _ g2) (s7 _ _ g3) ⟨_, rfl, bF rfl ⟨s7, by simp⟩⟩⟩
          · intro G7 s7 D hD
            have e : (ts.filter fun _ => false).map V.ref = [] := by simp
            rw [e]
            exact nilV (l := []) upd_same rfl fun G8 t8 => by rw [decide_eq_true rfl]; exact k _
theorem law_fn {l : PySem.W.OpenLaw} {h : Heap} {fa : Addr} (X : K.In h) (G : h.Ns mainGlobals mg) (hfa : mg "law" = some (.ref fa))
    (i8 : InK K "_law_mixed" (top 8))
    (i9 : InK K "_law_whos" (top 9))
    (i10 : InK K "_law_boxes" (top 10))
    (i11 : InK K "_law_drawn" (top 11))
    (i12 : InK K "_law_at" (top 12))
    (i13 : InK K "_law_told" (top 13))
    (i14 : InK K "_law_done" (top 14))
    (i15 : InK K "_law_alike" (top 15))
    (i16 : InK K "_law_same" (top 16))
    (i17 : InK K "law" (top 17))
    {C_Lines : Addr} (c_Lines : InC K "Lines" C_Lines)
    (na_Lines_places : PySem.W.findIn K (.ref C_Lines) "places" = some none)
    (im_Lines___init__ : InM K C_Lines "__init__" "Lines.__init__" (inClass (top 4) 0))
    (im_Lines_come : InM K C_Lines "come" "Lines.come" (inClass (top 4) 1))
    (im_Lines_leave : InM K C_Lines "leave" "Lines.leave" (inClass (top 4) 2))
    (im_Lines_waiting : InM K C_Lines "waiting" "Lines.waiting" (inClass (top 4) 3))
    (im_Lines_waits_at : InM K C_Lines "waits_at" "Lines.waits_at" (inClass (top 4) 4))
    (im_Lines_busy : InM K C_Lines "busy" "Lines.busy" (inClass (top 4) 5))
    {C_Boxes : Addr} (c_Boxes : InC K "Boxes" C_Boxes)
    (na_Boxes_takers : PySem.W.findIn K (.ref C_Boxes) "takers" = some none)
    (na_Boxes_mail : PySem.W.findIn K (.ref C_Boxes) "mail" = some none)
    (im_Boxes___init__ : InM K C_Boxes "__init__" "Boxes.__init__" (inClass (top 6) 0))
    (im_Boxes_send : InM K C_Boxes "send" "Boxes.send" (inClass (top 6) 1))
    (im_Boxes_take : InM K C_Boxes "take" "Boxes.take" (inClass (top 6) 2))
    (im_Boxes_leave : InM K C_Boxes "leave" "Boxes.leave" (inClass (top 6) 3))
    (im_Boxes_letters : InM K C_Boxes "letters" "Boxes.letters" (inClass (top 6) 4))
    (im_Boxes_waiting : InM K C_Boxes "waiting" "Boxes.waiting" (inClass (top 6) 5))
    (im_Boxes_waits_at : InM K C_Boxes "waits_at" "Boxes.waits_at" (inClass (top 6) 6))
    (im_Boxes_busy : InM K C_Boxes "busy" "Boxes.busy" (inClass (top 6) 7))
    {C_NotWaiting : Addr} (cx : PySem.W.nsIn K mainGlobals "NotWaiting" = some (some (.ref C_NotWaiting))) (qx : PySem.W.excIn K C_NotWaiting [.type "ValueError", .type "Exception", .type "BaseException", .type "object"] "ValueError.__new__" = true)
    (z_len : PySem.W.nsIn K mainGlobals "len" = some none)
    (z_sorted : PySem.W.nsIn K mainGlobals "sorted" = some none)
    (z_set : PySem.W.nsIn K mainGlobals "set" = some none)
    (z_list : PySem.W.nsIn K mainGlobals "list" = some none)
    (z_range : PySem.W.nsIn K mainGlobals "range" = some none)
    (z_enumerate : PySem.W.nsIn K mainGlobals "enumerate" = some none)
    (z_isinstance : PySem.W.nsIn K mainGlobals "isinstance" = some none)
    (z_tuple : PySem.W.nsIn K mainGlobals "tuple" = some none)
    (z_bool : PySem.W.nsIn K mainGlobals "bool" = some none)
    : ∃ fd : FuncData, (∀ (s : Shared) (v : Value), BindsTo s fd ⟨[v], []⟩ [("_law_script", v)]) ∧ ∀ base : Heap, K.In base → base.Ns mainGlobals mg → FnOk l.prog w K mg base CX0 5 fa fd ["_law_script"] (spLaw K) := by
  obtain ⟨d8⟩ := i8.def (ps := ["_law_cell", "_law_k"]) X G fun _ _ _ _ _ _ us hl => match us, hl with | [_, _], _ => rfl
  obtain ⟨d9⟩ := i9.def (ps := []) X G fun _ _ _ _ _ _ us hl => match us, hl with | [], _ => rfl
  obtain ⟨d10⟩ := i10.def (ps := []) X G fun _ _ _ _ _ _ us hl => match us, hl with | [], _ => rfl
  obtain ⟨d11⟩ := i11.def (ps := ["_law_model", "_law_x"]) X G fun _ _ _ _ _ _ us hl => match us, hl with | [_, _], _ => rfl
  obtain ⟨d12⟩ := i12.def (ps := ["_law_model", "_law_who"]) X G fun _ _ _ _ _ _ us hl => match us, hl with | [_, _], _ => rfl
  obtain ⟨d13⟩ := i13.def (ps := ["_law_model", "_law_deed"]) X G fun _ _ _ _ _ _ us hl => match us, hl with | [_, _], _ => rfl
  obtain ⟨d14⟩ := i14.def (ps := ["_law_boxes_here", "_law_deed"]) X G fun _ _ _ _ _ _ us hl => match us, hl with | [_, _], _ => rfl
  obtain ⟨d15⟩ := i15.def (ps := ["_law_found", "_law_due"]) X G fun _ _ _ _ _ _ us hl => match us, hl with | [_, _], _ => rfl
  obtain ⟨d16⟩ := i16.def (ps := ["_law_boxes_here", "_law_model", "_law_x", "_law_many"]) X G fun _ _ _ _ _ _ us hl => match us, hl with | [_, _, _, _], _ => rfl
  obtain ⟨e_Lines___init__⟩ := im_Lines___init__.def (ps := ["self"]) fun _ _ _ _ _ _ us hl => match us, hl with | [_], _ => rfl
  obtain ⟨e_Lines_come⟩ := im_Lines_come.def (ps := ["self", "name", "who"]) fun _ _ _ _ _ _ us hl => match us, hl with | [_, _, _], _ => rfl
  obtain ⟨e_Lines_leave⟩ := im_Lines_leave.def (ps := ["self", "who"]) fun _ _ _ _ _ _ us hl => match us, hl with | [_, _], _ => rfl
  obtain ⟨e_Lines_waiting⟩ := im_Lines_waiting.def (ps := ["self", "name"]) fun _ _ _ _ _ _ us hl => match us, hl with | [_, _], _ => rfl
  obtain ⟨e_Lines_waits_at⟩ := im_Lines_waits_at.def (ps := ["self", "who"]) fun _ _ _ _ _ _ us hl => match us, hl with | [_, _], _ => rfl
  obtain ⟨e_Lines_busy⟩ := im_Lines_busy.def (ps := ["self"]) fun _ _ _ _ _ _ us hl => match us, hl with | [_], _ => rfl
  obtain ⟨e_Boxes___init__⟩ := im_Boxes___init__.def (ps := ["self"]) fun _ _ _ _ _ _ us hl => match us, hl with | [_], _ => rfl
  obtain ⟨e_Boxes_send⟩ := im_Boxes_send.def (ps := ["self", "box", "letter"]) fun _ _ _ _ _ _ us hl => match us, hl with | [_, _, _], _ => rfl
  obtain ⟨e_Boxes_take⟩ := im_Boxes_take.def (ps := ["self", "box", "who"]) fun _ _ _ _ _ _ us hl => match us, hl with | [_, _, _], _ => rfl
  obtain ⟨e_Boxes_leave⟩ := im_Boxes_leave.def (ps := ["self", "who"]) fun _ _ _ _ _ _ us hl => match us, hl with | [_, _], _ => rfl
  obtain ⟨e_Boxes_letters⟩ := im_Boxes_letters.def (ps := ["self", "box"]) fun _ _ _ _ _ _ us hl => match us, hl with | [_, _], _ => rfl
  obtain ⟨e_Boxes_waiting⟩ := im_Boxes_waiting.def (ps := ["self", "box"]) fun _ _ _ _ _ _ us hl => match us, hl with | [_, _], _ => rfl
  obtain ⟨e_Boxes_waits_at⟩ := im_Boxes_waits_at.def (ps := ["self", "who"]) fun _ _ _ _ _ _ us hl => match us, hl with | [_, _], _ => rfl
  obtain ⟨e_Boxes_busy⟩ := im_Boxes_busy.def (ps := ["self"]) fun _ _ _ _ _ _ us hl => match us, hl with | [_], _ => rfl
  obtain ⟨f, oc, od, kV, doc, pm, an, cdv, ct, osl, a, lk, c, kp⟩ := i17.ex
  have F := fun_mk (x := "law") (qual := "law") (st := top 17) lk c kp
  have e := hfa.symm.trans (PySem.W.mg_of X G a)
  cases e
  have T : Tx K mg := ⟨d8, d9, d10, d11, d12, d13, d14, d15, d16, C_Lines, c_Lines.cls, PySem.W.mg_of X G c_Lines.a, na_Lines_places, e_Lines___init__, e_Lines_come, e_Lines_leave, e_Lines_waiting, e_Lines_waits_at, e_Lines_busy, ⟨c_Lines.mak, e_Lines___init__.me.at_, e_Lines___init__.me.fn, c_Lines.kp⟩, C_Boxes, c_Boxes.cls, PySem.W.mg_of X G c_Boxes.a, na_Boxes_takers, na_Boxes_mail, e_Boxes___init__, e_Boxes_send, e_Boxes_take, e_Boxes_leave, e_Boxes_letters, e_Boxes_waiting, e_Boxes_waits_at, e_Boxes_busy, ⟨c_Boxes.mak, e_Boxes___init__.me.at_, e_Boxes___init__.me.fn, c_Boxes.kp⟩, C_NotWaiting, ⟨PySem.W.mg_of X G cx, qx⟩, PySem.W.mg_none_of X G z_len, PySem.W.mg_none_of X G z_sorted, PySem.W.mg_none_of X G z_set, PySem.W.mg_none_of X G z_list, PySem.W.mg_none_of X G z_range, PySem.W.mg_none_of X G z_enumerate, PySem.W.mg_none_of X G z_isinstance, PySem.W.mg_none_of X G z_tuple, PySem.W.mg_none_of X G z_bool⟩
  refine ⟨PySem.W.fnOf "law" "law" (defArgs (top 17)) (defBody (top 17)) (defScope (top 17)) .none kV doc pm an cdv ct, fun s v => .of_eq rfl, fun base _ _ => ?_⟩
  have g_Lines___init__ := ok_Lines___init__ (P := l.prog) (w := w) (base := base) T  
  have g_Lines_come := ok_Lines_come (P := l.prog) (w := w) (base := base) T  
  have g_Lines_leave := ok_Lines_leave (P := l.prog) (w := w) (base := base) T  
  have g_Lines_waiting := ok_Lines_waiting (P := l.prog) (w := w) (base := base) T  
  have g_Lines_waits_at := ok_Lines_waits_at (P := l.prog) (w := w) (base := base) T  
  have g_Lines_busy := ok_Lines_busy (P := l.prog) (w := w) (base := base) T  
  have g_Boxes___init__ := ok_Boxes___init__ (P := l.prog) (w := w) (base := base) T  g_Lines___init__
  have g_Boxes_letters := ok_Boxes_letters (P := l.prog) (w := w) (base := base) T  
  have g_Boxes_send := ok_Boxes_send (P := l.prog) (w := w) (base := base) T  g_Lines_waiting g_Lines_leave
  have g_Boxes_take := ok_Boxes_take (P := l.prog) (w := w) (base := base) T  g_Lines_waits_at g_Lines_come g_Boxes_letters
  have g_Boxes_leave := ok_Boxes_leave (P := l.prog) (w := w) (base := base) T  g_Lines_leave
  have g_Boxes_waiting := ok_Boxes_waiting (P := l.prog) (w := w) (base := base) T  g_Lines_waiting
  have g_Boxes_waits_at := ok_Boxes_waits_at (P := l.prog) (w := w) (base := base) T  g_Lines_waits_at
  have g_Boxes_busy := ok_Boxes_busy (P := l.prog) (w := w) (base := base) T  g_Lines_busy
  have g_l_mixed := ok_l_mixed (P := l.prog) (w := w) (base := base) T  
  have g_l_whos := ok_l_whos (P := l.prog) (w := w) (base := base) T  
  have g_l_boxes := ok_l_boxes (P := l.prog) (w := w) (base := base) T  
  have g_l_drawn := ok_l_drawn (P := l.prog) (w := w) (base := base) T  g_l_whos g_l_boxes
  have g_l_at := ok_l_at (P := l.prog) (w := w) (base := base) T  g_l_boxes
  have g_l_told := ok_l_told (P := l.prog) (w := w) (base := base) T  g_l_at
  have g_l_done := ok_l_done (P := l.prog) (w := w) (base := base) T  g_Boxes_send g_Boxes_take g_Boxes_leave
  have g_l_alike := ok_l_alike (P := l.prog) (w := w) (base := base) T  
  have g_l_same := ok_l_same (P := l.prog) (w := w) (base := base) T  g_Boxes_letters g_Boxes_waiting g_Boxes_waits_at g_Boxes_busy g_l_whos g_l_boxes g_l_at
  exact ok_law T F  g_Boxes___init__ g_Boxes_letters g_l_mixed g_l_boxes g_l_drawn g_l_told g_l_done g_l_alike g_l_same

end
end K40
open PySem PySem.W PyProof.Rows
set_option maxRecDepth 100000 in
set_option maxHeartbeats 0 in
theorem PySem.Challenge.cw_nightwatch_k40_boxes_holds : PySem.Challenge.rw_nightwatch_k40_boxes.Holds := by
  w_on; o_law; k_head; (case hw => w_witness2)
  k_fill
  refine L2.walk_ofK (l := PySem.Challenge.rw_nightwatch_k40_boxes) (n := 63) (k := 5) (x := "_law_script") (CX := L2.CX0) (sp := K40.spLaw) rfl (by decide) rfl ⟨rfl, by decide, by decide⟩ (fun w h Y => PySem.W.kIn_of Y) ?F (fun K H a ns hl _ hS => ⟨a, ns, rfl, hS, hl, fun _ => rfl⟩) (fun _ _ _ _ z => z)
  case F =>
    intro w mg fa h KX G hmg
    refine' K40.law_fn KX G hmg ?i8 ?i9 ?i10 ?i11 ?i12 ?i13 ?i14 ?i15 ?i16 ?i17 ?c_Lines ?na_Lines_places ?im_Lines___init__ ?im_Lines_come ?im_Lines_leave ?im_Lines_waiting ?im_Lines_waits_at ?im_Lines_busy ?c_Boxes ?na_Boxes_takers ?na_Boxes_mail ?im_Boxes___init__ ?im_Boxes_send ?im_Boxes_take ?im_Boxes_leave ?im_Boxes_letters ?im_Boxes_waiting ?im_Boxes_waits_at ?im_Boxes_busy ?cx ?qx ?z_len ?z_sorted ?z_set ?z_list ?z_range ?z_enumerate ?z_isinstance ?z_tuple ?z_bool
    case i8 =>
      refine' L2.InK.of ?a ?l ?c ?k
      (case a => k_is); (case l => k_is); (case c => k_is); (case k => k_is)
    case i9 =>
      refine' L2.InK.of ?a ?l ?c ?k
      (case a => k_is); (case l => k_is); (case c => k_is); (case k => k_is)
    case i10 =>
      refine' L2.InK.of ?a ?l ?c ?k
      (case a => k_is); (case l => k_is); (case c => k_is); (case k => k_is)
    case i11 =>
      refine' L2.InK.of ?a ?l ?c ?k
      (case a => k_is); (case l => k_is); (case c => k_is); (case k => k_is)
    case i12 =>
      refine' L2.InK.of ?a ?l ?c ?k
      (case a => k_is); (case l => k_is); (case c => k_is); (case k => k_is)
    case i13 =>
      refine' L2.InK.of ?a ?l ?c ?k
      (case a => k_is); (case l => k_is); (case c => k_is); (case k => k_is)
    case i14 =>
      refine' L2.InK.of ?a ?l ?c ?k
      (case a => k_is); (case l => k_is); (case c => k_is); (case k => k_is)
    case i15 =>
      refine' L2.InK.of ?a ?l ?c ?k
      (case a => k_is); (case l => k_is); (case c => k_is); (case k => k_is)
    case i16 =>
      refine' L2.InK.of ?a ?l ?c ?k
      (case a => k_is); (case l => k_is); (case c => k_is); (case k => k_is)
    case i17 =>
      refine' L2.InK.of ?a ?l ?c ?k
      (case a => k_is); (case l => k_is); (case c => k_is); (case k => k_is)
    case c_Lines =>
      refine' L2.InC.mk ?a ?b ?c ?d ?e ?f ?g
      (case a => k_is); (case b => k_is); (case c => k_is); (case d => k_is); (case e => k_is); (case f => k_is); (case g => k_is)
    (case na_Lines_places => k_is)
    case im_Lines___init__ =>
      refine' L2.InM.of ?a ?i ?l ?c ?k
      (case a => k_is); (case i => k_is); (case l => k_is); (case c => k_is); (case k => k_is)
    case im_Lines_come =>
      refine' L2.InM.of ?a ?i ?l ?c ?k
      (case a => k_is); (case i => k_is); (case l => k_is); (case c => k_is); (case k => k_is)
    case im_Lines_leave =>
      refine' L2.InM.of ?a ?i ?l ?c ?k
      (case a => k_is); (case i => k_is); (case l => k_is); (case c => k_is); (case k => k_is)
    case im_Lines_waiting =>
      refine' L2.InM.of ?a ?i ?l ?c ?k
      (case a => k_is); (case i => k_is); (case l => k_is); (case c => k_is); (case k => k_is)
    case im_Lines_waits_at =>
      refine' L2.InM.of ?a ?i ?l ?c ?k
      (case a => k_is); (case i => k_is); (case l => k_is); (case c => k_is); (case k => k_is)
    case im_Lines_busy =>
      refine' L2.InM.of ?a ?i ?l ?c ?k
      (case a => k_is); (case i => k_is); (case l => k_is); (case c => k_is); (case k => k_is)
    case c_Boxes =>
      refine' L2.InC.mk ?a ?b ?c ?d ?e ?f ?g
      (case a => k_is); (case b => k_is); (case c => k_is); (case d => k_is); (case e => k_is); (case f => k_is); (case g => k_is)
    (case na_Boxes_takers => k_is)
    (case na_Boxes_mail => k_is)
    case im_Boxes___init__ =>
      refine' L2.InM.of ?a ?i ?l ?c ?k
      (case a => k_is); (case i => k_is); (case l => k_is); (case c => k_is); (case k => k_is)
    case im_Boxes_send =>
      refine' L2.InM.of ?a ?i ?l ?c ?k
      (case a => k_is); (case i => k_is); (case l => k_is); (case c => k_is); (case k => k_is)
    case im_Boxes_take =>
      refine' L2.InM.of ?a ?i ?l ?c ?k
      (case a => k_is); (case i => k_is); (case l => k_is); (case c => k_is); (case k => k_is)
    case im_Boxes_leave =>
      refine' L2.InM.of ?a ?i ?l ?c ?k
      (case a => k_is); (case i => k_is); (case l => k_is); (case c => k_is); (case k => k_is)
    case im_Boxes_letters =>
      refine' L2.InM.of ?a ?i ?l ?c ?k
      (case a => k_is); (case i => k_is); (case l => k_is); (case c => k_is); (case k => k_is)
    case im_Boxes_waiting =>
      refine' L2.InM.of ?a ?i ?l ?c ?k
      (case a => k_is); (case i => k_is); (case l => k_is); (case c => k_is); (case k => k_is)
    case im_Boxes_waits_at =>
      refine' L2.InM.of ?a ?i ?l ?c ?k
      (case a => k_is); (case i => k_is); (case l => k_is); (case c => k_is); (case k => k_is)
    case im_Boxes_busy =>
      refine' L2.InM.of ?a ?i ?l ?c ?k
      (case a => k_is); (case i => k_is); (case l => k_is); (case c => k_is); (case k => k_is)
    (case cx => k_is)
    (case qx => k_exc)
    (case z_len => k_is)
    (case z_sorted => k_is)
    (case z_set => k_is)
    (case z_list => k_is)
    (case z_range => k_is)
    (case z_enumerate => k_is)
    (case z_isinstance => k_is)
    (case z_tuple => k_is)
    (case z_bool => k_is)
#print axioms PySem.Challenge.cw_nightwatch_k40_boxes_holds

