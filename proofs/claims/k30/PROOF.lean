import PyProof.Rows.All
import Wide.All
import OpenK.AllK
import Wide.FinOn
import Lean
import PyProof.EqAt
import PyProof.EqKinds
import PyProof.NeKinds
import PyProof.TupleCall
import KE.KPairComp
import KE.KSortTup
import PySem.Challenge.RW_nightwatch_k30_a_clock
set_option Elab.async false
set_option linter.all false
set_option genSizeOf false
set_option maxRecDepth 100000
namespace L2
open PySem PySem.Spec PyProof.Rows

abbrev Key := Sum Int Str
def keyIs : Key → Value → Bool
  | .inl k, v => Value.isInt k v
  | .inr x, v => Value.isStrOf x v
def keyH (w : World) : Key → Int
  | .inl k => hashInt k
  | .inr x => hashStr w x
theorem keyIs_shape : ∀ {k : Key} {v : Value}, keyIs k v = true → (∃ i t, k = Sum.inl i ∧ v = Value.int i t) ∨ (∃ x t, k = Sum.inr x ∧ v = Value.str x t)
  | .inl i, v, h => by
    obtain ⟨t, e⟩ := Value.isInt_shape (k := i) (v := v) h
    exact .inl ⟨i, t, rfl, e⟩
  | .inr x, v, h => by
    obtain ⟨t, e⟩ := Value.isStrOf_shape (x := x) (v := v) h
    exact .inr ⟨x, t, rfl, e⟩
theorem keyIs_int (i : Int) (t : Tok) : keyIs (.inl i) (.int i t) = true := by simp [keyIs, Value.isInt]
theorem keyIs_str (x : Str) (t : Tok) : keyIs (.inr x) (.str x t) = true := by simp [keyIs, Value.isStrOf]
theorem key_ll (a b : Int) : decide ((Sum.inl a : Key) = Sum.inl b) = (a == b) := by
  by_cases e : a = b
  · subst e; simp
  · have h : ¬ (Sum.inl a : Key) = Sum.inl b := fun q => e (Sum.inl.inj q)
    rw [decide_eq_false h]
    exact (beq_eq_false_iff_ne.mpr e).symm
theorem key_rr (a b : Str) : decide ((Sum.inr a : Key) = Sum.inr b) = decide (a = b) := by
  by_cases e : a = b
  · subst e; simp
  · have h : ¬ (Sum.inr a : Key) = Sum.inr b := fun q => e (Sum.inr.inj q)
    rw [decide_eq_false h, decide_eq_false e]
theorem key_lr (a : Int) (b : Str) : decide ((Sum.inl a : Key) = Sum.inr b) = false := decide_eq_false (fun q => nomatch q)
theorem key_rl (a : Str) (b : Int) : decide ((Sum.inr a : Key) = Sum.inl b) = false := decide_eq_false (fun q => nomatch q)

def mixKind (prog : Program) (w : World) : PySem.KeyKind prog w Key where
  is := keyIs
  hash := keyH w
  inj := fun v a b ha hb => by
    rcases keyIs_shape ha with ⟨i, t, rfl, rfl⟩ | ⟨x, t, rfl, rfl⟩
    · rcases keyIs_shape hb with ⟨j, u, rfl, e⟩ | ⟨y, u, rfl, e⟩
      · injection e with e1 _; rw [e1]
      · exact nomatch e
    · rcases keyIs_shape hb with ⟨j, u, rfl, e⟩ | ⟨y, u, rfl, e⟩
      · exact nomatch e
      · injection e with e1 _; rw [e1]
  byValue := fun k v h => by
    rcases keyIs_shape h with ⟨i, t, rfl, rfl⟩ | ⟨x, t, rfl, rfl⟩ <;> rfl
  pyHash := fun hv h => by
    rcases keyIs_shape hv with ⟨i, t, rfl, rfl⟩ | ⟨x, t, rfl, rfl⟩
    · exact wpAny_pyHash_int h
    · exact wpAny_pyHash_str h
  eqBool := fun hu hv h => by
    rcases keyIs_shape hu with ⟨i, t, rfl, rfl⟩ | ⟨x, t, rfl, rfl⟩
    · rcases keyIs_shape hv with ⟨j, u, rfl, rfl⟩ | ⟨y, u, rfl, rfl⟩
      · rw [key_ll] at h; exact wpAny_eqBool_int h
      · rw [key_lr] at h; exact SeqAt.EqAt.int_str i t y u _ _ _ _ h
    · rcases keyIs_shape hv with ⟨j, u, rfl, rfl⟩ | ⟨y, u, rfl, rfl⟩
      · rw [key_rl] at h; exact SeqAt.EqAt.str_int x t j u _ _ _ _ h
      · rw [key_rr] at h; exact wpAny_eqBool_str h
  «strs» := fun k x t v h => by
    rcases keyIs_shape h with ⟨i, u, rfl, e⟩ | ⟨y, u, rfl, e⟩
    · exact nomatch e
    · injection e with e1 _
      subst e1
      cases v <;> rfl

theorem mixKind_is (prog : Program) (w : World) (k : Key) (v : Value) : (mixKind prog w).is k v = keyIs k v := rfl
theorem mixKind_int (prog : Program) (w : World) (i : Int) (t : Tok) : (mixKind prog w).is (.inl i) (.int i t) = true := keyIs_int i t
theorem mixKind_str (prog : Program) (w : World) (x : Str) (t : Tok) : (mixKind prog w).is (.inr x) (.str x t) = true := keyIs_str x t
end L2

namespace L2
open PySem PySem.Spec PyProof.Rows

inductive V where
  | non | bl (b : Bool) | int (i : Int) | str (x : Str) | byt (b : Array UInt8) | flt (b : UInt64) | ref (a : Addr) | ty (n : String)
  deriving DecidableEq

def RelV : V → Value → Prop
  | .non, u => u = Value.none
  | .bl b, u => u = Value.bool b
  | .int i, u => ∃ t, u = Value.int i t
  | .str x, u => ∃ t, u = Value.str x t
  | .byt b, u => ∃ t, u = Value.bytes b t
  | .flt b, u => ∃ t, u = Value.float b t
  | .ref a, u => u = Value.ref a
  | .ty n, u => u = Value.type n

abbrev Vals : List V → List Value → Prop := Paired RelV
theorem Vals.length {xs : List V} {us : List Value} (r : Vals xs us) : xs.length = us.length := Paired.length r
theorem Vals.get : ∀ {xs : List V} {us : List Value} {i : Nat} {x : V}, Vals xs us → xs[i]? = some x → ∃ u, us[i]? = some u ∧ RelV x u
  | _, _, _, _, .nil, e => by simp at e
  | _, _, 0, _, .cons r _, e => by simp at e; subst e; exact ⟨_, rfl, r⟩
  | _, _, i + 1, x, .cons _ t, e => by
    obtain ⟨u, h1, h2⟩ := Vals.get (i := i) (x := x) t (by simpa using e)
    exact ⟨u, by simpa using h1, h2⟩
theorem Vals.set {x : V} {u : Value} (r : RelV x u) : ∀ {xs : List V} {us : List Value} (i : Nat), Vals xs us → Vals (xs.set i x) (us.set i u)
  | _, _, _, .nil => .nil
  | _, _, 0, .cons _ t => .cons r t
  | _, _, i + 1, .cons q t => .cons q (Vals.set r i t)
theorem Vals.append : ∀ {xs ys : List V} {us ws : List Value}, Vals xs us → Vals ys ws → Vals (xs ++ ys) (us ++ ws)
  | _, _, _, _, .nil, s => s
  | _, _, _, _, .cons r t, s => .cons r (Vals.append t s)
theorem Vals.take : ∀ {xs : List V} {us : List Value} (n : Nat), Vals xs us → Vals (xs.take n) (us.take n)
  | _, _, 0, _ => .nil
  | _, _, _ + 1, .nil => .nil
  | _, _, n + 1, .cons r t => .cons r (Vals.take n t)
theorem Vals.drop : ∀ {xs : List V} {us : List Value} (n : Nat), Vals xs us → Vals (xs.drop n) (us.drop n)
  | _, _, 0, r => r
  | _, _, _ + 1, .nil => .nil
  | _, _, n + 1, .cons _ t => Vals.drop n t
theorem Vals.none_of : ∀ {xs : List V} {us : List Value} {i : Nat}, Vals xs us → xs[i]? = none → us[i]? = none := fun {xs us i} r e => by
  have h1 := r.length
  have h2 : xs.length ≤ i := List.getElem?_eq_none_iff.mp e
  exact List.getElem?_eq_none_iff.mpr (by omega)

def RelO : Option V → Option Value → Prop
  | some v, some u => RelV v u
  | none, none => True
  | _, _ => False
def KV {κ : Type} : List (κ × V) → List (κ × Value) → Prop := Paired fun (p : κ × V) (q : κ × Value) => p.1 = q.1 ∧ RelV p.2 q.2

def kV : Key → V
  | .inl i => .int i
  | .inr x => .str x

inductive HO where
  | lst (xs : List V)
  | tup (xs : List V)
  | dK (kvs : List (Key × V)) | dT (kvs : List (List Key × V))
  | set (S : Int → Bool) (n : Nat)
  | ins (C dx : Addr) (fs : List (Str × V))
  | own (x : Addr)
  | xd (fs : List (Str × V))
  | met (f x : Addr)
  | rng (lo hi : Int)
  | frz (o : Obj) (u : HO)
  | tbl (ps : Array Value)
  | ext (φ : Heap → Prop)

abbrev Hp := Addr → Option HO
def upd (H : Hp) (a : Addr) (o : HO) : Hp := fun b => if b = a then some o else H b
theorem upd_same {H : Hp} {a : Addr} {o : HO} : upd H a o a = some o := by unfold upd; rw [if_pos rfl]
theorem upd_ne {H : Hp} {a b : Addr} {o : HO} (h : b ≠ a) : upd H a o b = H b := by unfold upd; rw [if_neg h]
theorem upd_upd {H : Hp} {a : Addr} {o u : HO} : upd (upd H a o) a u = upd H a u := by
  funext b; unfold upd; split <;> rfl
theorem ne_of {H : Hp} {a b : Addr} {o u : HO} (h : H a = some o) (h' : H b = some u) (d : o ≠ u) : a ≠ b := by
  intro e; subst e; rw [h] at h'; exact d (Option.some.inj h')
theorem ne_of_none {H : Hp} {a b : Addr} {o : HO} (h : H a = some o) (h' : H b = none) : a ≠ b := by
  intro e; subst e; rw [h] at h'; cases h'

section
variable (P : Program) (w : World)
def ObjOk (H : Hp) (h : Heap) (a : Addr) : HO → Prop
  | .lst xs => xs.length ≤ sizeLine ∧ ∃ (its : List Value) (n : Nat), Vals xs its ∧ h.get? a = some { cls := .type "list", data := .seq its.toArray n }
  | .tup xs => xs.length ≤ sizeLine ∧ ∃ its : List Value, Vals xs its ∧ IsTup h a its.toArray
  | .dK kvs => kvs.length ≤ sizeLine ∧ (a == sysModules) = false ∧ ∃ vs, KV kvs vs ∧ h.DictOf (mixKind P w) a vs
  | .dT kvs => kvs.length ≤ sizeLine ∧ (a == sysModules) = false ∧ ∃ xs : List (List Key × Addr × Value),
      Paired (fun (p : List Key × V) (q : List Key × Addr × Value) => p.1 = q.1 ∧ H q.2.1 = some (.tup (p.1.map kV)) ∧ RelV p.2 q.2.2) kvs xs ∧
      ∃ o es ep, h.get? a = some o ∧ o.ExactDict ∧ o.data = .dict es ep ∧ es.toList = xs.map (entryOfKey (tupleKind (mixKind P w))) ∧ (xs.map (·.1)).Nodup
  | .set S n => h.SetOf (intKind P w) a S n
  | .ins C dx fs => H dx = some (.own a) ∧ fs.length ≤ 1000 ∧ dx ≠ a ∧ h.get? a = some (PySem.W.instObj C dx) ∧
      ∃ mA, h.Ns1 dx mA ∧ (∀ f, RelO (fs.lookup f) (mA f)) ∧ PySem.Within mA (fs.map (·.1))
  | .own _ => ∃ o, h.get? a = some o
  | .xd fs => ∃ mA, h.Ns1 a mA ∧ ∀ f, RelO (fs.lookup f) (mA f)
  | .rng lo hi => ∃ t u v, h.get? a = some { cls := .type "range", data := .fields #[.int lo t, .int hi u, .int 1 v] }
  | .frz o u => h.get? a = some o ∧ ObjOk H h a u
  | .tbl ps => h.get? a = some { cls := .none, data := .fields ps }
  | .met f x => h.get? a = some (PySem.W.methodObj (.ref f) (.ref x))
  | .ext φ => φ h ∧ (∃ o, h.get? a = some o) ∧ ∀ h1 h2 : Heap, φ h1 → (∀ o, h1.get? a = some o → h2.get? a = some o) → φ h2
def HOk (H : Hp) (h : Heap) : Prop := ∀ a o, H a = some o → ObjOk P w H h a o
end

section
variable {P : Program} {w : World} {H H' : Hp} {h h' : Heap} {a : Addr} {o : HO}
theorem ObjOk.lt (x : ObjOk P w H h a o) : a < h.objs.size := by
  cases o with
  | lst xs => obtain ⟨_, _, _, _, e⟩ := x; exact Heap.lt_size e
  | tup xs => obtain ⟨_, _, _, p⟩ := x; exact p.lt
  | dK kvs => obtain ⟨_, _, _, _, o, _, _, e, _⟩ := x; exact Heap.lt_size e
  | dT kvs => obtain ⟨_, _, _, _, o, _, _, e, _⟩ := x; exact Heap.lt_size e
  | set S n => obtain ⟨o, _, _, _, e, _⟩ := x; exact Heap.lt_size e
  | ins C dx fs => obtain ⟨_, _, _, e, _⟩ := x; exact Heap.lt_size e
  | own y => obtain ⟨_, e⟩ := x; exact Heap.lt_size e
  | xd fs => obtain ⟨_, ⟨_, _, _, e, _⟩, _⟩ := x; exact Heap.lt_size e
  | rng lo hi => obtain ⟨_, _, _, e⟩ := x; exact Heap.lt_size e
  | frz ob u => obtain ⟨e, _⟩ := x; exact Heap.lt_size e
  | tbl ps => exact Heap.lt_size (show h.get? a = some _ from x)
  | met f y => exact Heap.lt_size (show h.get? a = some _ from x)
  | ext φ => obtain ⟨_, ⟨_, e⟩, _⟩ := x; exact Heap.lt_size e
theorem Paired.mapP {α β : Type} {F G : α → β → Prop} : ∀ {l₁ : List α} {l₂ : List β}, Paired F l₁ l₂ → (∀ a b, F a b → G a b) → Paired G l₁ l₂
  | _, _, .nil, _ => .nil
  | _, _, .cons r t, f => .cons (f _ _ r) (Paired.mapP t f)
theorem Paired.imp' {α β : Type} {F G : α → β → Prop} (f : ∀ a b, F a b → G a b) {l₁ : List α} {l₂ : List β} (r : Paired F l₁ l₂) : Paired G l₁ l₂ := Paired.mapP r f
theorem ObjOk.stay (x : ObjOk P w H h a o) (k : ∀ b u, (b = a ∨ H b = some (.own a)) → h.get? b = some u → h'.get? b = some u)
    (ho : ∀ b, H b = some (.own a) → H' b = some (.own a)) (ht : ∀ b xs, H b = some (.tup xs) → H' b = some (.tup xs)) : ObjOk P w H' h' a o := by
  induction o with
  | lst xs => obtain ⟨z, its, n, r, e⟩ := x; exact ⟨z, its, n, r, k _ _ (.inl rfl) e⟩
  | tup xs => obtain ⟨z, its, r, ob, e, c⟩ := x; exact ⟨z, its, r, ob, k _ _ (.inl rfl) e, c⟩
  | dK kvs => obtain ⟨z, y, vs, r, ob, es, ep, e, c⟩ := x; exact ⟨z, y, vs, r, ob, es, ep, k _ _ (.inl rfl) e, c⟩
  | dT kvs =>
    obtain ⟨z, y, xs, r, ob, es, ep, e, c⟩ := x
    exact ⟨z, y, xs, Paired.mapP r fun p q z => ⟨z.1, ht _ _ z.2.1, z.2.2⟩, ob, es, ep, k _ _ (.inl rfl) e, c⟩
  | set S n => obtain ⟨ob, es, ep, t, e, c⟩ := x; exact ⟨ob, es, ep, t, k _ _ (.inl rfl) e, c⟩
  | ins C dx fs =>
    obtain ⟨d, z, ne, e, mA, ⟨od, es, ep, e2, c⟩, r⟩ := x
    exact ⟨ho _ d, z, ne, k _ _ (.inl rfl) e, mA, ⟨od, es, ep, k _ _ (.inr d) e2, c⟩, r⟩
  | own y => obtain ⟨ob, e⟩ := x; exact ⟨ob, k _ _ (.inl rfl) e⟩
  | xd fs => obtain ⟨mA, ⟨od, es, ep, e, c⟩, r⟩ := x; exact ⟨mA, ⟨od, es, ep, k _ _ (.inl rfl) e, c⟩, r⟩
  | rng lo hi => obtain ⟨t, u, v, e⟩ := x; exact ⟨t, u, v, k _ _ (.inl rfl) e⟩
  | frz ob u ih => obtain ⟨e, q⟩ := x; exact ⟨k _ _ (.inl rfl) e, ih q⟩
  | tbl ps =>
    have e : h.get? a = some { cls := .none, data := .fields ps } := x
    show h'.get? a = some { cls := .none, data := .fields ps }
    exact k a _ (.inl rfl) e
  | met f y =>
    have e : h.get? a = some (PySem.W.methodObj (.ref f) (.ref y)) := x
    show h'.get? a = some (PySem.W.methodObj (.ref f) (.ref y))
    exact k a _ (.inl rfl) e
  | ext φ => obtain ⟨p, ⟨o, e⟩, st⟩ := x; exact ⟨st _ _ p fun o q => k _ _ (.inl rfl) q, ⟨o, k _ _ (.inl rfl) e⟩, st⟩
theorem HOk.lt (x : HOk P w H h) (e : H a = some o) : a < h.objs.size := (x a o e).lt
theorem HOk.fresh (x : HOk P w H h) (e : h.objs.size ≤ a) : H a = none := by
  cases q : H a with
  | none => rfl
  | some u => exact absurd (Nat.lt_of_lt_of_le (x.lt q) e) (Nat.lt_irrefl _)
theorem HOk.kept (x : HOk P w H h) (k : ∀ b u, h.get? b = some u → h'.get? b = some u) : HOk P w H h' := fun a o e =>
  (x a o e).stay (fun b u _ q => k b u q) (fun _ q => q) fun _ _ q => q
theorem HOk.laid (x : HOk P w H h) (k : ∀ b u, h.get? b = some u → h'.get? b = some u) (hp : h.objs.size ≤ a) (new : ObjOk P w (upd H a o) h' a o) : HOk P w (upd H a o) h' := fun b u e => by
  have hn := x.fresh hp
  by_cases hb : b = a
  · subst hb; rw [upd_same] at e; cases e; exact new
  · rw [upd_ne hb] at e
    exact (x b u e).stay (fun c v _ q => k c v q) (fun c q => by rw [upd_ne (ne_of_none q hn)]; exact q) fun c xs q => by rw [upd_ne (ne_of_none q hn)]; exact q
end

def Rd (H : Hp) (a : Addr) (u : HO) : Prop := H a = some u ∨ ∃ o, H a = some (.frz o u)
theorem Rd.of {H : Hp} {a : Addr} {u : HO} (h : H a = some u) : Rd H a u := .inl h
theorem Rd.ok {P : Program} {w : World} {H : Hp} {h : Heap} {a : Addr} {u : HO} (r : Rd H a u) (x : HOk P w H h) : ObjOk P w H h a u := by
  rcases r with r | ⟨o, r⟩
  · exact x a u r
  · obtain ⟨_, q⟩ := x a _ r
    exact q
def Mut : Option HO → Prop
  | some (.lst _) => True
  | some (.dK _) => True
  | some (.dT _) => True
  | some (.set _ _) => True
  | some (.ins _ _ _) => True
  | some (.ext _) => True
  | _ => False
section
variable {P : Program} {w : World} {H : Hp} {h h' : Heap} {x e : Addr} {o' : HO}
theorem HOk.write (ok : HOk P w H h) (mu : Mut (H x)) (he : e = x ∨ H e = some (.own x)) (k : ∀ b u, b ≠ e → h.get? b = some u → h'.get? b = some u) (heo : ∃ u, h'.get? e = some u)
    (new : ObjOk P w (upd H x o') h' x o') : HOk P w (upd H x o') h' := fun b u q => by
  have nown : ∀ c y, H c = some (.own y) → c ≠ x := fun c y r z => by subst z; rw [r] at mu; exact mu
  have ntup : ∀ c xs, H c = some (.tup xs) → c ≠ x := fun c xs r z => by subst z; rw [r] at mu; exact mu
  by_cases hb : b = x
  · subst hb; rw [upd_same] at q; cases q; exact new
  · rw [upd_ne hb] at q
    by_cases hbe : b = e
    · have q' : H b = some (.own x) := by
        rcases he with z | z
        · exact absurd (hbe.trans z) hb
        · rw [hbe]; exact z
      rw [q] at q'; cases q'
      obtain ⟨v, hv⟩ := heo
      exact ⟨v, by rw [hbe]; exact hv⟩
    · refine (ok b u q).stay (fun c v hc r => k c v ?_ r) (fun c r => by rw [upd_ne (nown c b r)]; exact r) fun c xs r => by rw [upd_ne (ntup c xs r)]; exact r
      rcases hc with rfl | hc
      · exact hbe
      · rintro rfl
        rcases he with z | z
        · exact nown c b hc z
        · rw [hc] at z; cases z; exact hb rfl
end

structure Un (fs ex : List Addr) (H H' : Hp) (h h' : Heap) : Prop where
  keep : ∀ b o, h.get? b = some o → H b = none → b ∉ fs → b ∉ ex → h'.get? b = some o
  slot : ∀ b o, h.get? b = some o → H b = none → b ∈ fs → b ∉ ex → ∃ sl, h'.get? b = some { o with slots := sl }
  free : ∀ b o, h.get? b = some o → H b = none → b ∉ ex → H' b = none
  there : ∀ b o, h.get? b = some o → b ∉ ex → ∃ o', h'.get? b = some o'
  tups : ∀ b xs, H b = some (.tup xs) → H' b = some (.tup xs)
  frzs : ∀ b o u, H b = some (.frz o u) → H' b = some (.frz o u)
  tbls : ∀ b ps, H b = some (.tbl ps) → ∃ more, H' b = some (.tbl (ps ++ more))
section
variable {fs fs' ex ex' : List Addr} {H H1 H2 : Hp} {h h1 h2 h' : Heap} {a x e : Addr} {o : HO}
theorem Un.any (u : Un fs ex H H1 h h1) {b : Addr} {ob : Obj} (q : h.get? b = some ob) (n : H b = none) (hx : b ∉ ex) : ∃ sl, h1.get? b = some { ob with slots := sl } := by
  by_cases hb : b ∈ fs
  · exact u.slot b ob q n hb hx
  · exact ⟨ob.slots, u.keep b ob q n hb hx⟩
theorem Un.trans (a : Un fs ex H H1 h h1) (b : Un fs ex H1 H2 h1 h2) : Un fs ex H H2 h h2 where
  keep := fun c ob q n hc hx => b.keep c ob (a.keep c ob q n hc hx) (a.free c ob q n hx) hc hx
  slot := fun c ob q n hc hx => by
    obtain ⟨sl, e1⟩ := a.slot c ob q n hc hx
    obtain ⟨sl', e2⟩ := b.slot c _ e1 (a.free c ob q n hx) hc hx
    exact ⟨sl', e2⟩
  free := fun c ob q n hx => by
    obtain ⟨o', e1⟩ := a.there c ob q hx
    exact b.free c o' e1 (a.free c ob q n hx) hx
  there := fun c ob q hx => by
    obtain ⟨o', e1⟩ := a.there c ob q hx
    exact b.there c o' e1 hx
  tups := fun c xs q => b.tups c xs (a.tups c xs q)
  frzs := fun c ob xs q => b.frzs c ob xs (a.frzs c ob xs q)
  tbls := fun c ps q => by
    obtain ⟨m1, e1⟩ := a.tbls c ps q
    obtain ⟨m2, e2⟩ := b.tbls c _ e1
    exact ⟨m1 ++ m2, by rw [e2, Array.append_assoc]⟩
theorem Un.kept (k : ∀ b u, h.get? b = some u → h'.get? b = some u) : Un fs ex H H h h' :=
  ⟨fun b ob q _ _ _ => k b ob q, fun b ob q _ _ _ => ⟨ob.slots, k b ob q⟩, fun _ _ _ n _ => n, fun b ob q _ => ⟨ob, k b ob q⟩, fun _ _ q => q, fun _ _ _ q => q, fun _ ps q => ⟨#[], by rw [q]; simp⟩⟩
theorem Un.refl : Un fs ex H H h h := Un.kept fun _ _ q => q
theorem Un.laid (k : ∀ b u, h.get? b = some u → h'.get? b = some u) (hp : h.objs.size ≤ a) (hn : H a = none) : Un fs ex H (upd H a o) h h' where
  keep := fun b u q _ _ _ => k b u q
  slot := fun b u q _ _ _ => ⟨u.slots, k b u q⟩
  free := fun b u q n _ => by rw [upd_ne (Nat.ne_of_lt (Nat.lt_of_lt_of_le (Heap.lt_size q) hp))]; exact n
  there := fun b u q _ => ⟨u, k b u q⟩
  tups := fun b xs q => by rw [upd_ne (ne_of_none q hn)]; exact q
  frzs := fun b u xs q => by rw [upd_ne (ne_of_none q hn)]; exact q
  tbls := fun b ps q => ⟨#[], by rw [upd_ne (ne_of_none q hn), q]; simp⟩
theorem Un.write (mu : Mut (H x)) (he : e = x ∨ H e = some (.own x)) (k : ∀ b u, b ≠ e → h.get? b = some u → h'.get? b = some u) (heo : ∃ u, h'.get? e = some u) : Un fs ex H (upd H x o) h h' := by
  have hx : ∀ b, H b = none → b ≠ x := fun b n z => by subst z; rw [n] at mu; exact mu
  have hb : ∀ b, H b = none → b ≠ e := fun b n z => by
    subst z
    rcases he with r | r
    · exact hx b n r
    · rw [n] at r; cases r
  have hm : ∀ b u, H b = some u → ¬ Mut (some u) → b ≠ x := fun b u q nm z => by subst z; rw [q] at mu; exact nm mu
  refine ⟨fun b u q n _ _ => k b u (hb b n) q, fun b u q n _ _ => ⟨u.slots, k b u (hb b n) q⟩, fun b u q n _ => by rw [upd_ne (hx b n)]; exact n, fun b u q _ => ?_,
    fun b xs q => by rw [upd_ne (hm b _ q fun z => z)]; exact q, fun b u xs q => by rw [upd_ne (hm b _ q fun z => z)]; exact q, fun b ps q => ⟨#[], by rw [upd_ne (hm b _ q fun z => z), q]; simp⟩⟩
  by_cases hbe : b = e
  · subst hbe; exact heo
  · exact ⟨u, k b u hbe q⟩
theorem Un.mono (u : Un fs ex H H1 h h1) (hs : ∀ b ∈ fs, b ∈ fs') (hx : ∀ b ∈ ex, b ∈ ex') : Un fs' ex' H H1 h h1 :=
  ⟨fun b ob q n hb he => u.keep b ob q n (fun z => hb (hs b z)) fun z => he (hx b z), fun _ _ q n _ he => u.any q n fun z => he (hx _ z), fun b ob q n he => u.free b ob q n fun z => he (hx b z), fun b ob q he => u.there b ob q fun z => he (hx b z), u.tups, u.frzs, u.tbls⟩
end

def trk (h : Heap) (H : Hp) : List Addr := (List.range h.objs.size).filter fun a => (H a).isSome
def hidT (h : Heap) (H : Hp) : Heap := PySem.W.hideAll h (trk h H)
theorem hidT_size (h : Heap) (H : Hp) : (hidT h H).objs.size = h.objs.size := PySem.W.hideAll_size _ _
theorem hidT_get {h : Heap} {H : Hp} {b : Addr} {o : Obj} (e : h.get? b = some o) (n : H b = none) : (hidT h H).get? b = some o :=
  PySem.W.hideAll_get _ e fun hm => by
    have q : (H b).isSome = true := (List.mem_filter.mp hm).2
    rw [n] at q; simp at q
theorem of_hidT {h : Heap} {H : Hp} {b : Addr} {o : Obj} (e : (hidT h H).get? b = some o) : h.get? b = some o ∧ H b = none := by
  have e' : h.get? b = some o := PySem.W.of_hideAll (trk h H) e
  refine ⟨e', ?_⟩
  cases q : H b with
  | none => rfl
  | some x =>
    have hm : b ∈ trk h H := List.mem_filter.mpr ⟨List.mem_range.mpr (Heap.lt_size e'), by simp [q]⟩
    have z : (hidT h H).get? b = none := PySem.W.hideAll_none (trk h H) hm
    rw [z] at e; cases e

def allNews (g h : Heap) (L : Addr) : List (Addr × Obj) := (List.range h.objs.size).filterMap fun a => if a = L ∨ (g.get? a).isSome = true then none else (h.get? a).map fun o => (a, o)
theorem mem_allNews {g h : Heap} {L a : Addr} {o : Obj} (h1 : a ≠ L) (h2 : g.get? a = none) (h3 : h.get? a = some o) : (a, o) ∈ allNews g h L :=
  List.mem_filterMap.mpr ⟨a, List.mem_range.mpr (Heap.lt_size h3), by simp [h1, h2, h3]⟩
theorem of_mem_allNews {g h : Heap} {L : Addr} {p : Addr × Obj} (hp : p ∈ allNews g h L) : p.1 ≠ L ∧ g.get? p.1 = none ∧ h.get? p.1 = some p.2 := by
  obtain ⟨b, _, e⟩ := List.mem_filterMap.mp hp
  split at e
  · cases e
  · rename_i hn
    cases q : h.get? b with
    | none => rw [q] at e; simp at e
    | some u =>
      rw [q] at e
      simp only [Option.map_some, Option.some.injEq] at e
      subst e
      refine ⟨fun z => hn (.inl z), ?_, q⟩
      show g.get? b = none
      cases r : g.get? b with
      | none => rfl
      | some v => exact (hn (.inr (by simp [r]))).elim
def rest (g h : Heap) (L d : Addr) : List (Addr × Obj) := (allNews g h L).filter fun p => decide (p.1 ≠ d)
theorem rest_ne {g h : Heap} {L d : Addr} : ∀ p ∈ rest g h L d, p.1 ≠ d := fun p hp => of_decide_eq_true (List.mem_filter.mp hp).2
theorem mem_rest {g h : Heap} {L d a : Addr} {o : Obj} (h1 : a ≠ L) (h2 : g.get? a = none) (h3 : h.get? a = some o) (h4 : a ≠ d) : (a, o) ∈ rest g h L d :=
  List.mem_filter.mpr ⟨mem_allNews h1 h2 h3, decide_eq_true h4⟩
theorem news_all {g h : Heap} {L : Addr} : News g L h (allNews g h L) := fun p hp => let ⟨a, b, c⟩ := of_mem_allNews hp; ⟨c, a, b⟩
theorem news_at {g h : Heap} {L d : Addr} {o : Obj} (h1 : d ≠ L) (h2 : g.get? d = none) (h3 : h.get? d = some o) : News g L h ((d, o) :: rest g h L d) := fun p hp => by
  rcases List.mem_cons.mp hp with rfl | hp
  · exact ⟨h3, h1, h2⟩
  · exact news_all p (List.mem_filter.mp hp).1
theorem kept_of_news {g h h' : Heap} {L d : Addr} {m : Str → Option Value} (k : ∀ b o, g.get? b = some o → h.get? b = some o) (F : Fr g L h' m) (N : News g L h' (rest g h L d)) :
    ∀ b o, b ≠ L → b ≠ d → h.get? b = some o → h'.get? b = some o := fun b o h1 h2 e => by
  cases q : g.get? b with
  | some u =>
    have := k b u q
    rw [e] at this; cases this
    exact F.keep b _ q
  | none => exact (N (b, o) (mem_rest h1 q e h2)).1
end L2

namespace L2
open PySem PySem.Spec PyProof.Rows

structure Mod (K : PySem.W.Frag) (mg : Str → Option Value) (base : Heap) : Prop where
  kin : K.In base
  glob : base.Ns mainGlobals mg
  blt : ∃ mb, base.Ns builtinsNs mb ∧ ∀ x : Str, x ≠ "__name__" → mb x = bootBuiltins x
  nolimit : base.NoLimit

set_option genInjectivity false in
structure Cx where
  prog : Program
  w : World
  K : PySem.W.Frag
  mg : Str → Option Value
  base : Heap
  A : Around
  N : List Str
  s₀ : Shared
  H₀ : Hp
  env : Env
  outer : List Env
  stack : List Env
  ex : List Addr
  fn : Str → Bool
  calm : Bool
  pn : List (Addr × Obj)
  xe : Value → Shared → Prop
def frs (l : List Env) : List Addr := l.filterMap (·.frame)
abbrev Cx.fs (X : Cx) : List Addr := frs X.outer

def Vis (sc : Scope) (x : Str) : Prop := sc.names.lookup x = some .local ∨ sc.names.lookup x = some .cell ∨ sc.names.lookup x = some .free
def Loc (sc : Scope) (x : Str) : Prop := sc.names.lookup x = some .local ∨ sc.names.lookup x = some .cell
def Look (env : Env) (h : Heap) (m : Str → Option Value) (x : Str) (u : Value) : Prop :=
  (env.kindOf x = some .local ∧ m x = some u) ∨ ((env.kindOf x = some .cell ∨ env.kindOf x = some .free) ∧ ∃ c, env.cells.lookup x = some c ∧ h.IsCell c (some u))

structure Cx.Ok (X : Cx) : Prop where
  mod : Mod X.K X.mg X.base
  kind : X.env.scope.kind = .function
  glob : X.env.globals = mainGlobals
  blt : X.env.builtins = builtinsNs
  above : X.s₀.heap.objs.size ≤ X.env.locals
  inj : ∀ x y c, X.env.cells.lookup x = some c → X.env.cells.lookup y = some c → x = y
  has : ∀ x, (X.env.kindOf x = some .cell ∨ X.env.kindOf x = some .free) → ∃ c, X.env.cells.lookup x = some c
  cab : ∀ x c, X.fn x = true → X.env.cells.lookup x = some c → X.s₀.heap.objs.size ≤ c
  hd : X.calm = true → X.A.handled = none
  frames : X.A.frames = some X.stack
  stk : X.stack = X.outer ∨ (X.stack = X.env :: X.outer ∧ X.env.frame = some X.env.locals)
  exf : ∀ b ∈ X.ex, b ≠ X.env.locals ∧ ∀ x c, X.env.cells.lookup x = some c → c ≠ b
  bs : ∀ b o, X.base.get? b = some o → X.s₀.heap.get? b = some o ∧ X.H₀ b = none
  bsz : X.base.objs.size ≤ X.s₀.heap.objs.size
  noex : ∀ b o, X.base.get? b = some o → b ∉ X.ex
  exfs : ∀ b ∈ X.ex, b ∉ X.fs
  funs : X.s₀.heap.FunFrames X.base X.outer
  frf : ∀ b ∈ X.fs, X.H₀ b = none

structure Inv (X : Cx) (pins : List (Addr × Obj)) (σ : List (Option V)) (H : Hp) (s : Shared) : Prop where
  ok : X.Ok
  os : s.os = X.s₀.os
  bare : AllBare s.gens
  base : Un X.fs X.ex X.H₀ H X.s₀.heap s.heap
  loc : ∃ m, s.heap.Ns X.env.locals m ∧ ∀ (i : Nat) (x : Str) (v : V), X.N[i]? = some x → σ[i]? = some (some v) → Vis X.env.scope x → ∃ u, RelV v u ∧ Look X.env s.heap m x u
  cell : ∀ x c, X.env.cells.lookup x = some c → ∃ v, s.heap.IsCell c v
  free : H X.env.locals = none
  freeC : ∀ x c, X.env.cells.lookup x = some c → H c = none
  pin : ∀ p ∈ X.pn ++ pins, s.heap.get? p.1 = some p.2 ∧ H p.1 = none ∧ p.1 ≠ X.env.locals ∧ p.1 ∉ X.fs ∧ ∀ v, p.2.data ≠ .cell v
  hok : HOk X.prog X.w H s.heap
  len : σ.length = X.N.length

section
variable {X : Cx} {pins : List (Addr × Obj)} {σ : List (Option V)} {H H' : Hp} {s : Shared} {h' : Heap}

theorem Cx.Ok.nofr (ok : X.Ok) {b : Addr} {o : Obj} (e : X.base.get? b = some o) : b ∉ X.fs := fun hb => by
  have := (ok.funs.mem hb).1
  rw [e] at this; cases this
theorem Inv.bs (I : Inv X pins σ H s) : ∀ b o, X.base.get? b = some o → s.heap.get? b = some o ∧ H b = none := fun b o e =>
  ⟨I.base.keep b o (I.ok.bs b o e).1 (I.ok.bs b o e).2 (I.ok.nofr e) (I.ok.noex b o e), I.base.free b o (I.ok.bs b o e).1 (I.ok.bs b o e).2 (I.ok.noex b o e)⟩
theorem Inv.bk (I : Inv X pins σ H s) : ∀ b o, X.base.get? b = some o → s.heap.get? b = some o := fun b o e => (I.bs b o e).1
theorem Inv.mod (I : Inv X pins σ H s) : Mod X.K X.mg X.base := I.ok.mod
theorem Inv.kIn (I : Inv X pins σ H s) : X.K.In s.heap := I.ok.mod.kin.keeps I.bk
theorem Inv.nolimit (I : Inv X pins σ H s) : s.heap.NoLimit := I.ok.mod.nolimit.keeps I.bk
theorem Inv.fr (I : Inv X pins σ H s) : ∃ m, Fr X.base X.env.locals s.heap m :=
  let ⟨m, hn, _⟩ := I.loc
  ⟨m, hn, I.bk, Nat.le_trans I.ok.bsz I.ok.above⟩
theorem Inv.lt (I : Inv X pins σ H s) : X.env.locals < s.heap.objs.size := let ⟨_, hn, _⟩ := I.loc; hn.lt
theorem Inv.sz (I : Inv X pins σ H s) : X.s₀.heap.objs.size ≤ s.heap.objs.size := Nat.le_trans I.ok.above (Nat.le_of_lt I.lt)
theorem Inv.nofs (I : Inv X pins σ H s) {a : Addr} (h : s.heap.objs.size ≤ a) : a ∉ X.fs := fun hb => by
  obtain ⟨_, o, ho, _⟩ := I.ok.funs.mem hb
  exact absurd (Nat.lt_of_lt_of_le (Heap.lt_size ho) (Nat.le_trans I.sz h)) (Nat.lt_irrefl _)
theorem Inv.cne (I : Inv X pins σ H s) : ∀ x c, X.env.cells.lookup x = some c → c ≠ X.env.locals := fun x c e z => by
  obtain ⟨v, o, ho, hd⟩ := I.cell x c e
  obtain ⟨m, ⟨o', es, ep, ho', hd', _⟩, _⟩ := I.loc
  rw [z, ho'] at ho; cases ho; rw [hd'] at hd; cases hd
theorem Inv.funs (I : Inv X pins σ H s) : s.heap.FunFrames X.base X.outer := by
  have all : ∀ (l : List Env), (∀ b ∈ frs l, b ∈ X.fs) → X.s₀.heap.FunFrames X.base l → s.heap.FunFrames X.base l := by
    intro l
    induction l with
    | nil => intro _ _; trivial
    | cons env r ih =>
      intro hs hl
      obtain ⟨hk, ⟨L, o, hf, hn, ho, hd⟩, hr⟩ := hl
      have hL : L ∈ X.fs := hs L (by unfold frs; rw [List.filterMap_cons, hf]; exact List.mem_cons_self)
      obtain ⟨sl, e⟩ := I.base.slot L o ho (I.ok.frf L hL) hL fun z => I.ok.exfs L z hL
      exact ⟨hk, ⟨L, _, hf, hn, e, hd⟩, ih (fun b hb => hs b (by unfold frs; rw [List.filterMap_cons, hf]; exact List.mem_cons_of_mem _ hb)) hr⟩
  exact all X.outer (fun _ hb => hb) I.ok.funs

theorem Inv.stack (I : Inv X pins σ H s) : s.heap.FunFrames X.base X.stack := by
  rcases I.ok.stk with e | ⟨e, hf⟩
  · rw [e]; exact I.funs
  · rw [e]
    obtain ⟨m, hn, _⟩ := I.loc
    refine .cons (by rw [I.ok.kind]; decide) hf hn ?_ I.funs
    exact Heap.get?_none_of_le (Nat.le_trans I.ok.bsz I.ok.above)
theorem Inv.stkSub (I : Inv X pins σ H s) : ∀ b ∈ frs X.stack, b ∈ X.env.locals :: X.fs := fun b hb => by
  rcases I.ok.stk with e | ⟨e, hf⟩
  · rw [e] at hb; exact List.mem_cons_of_mem _ hb
  · rw [e] at hb
    unfold frs at hb
    rw [List.filterMap_cons, hf] at hb
    exact hb
theorem Inv.stkFree (I : Inv X pins σ H s) : ∀ b ∈ frs X.stack, H b = none := fun b hb => by
  rcases List.mem_cons.mp (I.stkSub b hb) with e | hb
  · rw [e]; exact I.free
  · obtain ⟨_, o, ho, _⟩ := I.ok.funs.mem hb
    exact I.base.free b o ho (I.ok.frf b hb) fun z => I.ok.exfs b z hb

theorem Inv.step {g' : Array GenState} {t' : Nat} {d' : Drawn} {ch : List Addr} (I : Inv X pins σ H s)
    (hch : ∀ b ∈ ch, (b ∈ X.ex ∨ X.s₀.heap.objs.size ≤ b) ∧ b ≠ X.env.locals ∧ (∀ x c, X.env.cells.lookup x = some c → c ≠ b) ∧ ∀ p ∈ X.pn ++ pins, p.1 ≠ b)
    (keep : ∀ b o, b ≠ X.env.locals → b ∉ X.fs → b ∉ ch → s.heap.get? b = some o → H b = none → h'.get? b = some o)
    (slot : ∀ b o, b ≠ X.env.locals → b ∈ X.fs → b ∉ ch → s.heap.get? b = some o → H b = none → ∃ sl, h'.get? b = some { o with slots := sl }) (free : ∀ b o, b ∉ ch → s.heap.get? b = some o → H b = none → H' b = none)
    (there : ∀ b o, b ∉ ch → s.heap.get? b = some o → ∃ o', h'.get? b = some o')
    (tups : ∀ b xs, H b = some (.tup xs) → H' b = some (.tup xs)) (frzs : ∀ b o u, H b = some (.frz o u) → H' b = some (.frz o u)) (tbls : ∀ b ps, H b = some (.tbl ps) → ∃ more, H' b = some (.tbl (ps ++ more)))
    (ns : ∀ m, s.heap.Ns X.env.locals m → h'.Ns X.env.locals m) (hok : HOk X.prog X.w H' h') (hg : AllBare g') :
    Inv X pins σ H' { s with heap := h', gens := g', drawn := d', toks := t' } := by
  have neL : ∀ b o, X.s₀.heap.get? b = some o → b ≠ X.env.locals := fun b o e => Nat.ne_of_lt (Nat.lt_of_lt_of_le (Heap.lt_size e) I.ok.above)
  have neC : ∀ b o, X.s₀.heap.get? b = some o → b ∉ X.ex → b ∉ ch := fun b o e hx hb => by
    rcases (hch b hb).1 with z | z
    · exact hx z
    · exact absurd (Nat.lt_of_lt_of_le (Heap.lt_size e) z) (Nat.lt_irrefl _)
  have cellK : ∀ x c, X.env.cells.lookup x = some c → ∀ v, s.heap.IsCell c v → h'.IsCell c v := fun x c e v ⟨o, ho, hd⟩ => by
    have nch : c ∉ ch := fun z => (hch c z).2.2.1 x c e rfl
    by_cases hc : c ∈ X.fs
    · obtain ⟨sl, q⟩ := slot c o (I.cne x c e) hc nch ho (I.freeC x c e)
      exact ⟨_, q, hd⟩
    · exact ⟨o, keep c o (I.cne x c e) hc nch ho (I.freeC x c e), hd⟩
  refine ⟨I.ok, I.os, hg, ⟨fun b o e n hb hx => ?_, fun b o e n hb hx => ?_, fun b o e n hx => ?_, fun b o e hx => ?_, fun b xs e => tups b xs (I.base.tups b xs e), fun b o xs e => frzs b o xs (I.base.frzs b o xs e), fun b ps e => ?_⟩, ?_, fun x c e => ?_, ?_, fun x c e => ?_, fun p hp => ?_, hok, I.len⟩
  · exact keep b o (neL b o e) hb (neC b o e hx) (I.base.keep b o e n hb hx) (I.base.free b o e n hx)
  · obtain ⟨sl, e1⟩ := I.base.slot b o e n hb hx
    obtain ⟨sl', e2⟩ := slot b _ (neL b o e) hb (neC b o e hx) e1 (I.base.free b o e n hx)
    exact ⟨sl', e2⟩
  · obtain ⟨o', e1⟩ := I.base.there b o e hx
    exact free b o' (neC b o e hx) e1 (I.base.free b o e n hx)
  · obtain ⟨o', e1⟩ := I.base.there b o e hx
    exact there b o' (neC b o e hx) e1
  · obtain ⟨m1, e1⟩ := I.base.tbls b ps e
    obtain ⟨m2, e2⟩ := tbls b _ e1
    exact ⟨m1 ++ m2, by rw [e2, Array.append_assoc]⟩
  · obtain ⟨m, hn, hl⟩ := I.loc
    refine ⟨m, ns m hn, fun i x v e1 e2 e3 => ?_⟩
    obtain ⟨u, r, l⟩ := hl i x v e1 e2 e3
    refine ⟨u, r, ?_⟩
    rcases l with l | ⟨k, c, e, z⟩
    · exact .inl l
    · exact .inr ⟨k, c, e, cellK x c e _ z⟩
  · obtain ⟨v, z⟩ := I.cell x c e
    exact ⟨v, cellK x c e v z⟩
  · obtain ⟨m, ⟨o, _, _, ho, _⟩, _⟩ := I.loc
    exact free _ o (fun z => (hch _ z).2.1 rfl) ho I.free
  · obtain ⟨v, o, ho, hd⟩ := I.cell x c e
    exact free c o (fun z => (hch c z).2.2.1 x c e rfl) ho (I.freeC x c e)
  · obtain ⟨e, n, ne, nf, d⟩ := I.pin p hp
    have nch : p.1 ∉ ch := fun z => (hch p.1 z).2.2.2 p hp rfl
    exact ⟨keep p.1 p.2 ne nf nch e n, free p.1 p.2 nch e n, ne, nf, d⟩
theorem Inv.un {t' : Nat} (I : Inv X pins σ H s) (u : Un X.fs [] H H' s.heap h') (hok : HOk X.prog X.w H' h') : Inv X pins σ H' { s with heap := h', toks := t' } := by
  obtain ⟨m, ⟨o, es, ep, ho, r⟩, _⟩ := id I.loc
  obtain ⟨sl, hL⟩ := u.any ho I.free (by simp)
  exact I.step (g' := s.gens) (d' := s.drawn) (ch := []) (fun _ z => nomatch z) (fun b o _ hb _ e n => u.keep b o e n hb (by simp)) (fun b o _ hb _ e n => u.slot b o e n hb (by simp)) (fun b o _ e n => u.free b o e n (by simp)) (fun b o _ e => u.there b o e (by simp)) u.tups u.frzs u.tbls (fun m' hm => by
    obtain ⟨o', es', ep', ho', r'⟩ := hm
    rw [ho] at ho'; cases ho'
    exact ⟨_, es', ep', hL, r'⟩) hok I.bare
theorem Inv.call {g' : Array GenState} {t' : Nat} {d' : Drawn} {ch : List Addr} (I : Inv X pins σ H s) (u : Un (frs X.stack) ch H H' s.heap h') (hok : HOk X.prog X.w H' h') (hg : AllBare g')
    (hch : ∀ b ∈ ch, (b ∈ X.ex ∨ X.s₀.heap.objs.size ≤ b) ∧ b ≠ X.env.locals ∧ (∀ x c, X.env.cells.lookup x = some c → c ≠ b) ∧ ∀ p ∈ X.pn ++ pins, p.1 ≠ b) :
    Inv X pins σ H' { s with heap := h', gens := g', drawn := d', toks := t' } := by
  obtain ⟨m, ⟨o, es, ep, ho, r⟩, _⟩ := id I.loc
  obtain ⟨sl, hL⟩ := u.any ho I.free fun z => (hch _ z).2.1 rfl
  exact I.step (ch := ch) hch (fun b o hL hb hc e n => u.keep b o e n (fun z => (List.mem_cons.mp (I.stkSub b z)).elim hL hb) hc) (fun b o _ _ hc e n => u.any e n hc) (fun b o hc e n => u.free b o e n hc) (fun b o hc e => u.there b o e hc) u.tups u.frzs u.tbls (fun m' hm => by
    obtain ⟨o', es', ep', ho', r'⟩ := hm
    rw [ho] at ho'; cases ho'
    exact ⟨_, es', ep', hL, r'⟩) hok hg
theorem Inv.turned {t' : Nat} {it : Addr} (I : Inv X pins σ H s) (k : ∀ b o, b ≠ it → s.heap.get? b = some o → h'.get? b = some o) (hn : H it = none) (hL : it ≠ X.env.locals)
    (h1 : it ∈ X.ex ∨ X.s₀.heap.objs.size ≤ it) (h2 : ∀ x c, X.env.cells.lookup x = some c → c ≠ it) (h3 : ∀ p ∈ X.pn ++ pins, p.1 ≠ it) : Inv X pins σ H { s with heap := h', toks := t' } := by
  have nit : ∀ b u, H b = some u → b ≠ it := fun b u e z => by rw [z, hn] at e; cases e
  refine I.step (g' := s.gens) (d' := s.drawn) (ch := [it]) (fun b hb => ?_) (fun b o _ _ hc e _ => k b o (fun z => hc (by simp [z])) e) (fun b o _ _ hc e _ => ⟨o.slots, k b o (fun z => hc (by simp [z])) e⟩) (fun _ _ _ _ n => n)
    (fun b o hc e => ⟨o, k b o (fun z => hc (by simp [z])) e⟩) (fun _ _ e => e) (fun _ _ _ e => e) (fun b ps e => ⟨#[], by rw [e]; simp⟩) (fun m hm => ?_) (fun b u e => ?_) I.bare
  · have e : b = it := by simpa using hb
    subst e
    exact ⟨h1, hL, h2, h3⟩
  · obtain ⟨o, es, ep, ho, r⟩ := hm
    exact ⟨o, es, ep, k _ o (Ne.symm hL) ho, r⟩
  · refine (I.hok b u e).stay (fun c v hc q => k c v ?_ q) (fun _ q => q) fun _ _ q => q
    rcases hc with z | z
    · rw [z]; exact nit b u e
    · exact nit c _ z
theorem Inv.tok (I : Inv X pins σ H s) (t : Nat) : Inv X pins σ H { s with toks := t } := I.un (h' := s.heap) (t' := t) Un.refl I.hok
theorem Inv.kept {t' : Nat} (I : Inv X pins σ H s) (k : ∀ b u, s.heap.get? b = some u → h'.get? b = some u) : Inv X pins σ H { s with heap := h', toks := t' } := I.un (Un.kept k) (I.hok.kept k)
theorem Inv.laid {a : Addr} {o : HO} {t' : Nat} (I : Inv X pins σ H s) (k : ∀ b u, s.heap.get? b = some u → h'.get? b = some u) (hp : s.heap.objs.size ≤ a) (new : ObjOk X.prog X.w (upd H a o) h' a o) :
    Inv X pins σ (upd H a o) { s with heap := h', toks := t' } := I.un (Un.laid k hp (I.hok.fresh hp)) (I.hok.laid k hp new)
theorem Inv.write {x e : Addr} {o : HO} {t' : Nat} (I : Inv X pins σ H s) (mu : Mut (H x)) (he : e = x ∨ H e = some (.own x)) (k : ∀ b u, b ≠ e → s.heap.get? b = some u → h'.get? b = some u) (heo : ∃ u, h'.get? e = some u)
    (new : ObjOk X.prog X.w (upd H x o) h' x o) : Inv X pins σ (upd H x o) { s with heap := h', toks := t' } := I.un (Un.write mu he k heo) (I.hok.write mu he k heo new)
theorem Inv.weak {σ' : List (Option V)} (I : Inv X pins σ H s) (hl : σ'.length = σ.length) (w : ∀ (i : Nat) v, σ'[i]? = some (some v) → σ[i]? = some (some v)) : Inv X pins σ' H s :=
  ⟨I.ok, I.os, I.bare, I.base, let ⟨m, hn, hl'⟩ := I.loc; ⟨m, hn, fun i x v e1 e2 e3 => hl' i x v e1 (w i v e2) e3⟩, I.cell, I.free, I.freeC, I.pin, I.hok, hl.trans I.len⟩
theorem Inv.pins_of {pins' : List (Addr × Obj)} (I : Inv X pins σ H s) (h : ∀ p ∈ pins', s.heap.get? p.1 = some p.2 ∧ H p.1 = none ∧ p.1 ≠ X.env.locals ∧ p.1 ∉ X.fs ∧ ∀ v, p.2.data ≠ .cell v) : Inv X pins' σ H s :=
  ⟨I.ok, I.os, I.bare, I.base, I.loc, I.cell, I.free, I.freeC, fun p hp => (List.mem_append.mp hp).elim (fun z => I.pin p (List.mem_append_left _ z)) (h p), I.hok, I.len⟩

theorem nodup_ix {N : List Str} (hN : N.Nodup) {i j : Nat} {x : Str} (a : N[i]? = some x) (b : N[j]? = some x) : i = j := by
  obtain ⟨h1, e1⟩ := List.getElem?_eq_some_iff.mp a
  obtain ⟨h2, e2⟩ := List.getElem?_eq_some_iff.mp b
  exact (List.getElem_inj hN).mp (e1.trans e2.symm)

theorem store_ok2 {M : Model} {A : Around} {E : Value → Shared → Prop} {i : Nat} {x : Str} {v : V} {u : Value} {Q : Unit → Shared → Prop} (I : Inv X pins σ H s) (hN : X.N.Nodup) (hi : X.N[i]? = some x) (hx : Loc X.env.scope x) (r : RelV v u)
    (h : ∀ s', Inv X pins (σ.set i (some v)) H s' → (∃ a, Heap.SameBut a s.heap s'.heap ∧ (a = X.env.locals ∨ X.env.cells.lookup x = some a)) → Q () s') (hf : X.fn x = true ∨ X.env.scope.names.lookup x = some .local := by first | exact .inl rfl | exact .inr rfl | assumption) : wpAny M A (storeName X.env x u) Q E s := by
  obtain ⟨m, hn, hl⟩ := id I.loc
  have hcls : (X.env.scope.kind == .class || (X.env.scope.kind == .module && X.env.locals != X.env.globals)) = false := by rw [I.ok.kind]; rfl
  have hiσ : i < σ.length := by rw [I.len]; exact (List.getElem?_eq_some_iff.mp hi).1
  have cne := I.cne
  have tracked : ∀ {a : Addr} {h' : Heap}, (∃ o, s.heap.get? a = some o ∧ H a = none) → Heap.SameBut a s.heap h' → HOk X.prog X.w H h' := fun {a h'} ha hs b ob e => by
    obtain ⟨_, _, hfree⟩ := ha
    refine (I.hok b ob e).stay (fun c w' hc q => (hs.2 c ?_).trans q) (fun _ q => q) fun _ _ q => q
    rintro rfl
    rcases hc with rfl | hc
    · rw [hfree] at e; cases e
    · rw [hfree] at hc; cases hc
  rcases hx with hk | hk
  · refine wpAny_storeName_local hk hn (fun h' hn' hs => ?_) hcls
    obtain ⟨oL, _, _, hoL, _⟩ := id hn
    refine h _ ⟨I.ok, I.os, I.bare, ⟨fun b o e n hb hx => ?_, fun b o e n hb hx => ?_, I.base.free, fun b o e hx => ?_, I.base.tups, I.base.frzs, I.base.tbls⟩, ⟨_, hn', fun j y v' e1 e2 e3 => ?_⟩, fun y c e => ?_, I.free, I.freeC, fun p hp => ?_, tracked ⟨oL, hoL, I.free⟩ hs, by simpa using I.len⟩ ⟨_, hs, .inl rfl⟩
    · exact (hs.2 b (Nat.ne_of_lt (Nat.lt_of_lt_of_le (Heap.lt_size e) I.ok.above))).trans (I.base.keep b o e n hb hx)
    · obtain ⟨sl, e1⟩ := I.base.slot b o e n hb hx
      exact ⟨sl, (hs.2 b (Nat.ne_of_lt (Nat.lt_of_lt_of_le (Heap.lt_size e) I.ok.above))).trans e1⟩
    · obtain ⟨o', e1⟩ := I.base.there b o e hx
      exact ⟨o', (hs.2 b (Nat.ne_of_lt (Nat.lt_of_lt_of_le (Heap.lt_size e) I.ok.above))).trans e1⟩
    · by_cases hj : j = i
      · subst hj
        rw [hi] at e1; cases e1
        rw [List.getElem?_set_self hiσ] at e2
        cases e2
        exact ⟨u, r, .inl ⟨hk, by simp⟩⟩
      · rw [List.getElem?_set_ne (Ne.symm hj)] at e2
        obtain ⟨u', r', q⟩ := hl j y v' e1 e2 e3
        refine ⟨u', r', ?_⟩
        rcases q with ⟨k, e⟩ | ⟨k, c, e, z⟩
        · refine .inl ⟨k, ?_⟩
          have : y ≠ x := fun e => hj (nodup_ix hN e1 (e ▸ hi))
          simp [this, e]
        · exact .inr ⟨k, c, e, z.sameBut hs (cne y c e)⟩
    · obtain ⟨w', z⟩ := I.cell y c e
      exact ⟨w', z.sameBut hs (cne y c e)⟩
    · obtain ⟨e, n, ne, nf, d⟩ := I.pin p hp
      exact ⟨(hs.2 p.1 ne).trans e, n, ne, nf, d⟩
  · have hfn : X.fn x = true := by
      rcases hf with z | z
      · exact z
      · rw [z] at hk; cases hk
    obtain ⟨c, hc⟩ := I.ok.has x (.inl hk)
    obtain ⟨w', z⟩ := I.cell x c hc
    refine wpAny_storeName_cell I.ok.kind hk hc z (fun h' hc' hs => ?_)
    obtain ⟨oc, hoc, hocd⟩ := id z
    refine h { s with heap := h' } ⟨I.ok, I.os, I.bare, ⟨fun b o e n hb hx => ?_, fun b o e n hb hx => ?_, I.base.free, fun b o e hx => ?_, I.base.tups, I.base.frzs, I.base.tbls⟩, ⟨m, hn.sameBut hs (Ne.symm (cne x c hc)), fun j y v' e1 e2 e3 => ?_⟩, fun y c' e => ?_, I.free, I.freeC, fun p hp => ?_, tracked ⟨oc, hoc, I.freeC x c hc⟩ hs, by simpa using I.len⟩ ⟨c, hs, .inr hc⟩
    · exact (hs.2 b (Nat.ne_of_lt (Nat.lt_of_lt_of_le (Heap.lt_size e) (I.ok.cab x c hfn hc)))).trans (I.base.keep b o e n hb hx)
    · obtain ⟨sl, e1⟩ := I.base.slot b o e n hb hx
      exact ⟨sl, (hs.2 b (Nat.ne_of_lt (Nat.lt_of_lt_of_le (Heap.lt_size e) (I.ok.cab x c hfn hc)))).trans e1⟩
    · obtain ⟨o', e1⟩ := I.base.there b o e hx
      exact ⟨o', (hs.2 b (Nat.ne_of_lt (Nat.lt_of_lt_of_le (Heap.lt_size e) (I.ok.cab x c hfn hc)))).trans e1⟩
    · by_cases hj : j = i
      · subst hj
        rw [hi] at e1; cases e1
        rw [List.getElem?_set_self hiσ] at e2
        cases e2
        exact ⟨u, r, .inr ⟨.inl hk, c, hc, hc'⟩⟩
      · rw [List.getElem?_set_ne (Ne.symm hj)] at e2
        obtain ⟨u', r', q⟩ := hl j y v' e1 e2 e3
        refine ⟨u', r', ?_⟩
        rcases q with q | ⟨k, c', e, z'⟩
        · exact .inl q
        · refine .inr ⟨k, c', e, z'.sameBut hs ?_⟩
          rintro rfl
          exact hj (nodup_ix hN e1 (I.ok.inj _ _ _ e hc ▸ hi))
    · by_cases hcc : c' = c
      · subst hcc; exact ⟨_, hc'⟩
      · obtain ⟨w2, z2⟩ := I.cell y c' e
        exact ⟨w2, z2.sameBut hs hcc⟩
    · obtain ⟨e, n, ne, nf, d⟩ := I.pin p hp
      refine ⟨(hs.2 p.1 ?_).trans e, n, ne, nf, d⟩
      intro q
      rw [q, hoc] at e
      have q' : oc = p.2 := Option.some.inj e
      exact d w' (by rw [← q']; exact hocd)
theorem store_ok {M : Model} {A : Around} {E : Value → Shared → Prop} {i : Nat} {x : Str} {v : V} {u : Value} {Q : Unit → Shared → Prop} (I : Inv X pins σ H s) (hN : X.N.Nodup) (hi : X.N[i]? = some x) (hx : Loc X.env.scope x) (r : RelV v u)
    (h : ∀ s', Inv X pins (σ.set i (some v)) H s' → Q () s') (hf : X.fn x = true ∨ X.env.scope.names.lookup x = some .local := by first | exact .inl rfl | exact .inr rfl | assumption) : wpAny M A (storeName X.env x u) Q E s :=
  store_ok2 I hN hi hx r (fun s' I' _ => h s' I') hf
theorem Inv.call' {s' : Shared} {ch : List Addr} (I : Inv X pins σ H s) (ho : s'.os = s.os) (u : Un (frs X.stack) ch H H' s.heap s'.heap) (hok : HOk X.prog X.w H' s'.heap) (hg : AllBare s'.gens)
    (hch : ∀ b ∈ ch, (b ∈ X.ex ∨ X.s₀.heap.objs.size ≤ b) ∧ b ≠ X.env.locals ∧ (∀ x c, X.env.cells.lookup x = some c → c ≠ b) ∧ ∀ p ∈ X.pn ++ pins, p.1 ≠ b) : Inv X pins σ H' s' := by
  obtain ⟨h', g', d', t', o'⟩ := s'
  have e : o' = s.os := ho
  subst e
  exact I.call (g' := g') (t' := t') (d' := d') u hok hg hch
end

abbrev XK := Value → Option Addr → Hp → Prop
abbrev St := List (Option V)
abbrev VK := V → Hp → Prop
abbrev TE := St → Hp → VK → Prop
abbrev TT := St → Hp → (Bool → Hp → Prop) → Prop
abbrev TA := St → Hp → (List V → Hp → Prop) → Prop
set_option genInjectivity false in
structure Ends where
  nx : St → Hp → Prop
  rt : VK
  bk : St → Hp → Prop := fun _ _ => False
  ct : St → Hp → Prop := fun _ _ => False
abbrev TS := Ends → St → Hp → Prop

def EP (X : Cx) (pins : List (Addr × Obj)) (σ : St) (Q : VK) (u : Value) (s' : Shared) : Prop := ∃ v H', Inv X pins σ H' s' ∧ RelV v u ∧ Q v H'
def TP (X : Cx) (pins : List (Addr × Obj)) (σ : St) (Q : Bool → Hp → Prop) (b : Bool) (s' : Shared) : Prop := ∃ H', Inv X pins σ H' s' ∧ Q b H'
def AP (X : Cx) (pins : List (Addr × Obj)) (σ : St) (Q : List V → Hp → Prop) (us : List Value) (s' : Shared) : Prop := ∃ vs H', Inv X pins σ H' s' ∧ Vals vs us ∧ Q vs H'
def SP (X : Cx) (pins : List (Addr × Obj)) (D : Ends) (f : Flow) (s' : Shared) : Prop :=
  match f with
  | .next => ∃ σ' H', Inv X pins σ' H' s' ∧ D.nx σ' H'
  | .brk => ∃ σ' H', Inv X pins σ' H' s' ∧ D.bk σ' H'
  | .cont => ∃ σ' H', Inv X pins σ' H' s' ∧ D.ct σ' H'
  | .ret u => ∃ v σ' H', Inv X pins σ' H' s' ∧ RelV v u ∧ D.rt v H'

def PE (X : Cx) (e : Expr) (t : TE) : Prop :=
  ∀ (pins : List (Addr × Obj)) (s : Shared) (σ : St) (H : Hp) (Q : VK), Inv X pins σ H s → t σ H Q → wpAny (model X.prog X.w) X.A (eval e X.env) (EP X pins σ Q) X.xe s
def PT (X : Cx) (e : Expr) (t : TT) : Prop :=
  ∀ (pins : List (Addr × Obj)) (s : Shared) (σ : St) (H : Hp) (Q : Bool → Hp → Prop), Inv X pins σ H s → t σ H Q → wpAny (model X.prog X.w) X.A (isTrue e X.env (eval e X.env)) (TP X pins σ Q) X.xe s
def PW (X : Cx) (e : Expr) (t : TT) : Prop :=
  ∀ (whole : Sem Value) (pins : List (Addr × Obj)) (s : Shared) (σ : St) (H : Hp) (Q : Bool → Hp → Prop), Inv X pins σ H s → t σ H Q → wpAny (model X.prog X.w) X.A (isTrue e X.env whole) (TP X pins σ Q) X.xe s
theorem PW.pt {X : Cx} {e : Expr} {t : TT} (h : PW X e t) : PT X e t := h _
def PA (X : Cx) (es : List Expr) (t : TA) : Prop :=
  ∀ (pos : Pos) (pins : List (Addr × Obj)) (s : Shared) (σ : St) (H : Hp) (Q : List V → Hp → Prop), Inv X pins σ H s → t σ H Q → wpAny (model X.prog X.w) X.A (spliced (backTo pos (starEach es X.env))) (AP X pins σ Q) X.xe s
def PS (X : Cx) (st : Stmt) (t : TS) : Prop :=
  ∀ (pins : List (Addr × Obj)) (s : Shared) (σ : St) (H : Hp) (D : Ends), Inv X pins σ H s → t D σ H → wpAny (model X.prog X.w) X.A (exec st X.env) (SP X pins D) X.xe s
def PSs (X : Cx) (st : List Stmt) (t : TS) : Prop :=
  ∀ (pins : List (Addr × Obj)) (s : Shared) (σ : St) (H : Hp) (D : Ends), Inv X pins σ H s → t D σ H → wpAny (model X.prog X.w) X.A (execs st X.env) (SP X pins D) X.xe s
theorem thn {α : Type} {t : Sem α} {Q Q' : α → Shared → Prop} {M : Model} {A : Around} {E : Value → Shared → Prop} {s : Shared} (h : wpAny M A t Q E s) (hQ : ∀ a s, Q a s → Q' a s) : wpAny M A t Q' E s := wpAny_mono h hQ fun _ _ x => x
end L2

namespace L2
open PySem PySem.Spec PyProof.Rows
section
variable {X : Cx}

theorem bin {a b : Expr} {ta tb : TE} (ha : PE X a ta) (hb : PE X b tb) {pins : List (Addr × Obj)} {s : Shared} {σ : St} {H : Hp} {R : V → V → Hp → Prop} (I : Inv X pins σ H s) (h : ta σ H fun x H1 => tb σ H1 fun y H2 => R x y H2)
    {α : Type} {Q : α → Shared → Prop} {f : Value → Value → Sem α}
    (hf : ∀ v u s2 x y H2, Inv X pins σ H2 s2 → RelV x v → RelV y u → R x y H2 → wpAny (model X.prog X.w) X.A (f v u) Q X.xe s2) :
    wpAny (model X.prog X.w) X.A (eval a X.env) (fun v s₁ => wpAny (model X.prog X.w) X.A (eval b X.env) (fun u s₂ => wpAny (model X.prog X.w) X.A (f v u) Q X.xe s₂) X.xe s₁) X.xe s := by
  refine thn (ha pins s σ H _ I h) fun v s1 ⟨x, H1, I1, r1, q1⟩ => ?_
  refine thn (hb pins s1 σ H1 _ I1 q1) fun u s2 ⟨y, H2, I2, r2, q2⟩ => ?_
  exact hf v u s2 x y H2 I2 r1 r2 q2

def tVar (i : Nat) : TE := fun σ H Q => ∃ v, σ[i]? = some (some v) ∧ Q v H
def tC (v : V) : TE := fun _ H Q => Q v H
theorem pe_var {i : Nat} {x : Str} {pos : Pos} (hN : X.N[i]? = some x) (hv : Vis X.env.scope x) (hd : (x == ("__debug__" : Str)) = false := by decide) (hcd : (x == ("__classdict__" : Str)) = false := by decide) : PE X (.Name x pos) (tVar i) := by
  intro pins s σ H Q I h
  obtain ⟨v, e, h⟩ := h
  obtain ⟨m, hn, hl⟩ := I.loc
  obtain ⟨u, r, l⟩ := hl i x v hN e hv
  have fin : EP X pins σ Q u s := ⟨v, H, I, r, h⟩
  rcases l with ⟨hk, hm⟩ | ⟨hk, c, hc, hcell⟩
  · exact wpAny_Name (wpAny_loadName_local I.ok.kind hk hn hm fin) hd
  · rcases hk with hk | hk
    · exact wpAny_Name (wpAny_loadName_cell I.ok.kind hk hc hcell fin) hd
    · exact wpAny_Name (wpAny_loadName_free I.ok.kind hk hc hcell fin hcd) hd
theorem pe_int {i j pos} : PE X (.Constant (.int i) j pos) (tC (.int i)) := fun _ _ _ H _ I h => wpAny_Constant_int ⟨.int i, H, I.tok _, ⟨_, rfl⟩, h⟩
theorem pe_bl {b j pos} : PE X (.Constant (.bool b) j pos) (tC (.bl b)) := fun _ _ _ H _ I h => Constant_bool ⟨.bl b, H, I, rfl, h⟩
theorem pe_non {j pos} : PE X (.Constant .none j pos) (tC .non) := fun _ _ _ H _ I h => Constant_none ⟨.non, H, I, rfl, h⟩
theorem pe_str {x j pos} : PE X (.Constant (.str x) j pos) (tC (.str x)) := fun _ _ _ H _ I h => Calls.Constant_str ⟨.str x, H, I.tok _, ⟨_, rfl⟩, h⟩

def Gl (X : Cx) (x : Str) : Prop := X.env.kindOf x = some .globalImplicit
theorem ld_glob {E : Value → Shared → Prop} {pins : List (Addr × Obj)} {s : Shared} {σ : St} {H : Hp} {x : Str} {u : Value} {pos : Pos} {Q : Value → Shared → Prop} (I : Inv X pins σ H s) (hg : Gl X x) (hm : X.mg x = some u) (h : Q u s)
    (hd : (x == ("__debug__" : Str)) = false := by decide) : wpAny (model X.prog X.w) X.A (eval (.Name x pos) X.env) Q E s :=
  Calls.Name_function_global I.ok.kind hg (Calls.loadGlobal_global (by rw [I.ok.glob]; exact I.mod.glob.keeps I.bk) hm h) hd
theorem ld_blt {E : Value → Shared → Prop} {pins : List (Addr × Obj)} {s : Shared} {σ : St} {H : Hp} {x : Str} {u : Value} {pos : Pos} {Q : Value → Shared → Prop} (I : Inv X pins σ H s) (hg : Gl X x) (hm : X.mg x = none) (hv : bootBuiltins x = some u) (h : Q u s)
    (hn : x ≠ "__name__" := by decide) (hd : (x == ("__debug__" : Str)) = false := by decide) : wpAny (model X.prog X.w) X.A (eval (.Name x pos) X.env) Q E s := by
  obtain ⟨mb, h1, h2⟩ := I.mod.blt
  exact Calls.Name_function_global I.ok.kind hg (Calls.loadGlobal_builtin (by rw [I.ok.glob]; exact I.mod.glob.keeps I.bk) hm (by rw [I.ok.blt]; exact h1.keeps I.bk) ((h2 x hn).trans hv) h) hd
theorem pe_glob {x : Str} {v : V} {u : Value} {pos : Pos} (hg : Gl X x) (hm : X.mg x = some u) (r : RelV v u) (hd : (x == ("__debug__" : Str)) = false := by decide) : PE X (.Name x pos) (tC v) :=
  fun _ _ _ H _ I h => ld_glob I hg hm ⟨v, H, I, r, h⟩ hd
theorem pe_bltn {x : Str} {v : V} {u : Value} {pos : Pos} (hg : Gl X x) (hm : X.mg x = none) (hv : bootBuiltins x = some u) (r : RelV v u) (hn : x ≠ "__name__" := by decide) (hd : (x == ("__debug__" : Str)) = false := by decide) : PE X (.Name x pos) (tC v) :=
  fun _ _ _ H _ I h => ld_blt I hg hm hv ⟨v, H, I, r, h⟩ hn hd

def t2I (ta tb : TE) (k : Int → Int → Hp → Prop) : St → Hp → Prop := fun σ H => ta σ H fun x H1 => tb σ H1 fun y H2 => ∃ i j, x = .int i ∧ y = .int j ∧ k i j H2
def tAdd (ta tb : TE) : TE := fun σ H Q => t2I ta tb (fun i j H2 => Q (.int (i + j)) H2) σ H
def tSub (ta tb : TE) : TE := fun σ H Q => t2I ta tb (fun i j H2 => Q (.int (i - j)) H2) σ H
def tMul (ta tb : TE) : TE := fun σ H Q => t2I ta tb (fun i j H2 => (-(2 ^ 64) < i ∧ i < 2 ^ 64) ∧ Q (.int (i * j)) H2) σ H
variable {a b : Expr} {ta tb : TE} {pos : Pos}
theorem pe_add (ha : PE X a ta) (hb : PE X b tb) : PE X (.BinOp a .Add b pos) (tAdd ta tb) := by
  intro pins s σ H Q I h
  refine wpAny_BinOp (bin ha hb I h fun v u s2 x y H2 I2 rx ry q => ?_)
  obtain ⟨i, j, rfl, rfl, q⟩ := q
  obtain ⟨t, rfl⟩ := rx
  obtain ⟨t', rfl⟩ := ry
  exact add_int ⟨.int _, H2, I2.tok _, ⟨_, rfl⟩, q⟩
theorem pe_sub (ha : PE X a ta) (hb : PE X b tb) : PE X (.BinOp a .Sub b pos) (tSub ta tb) := by
  intro pins s σ H Q I h
  refine wpAny_BinOp (bin ha hb I h fun v u s2 x y H2 I2 rx ry q => ?_)
  obtain ⟨i, j, rfl, rfl, q⟩ := q
  obtain ⟨t, rfl⟩ := rx
  obtain ⟨t', rfl⟩ := ry
  exact sub_int ⟨.int _, H2, I2.tok _, ⟨_, rfl⟩, q⟩
theorem pe_mul (ha : PE X a ta) (hb : PE X b tb) : PE X (.BinOp a .Mult b pos) (tMul ta tb) := by
  intro pins s σ H Q I h
  refine wpAny_BinOp (bin ha hb I h fun v u s2 x y H2 I2 rx ry q => ?_)
  obtain ⟨i, j, rfl, rfl, ⟨q1, q2⟩, q⟩ := q
  obtain ⟨t, rfl⟩ := rx
  obtain ⟨t', rfl⟩ := ry
  exact mul_int ⟨.int _, H2, I2.tok _, ⟨_, rfl⟩, q⟩ (.of_left (intBits_le_64 q1 q2))

def PC (X : Cx) (op : CmpOp) (a b : Expr) (t : TE) : Prop :=
  ∀ (pins : List (Addr × Obj)) (s : Shared) (σ : St) (H : Hp) (Q : VK), Inv X pins σ H s → t σ H Q →
    wpAny (model X.prog X.w) X.A (eval a X.env) (fun v s₁ => wpAny (model X.prog X.w) X.A (eval b X.env) (fun u s₂ => wpAny (model X.prog X.w) X.A (compareOp op v u) (EP X pins σ Q) X.xe s₂) X.xe s₁) X.xe s
theorem nobehind (b : Expr) {op : CmpOp} (h : op ≠ .In) (h2 : op ≠ .NotIn) : behindInMarks op b = false := by
  have e1 : (op == CmpOp.In) = false := by cases op <;> first | rfl | exact absurd rfl h
  have e2 : (op == CmpOp.NotIn) = false := by cases op <;> first | rfl | exact absurd rfl h2
  cases b <;> simp [behindInMarks, e1, e2]
def tCmp (p : Int → Int → Bool) (ta tb : TE) : TE := fun σ H Q => t2I ta tb (fun i j H2 => Q (.bl (p i j)) H2) σ H
abbrev tLt : TE → TE → TE := tCmp fun i j => decide (i < j)
abbrev tLe : TE → TE → TE := tCmp fun i j => decide (i ≤ j)
abbrev tGt : TE → TE → TE := tCmp fun i j => decide (j < i)
abbrev tGe : TE → TE → TE := tCmp fun i j => decide (j ≤ i)
abbrev tEqI : TE → TE → TE := tCmp fun i j => decide (i = j)
abbrev tNeI : TE → TE → TE := tCmp fun i j => !decide (i = j)
theorem pc_int {op : CmpOp} {p : Int → Int → Bool} (ha : PE X a ta) (hb : PE X b tb)
    (rule : ∀ (i j : Int) (t u : Tok) (Q : Value → Shared → Prop) (s : Shared), Q (.bool (p i j)) s → wpAny (model X.prog X.w) X.A (compareOp op (.int i t) (.int j u)) Q X.xe s) : PC X op a b (tCmp p ta tb) := by
  intro pins s σ H Q I h
  refine bin ha hb I h fun v u s2 x y H2 I2 rx ry q => ?_
  obtain ⟨i, j, rfl, rfl, q⟩ := q
  obtain ⟨t, rfl⟩ := rx
  obtain ⟨t', rfl⟩ := ry
  exact rule i j t t' _ s2 ⟨.bl _, H2, I2, rfl, q⟩
theorem pc_lt (ha : PE X a ta) (hb : PE X b tb) : PC X .Lt a b (tLt ta tb) := pc_int ha hb fun _ _ _ _ _ _ h => lt_int h
theorem pc_le (ha : PE X a ta) (hb : PE X b tb) : PC X .LtE a b (tLe ta tb) := pc_int ha hb fun _ _ _ _ _ _ h => le_int h
theorem pc_gt (ha : PE X a ta) (hb : PE X b tb) : PC X .Gt a b (tGt ta tb) := pc_int ha hb fun _ _ _ _ _ _ h => gt_int h
theorem pc_ge (ha : PE X a ta) (hb : PE X b tb) : PC X .GtE a b (tGe ta tb) := pc_int ha hb fun _ _ _ _ _ _ h => ge_int h
theorem pc_eqI (ha : PE X a ta) (hb : PE X b tb) : PC X .Eq a b (tEqI ta tb) := pc_int ha hb fun _ _ _ _ _ _ h => eq_int (by rw [Bool.beq_eq_decide_eq]; exact h)
theorem pc_neI (ha : PE X a ta) (hb : PE X b tb) : PC X .NotEq a b (tNeI ta tb) := pc_int ha hb fun _ _ _ _ _ _ h => ne_int (by rw [bne, Bool.beq_eq_decide_eq]; exact h)
def tIsN (ta : TE) : TE := fun σ H Q => ta σ H fun x H1 => Q (.bl (decide (x = .non))) H1
def tNotN (ta : TE) : TE := fun σ H Q => ta σ H fun x H1 => Q (.bl (!decide (x = .non))) H1
theorem RelV.none_iff {x : V} {v : Value} (r : RelV x v) : (v == Value.none) = decide (x = .non) := by
  cases x with
  | non => cases r; rfl
  | bl _ => cases r; rfl
  | int _ => obtain ⟨t, rfl⟩ := r; rfl
  | str _ => obtain ⟨t, rfl⟩ := r; rfl
  | byt _ => obtain ⟨t, rfl⟩ := r; rfl
  | flt _ => obtain ⟨t, rfl⟩ := r; rfl
  | ref _ => cases r; rfl
  | ty _ => cases r; rfl
theorem pc_isN {j pos'} (ha : PE X a ta) : PC X .Is a (.Constant .none j pos') (tIsN ta) := by
  intro pins s σ H Q I h
  refine thn (ha pins s σ H _ I h) fun v s1 ⟨x, H1, I1, r1, q1⟩ => ?_
  exact Constant_none (is_none_gen ⟨.bl _, H1, I1, by rw [r1.none_iff]; rfl, q1⟩)
theorem pc_notN {j pos'} (ha : PE X a ta) : PC X .IsNot a (.Constant .none j pos') (tNotN ta) := by
  intro pins s σ H Q I h
  refine thn (ha pins s σ H _ I h) fun v s1 ⟨x, H1, I1, r1, q1⟩ => ?_
  exact Constant_none (isnot_none_gen ⟨.bl _, H1, I1, by rw [r1.none_iff]; rfl, q1⟩)
def tB (t : TE) : TT := fun σ H Q => t σ H fun x H1 => ∃ c, x = .bl c ∧ Q c H1
theorem pe_cmp {op : CmpOp} {t : TE} (h : PC X op a b t) (h1 : behindInMarks op b = false := by first | exact nobehind _ (by decide) (by decide) | rfl) : PE X (.Compare a [op] [b] pos) t := fun pins s σ H Q I hw => wpAny_Compare1 (h pins s σ H Q I hw) h1
theorem pt_cmp {op : CmpOp} {t : TE} (h : PC X op a b t) (h1 : behindInMarks op b = false := by first | exact nobehind _ (by decide) (by decide) | rfl) : PT X (.Compare a [op] [b] pos) (tB t) := by
  intro pins s σ H Q I hw
  refine wpAny_isTrue_Compare1 (thn (h pins s σ H _ I hw) fun v s1 h1 => thn h1 fun u s2 h2 => thn h2 fun c s3 ⟨x, H1, I1, r1, q1⟩ => ?_) h1
  obtain ⟨d, rfl, q⟩ := q1
  cases r1
  exact wpAny_truthy_bool ⟨H1, I1, q⟩
theorem pt_val {e : Expr} {t : TE} (h : PE X e t) (he : ∀ whole, isTrue e X.env whole = (do let v ← whole; standAt e.pos; holding [v] (truthy v)) := by intro _; rfl) : PT X e (tB t) := by
  intro pins s σ H Q I hw
  refine isTrue_plain (thn (h pins s σ H _ I hw) fun v s1 ⟨x, H1, I1, r1, q1⟩ => ?_) (he _)
  obtain ⟨d, rfl, q⟩ := q1
  cases r1
  exact wpAny_truthy_bool ⟨H1, I1, q⟩

variable {tA tB' : TT} {rest : List Expr}
def tAnd (t u : TT) : TT := fun σ H Q => t σ H fun c H1 => if c = true then u σ H1 Q else Q false H1
def tOr (t u : TT) : TT := fun σ H Q => t σ H fun c H1 => if c = true then Q true H1 else u σ H1 Q
def tNot (t : TT) : TT := fun σ H Q => t σ H fun c H1 => Q (!c) H1
theorem pw_and1 (ha : PT X a tA) : PW X (.BoolOp .And [a] pos) tA := by
  intro wh pins s σ H Q I h
  refine isTrue_and (thn (ha pins s σ H Q I h) fun c s1 e => ?_)
  cases c with
  | true => exact isTrue_and_nil e
  | false => exact e
theorem pw_or1 (ha : PT X a tA) : PW X (.BoolOp .Or [a] pos) tA := by
  intro wh pins s σ H Q I h
  refine isTrue_or (thn (ha pins s σ H Q I h) fun c s1 e => ?_)
  cases c with
  | false => exact isTrue_or_nil e
  | true => exact e
theorem pw_and (ha : PT X a tA) (hb : PW X (.BoolOp .And (b :: rest) pos) tB') : PW X (.BoolOp .And (a :: b :: rest) pos) (tAnd tA tB') := by
  intro wh pins s σ H Q I h
  refine isTrue_and (thn (ha pins s σ H _ I h) fun c s1 ⟨H1, I1, q1⟩ => ?_)
  cases c with
  | true => exact hb wh pins s1 σ H1 Q I1 q1
  | false => exact ⟨H1, I1, q1⟩
theorem pw_or (ha : PT X a tA) (hb : PW X (.BoolOp .Or (b :: rest) pos) tB') : PW X (.BoolOp .Or (a :: b :: rest) pos) (tOr tA tB') := by
  intro wh pins s σ H Q I h
  refine isTrue_or (thn (ha pins s σ H _ I h) fun c s1 ⟨H1, I1, q1⟩ => ?_)
  cases c with
  | true => exact ⟨H1, I1, q1⟩
  | false => exact hb wh pins s1 σ H1 Q I1 q1
theorem pt_not (ha : PT X a tA) : PT X (.UnaryOp .Not a pos) (tNot tA) := by
  intro pins s σ H Q I h
  exact isTrue_not (ha pins s σ H (fun c H1 => Q (!c) H1) I h)
def tAndV (ta tb : TE) : TE := fun σ H Q => ta σ H fun x H1 => ∃ c, x = .bl c ∧ if c = true then tb σ H1 Q else Q (.bl false) H1
def tOrV (ta tb : TE) : TE := fun σ H Q => ta σ H fun x H1 => ∃ c, x = .bl c ∧ if c = true then Q (.bl true) H1 else tb σ H1 Q
def tNotV (ta : TE) : TE := fun σ H Q => ta σ H fun x H1 => ∃ c, x = .bl c ∧ Q (.bl (!c)) H1
theorem pe_one {op} {t : TE} (h : PE X a t) : PE X (.BoolOp op [a] pos) t := fun pins s σ H Q I hw => BoolOp_one (h pins s σ H Q I hw)
theorem pe_and (ha : PE X a ta) (hb : PE X (.BoolOp .And (b :: rest) pos) tb) : PE X (.BoolOp .And (a :: b :: rest) pos) (tAndV ta tb) := by
  intro pins s σ H Q I h
  refine BoolOp_and (thn (ha pins s σ H _ I h) fun v s1 ⟨x, H1, I1, r1, q1⟩ => ?_)
  obtain ⟨c, rfl, q1⟩ := q1
  cases r1
  refine wpAny_truthy_bool ?_
  cases c with
  | true => exact hb pins s1 σ H1 Q I1 q1
  | false => exact ⟨.bl false, H1, I1, rfl, q1⟩
theorem pe_or (ha : PE X a ta) (hb : PE X (.BoolOp .Or (b :: rest) pos) tb) : PE X (.BoolOp .Or (a :: b :: rest) pos) (tOrV ta tb) := by
  intro pins s σ H Q I h
  refine BoolOp_or (thn (ha pins s σ H _ I h) fun v s1 ⟨x, H1, I1, r1, q1⟩ => ?_)
  obtain ⟨c, rfl, q1⟩ := q1
  cases r1
  refine wpAny_truthy_bool ?_
  cases c with
  | false => exact hb pins s1 σ H1 Q I1 q1
  | true => exact ⟨.bl true, H1, I1, rfl, q1⟩
theorem pe_not (ha : PE X a ta) : PE X (.UnaryOp .Not a pos) (tNotV ta) := by
  intro pins s σ H Q I h
  refine UnaryOp_ (thn (ha pins s σ H _ I h) fun v s1 ⟨x, H1, I1, r1, q1⟩ => ?_)
  obtain ⟨c, rfl, q1⟩ := q1
  cases r1
  exact not_of (wpAny_truthy_bool ⟨.bl (!c), H1, I1, rfl, q1⟩)
def tIf (t : TT) (ta tb : TE) : TE := fun σ H Q => t σ H fun c H1 => if c = true then ta σ H1 Q else tb σ H1 Q
theorem pe_ifExp {c : Expr} (hc : PT X c tA) (ha : PE X a ta) (hb : PE X b tb) : PE X (.IfExp c a b pos) (tIf tA ta tb) := by
  intro pins s σ H Q I h
  refine wpAny_IfExp (thn (hc pins s σ H _ I h) fun d s1 ⟨H1, I1, q1⟩ => ?_)
  cases d with
  | true => exact ha pins s1 σ H1 Q I1 q1
  | false => exact hb pins s1 σ H1 Q I1 q1
end
end L2

namespace L2
open PySem PySem.Spec PyProof.Rows

def SqL (K : PySem.W.Frag) (H : Hp) (a : Addr) (xs : List V) : Prop :=
  Rd H a (.lst xs) ∨
    ∃ (o : Obj) (its : Array Value) (n : Nat), K.lookup a = some o ∧ o.cls = .type "list" ∧ o.dict = none ∧ o.data = .seq its n ∧ its.size ≤ sizeLine ∧ Vals xs its.toList
def SqT (K : PySem.W.Frag) (H : Hp) (a : Addr) (xs : List V) : Prop :=
  Rd H a (.tup xs) ∨
    ∃ (o : Obj) (its : Array Value) (n : Nat), K.lookup a = some o ∧ o.cls = .type "tuple" ∧ o.data = .seq its n ∧ its.size ≤ sizeLine ∧ Vals xs its.toList
def absV : Value → Option V
  | .none => some .non
  | .bool b => some (.bl b)
  | .int i _ => some (.int i)
  | .str x _ => some (.str x)
  | .bytes b _ => some (.byt b)
  | .float b _ => some (.flt b)
  | .ref a => some (.ref a)
  | .type n => some (.ty n)
  | _ => none
theorem RelV.abs {x : V} {u : Value} (r : RelV x u) : absV u = some x := by
  cases x with
  | non => cases r; rfl
  | bl _ => cases r; rfl
  | int _ => obtain ⟨t, rfl⟩ := r; rfl
  | str _ => obtain ⟨t, rfl⟩ := r; rfl
  | byt _ => obtain ⟨t, rfl⟩ := r; rfl
  | flt _ => obtain ⟨t, rfl⟩ := r; rfl
  | ref _ => cases r; rfl
  | ty _ => cases r; rfl
theorem RelV.inj {x y : V} {u : Value} (r : RelV x u) (q : RelV y u) : x = y := Option.some.inj (r.abs.symm.trans q.abs)
theorem Vals.inj : ∀ {xs ys : List V} {us : List Value}, Vals xs us → Vals ys us → xs = ys
  | _, _, _, .nil, .nil => rfl
  | _, _, _, .cons r t, .cons r' t' => by rw [r.inj r', Vals.inj t t']
section
variable {X : Cx} {pins : List (Addr × Obj)} {σ : St} {H : Hp} {s : Shared} {a : Addr} {xs ys : List V}
theorem SqL.of {K : PySem.W.Frag} (h : H a = some (.lst xs)) : SqL K H a xs := .inl (.inl h)
theorem SqT.of {K : PySem.W.Frag} (h : H a = some (.tup xs)) : SqT K H a xs := .inl (.inl h)
theorem Inv.list (I : Inv X pins σ H s) (h : SqL X.K H a xs) : ∃ its : List Value, Vals xs its ∧ PlainL s.heap a its.toArray ∧ xs.length ≤ sizeLine := by
  rcases h with h | ⟨o, its, n, hk, hc, hd, hs, hz, r⟩
  · obtain ⟨z, its, n, r, e⟩ := h.ok I.hok
    exact ⟨its, r, ⟨_, n, e, rfl, rfl, rfl⟩, z⟩
  · refine ⟨its.toList, r, ⟨o, n, I.kIn a o hk, hc, hd, by simpa using hs⟩, ?_⟩
    have e := r.length
    simp only [Array.length_toList] at e
    omega
theorem Inv.tuple (I : Inv X pins σ H s) (h : SqT X.K H a xs) : ∃ its : List Value, Vals xs its ∧ IsTup s.heap a its.toArray ∧ xs.length ≤ sizeLine := by
  rcases h with h | ⟨o, its, n, hk, hc, hs, hz, r⟩
  · obtain ⟨z, its, r, p⟩ := h.ok I.hok
    exact ⟨its, r, p, z⟩
  · refine ⟨its.toList, r, ⟨o, I.kIn a o hk, hc, n, by simpa using hs⟩, ?_⟩
    have e := r.length
    simp only [Array.length_toList] at e
    omega
theorem Inv.list_inj (I : Inv X pins σ H s) (h : SqL X.K H a xs) (h' : SqL X.K H a ys) : xs = ys := by
  obtain ⟨its, r, ⟨o, n, e, _, _, d⟩, _⟩ := I.list h
  obtain ⟨its', r', ⟨o', n', e', _, _, d'⟩, _⟩ := I.list h'
  rw [e] at e'; cases e'
  rw [d] at d'
  injection d' with d1 _
  have : its = its' := by simpa using congrArg Array.toList d1
  subst this
  exact r.inj r'
theorem Inv.tuple_inj (I : Inv X pins σ H s) (h : SqT X.K H a xs) (h' : SqT X.K H a ys) : xs = ys := by
  obtain ⟨its, r, ⟨o, e, _, n, d⟩, _⟩ := I.tuple h
  obtain ⟨its', r', ⟨o', e', _, n', d'⟩, _⟩ := I.tuple h'
  rw [e] at e'; cases e'
  rw [d] at d'
  injection d' with d1 _
  have : its = its' := by simpa using congrArg Array.toList d1
  subst this
  exact r.inj r'
end

abbrev Cx.wish (X : Cx) (E : Value → Shared → Prop) : Cx := { X with xe := E }
abbrev Cx.nox (X : Cx) : Cx := X.wish fun _ _ => False
theorem Cx.Ok.wish {X : Cx} (ok : X.Ok) (E : Value → Shared → Prop) : (X.wish E).Ok :=
  ⟨ok.mod, ok.kind, ok.glob, ok.blt, ok.above, ok.inj, ok.has, ok.cab, ok.hd, ok.frames, ok.stk, ok.exf, ok.bs, ok.bsz, ok.noex, ok.exfs, ok.funs, ok.frf⟩
theorem Cx.Ok.unwish {X : Cx} {E : Value → Shared → Prop} (ok : (X.wish E).Ok) : X.Ok :=
  ⟨ok.mod, ok.kind, ok.glob, ok.blt, ok.above, ok.inj, ok.has, ok.cab, ok.hd, ok.frames, ok.stk, ok.exf, ok.bs, ok.bsz, ok.noex, ok.exfs, ok.funs, ok.frf⟩
section
variable {X : Cx} {pins : List (Addr × Obj)} {σ : St} {H : Hp} {s : Shared} {E : Value → Shared → Prop}
theorem Inv.wish (I : Inv X pins σ H s) (E : Value → Shared → Prop) : Inv (X.wish E) pins σ H s := ⟨I.ok.wish E, I.os, I.bare, I.base, I.loc, I.cell, I.free, I.freeC, I.pin, I.hok, I.len⟩
theorem Inv.unwish (I : Inv (X.wish E) pins σ H s) : Inv X pins σ H s := ⟨I.ok.unwish, I.os, I.bare, I.base, I.loc, I.cell, I.free, I.freeC, I.pin, I.hok, I.len⟩
theorem SP.unwish {D : Ends} {f : Flow} {s' : Shared} (h : SP (X.wish E) pins D f s') : SP X pins D f s' := by
  cases f with
  | next => obtain ⟨σ', H', I, q⟩ := h; exact ⟨σ', H', I.unwish, q⟩
  | brk => obtain ⟨σ', H', I, q⟩ := h; exact ⟨σ', H', I.unwish, q⟩
  | cont => obtain ⟨σ', H', I, q⟩ := h; exact ⟨σ', H', I.unwish, q⟩
  | ret u => obtain ⟨v, σ', H', I, r, q⟩ := h; exact ⟨v, σ', H', I.unwish, r, q⟩
theorem PE.nox {e : Expr} {t : TE} (h : PE X.nox e t) : PE X e t := fun pins s σ H Q I hw =>
  wpAny_mono (h pins s σ H Q (I.wish _) hw) (fun _ _ ⟨v, H', I', r, q⟩ => ⟨v, H', I'.unwish, r, q⟩) fun _ _ z => False.elim z
theorem PT.nox {e : Expr} {t : TT} (h : PT X.nox e t) : PT X e t := fun pins s σ H Q I hw =>
  wpAny_mono (h pins s σ H Q (I.wish _) hw) (fun _ _ ⟨H', I', q⟩ => ⟨H', I'.unwish, q⟩) fun _ _ z => False.elim z
theorem PSs.nox {st : List Stmt} {t : TS} (h : PSs X.nox st t) : PSs X st t := fun pins s σ H D I hw =>
  wpAny_mono (h pins s σ H D (I.wish _) hw) (fun _ _ q => q.unwish) fun _ _ z => False.elim z
end

section
variable {X : Cx} {st : Stmt} {rest : List Stmt} {t u : TS} {e : Expr} {te : TE} {pos : Pos}
def tNext : TS := fun D σ H => D.nx σ H
def tSeq (t u : TS) : TS := fun D σ H => t { D with nx := u D } σ H
theorem pss_nil : PSs X [] tNext := fun _ _ σ H _ I h => wpAny_execs_nil ⟨σ, H, I, h⟩
theorem pss_cons (h1 : PS X st t) (h2 : PSs X rest u) : PSs X (st :: rest) (tSeq t u) := by
  intro pins s σ H D I h
  refine wpAny_execs_cons (thn (h1 pins s σ H { D with nx := u D } I h) fun f s1 q => ?_)
  cases f with
  | next =>
    obtain ⟨σ', H', I', q⟩ := q
    exact h2 pins s1 σ' H' D I' q
  | ret v => exact q
  | brk => exact q
  | cont => exact q
theorem pss_one (h1 : PS X st t) : PSs X [st] t := by
  intro pins s σ H D I h
  refine wpAny_execs_cons (thn (h1 pins s σ H D I h) fun f s1 q => ?_)
  cases f with
  | next => exact wpAny_execs_nil q
  | ret v => exact q
  | brk => exact q
  | cont => exact q
def tBreak : TS := fun D σ H => D.bk σ H
def tCont : TS := fun D σ H => D.ct σ H
theorem ps_pass : PS X (.Pass pos) tNext := fun _ _ σ H _ I h => wpAny_Pass ⟨σ, H, I, h⟩
theorem ps_break : PS X (.Break pos) tBreak := fun _ _ σ H _ I h => wpAny_Break ⟨σ, H, I, h⟩
theorem ps_continue : PS X (.Continue pos) tCont := fun _ _ σ H _ I h => wpAny_Continue ⟨σ, H, I, h⟩
theorem Inv.quiet {pins : List (Addr × Obj)} {σ : St} {H : Hp} {s : Shared} (I : Inv X pins σ H s) : interactive X.env = false := by simp [interactive, I.ok.kind]
theorem ps_doc {x j pos pos'} : PS X (.Expr (.Constant (.str x) j pos) pos') tNext := fun _ s σ H _ I h => wpAny_Expr (Calls.Constant_str (show SP X _ _ .next { s with toks := s.toks + 1 } from ⟨σ, H, I.tok _, h⟩)) I.quiet
def tDrop (te : TE) : TS := fun D σ H => te σ H fun _ H1 => D.nx σ H1
theorem ps_expr (he : PE X e te) (hs : swapsWith e none pos.line X.env = pure false := by rfl) : PS X (.Expr e pos) (tDrop te) := by
  intro pins s σ H D I h
  exact wpAny_Expr_any (thn (he pins s σ H _ I h) fun v s1 ⟨x, H1, I1, r1, q1⟩ => ⟨σ, H1, I1, q1⟩) I.quiet hs
def tRet (te : TE) : TS := fun D σ H => te σ H D.rt
theorem ps_ret (he : PE X e te) : PS X (.Return (some e) pos) (tRet te) := by
  intro pins s σ H D I h
  exact wpAny_Return_some (thn (he pins s σ H _ I h) fun v s1 ⟨x, H1, I1, r1, q1⟩ => ⟨x, σ, H1, I1, r1, q1⟩)
def tRetN : TS := fun D _ H => D.rt .non H
theorem ps_retN : PS X (.Return none pos) tRetN := fun _ _ σ H _ I h => wpAny_Return_none ⟨.non, σ, H, I, rfl, h⟩
def tIfS (c : TT) (t u : TS) : TS := fun D σ H => c σ H fun b H1 => if b = true then t D σ H1 else u D σ H1
theorem ps_if {c : Expr} {a b : List Stmt} {tc : TT} (hc : PT X c tc) (ha : PSs X a t) (hb : PSs X b u) : PS X (.If c a b pos) (tIfS tc t u) := by
  intro pins s σ H D I h
  refine wpAny_If (thn (hc pins s σ H _ I h) fun d s1 ⟨H1, I1, q1⟩ => ?_)
  cases d with
  | true => exact ha pins s1 σ H1 D I1 q1
  | false => exact hb pins s1 σ H1 D I1 q1
def tNever : TS := fun _ _ _ => False
theorem ps_never : PS X st tNever := fun _ _ _ _ _ _ h => h.elim
theorem pss_never {sts : List Stmt} : PSs X sts tNever := fun _ _ _ _ _ _ h => h.elim
end

abbrev TG := V → St → Hp → (St → Hp → Prop) → Prop
abbrev TGs := List V → St → Hp → (St → Hp → Prop) → Prop
def PG (X : Cx) (target : Expr) (t : TG) : Prop :=
  ∀ (pins : List (Addr × Obj)) (s : Shared) (σ : St) (H : Hp) (v : V) (u : Value) (Q : St → Hp → Prop), Inv X pins σ H s → RelV v u → t v σ H Q →
    wpAny (model X.prog X.w) X.A (assign target X.env u) (fun _ s' => ∃ σ' H', Inv X pins σ' H' s' ∧ Q σ' H') X.xe s
def PGs (X : Cx) (ts : List Expr) (t : TGs) : Prop :=
  ∀ (pins : List (Addr × Obj)) (s : Shared) (σ : St) (H : Hp) (vs : List V) (us : List Value) (Q : St → Hp → Prop), Inv X pins σ H s → Vals vs us → t vs σ H Q →
    wpAny (model X.prog X.w) X.A (assignInOrder ((assignEach ts X.env).map (·.2)) us) (fun _ s' => ∃ σ' H', Inv X pins σ' H' s' ∧ Q σ' H') X.xe s
abbrev TSet := V → V → V → Hp → (Hp → Prop) → Prop
def PSet (X : Cx) (t : TSet) : Prop :=
  ∀ (pins : List (Addr × Obj)) (s : Shared) (σ : St) (H : Hp) (o i v : V) (ov iv u : Value) (Q : Hp → Prop), Inv X pins σ H s → RelV o ov → RelV i iv → RelV v u → t o i v H Q →
    wpAny (model X.prog X.w) X.A (setItem ov iv u) (fun _ s' => ∃ H', Inv X pins σ H' s' ∧ Q H') X.xe s
abbrev TIp := V → V → Hp → VK → Prop
def PIp (X : Cx) (op : Operator) (t : TIp) : Prop :=
  ∀ (pins : List (Addr × Obj)) (s : Shared) (σ : St) (H : Hp) (x y : V) (v u : Value) (Q : VK), Inv X pins σ H s → RelV x v → RelV y u → t x y H Q →
    wpAny (model X.prog X.w) X.A (inplaceOp op v u) (EP X pins σ Q) X.xe s
section
variable {X : Cx} {pos : Pos}
def gName (i : Nat) : TG := fun v σ H Q => Q (σ.set i (some v)) H
theorem pg_name {i : Nat} {x : Str} (hN : X.N.Nodup) (hi : X.N[i]? = some x) (hx : Loc X.env.scope x) (hf : X.fn x = true ∨ X.env.scope.names.lookup x = some .local := by first | exact .inl rfl | exact .inr rfl | assumption) : PG X (.Name x pos) (gName i) := by
  intro pins s σ H v u Q I r h
  exact wpAny_assign_Name (store_ok I hN hi hx r (fun s' I' => ⟨_, H, I', h⟩) hf)
def gNil : TGs := fun vs σ H Q => vs = [] ∧ Q σ H
def gCons (t : TG) (u : TGs) : TGs := fun vs σ H Q => ∃ v r, vs = v :: r ∧ t v σ H fun σ' H' => u r σ' H' Q
theorem pgs_nil : PGs X [] gNil := by
  intro pins s σ H vs us Q I r h
  obtain ⟨e, h⟩ := h
  subst e
  cases r
  exact assignInOrder_nil ⟨σ, H, I, h⟩
theorem pgs_cons {e : Expr} {es : List Expr} {t : TG} {u : TGs} (h1 : PG X e t) (h2 : PGs X es u)
    (hs : (assignEach (e :: es) X.env).map (·.2) = assign e X.env :: (assignEach es X.env).map (·.2) := by rfl) : PGs X (e :: es) (gCons t u) := by
  intro pins s σ H vs us Q I r h
  obtain ⟨v, vr, e1, h⟩ := h
  subst e1
  cases r with
  | cons r rr =>
    rw [hs]
    refine assignInOrder_cons (thn (h1 pins s σ H _ _ _ I r h) fun _ s1 ⟨σ1, H1, I1, q1⟩ => ?_)
    exact h2 pins s1 σ1 H1 _ _ Q I1 rr q1
def gTup (K : PySem.W.Frag) (n : Nat) (t : TGs) : TG := fun v σ H Q => ∃ a xs, v = .ref a ∧ SqT K H a xs ∧ xs.length = n ∧ t xs σ H Q
theorem pg_tup {es : List Expr} {k : Nat} {t : TGs} {n : Nat} (hc : X.calm = true) (h : PGs X es t)
    (hn : (assignEach es X.env).length = n := by rfl) (hst : (assignEach es X.env).findIdx? (·.1) = none := by rfl) : PG X (.Tuple es k pos) (gTup X.K n t) := by
  intro pins s σ H v u Q I r hw
  obtain ⟨a, xs, e1, hq, hl, hw⟩ := hw
  subst e1
  cases r
  obtain ⟨its, rv, ht, hz⟩ := I.tuple hq
  refine assign_Tuple_tuple (I.ok.hd hc) ht (by simp [hn, ← hl, rv.length]) hst fun h' hx => ?_
  have I1 : Inv X pins σ H { s with heap := h' } := I.kept (t' := s.toks) fun b o e => hx b o (Nat.ne_of_lt (Heap.lt_size e)) e
  exact h pins _ σ H xs _ Q I1 (by simpa using rv) hw
def gSub (to ti : TE) (t : TSet) : TG := fun v σ H Q => to σ H fun o H1 => ti σ H1 fun i H2 => t o i v H2 fun H3 => Q σ H3
theorem pg_sub {o i : Expr} {to ti : TE} {t : TSet} (ho : PE X o to) (hi : PE X i ti) (hs : PSet X t)
    (ha : ∀ v, assign (.Subscript o i pos) X.env v = (do
      let ov ← holding [v] (eval o X.env)
      let iv ← holding [v, ov] (eval i X.env)
      standAt pos
      holding [v, ov, iv] (setItem ov iv v)
      release [v, ov, iv] []) := by intro _; rfl) : PG X (.Subscript o i pos) (gSub to ti t) := by
  intro pins s σ H v u Q I r h
  rw [ha]
  refine wpAny_bind (wpAny_holding (thn (ho pins s σ H _ I h) fun ov s1 ⟨x, H1, I1, r1, q1⟩ => ?_))
  refine wpAny_bind (wpAny_holding (thn (hi pins s1 σ H1 _ I1 q1) fun iv s2 ⟨y, H2, I2, r2, q2⟩ => ?_))
  refine wpAny_bind (wpAny_standAt (wpAny_bind (wpAny_holding (thn (hs pins s2 σ H2 x y v ov iv u _ I2 r1 r2 r q2) fun _ s3 ⟨H3, I3, q3⟩ => ?_))))
  exact wpAny_release ⟨σ, H3, I3, q3⟩
def tAsg (te : TE) (g : TG) : TS := fun D σ H => te σ H fun x H1 => g x σ H1 D.nx
theorem ps_asg {tg e : Expr} {te : TE} {g : TG} (he : PE X e te) (hg : PG X tg g) (hs : swapsWithSole [tg] e pos.line X.env = pure false := by rfl) (hw : swappedStores [tg] e X.env = pure none := by rfl)
    (h1 : (assignEach [tg] X.env).map (·.2) = [assign tg X.env] := by rfl) : PS X (.Assign [tg] e pos) (tAsg te g) := by
  intro pins s σ H D I h
  refine wpAny_Assign_stores (thn (he pins s σ H _ I h) fun v s1 ⟨x, H1, I1, r1, q1⟩ => ?_) hs hw
  rw [h1]
  exact thn (hg pins s1 σ H1 x v _ I1 r1 q1) fun _ s2 q => q
theorem ps_set {i : Nat} {x : Str} {e : Expr} {te : TE} {pos' : Pos} (hN : X.N.Nodup) (hi : X.N[i]? = some x) (hx : Loc X.env.scope x) (he : PE X e te) (hs : swapsWith e (some (.Name x pos')) pos.line X.env = pure false := by rfl) (hf : X.fn x = true ∨ X.env.scope.names.lookup x = some .local := by first | exact .inl rfl | exact .inr rfl | assumption) :
    PS X (.Assign [.Name x pos'] e pos) (tAsg te (gName i)) := by
  intro pins s σ H D I h
  refine wpAny_Assign_Name (thn (he pins s σ H _ I h) fun v s1 ⟨y, H1, I1, r1, q1⟩ => ?_) hs
  exact store_ok I1 hN hi hx r1 (fun s2 I2 => ⟨_, H1, I2, q1⟩) hf
def tPar (i j : Nat) (ta : TA) : TS := fun D σ H => ta σ H fun vs H1 => ∃ v w, vs = [v, w] ∧ D.nx ((σ.set i (some v)).set j (some w)) H1
theorem ps_par {i j : Nat} {x y : Str} {a b : Expr} {ta : TA} {px py pt : Pos} {kt k2 pt2} (hc : X.calm = true) (hN : X.N.Nodup) (hi : X.N[i]? = some x) (hj : X.N[j]? = some y) (hij : i ≠ j)
    (hx : X.env.scope.names.lookup x = some .local) (hy : X.env.scope.names.lookup y = some .local) (ha : PA X [a, b] ta)
    (hw : swappedStores [.Tuple [.Name x px, .Name y py] kt pt] (.Tuple [a, b] k2 pt2) X.env = pure (some [x, y]))
    (hs : swapsWithSole [.Tuple [.Name x px, .Name y py] kt pt] (.Tuple [a, b] k2 pt2) pos.line X.env = pure false := by rfl) :
    PS X (.Assign [.Tuple [.Name x px, .Name y py] kt pt] (.Tuple [a, b] k2 pt2) pos) (tPar i j ta) := by
  intro pins s σ H D I h
  rw [exec_Assign_arm]
  refine wpAny_bind (wpAny_standAt ?_)
  rw [hs]
  refine wpAny_bind (wpAny_pure ?_)
  rw [if_neg (by decide)]
  refine wpAny_bind (Tuple_ (thn (ha _ pins s σ H _ I h) fun us s1 ⟨vs, H1, I1, r1, q1⟩ => ?_))
  obtain ⟨v, w, e1, q1⟩ := q1
  subst e1
  obtain ⟨u1, u2, rfl, rv, rw'⟩ : ∃ u1 u2, us = [u1, u2] ∧ RelV v u1 ∧ RelV w u2 := by
    cases r1 with
    | cons p q =>
      cases q with
      | cons p' q' =>
        cases q'
        exact ⟨_, _, rfl, p, p'⟩
  refine wpAny_newObj_type ?_ (by show 2 ≤ sizeLine; decide)
  have I2 : Inv X pins σ H1 { s1 with heap := s1.heap.push { cls := .type "tuple", data := .seq [u1, u2].toArray } } := I1.kept (t' := s1.toks) fun b o e => Heap.get?_push_of_some _ e
  rw [hw]
  refine wpAny_bind (wpAny_pure ?_)
  show wpAny (model X.prog X.w) X.A (do rule "assign.swapped-stores"; let items ← unpackItems (.ref s1.heap.objs.size) 2 none; assignInOrder [fun v => bindName X.env y v, fun v => bindName X.env x v] items.reverse; pure Flow.next) _ _ _
  refine wpAny_bind (wpAny_rule (wpAny_bind (unpackItems_tuple (items := #[u1, u2]) (I.ok.hd hc) (IsTup.new s1.heap _) fun h' hx' => ?_)))
  have I3 := I2.kept (h' := h') (t' := s1.toks) fun b o e => hx' b o (Nat.ne_of_lt (Heap.lt_size e)) e
  show wpAny _ _ (assignInOrder [fun v => bindName X.env y v, fun v => bindName X.env x v] [u2, u1] >>= fun _ => pure Flow.next) _ _ _
  refine wpAny_bind (assignInOrder_cons (wpAny_bindName (store_ok I3 hN hj (.inl hy) rw' (fun s2 I4 => ?_) (.inr hy))))
  refine assignInOrder_cons (wpAny_bindName (store_ok I4 hN hi (.inl hx) rv (fun s3 I5 => assignInOrder_nil (wpAny_pure ?_)) (.inr hx)))
  rw [List.set_comm _ _ (Ne.symm hij)] at I5
  exact ⟨_, H1, I5, q1⟩
def tAug (i : Nat) (te : TE) (ti : TIp) : TS := fun D σ H => ∃ x, σ[i]? = some (some x) ∧ te σ H fun y H1 => ti x y H1 fun z H2 => D.nx (σ.set i (some z)) H2
theorem ps_aug {i : Nat} {x : Str} {e : Expr} {te : TE} {op : Operator} {ti : TIp} {pos' : Pos} (hN : X.N.Nodup) (hi : X.N[i]? = some x) (hx : Loc X.env.scope x) (he : PE X e te) (ho : PIp X op ti) (hf : X.fn x = true ∨ X.env.scope.names.lookup x = some .local := by first | exact .inl rfl | exact .inr rfl | assumption) :
    PS X (.AugAssign (.Name x pos') op e pos) (tAug i te ti) := by
  intro pins s σ H D I h
  obtain ⟨v, e1, h⟩ := h
  obtain ⟨m, hn, hl⟩ := I.loc
  have vis : Vis X.env.scope x := by rcases hx with k | k; exact .inl k; exact .inr (.inl k)
  obtain ⟨u, r, l⟩ := hl i x v hi e1 vis
  refine wpAny_AugAssign_Name ?_
  have go : wpAny (model X.prog X.w) X.A (eval e X.env) (fun w s₂ => wpAny (model X.prog X.w) X.A (inplaceOp op u w) (fun r s₃ => wpAny (model X.prog X.w) X.A (storeName X.env x r) (fun _ => SP X pins D .next) X.xe s₃) X.xe s₂) X.xe s := by
    refine thn (he pins s σ H _ I h) fun w s1 ⟨y, H1, I1, r1, q1⟩ => ?_
    refine thn (ho pins s1 σ H1 v y u w _ I1 r r1 q1) fun z s2 ⟨zv, H2, I2, r2, q2⟩ => ?_
    exact store_ok I2 hN hi hx r2 (fun s3 I3 => ⟨_, H2, I3, q2⟩) hf
  rcases l with ⟨hk, hm⟩ | ⟨hk, c, hc, hcell⟩
  · exact wpAny_loadName_local I.ok.kind hk hn hm go
  · rcases hk with hk | hk
    · exact wpAny_loadName_cell I.ok.kind hk hc hcell go
    · rcases hx with k | k
      · have : X.env.scope.names.lookup x = some .free := hk
        rw [k] at this; cases this
      · have : X.env.scope.names.lookup x = some .free := hk
        rw [k] at this; cases this
def tAugS (to ti te : TE) (tget : V → V → Hp → VK → Prop) (tip : TIp) (tset : TSet) : TS := fun D σ H => to σ H fun o H1 => ti σ H1 fun i H2 => tget o i H2 fun x H3 => te σ H3 fun y H4 => tip x y H4 fun z H5 => tset o i z H5 fun H6 => D.nx σ H6
def PGet (X : Cx) (t : V → V → Hp → VK → Prop) : Prop :=
  ∀ (pins : List (Addr × Obj)) (s : Shared) (σ : St) (H : Hp) (o i : V) (ov iv : Value) (Q : VK), Inv X pins σ H s → RelV o ov → RelV i iv → t o i H Q →
    wpAny (model X.prog X.w) X.A (getItem ov iv) (EP X pins σ Q) X.xe s
theorem ps_augS {o i e : Expr} {to ti te : TE} {tget : V → V → Hp → VK → Prop} {tip : TIp} {tset : TSet} {op : Operator} {tpos : Pos} (ho : PE X o to) (hi : PE X i ti) (hg : PGet X tget) (he : PE X e te) (hp : PIp X op tip) (hs : PSet X tset)
    (ha : ∀ ov iv new, augStore i ov iv new = (do holding [new, ov, iv] (setItem ov iv new); release [new, ov, iv] []; pure .next) := by intros; rfl) : PS X (.AugAssign (.Subscript o i tpos) op e pos) (tAugS to ti te tget tip tset) := by
  intro pins s σ H D I h
  refine wpAny_AugAssign_SubscriptAny (thn (ho pins s σ H _ I h) fun ov s1 ⟨x1, H1, I1, r1, q1⟩ => ?_) ha
  refine thn (hi pins s1 σ H1 _ I1 q1) fun iv s2 ⟨x2, H2, I2, r2, q2⟩ => ?_
  refine thn (hg pins s2 σ H2 x1 x2 ov iv _ I2 r1 r2 q2) fun old s3 ⟨x3, H3, I3, r3, q3⟩ => ?_
  refine thn (he pins s3 σ H3 _ I3 q3) fun v s4 ⟨x4, H4, I4, r4, q4⟩ => ?_
  refine thn (hp pins s4 σ H4 x3 x4 old v _ I4 r3 r4 q4) fun new s5 ⟨x5, H5, I5, r5, q5⟩ => ?_
  exact thn (hs pins s5 σ H5 x1 x2 x5 ov iv new _ I5 r1 r2 r5 q5) fun _ s6 ⟨H6, I6, q6⟩ => ⟨σ, H6, I6, q6⟩
def ipI (f : Int → Int → Int) : TIp := fun x y H Q => ∃ i j, x = .int i ∧ y = .int j ∧ Q (.int (f i j)) H
theorem ip_add : PIp X .Add (ipI fun i j => i + j) := by
  intro pins s σ H x y v u Q I r1 r2 h
  obtain ⟨i, j, e1, e2, q⟩ := h
  subst e1; subst e2
  obtain ⟨t, rfl⟩ := r1
  obtain ⟨t', rfl⟩ := r2
  exact iadd_int ⟨.int _, H, I.tok _, ⟨_, rfl⟩, q⟩
theorem ip_sub : PIp X .Sub (ipI fun i j => i - j) := by
  intro pins s σ H x y v u Q I r1 r2 h
  obtain ⟨i, j, e1, e2, q⟩ := h
  subst e1; subst e2
  obtain ⟨t, rfl⟩ := r1
  obtain ⟨t', rfl⟩ := r2
  exact isub_int ⟨.int _, H, I.tok _, ⟨_, rfl⟩, q⟩
end

section
variable {X : Cx} {pos : Pos}
def tWhile (c : TT) (tb : TS) : TS := fun D σ H => ∃ W : Nat → St → Hp → Prop, (∃ m, W m σ H) ∧ ∀ m σ H, W m σ H →
  c σ H fun b H1 => if b = true then ∃ N : St → Hp → Prop, (∀ σ' H', N σ' H' → ∃ m', m' < m ∧ W m' σ' H') ∧ tb { D with nx := N, ct := N, bk := D.nx } σ H1 else D.nx σ H1
theorem ps_while {c : Expr} {body : List Stmt} {tc : TT} {tb : TS} (hp : PassesOwn (model X.prog X.w) X.A X.env X.xe) (hc : PT X c tc) (hb : PSs X body tb) : PS X (.While c body [] pos) (tWhile tc tb) := by
  intro pins s σ H D I h
  obtain ⟨W, ⟨m0, w0⟩, turn⟩ := h
  refine wpAny_While (codeAny_whileLoop (fun n s' => ∃ σ' H', Inv X pins σ' H' s' ∧ W n σ' H') ?_ m0 ⟨σ, H, I, w0⟩)
  rintro n s1 ⟨σ1, H1, I1, w1⟩
  refine wpAny_passesOwn hp (thn (hc pins s1 σ1 H1 _ I1 (turn n σ1 H1 w1)) fun b s2 ⟨H2, I2, q2⟩ => ?_)
  cases b with
  | true =>
    obtain ⟨N, hN, q2⟩ := q2
    rw [if_pos rfl]
    refine wpAny_passesOwn hp (thn (hb pins s2 σ1 H2 _ I2 q2) fun f s3 q3 => ?_)
    cases f with
    | next =>
      obtain ⟨σ3, H3, I3, n3⟩ := q3
      obtain ⟨m', hm, w3⟩ := hN σ3 H3 n3
      exact ⟨m', hm, σ3, H3, I3, w3⟩
    | cont =>
      obtain ⟨σ3, H3, I3, n3⟩ := q3
      obtain ⟨m', hm, w3⟩ := hN σ3 H3 n3
      exact ⟨m', hm, σ3, H3, I3, w3⟩
    | brk => exact q3
    | ret v => exact q3
  | false =>
    rw [if_neg Bool.false_ne_true]
    exact wpAny_execs_nil ⟨σ1, H2, I2, q2⟩
end

set_option genInjectivity false in
structure It where
  go : Nat → Hp → Prop
  yld : Nat → Hp → V → Hp → Prop
  stop : Nat → Hp → Prop
def FpOk (X : Cx) (pins : List (Addr × Obj)) (H : Hp) (b : Addr) : Prop :=
  H b = none ∧ b ≠ X.env.locals ∧ b ∉ X.fs ∧ (b ∈ X.ex ∨ X.s₀.heap.objs.size ≤ b) ∧ (∀ x c, X.env.cells.lookup x = some c → c ≠ b) ∧ ∀ p ∈ X.pn ++ pins, p.1 ≠ b
theorem Inv.fpOk {X : Cx} {pins : List (Addr × Obj)} {σ : St} {H H' : Hp} {s : Shared} {b : Addr} (I : Inv X pins σ H s) (hb : s.heap.objs.size ≤ b) (hn : H' b = none) : FpOk X pins H' b := by
  refine ⟨hn, Nat.ne_of_gt (Nat.lt_of_lt_of_le I.lt hb), I.nofs hb, .inr (Nat.le_trans I.sz hb), fun x c e z => ?_, fun p hp z => ?_⟩
  · obtain ⟨v, q⟩ := I.cell x c e
    exact absurd (Nat.lt_of_lt_of_le q.lt (by rw [z]; exact hb)) (Nat.lt_irrefl _)
  · exact absurd (Nat.lt_of_lt_of_le (Heap.lt_size (I.pin p hp).1) (by rw [z]; exact hb)) (Nat.lt_irrefl _)
structure Turn (P : Program) (w : World) (K : PySem.W.Frag) (tg : Expr) (J : It) (fp : List Addr) (it : Addr) (tn : Nat → Heap → Prop) : Prop where
  mem : it ∈ fp
  obj : ∀ i h, tn i h → ∀ b ∈ fp, ∃ o, h.get? b = some o ∧ ∀ v, o.data ≠ .cell v
  keep : ∀ i h h', tn i h → (∀ b ∈ fp, ∀ o, h.get? b = some o → h'.get? b = some o) → tn i h'
  item : ∀ (X : Cx), X.prog = P → X.w = w → X.K = K → X.calm = true → ∀ (i : Nat) (pins : List (Addr × Obj)) (s : Shared) (σ : St) (H : Hp) (E : Value → Shared → Prop), Inv X pins σ H s → (∀ b ∈ fp, FpOk X pins H b) → tn i s.heap → J.go i H →
    wpAny (model P w) X.A (pyNext (.ref it)) (fun r s1 => ∃ u, r = some u ∧
      wpAny (model P w) X.A (letOwnedTupleGo tg (.ref it) u) (fun _ s2 => ∃ x H', Inv X pins σ H' s2 ∧ RelV x u ∧ J.yld i H x H' ∧ tn (i + 1) s2.heap ∧ ∀ b ∈ fp, H' b = none) E s1) E s
  done : ∀ (X : Cx), X.prog = P → X.w = w → X.K = K → X.calm = true → ∀ (i : Nat) (pins : List (Addr × Obj)) (s : Shared) (σ : St) (H : Hp) (E : Value → Shared → Prop), Inv X pins σ H s → (∀ b ∈ fp, FpOk X pins H b) → tn i s.heap → J.stop i H →
    wpAny (model P w) X.A (pyNext (.ref it)) (fun r s1 => r = none ∧ Inv X pins σ H s1) E s
  self : ∀ (A : Around) (i : Nat) (s : Shared) (Q : Value → Shared → Prop) (E : Value → Shared → Prop), tn i s.heap → Q (.ref it) s → wpAny (model P w) A (pyIter (.ref it)) Q E s
abbrev TI := St → Hp → (It → Hp → Prop) → Prop
def PIE (X : Cx) (pins : List (Addr × Obj)) (σ : St) (tg : Expr) (R : It → Hp → Prop) (itv : Value) (s2 : Shared) : Prop :=
  ∃ (it : Addr) (fp : List Addr) (tn : Nat → Heap → Prop) (J : It) (H' : Hp), itv = .ref it ∧ Inv X pins σ H' s2 ∧ Turn X.prog X.w X.K tg J fp it tn ∧ tn 0 s2.heap ∧ (∀ b ∈ fp, FpOk X pins H' b) ∧ R J H'
def PI (X : Cx) (tg iter : Expr) (wi : TI) : Prop :=
  ∀ (pins : List (Addr × Obj)) (s : Shared) (σ : St) (H : Hp) (R : It → Hp → Prop), Inv X pins σ H s → wi σ H R →
    wpAny (model X.prog X.w) X.A (eval iter X.env) (fun v s1 => wpAny (model X.prog X.w) X.A (pyIter v) (PIE X pins σ tg R) X.xe s1) X.xe s

theorem go_of {M : Model} {A : Around} {E : Value → Shared → Prop} {s : Shared} {tg : Expr} {it : Addr} {u : Value} {o : Obj} {n : String} {vs : Array Value} {Q : Unit → Shared → Prop} (ho : s.heap.get? it = some o) (hc : o.cls = .type n) (hd : o.data = .fields vs)
    (hn : ["enumerate", "zip", "dict_itemiterator", "dict_reverseitemiterator", "odict_iterator", "itertools.zip_longest", "itertools.pairwise"].contains n = false) (hQ : Q () s) : wpAny M A (letOwnedTupleGo tg (.ref it) u) Q E s := by
  unfold letOwnedTupleGo
  cases tg <;> first
    | exact wpAny_pure hQ
    | (cases u <;> first
        | exact wpAny_pure hQ
        | (refine wpAny_bind (wpAny_load ho ?_)
           rw [hc, hd]
           show wpAny M A (if (["enumerate", "zip", "dict_itemiterator", "dict_reverseitemiterator", "odict_iterator", "itertools.zip_longest", "itertools.pairwise"].contains n && vs[0]? == some (rawInt _)) = true then _ else _) Q E s
           rw [if_neg (by intro h; rw [hn, Bool.false_and] at h; cases h)]
           exact wpAny_pure hQ))

def Itl (K : PySem.W.Frag) (a : Addr) : It :=
  ⟨fun i H => ∃ xs x, SqL K H a xs ∧ xs[i]? = some x, fun i H x H' => H' = H ∧ ∀ xs, SqL K H a xs → xs[i]? = some x, fun i H => ∃ xs, SqL K H a xs ∧ xs.length ≤ i⟩
def Itt (K : PySem.W.Frag) (a : Addr) : It :=
  ⟨fun i H => ∃ xs x, SqT K H a xs ∧ xs[i]? = some x, fun i H x H' => H' = H ∧ ∀ xs, SqT K H a xs → xs[i]? = some x, fun i H => ∃ xs, SqT K H a xs ∧ xs.length ≤ i⟩
def Itr (lo : Int) (n : Nat) : It := ⟨fun i _ => i < n, fun i H x H' => H' = H ∧ x = .int (lo + i), fun i _ => n ≤ i⟩
theorem turn_list {P : Program} {w : World} {K : PySem.W.Frag} {tg : Expr} (a it : Addr) : Turn P w K tg (Itl K a) [it] it (fun i h => h.IsListIter it a i) where
  mem := by simp
  obj := fun i h st b hb => by
    have e : b = it := by simpa using hb
    subst e
    obtain ⟨o, e, c, d⟩ := st
    exact ⟨o, e, fun v z => by rw [d] at z; cases z⟩
  keep := fun i h h' st k => st.at fun o e => k it (by simp) o e
  item := by
    intro X hP hw hK hc i pins s σ H E I hf st hg
    subst hP hw hK
    obtain ⟨xs, x, hq, hx⟩ := hg
    obtain ⟨its, rv, p, hz⟩ := I.list hq
    obtain ⟨u, hu, ru⟩ := rv.get hx
    obtain ⟨f0, f1, f2, f3, f4, f5⟩ := hf it (by simp)
    refine wpAny_pyNext_list_item st p.isList (x := u) (by simpa using hu) fun h' st' sb => ?_
    have I1 : Inv X pins σ H { s with heap := h' } := I.turned (t' := s.toks) (fun b o hb e => (sb.2 b hb).trans e) f0 f1 f3 f4 f5
    obtain ⟨o, e, c, d⟩ := id st'
    exact ⟨u, rfl, go_of (s := { s with heap := h' }) e c d (by decide) ⟨x, H, I1, ru, ⟨rfl, fun ys hy => by rw [I.list_inj hy hq]; exact hx⟩, st', fun b hb => (hf b hb).1⟩⟩
  done := by
    intro X hP hw hK hc i pins s σ H E I hf st hg
    subst hP hw hK
    obtain ⟨xs, hq, hx⟩ := hg
    obtain ⟨its, rv, p, hz⟩ := I.list hq
    obtain ⟨f0, f1, f2, f3, f4, f5⟩ := hf it (by simp)
    have hl := rv.length
    exact wpAny_pyNext_list_end (I.ok.hd hc) st p.isList (by simp; omega) fun h' eb => ⟨rfl, I.turned (t' := s.toks) (fun b o hb e => eb b o hb e) f0 f1 f3 f4 f5⟩
  self := fun _ _ _ _ _ st h => wpAny_pyIter_listiter st h
theorem turn_tuple {P : Program} {w : World} {K : PySem.W.Frag} {tg : Expr} (a it : Addr) : Turn P w K tg (Itt K a) [it] it (fun i h => h.IsTupleIter it a i) where
  mem := by simp
  obj := fun i h st b hb => by
    have e : b = it := by simpa using hb
    subst e
    obtain ⟨o, e, c, d⟩ := st
    exact ⟨o, e, fun v z => by rw [d] at z; cases z⟩
  keep := fun i h h' st k => st.at fun o e => k it (by simp) o e
  item := by
    intro X hP hw hK hc i pins s σ H E I hf st hg
    subst hP hw hK
    obtain ⟨xs, x, hq, hx⟩ := hg
    obtain ⟨its, rv, p, hz⟩ := I.tuple hq
    obtain ⟨u, hu, ru⟩ := rv.get hx
    obtain ⟨f0, f1, f2, f3, f4, f5⟩ := hf it (by simp)
    refine wpAny_pyNext_tuple_item st (show s.heap.IsTuple a its.toArray from p) (x := u) (by simpa using hu) fun h' st' sb => ?_
    have I1 : Inv X pins σ H { s with heap := h' } := I.turned (t' := s.toks) (fun b o hb e => (sb.2 b hb).trans e) f0 f1 f3 f4 f5
    obtain ⟨o, e, c, d⟩ := id st'
    exact ⟨u, rfl, go_of (s := { s with heap := h' }) e c d (by decide) ⟨x, H, I1, ru, ⟨rfl, fun ys hy => by rw [I.tuple_inj hy hq]; exact hx⟩, st', fun b hb => (hf b hb).1⟩⟩
  done := by
    intro X hP hw hK hc i pins s σ H E I hf st hg
    subst hP hw hK
    obtain ⟨xs, hq, hx⟩ := hg
    obtain ⟨its, rv, p, hz⟩ := I.tuple hq
    obtain ⟨f0, f1, f2, f3, f4, f5⟩ := hf it (by simp)
    have hl := rv.length
    exact wpAny_pyNext_tuple_end (I.ok.hd hc) st (show s.heap.IsTuple a its.toArray from p) (by simp; omega) fun h' eb => ⟨rfl, I.turned (t' := s.toks) (fun b o hb e => eb b o hb e) f0 f1 f3 f4 f5⟩
  self := fun _ _ _ _ _ st h => wpAny_pyIter_tupleiter st h
theorem turn_range {P : Program} {w : World} {K : PySem.W.Frag} {tg : Expr} (it : Addr) (lo : Int) (n : Nat) : Turn P w K tg (Itr lo n) [it] it (fun i h => IsRangeIter h it (lo + (i : Nat) * 1) ((n : Int) - (i : Nat)) 1) where
  mem := by simp
  obj := fun i h st b hb => by
    have e : b = it := by simpa using hb
    subst e
    exact ⟨_, st, fun v z => by
      have z' : Data.fields _ = Data.cell v := z
      cases z'⟩
  keep := fun i h h' st k => k it (by simp) _ st
  item := by
    intro X hP hw hK hc i pins s σ H E I hf st hg
    subst hP hw hK
    obtain ⟨f0, f1, f2, f3, f4, f5⟩ := hf it (by simp)
    have W := Walks.range (prog := X.prog) (w := X.w) (I.ok.hd hc) it lo 1 n
    refine W.item i s _ _ hg st fun v h' tk hv st' kk => ?_
    obtain ⟨t, rfl⟩ := hv
    have I1 : Inv X pins σ H { s with heap := h', toks := tk } := I.turned (fun b o hb e => kk b o (by simpa using hb) e) f0 f1 f3 f4 f5
    refine ⟨_, rfl, go_of (s := { s with heap := h', toks := tk }) (n := "range_iterator") st' rfl rfl (by decide) ⟨.int (lo + i), H, I1, ⟨t, ?_⟩, ⟨rfl, rfl⟩, st', fun b hb => (hf b hb).1⟩⟩
    rw [Int.mul_one]
  done := by
    intro X hP hw hK hc i pins s σ H E I hf st hg
    subst hP hw hK
    obtain ⟨f0, f1, f2, f3, f4, f5⟩ := hf it (by simp)
    exact wpAny_pyNext_range_end (I.ok.hd hc) st (by have : n ≤ i := hg; omega) fun h' eb => ⟨rfl, I.turned (t' := s.toks) (fun b o hb e => eb b o hb e) f0 f1 f3 f4 f5⟩
  self := fun _ _ _ _ _ st h => wpAny_pyIter_rangeiter st h
end L2

namespace L2
open PySem PySem.Spec PyProof.Rows
section
variable {X : Cx} {tg : Expr}
def iList (K : PySem.W.Frag) (tl : TE) : TI := fun σ H R => tl σ H fun x H1 => ∃ a, x = .ref a ∧ (∃ xs, SqL K H1 a xs) ∧ R (Itl K a) H1
def iTup (K : PySem.W.Frag) (tl : TE) : TI := fun σ H R => tl σ H fun x H1 => ∃ a, x = .ref a ∧ (∃ xs, SqT K H1 a xs) ∧ R (Itt K a) H1
theorem pi_list {l : Expr} {tl : TE} (hl : PE X l tl) : PI X tg l (iList X.K tl) := by
  intro pins s σ H R I h
  refine thn (hl pins s σ H _ I h) fun v s1 ⟨x, H1, I1, r1, q1⟩ => ?_
  obtain ⟨a, e, ⟨xs, hq⟩, q⟩ := q1
  subst e
  cases r1
  obtain ⟨its, rv, p, hz⟩ := I1.list hq
  refine wpAny_pyIter_list p.isList ?_
  refine ⟨s1.heap.objs.size, [s1.heap.objs.size], _, _, H1, rfl, I1.kept (t' := s1.toks) fun b o e => Heap.get?_push_of_some _ e, turn_list a _, ⟨_, Heap.get?_push_size _ rfl, rfl, rfl⟩, fun b hb => ?_, q⟩
  have e : b = s1.heap.objs.size := by simpa using hb
  subst e
  exact I1.fpOk (Nat.le_refl _) (I1.hok.fresh (Nat.le_refl _))
theorem pi_tup {l : Expr} {tl : TE} (hl : PE X l tl) : PI X tg l (iTup X.K tl) := by
  intro pins s σ H R I h
  refine thn (hl pins s σ H _ I h) fun v s1 ⟨x, H1, I1, r1, q1⟩ => ?_
  obtain ⟨a, e, ⟨xs, hq⟩, q⟩ := q1
  subst e
  cases r1
  obtain ⟨its, rv, p, hz⟩ := I1.tuple hq
  refine wpAny_pyIter_tuple (show s1.heap.IsTuple a its.toArray from p) ?_
  refine ⟨s1.heap.objs.size, [s1.heap.objs.size], _, _, H1, rfl, I1.kept (t' := s1.toks) fun b o e => Heap.get?_push_of_some _ e, turn_tuple a _, ⟨_, Heap.get?_push_size _ rfl, rfl, rfl⟩, fun b hb => ?_, q⟩
  have e : b = s1.heap.objs.size := by simpa using hb
  subst e
  exact I1.fpOk (Nat.le_refl _) (I1.hok.fresh (Nat.le_refl _))
theorem range_it {pins : List (Addr × Obj)} {σ : St} {H : Hp} {s : Shared} {R : It → Hp → Prop} {E : Value → Shared → Prop} {lo hi : Int} {t u v : Tok} {tk : Nat} (I : Inv X pins σ H s) (h1 : -(2 ^ 62) ≤ lo) (h2 : lo < 2 ^ 62) (h3 : -(2 ^ 62) ≤ hi) (h4 : hi < 2 ^ 62)
    (q : R (Itr lo (hi - lo).toNat) H) : wpAny (model X.prog X.w) X.A (pyIter (.ref s.heap.objs.size)) (PIE X pins σ tg R) E { s with heap := s.heap.push { cls := .type "range", data := .fields #[.int lo t, .int hi u, .int 1 v] }, toks := tk } := by
  refine wpAny_pyIter_range (IsRange.new ..) (small_one h1 h2 h3 h4) ?_
  have I1 : Inv X pins σ H { s with heap := s.heap.push { cls := .type "range", data := .fields #[.int lo t, .int hi u, .int 1 v] }, toks := tk } := I.kept fun b o e => Heap.get?_push_of_some _ e
  refine ⟨(s.heap.push { cls := .type "range", data := .fields #[.int lo t, .int hi u, .int 1 v] }).objs.size, [(s.heap.push { cls := .type "range", data := .fields #[.int lo t, .int hi u, .int 1 v] }).objs.size], _, _, H, rfl,
    I1.kept (t' := tk) fun b o e => Heap.get?_push_of_some _ e, turn_range _ lo (hi - lo).toNat, ?_, fun b hb => ?_, q⟩
  · have e1 : lo + ((0 : Nat) : Int) * 1 = lo := by simp
    have e2 : (((hi - lo).toNat : Nat) : Int) - ((0 : Nat) : Int) = Builtin.Range.rangeSize lo hi 1 := by rw [rangeSize_one]; split <;> omega
    show IsRangeIter _ _ (lo + ((0 : Nat) : Int) * 1) ((((hi - lo).toNat : Nat) : Int) - ((0 : Nat) : Int)) 1
    rw [e1, e2]
    exact Heap.get?_push_size _ rfl
  · have e : b = (s.heap.push { cls := .type "range", data := .fields #[.int lo t, .int hi u, .int 1 v] }).objs.size := by simpa using hb
    subst e
    exact I1.fpOk (Nat.le_refl _) (I1.hok.fresh (Nat.le_refl _))
def iRng1 (ta : TA) : TI := fun σ H R => ta σ H fun vs H1 => ∃ j : Int, vs = [.int j] ∧ -(2 ^ 62) ≤ j ∧ j < 2 ^ 62 ∧ R (Itr 0 j.toNat) H1
def iRng2 (ta : TA) : TI := fun σ H R => ta σ H fun vs H1 => ∃ i j : Int, vs = [.int i, .int j] ∧ (-(2 ^ 62) ≤ i ∧ i < 2 ^ 62 ∧ -(2 ^ 62) ≤ j ∧ j < 2 ^ 62) ∧ R (Itr i (j - i).toNat) H1
theorem pi_range1 {a : Expr} {ta : TA} {p pos : Pos} (hg : Gl X "range") (hm : X.mg "range" = none) (ha : PA X [a] ta) (hs : starEach [a] X.env = [(false, eval a X.env)] := by rfl) : PI X tg (.Call (.Name "range" p) [a] [] pos) (iRng1 ta) := by
  intro pins s σ H R I h
  refine Call_ (ld_blt I hg hm boot_range (PyProof.Rows.callWith_type1 (thn (ha pos pins s σ H _ I h) fun us s1 ⟨vs, H1, I1, r1, q1⟩ => ?_) hs rfl))
  obtain ⟨j, e, q1, q2, q⟩ := q1
  subst e
  cases r1 with
  | cons r rr =>
    cases rr
    obtain ⟨t, rfl⟩ := r
    exact call_range_1 (range_it I1 (by omega) (by omega) q1 q2 (by simpa using q))
theorem pi_range2 {a b : Expr} {ta : TA} {p pos : Pos} (hg : Gl X "range") (hm : X.mg "range" = none) (ha : PA X [a, b] ta) (hs : starEach [a, b] X.env = [(false, eval a X.env), (false, eval b X.env)] := by rfl) (hs2 : starEach [b] X.env = [(false, eval b X.env)] := by rfl) :
    PI X tg (.Call (.Name "range" p) [a, b] [] pos) (iRng2 ta) := by
  intro pins s σ H R I h
  refine Call_ (ld_blt I hg hm boot_range (PyProof.Rows.callWith_type1 (thn (ha pos pins s σ H _ I h) fun us s1 ⟨vs, H1, I1, r1, q1⟩ => ?_) (by rw [hs, hs2]) (by rw [hs2]; rfl)))
  obtain ⟨i, j, e, ⟨q1, q2, q3, q4⟩, q⟩ := q1
  subst e
  cases r1 with
  | cons r rr =>
    cases rr with
    | cons r' rr =>
      cases rr
      obtain ⟨t, rfl⟩ := r
      obtain ⟨t', rfl⟩ := r'
      exact call_range_2 (range_it I1 q1 q2 q3 q4 q)

def tFor (wi : TI) (g : TG) (tb : TS) : TS := fun D σ H => wi σ H fun J H1 => ∃ W : Nat → Nat → St → Hp → Prop, (∃ m, W 0 m σ H1) ∧ ∀ i m σ H, W i m σ H →
  (J.stop i H ∧ D.nx σ H) ∨ (J.go i H ∧ ∃ N : St → Hp → Prop, (∀ σ' H', N σ' H' → ∃ m', m' < m ∧ W (i + 1) m' σ' H') ∧ ∀ x H', J.yld i H x H' → g x σ H' fun σ2 H2 => tb { D with nx := N, ct := N, bk := D.nx } σ2 H2)
def pinsAt (fp : List Addr) (h : Heap) : List (Addr × Obj) := fp.filterMap fun b => (h.get? b).map fun o => (b, o)
theorem mem_pinsAt {fp : List Addr} {h : Heap} {b : Addr} {o : Obj} (hb : b ∈ fp) (e : h.get? b = some o) : (b, o) ∈ pinsAt fp h := List.mem_filterMap.mpr ⟨b, hb, by rw [e]; rfl⟩
theorem of_pinsAt {fp : List Addr} {h : Heap} {p : Addr × Obj} (hp : p ∈ pinsAt fp h) : p.1 ∈ fp ∧ h.get? p.1 = some p.2 := by
  obtain ⟨b, hb, e⟩ := List.mem_filterMap.mp hp
  cases q : h.get? b with
  | none => rw [q] at e; cases e
  | some o =>
    rw [q] at e
    have e' : (b, o) = p := Option.some.inj e
    subst e'
    exact ⟨hb, q⟩
theorem Inv.pinned {pins : List (Addr × Obj)} {σ : St} {H : Hp} {s : Shared} {fp : List Addr} (I : Inv X pins σ H s) (hf : ∀ b ∈ fp, FpOk X pins H b) (ho : ∀ b ∈ fp, ∃ o, s.heap.get? b = some o ∧ ∀ v, o.data ≠ .cell v) : Inv X (pins ++ pinsAt fp s.heap) σ H s :=
  I.pins_of fun p hp => (List.mem_append.mp hp).elim (fun z => I.pin p (List.mem_append_right _ z)) fun z => by
    obtain ⟨hb, e⟩ := of_pinsAt z
    obtain ⟨f0, f1, f2, _⟩ := hf p.1 hb
    obtain ⟨o, e', d⟩ := ho p.1 hb
    rw [e] at e'; cases e'
    exact ⟨e, f0, f1, f2, d⟩
theorem Inv.unpinned {pins pl : List (Addr × Obj)} {σ : St} {H : Hp} {s : Shared} (I : Inv X (pins ++ pl) σ H s) : Inv X pins σ H s := I.pins_of fun p hp => I.pin p (List.mem_append_right _ (List.mem_append_left _ hp))
theorem ps_for {iter : Expr} {body : List Stmt} {wi : TI} {g : TG} {tb : TS} {pos : Pos} (hp : PassesOwn (model X.prog X.w) X.A X.env X.xe) (hc : X.calm = true) (hi : PI X tg iter wi) (hg : PG X tg g) (hb : PSs X body tb)
    (hs : ∀ x, foldedSetIterable iter X.env x = pure x := by intro _; rfl) : PS X (.For tg iter body [] pos) (tFor wi g tb) := by
  intro pins s σ H D I h
  refine wpAny_For (thn (hi pins s σ H _ I h) fun v s1 h1 => thn h1 fun itv s2 h2 => ?_) hs
  obtain ⟨it, fp, tn, J, H2, e, I2, T, st2, f2, W, ⟨m0, w0⟩, turn⟩ := h2
  subst e
  -- what stays true of the iterator's objects through the loop
  have stat : ∀ {H' : Hp}, (∀ b ∈ fp, H' b = none) → ∀ b ∈ fp, FpOk X pins H' b := fun hn b hb => ⟨hn b hb, (f2 b hb).2⟩
  refine codeAny_forLoop_any (fun n s' => ∃ i σ' H', Inv X pins σ' H' s' ∧ tn i s'.heap ∧ (∀ b ∈ fp, H' b = none) ∧ W i n σ' H') ?_ m0 ⟨0, σ, H2, I2, st2, fun b hb => (f2 b hb).1, w0⟩
  rintro n s3 ⟨i, σ3, H3, I3, st3, fr3, w3⟩
  rcases turn i n σ3 H3 w3 with ⟨stop, qn⟩ | ⟨go, N, hN, step⟩
  · refine wpAny_passesOwn hp (thn (T.done X rfl rfl rfl hc i pins s3 σ3 H3 X.xe I3 (stat fr3) st3 stop) fun r s4 ⟨hr, I4⟩ => ?_)
    subst hr
    exact wpAny_execs_nil ⟨σ3, H3, I4, qn⟩
  · refine wpAny_passesOwn hp (thn (T.item X rfl rfl rfl hc i pins s3 σ3 H3 X.xe I3 (stat fr3) st3 go) fun r s4 ⟨u, hr, h4⟩ => ?_)
    subst hr
    refine wpAny_passesOwn hp (thn h4 fun _ s5 ⟨x, H5, I5, r5, y5, st5, fr5⟩ => ?_)
    have I5' := I5.pinned (stat fr5) (T.obj _ _ st5)
    refine wpAny_passesOwn hp (thn (hg _ s5 σ3 H5 x u _ I5' r5 (step x H5 y5)) fun _ s6 ⟨σ6, H6, I6, q6⟩ => ?_)
    refine wpAny_passesOwn hp (thn (hb _ s6 σ6 H6 _ I6 q6) fun f s7 q7 => ?_)
    have again : ∀ {σ7 : St} {H7 : Hp}, Inv X (pins ++ pinsAt fp s5.heap) σ7 H7 s7 → N σ7 H7 → ∃ m, m < n ∧ ∃ i σ' H', Inv X pins σ' H' s7 ∧ tn i s7.heap ∧ (∀ b ∈ fp, H' b = none) ∧ W i m σ' H' := fun {σ7 H7} I7 n7 => by
      obtain ⟨m', hm, w7⟩ := hN σ7 H7 n7
      refine ⟨m', hm, i + 1, σ7, H7, I7.unpinned, T.keep _ _ _ st5 fun b hb o e => (I7.pin (b, o) (List.mem_append_right _ (List.mem_append_right _ (mem_pinsAt hb e)))).1, fun b hb => ?_, w7⟩
      obtain ⟨o, e, d⟩ := T.obj _ _ st5 b hb
      exact (I7.pin (b, o) (List.mem_append_right _ (List.mem_append_right _ (mem_pinsAt hb e)))).2.1
    cases f with
    | next => obtain ⟨σ7, H7, I7, n7⟩ := q7; exact again I7 n7
    | cont => obtain ⟨σ7, H7, I7, n7⟩ := q7; exact again I7 n7
    | brk => obtain ⟨σ7, H7, I7, q7⟩ := q7; exact ⟨σ7, H7, I7.unpinned, q7⟩
    | ret v => obtain ⟨x7, σ7, H7, I7, r7, q7⟩ := q7; exact ⟨x7, σ7, H7, I7.unpinned, r7, q7⟩
end

theorem for_list {K : PySem.W.Frag} {a : Addr} {xs : List V} {g : TG} {tb : TS} {D : Ends} {σ : St} {H : Hp} (Pv : Nat → St → Hp → Prop) (h0 : Pv 0 σ H) (hl : ∀ i σ H, i ≤ xs.length → Pv i σ H → SqL K H a xs)
    (hs : ∀ i x σ H, xs[i]? = some x → Pv i σ H → g x σ H fun σ2 H2 => tb { D with nx := Pv (i + 1), ct := Pv (i + 1), bk := D.nx } σ2 H2) (hd : ∀ σ H, Pv xs.length σ H → D.nx σ H) :
    ∃ W : Nat → Nat → St → Hp → Prop, (∃ m, W 0 m σ H) ∧ ∀ i m σ H, W i m σ H →
      ((Itl K a).stop i H ∧ D.nx σ H) ∨ ((Itl K a).go i H ∧ ∃ N : St → Hp → Prop, (∀ σ' H', N σ' H' → ∃ m', m' < m ∧ W (i + 1) m' σ' H') ∧ ∀ x H', (Itl K a).yld i H x H' → g x σ H' fun σ2 H2 => tb { D with nx := N, ct := N, bk := D.nx } σ2 H2) := by
  refine ⟨fun i m σ H => m = xs.length - i ∧ i ≤ xs.length ∧ Pv i σ H, ⟨xs.length, by simp, Nat.zero_le _, h0⟩, ?_⟩
  rintro i m σ H ⟨rfl, hi, p⟩
  have q := hl i σ H hi p
  by_cases hlt : i < xs.length
  · refine .inr ⟨⟨xs, xs[i], q, by simp [hlt]⟩, Pv (i + 1), fun σ' H' p' => ⟨xs.length - (i + 1), by omega, rfl, hlt, p'⟩, fun x H' y => ?_⟩
    obtain ⟨e, y⟩ := y
    subst e
    exact hs i x σ _ (y xs q) p
  · have e : i = xs.length := by omega
    subst e
    exact .inl ⟨⟨xs, q, Nat.le_refl _⟩, hd σ H p⟩
theorem for_tup {K : PySem.W.Frag} {a : Addr} {xs : List V} {g : TG} {tb : TS} {D : Ends} {σ : St} {H : Hp} (Pv : Nat → St → Hp → Prop) (h0 : Pv 0 σ H) (hl : ∀ i σ H, i ≤ xs.length → Pv i σ H → SqT K H a xs)
    (hs : ∀ i x σ H, xs[i]? = some x → Pv i σ H → g x σ H fun σ2 H2 => tb { D with nx := Pv (i + 1), ct := Pv (i + 1), bk := D.nx } σ2 H2) (hd : ∀ σ H, Pv xs.length σ H → D.nx σ H) :
    ∃ W : Nat → Nat → St → Hp → Prop, (∃ m, W 0 m σ H) ∧ ∀ i m σ H, W i m σ H →
      ((Itt K a).stop i H ∧ D.nx σ H) ∨ ((Itt K a).go i H ∧ ∃ N : St → Hp → Prop, (∀ σ' H', N σ' H' → ∃ m', m' < m ∧ W (i + 1) m' σ' H') ∧ ∀ x H', (Itt K a).yld i H x H' → g x σ H' fun σ2 H2 => tb { D with nx := N, ct := N, bk := D.nx } σ2 H2) := by
  refine ⟨fun i m σ H => m = xs.length - i ∧ i ≤ xs.length ∧ Pv i σ H, ⟨xs.length, by simp, Nat.zero_le _, h0⟩, ?_⟩
  rintro i m σ H ⟨rfl, hi, p⟩
  have q := hl i σ H hi p
  by_cases hlt : i < xs.length
  · refine .inr ⟨⟨xs, xs[i], q, by simp [hlt]⟩, Pv (i + 1), fun σ' H' p' => ⟨xs.length - (i + 1), by omega, rfl, hlt, p'⟩, fun x H' y => ?_⟩
    obtain ⟨e, y⟩ := y
    subst e
    exact hs i x σ _ (y xs q) p
  · have e : i = xs.length := by omega
    subst e
    exact .inl ⟨⟨xs, q, Nat.le_refl _⟩, hd σ H p⟩
theorem for_range {lo : Int} {n : Nat} {g : TG} {tb : TS} {D : Ends} {σ : St} {H : Hp} (Pv : Nat → St → Hp → Prop) (h0 : Pv 0 σ H)
    (hs : ∀ i σ H, i < n → Pv i σ H → g (.int (lo + i)) σ H fun σ2 H2 => tb { D with nx := Pv (i + 1), ct := Pv (i + 1), bk := D.nx } σ2 H2) (hd : ∀ σ H, Pv n σ H → D.nx σ H) :
    ∃ W : Nat → Nat → St → Hp → Prop, (∃ m, W 0 m σ H) ∧ ∀ i m σ H, W i m σ H →
      ((Itr lo n).stop i H ∧ D.nx σ H) ∨ ((Itr lo n).go i H ∧ ∃ N : St → Hp → Prop, (∀ σ' H', N σ' H' → ∃ m', m' < m ∧ W (i + 1) m' σ' H') ∧ ∀ x H', (Itr lo n).yld i H x H' → g x σ H' fun σ2 H2 => tb { D with nx := N, ct := N, bk := D.nx } σ2 H2) := by
  refine ⟨fun i m σ H => m = n - i ∧ i ≤ n ∧ Pv i σ H, ⟨n, by simp, Nat.zero_le _, h0⟩, ?_⟩
  rintro i m σ H ⟨rfl, hi, p⟩
  by_cases hlt : i < n
  · refine .inr ⟨hlt, Pv (i + 1), fun σ' H' p' => ⟨n - (i + 1), by omega, rfl, hlt, p'⟩, fun x H' y => ?_⟩
    obtain ⟨e, y⟩ := y
    subst e y
    exact hs i σ _ hlt p
  · have e : i = n := by omega
    subst e
    exact .inl ⟨Nat.le_refl _, hd σ H p⟩
theorem while_by {c : TT} {tb : TS} {D : Ends} {σ : St} {H : Hp} (Pv : St → Hp → Prop) (μ : St → Hp → Nat) (h0 : Pv σ H)
    (hs : ∀ σ H, Pv σ H → c σ H fun b H1 => if b = true then tb { D with nx := fun σ' H' => Pv σ' H' ∧ μ σ' H' < μ σ H, ct := fun σ' H' => Pv σ' H' ∧ μ σ' H' < μ σ H, bk := D.nx } σ H1 else D.nx σ H1)
    (mono : ∀ σ H Q Q', (∀ b H1, Q b H1 → Q' b H1) → c σ H Q → c σ H Q') : tWhile c tb D σ H := by
  refine ⟨fun m σ H => m = μ σ H ∧ Pv σ H, ⟨_, rfl, h0⟩, ?_⟩
  rintro m σ H ⟨rfl, p⟩
  refine mono σ H _ _ (fun b H1 q => ?_) (hs σ H p)
  cases b with
  | true => exact ⟨_, fun σ' H' ⟨p', l⟩ => ⟨_, l, rfl, p'⟩, q⟩
  | false => exact q
end L2

namespace L2
open PySem PySem.Spec PyProof.Rows

abbrev R2 := V → V → Hp → VK → Prop
def OpR (X : Cx) (f : Value → Value → Sem Value) (r : R2) : Prop :=
  ∀ (pins : List (Addr × Obj)) (s : Shared) (σ : St) (H : Hp) (x y : V) (v u : Value) (Q : VK), Inv X pins σ H s → RelV x v → RelV y u → r x y H Q →
    wpAny (model X.prog X.w) X.A (f v u) (EP X pins σ Q) X.xe s
def UnR (X : Cx) (f : Value → Sem Value) (r : V → Hp → VK → Prop) : Prop :=
  ∀ (pins : List (Addr × Obj)) (s : Shared) (σ : St) (H : Hp) (x : V) (v : Value) (Q : VK), Inv X pins σ H s → RelV x v → r x H Q →
    wpAny (model X.prog X.w) X.A (f v) (EP X pins σ Q) X.xe s
def CallR (X : Cx) (f : Value) (r : List V → Hp → VK → Prop) : Prop :=
  ∀ (pins : List (Addr × Obj)) (s : Shared) (σ : St) (H : Hp) (xs : List V) (us : List Value) (Q : VK), Inv X pins σ H s → Vals xs us → r xs H Q →
    wpAny (model X.prog X.w) X.A (call f us) (EP X pins σ Q) X.xe s
def TruR (X : Cx) (r : V → Hp → (Bool → Hp → Prop) → Prop) : Prop :=
  ∀ (pins : List (Addr × Obj)) (s : Shared) (σ : St) (H : Hp) (x : V) (v : Value) (Q : Bool → Hp → Prop), Inv X pins σ H s → RelV x v → r x H Q →
    wpAny (model X.prog X.w) X.A (truthy v) (TP X pins σ Q) X.xe s

def tOp (r : R2) (ta tb : TE) : TE := fun σ H Q => ta σ H fun x H1 => tb σ H1 fun y H2 => r x y H2 Q
def tUn (r : V → Hp → VK → Prop) (ta : TE) : TE := fun σ H Q => ta σ H fun x H1 => r x H1 Q
def rI (C : Int → Int → Prop) (g : Int → Int → V) : R2 := fun x y H Q => ∃ i j, x = .int i ∧ y = .int j ∧ C i j ∧ Q (g i j) H
def rI0 (g : Int → Int → V) : R2 := fun x y H Q => ∃ i j, x = .int i ∧ y = .int j ∧ Q (g i j) H
def rU (g : Int → V) : V → Hp → VK → Prop := fun x H Q => ∃ i, x = .int i ∧ Q (g i) H

section
variable {X : Cx} {a b c : Expr} {ta tb tc : TE} {pos : Pos}

theorem binT (ha : PE X a ta) (hb : PE X b tb) {pins : List (Addr × Obj)} {s : Shared} {σ : St} {H : Hp} {R : V → V → Hp → Prop} (I : Inv X pins σ H s)
    (h : ta σ H fun x H1 => tb σ H1 fun y H2 => R x y H2) {Q : Value → Shared → Prop} {f : Value → Value → Sem Value}
    (hf : ∀ v u s2 x y H2, Inv X pins σ H2 s2 → RelV x v → RelV y u → R x y H2 → wpAny (model X.prog X.w) X.A (f v u) Q X.xe s2) :
    wpAny (model X.prog X.w) X.A (eval a X.env) (fun v s₁ => wpAny (model X.prog X.w) X.A (eval b X.env) (fun u s₂ => wpAny (model X.prog X.w) X.A (f v u) Q X.xe s₂) X.xe s₁) X.xe s := by
  refine thn (ha pins s σ H _ I h) fun v s1 ⟨x, H1, I1, r1, q1⟩ => ?_
  refine thn (hb pins s1 σ H1 _ I1 q1) fun u s2 ⟨y, H2, I2, r2, q2⟩ => ?_
  exact hf v u s2 x y H2 I2 r1 r2 q2

theorem pe_op {op : Operator} {r : R2} (ho : OpR X (binaryOp op) r) (ha : PE X a ta) (hb : PE X b tb) : PE X (.BinOp a op b pos) (tOp r ta tb) := by
  intro pins s σ H Q I h
  exact wpAny_BinOp (binT ha hb I h fun v u s2 x y H2 I2 rx ry q => ho pins s2 σ H2 x y v u Q I2 rx ry q)
theorem pe_un {op : UnaryOp} {r : V → Hp → VK → Prop} (ho : UnR X (unaryOp op) r) (ha : PE X a ta) : PE X (.UnaryOp op a pos) (tUn r ta) := by
  intro pins s σ H Q I h
  exact UnaryOp_ (thn (ha pins s σ H _ I h) fun v s1 ⟨x, H1, I1, r1, q1⟩ => ho pins s1 σ H1 x v Q I1 r1 q1)
theorem augR {op : Operator} {r : R2} (ho : OpR X (inplaceOp op) r) {pins : List (Addr × Obj)} {s : Shared} {σ : St} {H : Hp} {x y : V} {v u : Value} {Q : VK} (I : Inv X pins σ H s)
    (rx : RelV x v) (ry : RelV y u) (q : r x y H Q) : wpAny (model X.prog X.w) X.A (inplaceOp op v u) (EP X pins σ Q) X.xe s := ho pins s σ H x y v u Q I rx ry q

theorem opI {f : Value → Value → Sem Value} {C : Int → Int → Prop} {g : Int → Int → Int}
    (rule : ∀ (i j : Int) (t u : Tok) (s : Shared) (Q : Value → Shared → Prop) (E : Value → Shared → Prop), C i j → Q (.int (g i j) s.toks) { s with toks := s.toks + 1 } → wpAny (model X.prog X.w) X.A (f (.int i t) (.int j u)) Q E s) :
    OpR X f (rI C fun i j => .int (g i j)) := by
  intro pins s σ H x y v u Q I rx ry h
  obtain ⟨i, j, rfl, rfl, hc, q⟩ := h
  obtain ⟨t, rfl⟩ := rx
  obtain ⟨t', rfl⟩ := ry
  exact rule i j t t' s _ _ hc ⟨.int (g i j), H, I.tok _, ⟨_, rfl⟩, q⟩
theorem opI0 {f : Value → Value → Sem Value} {g : Int → Int → Int}
    (rule : ∀ (i j : Int) (t u : Tok) (s : Shared) (Q : Value → Shared → Prop) (E : Value → Shared → Prop), Q (.int (g i j) s.toks) { s with toks := s.toks + 1 } → wpAny (model X.prog X.w) X.A (f (.int i t) (.int j u)) Q E s) :
    OpR X f (rI0 fun i j => .int (g i j)) := by
  intro pins s σ H x y v u Q I rx ry h
  obtain ⟨i, j, rfl, rfl, q⟩ := h
  obtain ⟨t, rfl⟩ := rx
  obtain ⟨t', rfl⟩ := ry
  exact rule i j t t' s _ _ ⟨.int (g i j), H, I.tok _, ⟨_, rfl⟩, q⟩
theorem opB0 {f : Value → Value → Sem Value} {g : Int → Int → Bool}
    (rule : ∀ (i j : Int) (t u : Tok) (s : Shared) (Q : Value → Shared → Prop) (E : Value → Shared → Prop), Q (.bool (g i j)) s → wpAny (model X.prog X.w) X.A (f (.int i t) (.int j u)) Q E s) :
    OpR X f (rI0 fun i j => .bl (g i j)) := by
  intro pins s σ H x y v u Q I rx ry h
  obtain ⟨i, j, rfl, rfl, q⟩ := h
  obtain ⟨t, rfl⟩ := rx
  obtain ⟨t', rfl⟩ := ry
  exact rule i j t t' s _ _ ⟨.bl (g i j), H, I, rfl, q⟩

def CDiv (i j : Int) : Prop := 0 < j ∧ j < 1073741824
def CDivN (i j : Int) : Prop := j ≠ 0 ∧ j.natAbs < 1073741824
def CPow (i j : Int) : Prop := 0 ≤ j ∧ j ≤ 1000000 ∧ i.natAbs < 2 ^ 64
def CMul (i j : Int) : Prop := (-(2 ^ 64) < i ∧ i < 2 ^ 64) ∨ (-(2 ^ 64) < j ∧ j < 2 ^ 64)
theorem CMul.ok {i j : Int} (h : CMul i j) : IntMulOk i j := by
  rcases h with ⟨h1, h2⟩ | ⟨h1, h2⟩
  · exact .of_left (intBits_le_64 h1 h2)
  · exact .of_right (intBits_le_64 h1 h2)
theorem two_pow_nn (k : Nat) : (0 : Int) ≤ 2 ^ k := by
  rw [two_pow_cast]
  exact Int.natCast_nonneg _

theorem op_add : OpR X (binaryOp .Add) (rI0 fun i j => .int (i + j)) := opI0 fun _ _ _ _ _ _ _ q => add_int q
theorem op_sub : OpR X (binaryOp .Sub) (rI0 fun i j => .int (i - j)) := opI0 fun _ _ _ _ _ _ _ q => sub_int q
theorem op_mul : OpR X (binaryOp .Mult) (rI CMul fun i j => .int (i * j)) := opI fun _ _ _ _ _ _ _ hc q => mul_int q hc.ok
theorem op_fdiv : OpR X (binaryOp .FloorDiv) (rI CDiv fun i j => .int (i / j)) := opI fun i j _ _ _ _ _ hc q => by
  have h1 : (0 : Int) < j := hc.1
  have h2 : j < 1073741824 := hc.2
  exact floordiv_int (by omega) (by rw [Int.fdiv_eq_ediv_of_nonneg i (by omega)]; exact q) (.inl (PyProof.noPylong_small (by omega)))
theorem op_fdivN : OpR X (binaryOp .FloorDiv) (rI CDivN fun i j => .int (i.fdiv j)) := opI fun _ _ _ _ _ _ _ hc q => floordiv_int hc.1 q (.inl (PyProof.noPylong_small hc.2))
theorem op_mod : OpR X (binaryOp .Mod) (rI (fun _ j => 0 < j) fun i j => .int (i % j)) := opI fun i j _ _ _ _ _ hc q => by
  have h1 : (0 : Int) < j := hc
  exact mod_int' (by omega) (by rw [Int.fmod_eq_emod_of_nonneg i (by omega)]; exact q)
theorem op_modN : OpR X (binaryOp .Mod) (rI (fun _ j => j ≠ 0) fun i j => .int (i.fmod j)) := opI fun _ _ _ _ _ _ _ hc q => mod_int' hc q
theorem op_pow : OpR X (binaryOp .Pow) (rI CPow fun i j => .int (i ^ j.toNat)) := opI fun _ _ _ _ _ _ _ hc q => pow_int_small hc.1 hc.2.1 hc.2.2 q
theorem op_shl : OpR X (binaryOp .LShift) (rI CPow fun i j => .int (i * 2 ^ j.toNat)) := opI fun _ _ _ _ _ _ _ hc q => lshift_int_small hc.1 hc.2.1 hc.2.2 q
theorem op_shr : OpR X (binaryOp .RShift) (rI (fun _ j => 0 ≤ j) fun i j => .int (i / 2 ^ j.toNat)) := opI fun i j _ _ _ _ _ hc q =>
  rshift_int hc (by rw [Int.fdiv_eq_ediv_of_nonneg i (two_pow_nn _)]; exact q)
theorem op_and : OpR X (binaryOp .BitAnd) (rI0 fun i j => .int (Builtin.bitAnd i j)) := opI0 fun _ _ _ _ _ _ _ q => and_int q
theorem op_or : OpR X (binaryOp .BitOr) (rI0 fun i j => .int (Builtin.bitOr i j)) := opI0 fun _ _ _ _ _ _ _ q => or_int q
theorem op_xor : OpR X (binaryOp .BitXor) (rI0 fun i j => .int (Builtin.bitXor i j)) := opI0 fun _ _ _ _ _ _ _ q => xor_int q

theorem iop_add : OpR X (inplaceOp .Add) (rI0 fun i j => .int (i + j)) := opI0 fun _ _ _ _ _ _ _ q => iadd_int q
theorem iop_sub : OpR X (inplaceOp .Sub) (rI0 fun i j => .int (i - j)) := opI0 fun _ _ _ _ _ _ _ q => isub_int q
theorem iop_mul : OpR X (inplaceOp .Mult) (rI CMul fun i j => .int (i * j)) := opI fun _ _ _ _ _ _ _ hc q => imul_int q hc.ok
theorem iop_fdiv : OpR X (inplaceOp .FloorDiv) (rI CDiv fun i j => .int (i / j)) := opI fun i j _ _ _ _ _ hc q => by
  have h1 : (0 : Int) < j := hc.1
  have h2 : j < 1073741824 := hc.2
  exact ifloordiv_int (by omega) (by rw [Int.fdiv_eq_ediv_of_nonneg i (by omega)]; exact q) (.inl (PyProof.noPylong_small (by omega)))
theorem iop_mod : OpR X (inplaceOp .Mod) (rI (fun _ j => 0 < j) fun i j => .int (i % j)) := opI fun i j _ _ _ _ _ hc q => by
  have h1 : (0 : Int) < j := hc
  exact imod_int (by omega) (by rw [Int.fmod_eq_emod_of_nonneg i (by omega)]; exact q)
theorem iop_shl : OpR X (inplaceOp .LShift) (rI CPow fun i j => .int (i * 2 ^ j.toNat)) := opI fun _ _ _ _ _ _ _ hc q => ilshift_int_small hc.1 hc.2.1 hc.2.2 q
theorem iop_shr : OpR X (inplaceOp .RShift) (rI (fun _ j => 0 ≤ j) fun i j => .int (i / 2 ^ j.toNat)) := opI fun i j _ _ _ _ _ hc q =>
  irshift_int hc (by rw [Int.fdiv_eq_ediv_of_nonneg i (two_pow_nn _)]; exact q)
theorem iop_and : OpR X (inplaceOp .BitAnd) (rI0 fun i j => .int (Builtin.bitAnd i j)) := opI0 fun _ _ _ _ _ _ _ q => iand_int q
theorem iop_or : OpR X (inplaceOp .BitOr) (rI0 fun i j => .int (Builtin.bitOr i j)) := opI0 fun _ _ _ _ _ _ _ q => ior_int q
theorem iop_xor : OpR X (inplaceOp .BitXor) (rI0 fun i j => .int (Builtin.bitXor i j)) := opI0 fun _ _ _ _ _ _ _ q => ixor_int q

theorem unI {f : Value → Sem Value} {g : Int → Int}
    (rule : ∀ (i : Int) (t : Tok) (s : Shared) (Q : Value → Shared → Prop) (E : Value → Shared → Prop), Q (.int (g i) s.toks) { s with toks := s.toks + 1 } → wpAny (model X.prog X.w) X.A (f (.int i t)) Q E s) :
    UnR X f (rU fun i => .int (g i)) := by
  intro pins s σ H x v Q I rx h
  obtain ⟨i, rfl, q⟩ := h
  obtain ⟨t, rfl⟩ := rx
  exact rule i t s _ _ ⟨.int (g i), H, I.tok _, ⟨_, rfl⟩, q⟩
theorem un_neg : UnR X (unaryOp .USub) (rU fun i => .int (-i)) := unI fun _ _ _ _ _ q => neg_int q
theorem un_inv : UnR X (unaryOp .Invert) (rU fun i => .int (Builtin.bitNot i)) := unI fun _ _ _ _ _ q => invert_int q

theorem op_add_ib : OpR X (binaryOp .Add) (fun x y H Q => ∃ i k, x = .int i ∧ y = .bl k ∧ Q (.int (i + b2i k)) H) := by
  intro pins s σ H x y v u Q I rx ry h
  obtain ⟨i, k, rfl, rfl, q⟩ := h
  obtain ⟨t, rfl⟩ := rx
  cases ry
  exact add_int_bool ⟨.int (i + b2i k), H, I.tok _, ⟨_, rfl⟩, q⟩
end

def scal : V → V → Bool
  | .non, .non => true | .non, .int _ => true | .int _, .non => true | .non, .bl _ => true | .bl _, .non => true | .non, .str _ => true | .str _, .non => true
  | .int _, .int _ => true | .bl _, .bl _ => true | .str _, .str _ => true | .byt _, .byt _ => true
  | .int _, .str _ => true | .str _, .int _ => true | .bl _, .str _ => true | .str _, .bl _ => true
  | _, _ => false
def rEq : R2 := fun x y H Q => scal x y = true ∧ Q (.bl (decide (x = y))) H
def rNe : R2 := fun x y H Q => scal x y = true ∧ Q (.bl (!decide (x = y))) H

theorem dec_int {i j : Int} : decide (V.int i = V.int j) = (i == j) := by
  rw [Bool.eq_iff_iff]
  simp
theorem dec_bl {i j : Bool} : decide (V.bl i = V.bl j) = (i == j) := by
  rw [Bool.eq_iff_iff]
  simp
theorem dec_str {i j : Str} : decide (V.str i = V.str j) = (i == j) := by
  rw [Bool.eq_iff_iff]
  simp
theorem dec_byt {i j : Array UInt8} : decide (V.byt i = V.byt j) = (i.toList == j.toList) := by
  rw [Bool.eq_iff_iff]
  cases i
  cases j
  simp

section
variable {X : Cx} {a b c : Expr} {ta tb tc : TE} {pos : Pos}
theorem fin_bl {pins : List (Addr × Obj)} {σ : St} {H : Hp} {s : Shared} {Q : VK} {k k' : Bool} (I : Inv X pins σ H s) (q : Q (.bl k) H) (e : k = k') : EP X pins σ Q (.bool k') s := by
  subst e
  exact ⟨.bl k, H, I, rfl, q⟩
theorem op_eq : OpR X (compareOp .Eq) rEq := by
  intro pins s σ H x y v u Q I rx ry h
  obtain ⟨hs, q⟩ := h
  cases x with
  | non =>
    cases rx
    cases y with
    | non => cases ry; exact PySem.EqNone.eq_none_none (fin_bl I q (by simp))
    | bl j => cases ry; exact PySem.EqNone.eq_none_bool (fin_bl I q (by simp))
    | int j => obtain ⟨t', rfl⟩ := ry; exact PySem.EqNone.eq_none_int (fin_bl I q (by simp))
    | str j => obtain ⟨t', rfl⟩ := ry; exact PySem.EqNone.eq_none_str (fin_bl I q (by simp))
    | _ => exact absurd (show false = true from hs) Bool.false_ne_true
  | bl i =>
    cases rx
    cases y with
    | non => cases ry; exact PySem.EqNone.eq_bool_none (fin_bl I q (by simp))
    | bl j => cases ry; exact eq_bool (fin_bl I q dec_bl)
    | str j => obtain ⟨t', rfl⟩ := ry; exact PySem.EqMixed.eq_bool_str (fin_bl I q (by simp))
    | _ => exact absurd (show false = true from hs) Bool.false_ne_true
  | int i =>
    obtain ⟨t, rfl⟩ := rx
    cases y with
    | non => cases ry; exact PySem.EqNone.eq_int_none (fin_bl I q (by simp))
    | int j => obtain ⟨t', rfl⟩ := ry; exact eq_int (fin_bl I q dec_int)
    | str j => obtain ⟨t', rfl⟩ := ry; exact PySem.EqMixed.eq_int_str (fin_bl I q (by simp))
    | _ => exact absurd (show false = true from hs) Bool.false_ne_true
  | str i =>
    obtain ⟨t, rfl⟩ := rx
    cases y with
    | non => cases ry; exact PySem.EqNone.eq_str_none (fin_bl I q (by simp))
    | bl j => cases ry; exact PySem.EqMixed.eq_str_bool (fin_bl I q (by simp))
    | int j => obtain ⟨t', rfl⟩ := ry; exact PySem.EqMixed.eq_str_int (fin_bl I q (by simp))
    | str j => obtain ⟨t', rfl⟩ := ry; exact eq_str (fin_bl I q dec_str)
    | _ => exact absurd (show false = true from hs) Bool.false_ne_true
  | byt i =>
    obtain ⟨t, rfl⟩ := rx
    cases y with
    | byt j => obtain ⟨t', rfl⟩ := ry; exact PySem.W.eq_bytes (fin_bl I q dec_byt)
    | _ => exact absurd (show false = true from hs) Bool.false_ne_true
  | _ => cases y <;> exact absurd (show false = true from hs) Bool.false_ne_true
theorem op_ne : OpR X (compareOp .NotEq) rNe := by
  intro pins s σ H x y v u Q I rx ry h
  obtain ⟨hs, q⟩ := h
  cases x with
  | non =>
    cases rx
    cases y with
    | non => cases ry; exact PySem.EqNone.ne_none_none (fin_bl I q (by simp))
    | bl j => cases ry; exact PySem.EqNone.ne_none_bool (fin_bl I q (by simp))
    | int j => obtain ⟨t', rfl⟩ := ry; exact PySem.EqNone.ne_none_int (fin_bl I q (by simp))
    | str j => obtain ⟨t', rfl⟩ := ry; exact PySem.EqNone.ne_none_str (fin_bl I q (by simp))
    | _ => exact absurd (show false = true from hs) Bool.false_ne_true
  | bl i =>
    cases rx
    cases y with
    | non => cases ry; exact PySem.EqNone.ne_bool_none (fin_bl I q (by simp))
    | bl j => cases ry; exact ne_bool (fin_bl I q (congrArg not dec_bl))
    | str j => obtain ⟨t', rfl⟩ := ry; exact PySem.EqMixed.ne_bool_str (fin_bl I q (by simp))
    | _ => exact absurd (show false = true from hs) Bool.false_ne_true
  | int i =>
    obtain ⟨t, rfl⟩ := rx
    cases y with
    | non => cases ry; exact PySem.EqNone.ne_int_none (fin_bl I q (by simp))
    | int j => obtain ⟨t', rfl⟩ := ry; exact ne_int (fin_bl I q (congrArg not dec_int))
    | str j => obtain ⟨t', rfl⟩ := ry; exact PySem.EqMixed.ne_int_str (fin_bl I q (by simp))
    | _ => exact absurd (show false = true from hs) Bool.false_ne_true
  | str i =>
    obtain ⟨t, rfl⟩ := rx
    cases y with
    | non => cases ry; exact PySem.EqNone.ne_str_none (fin_bl I q (by simp))
    | bl j => cases ry; exact PySem.EqMixed.ne_str_bool (fin_bl I q (by simp))
    | int j => obtain ⟨t', rfl⟩ := ry; exact PySem.EqMixed.ne_str_int (fin_bl I q (by simp))
    | str j => obtain ⟨t', rfl⟩ := ry; exact ne_str (fin_bl I q (congrArg not dec_str))
    | _ => exact absurd (show false = true from hs) Bool.false_ne_true
  | byt i =>
    obtain ⟨t, rfl⟩ := rx
    cases y with
    | byt j => obtain ⟨t', rfl⟩ := ry; exact PySem.W.ne_bytes (fin_bl I q (congrArg not dec_byt))
    | _ => exact absurd (show false = true from hs) Bool.false_ne_true
  | _ => cases y <;> exact absurd (show false = true from hs) Bool.false_ne_true

theorem op_lt : OpR X (compareOp .Lt) (rI0 fun i j => .bl (decide (i < j))) := opB0 fun _ _ _ _ _ _ _ q => lt_int q
theorem op_le : OpR X (compareOp .LtE) (rI0 fun i j => .bl (decide (i ≤ j))) := opB0 fun _ _ _ _ _ _ _ q => le_int q
theorem op_gt : OpR X (compareOp .Gt) (rI0 fun i j => .bl (decide (j < i))) := opB0 fun _ _ _ _ _ _ _ q => gt_int q
theorem op_ge : OpR X (compareOp .GtE) (rI0 fun i j => .bl (decide (j ≤ i))) := opB0 fun _ _ _ _ _ _ _ q => ge_int q
theorem op_lt_str : OpR X (compareOp .Lt) (fun x y H Q => ∃ i j, x = .str i ∧ y = .str j ∧ Q (.bl (decide (i.cps.toList < j.cps.toList))) H) := by
  intro pins s σ H x y v u Q I rx ry h
  obtain ⟨i, j, rfl, rfl, q⟩ := h
  obtain ⟨t, rfl⟩ := rx
  obtain ⟨t', rfl⟩ := ry
  exact lt_str (fin_bl I q rfl)
theorem op_in_str : OpR X (compareOp .In) (fun x y H Q => ∃ i j, x = .str i ∧ y = .str j ∧ Q (.bl (!(Builtin.Str.occurrences j i 0 j.length 1).isEmpty)) H) := by
  intro pins s σ H x y v u Q I rx ry h
  obtain ⟨i, j, rfl, rfl, q⟩ := h
  obtain ⟨t, rfl⟩ := rx
  obtain ⟨t', rfl⟩ := ry
  exact in_str (fin_bl I q rfl)

theorem op_isN : OpR X (compareOp .Is) (fun x y H Q => y = .non ∧ Q (.bl (decide (x = .non))) H) := by
  intro pins s σ H x y v u Q I rx ry h
  obtain ⟨rfl, q⟩ := h
  cases ry
  refine is_none_gen (fin_bl I q ?_)
  cases x <;> first
    | (cases rx; rfl)
    | (obtain ⟨t, rfl⟩ := rx; rfl)
theorem op_notN : OpR X (compareOp .IsNot) (fun x y H Q => y = .non ∧ Q (.bl (!decide (x = .non))) H) := by
  intro pins s σ H x y v u Q I rx ry h
  obtain ⟨rfl, q⟩ := h
  cases ry
  refine isnot_none_gen (fin_bl I q ?_)
  cases x <;> first
    | (cases rx; rfl)
    | (obtain ⟨t, rfl⟩ := rx; rfl)

theorem op_notin_str : OpR X (compareOp .NotIn) (fun x y H Q => ∃ i j, x = .str i ∧ y = .str j ∧ Q (.bl (!(!(Builtin.Str.occurrences j i 0 j.length 1).isEmpty))) H) := by
  intro pins s σ H x y v u Q I rx ry h
  obtain ⟨i, j, rfl, rfl, q⟩ := h
  obtain ⟨t, rfl⟩ := rx
  obtain ⟨t', rfl⟩ := ry
  exact notIn_str (fin_bl I q rfl)
def isObj : HO → Bool
  | .lst _ => true
  | .ins _ _ _ => true
  | _ => false
theorem obj_there {pins : List (Addr × Obj)} {s : Shared} {σ : St} {H : Hp} {a : Addr} {o : HO} (I : Inv X pins σ H s) (h : H a = some o) (p : isObj o = true) : ∃ ob, s.heap.get? a = some ob ∧ ob.cls ≠ .type "tuple" := by
  cases o with
  | lst xs =>
    obtain ⟨_, its, n, _, e⟩ : xs.length ≤ sizeLine ∧ ∃ (its : List Value) (n : Nat), Vals xs its ∧ s.heap.get? a = some { cls := .type "list", data := .seq its.toArray n } := I.hok a _ h
    exact ⟨_, e, (by show Value.type "list" ≠ .type "tuple"; decide +kernel)⟩
  | ins C dx fs =>
    have x := I.hok a _ h
    obtain ⟨_, _, _, e, _⟩ := x
    exact ⟨_, e, (by show Value.ref C ≠ .type "tuple"; exact fun z => by cases z)⟩
  | _ => exact absurd (show false = true from p) Bool.false_ne_true
theorem op_is_ref : OpR X (compareOp .Is) (fun x y H Q => ∃ a b oa ob, x = .ref a ∧ y = .ref b ∧ H a = some oa ∧ isObj oa = true ∧ H b = some ob ∧ isObj ob = true ∧ Q (.bl (decide (a = b))) H) := by
  intro pins s σ H x y v u Q I rx ry h
  obtain ⟨a, b, oa, ob, rfl, rfl, ha, pa, hb, pb, q⟩ := h
  cases rx
  cases ry
  obtain ⟨o1, e1, n1⟩ := obj_there I ha pa
  obtain ⟨o2, e2, _⟩ := obj_there I hb pb
  by_cases z : a = b
  · subst z
    exact wpAny_is_ref_self (fin_bl I q (by simp))
  · exact wpAny_is_ref_other z e1 e2 n1 (fin_bl I q (by simp [z]))
theorem op_isnot_ref : OpR X (compareOp .IsNot) (fun x y H Q => ∃ a b oa ob, x = .ref a ∧ y = .ref b ∧ H a = some oa ∧ isObj oa = true ∧ H b = some ob ∧ isObj ob = true ∧ Q (.bl (!decide (a = b))) H) := by
  intro pins s σ H x y v u Q I rx ry h
  obtain ⟨a, b, oa, ob, rfl, rfl, ha, pa, hb, pb, q⟩ := h
  cases rx
  cases ry
  obtain ⟨o1, e1, n1⟩ := obj_there I ha pa
  obtain ⟨o2, e2, _⟩ := obj_there I hb pb
  by_cases z : a = b
  · subst z
    exact wpAny_isNot_ref_self (fin_bl I q (by simp))
  · exact wpAny_isNot_ref_other z e1 e2 n1 (fin_bl I q (by simp [z]))

theorem OpR.or {f : Value → Value → Sem Value} {r r' : R2} (h : OpR X f r) (h' : OpR X f r') : OpR X f (fun x y H Q => r x y H Q ∨ r' x y H Q) := by
  intro pins s σ H x y v u Q I rx ry q
  rcases q with q | q
  · exact h pins s σ H x y v u Q I rx ry q
  · exact h' pins s σ H x y v u Q I rx ry q

theorem nomark (b : Expr) {op : CmpOp} (h : op ≠ .In := by decide) (h2 : op ≠ .NotIn := by decide) : behindInMarks op b = false := by
  have e1 : (op == CmpOp.In) = false := by cases op <;> first | rfl | exact absurd rfl h
  have e2 : (op == CmpOp.NotIn) = false := by cases op <;> first | rfl | exact absurd rfl h2
  cases b <;> simp [behindInMarks, e1, e2]
theorem pe_cmpR {op : CmpOp} {r : R2} (ho : OpR X (compareOp op) r) (ha : PE X a ta) (hb : PE X b tb) (hm : behindInMarks op b = false) : PE X (.Compare a [op] [b] pos) (tOp r ta tb) := by
  intro pins s σ H Q I h
  exact wpAny_Compare1 (binT ha hb I h fun v u s2 x y H2 I2 rx ry q => ho pins s2 σ H2 x y v u Q I2 rx ry q) hm
def tTest (t : TE) : TT := fun σ H Q => t σ H fun x H' => ∃ k, x = .bl k ∧ Q k H'
theorem pt_cmpR {op : CmpOp} {r : R2} (ho : OpR X (compareOp op) r) (ha : PE X a ta) (hb : PE X b tb) (hm : behindInMarks op b = false) : PT X (.Compare a [op] [b] pos) (tTest (tOp r ta tb)) := by
  intro pins s σ H Q I h
  refine wpAny_isTrue_Compare1 (thn (ha pins s σ H _ I h) fun v s1 ⟨x, H1, I1, r1, q1⟩ => thn (hb pins s1 σ H1 _ I1 q1) fun u s2 ⟨y, H2, I2, r2, q2⟩ =>
    thn (ho pins s2 σ H2 x y v u _ I2 r1 r2 q2) fun c s3 ⟨z, H3, I3, r3, k, e, q3⟩ => ?_) hm
  subst e
  cases r3
  exact wpAny_truthy_bool ⟨H3, I3, q3⟩
def tChain (r r' : R2) (ta tb tc : TE) : TE := fun σ H Q => ta σ H fun x H1 => tb σ H1 fun y H2 => r x y H2 fun z H3 => ∃ k, z = .bl k ∧
  (if k = true then tc σ H3 fun w' H4 => r' y w' H4 Q else Q (.bl false) H3)
theorem pe_chain {op op' : CmpOp} {r r' : R2} (ho : OpR X (compareOp op) r) (ho' : OpR X (compareOp op') r') (ha : PE X a ta) (hb : PE X b tb) (hc : PE X c tc)
    (hm : lastMarks [op, op'] [b, c] = false := by with_unfolding_all rfl) : PE X (.Compare a [op, op'] [b, c] pos) (tChain r r' ta tb tc) := by
  intro pins s σ H Q I h
  refine Compare_chain (thn (ha pins s σ H _ I h) fun v s1 ⟨x, H1, I1, r1, q1⟩ => chain_link (thn (hb pins s1 σ H1 _ I1 q1) fun u s2 ⟨y, H2, I2, r2, q2⟩ =>
    thn (ho pins s2 σ H2 x y v u _ I2 r1 r2 q2) fun d s3 ⟨z, H3, I3, r3, k, e, q3⟩ => ?_)) hm
  subst e
  cases r3
  refine wpAny_truthy_bool ?_
  cases k with
  | false => exact ite_ff ⟨.bl false, H3, I3, rfl, q3⟩
  | true => exact ite_tt (chain_last (thn (hc pins s3 σ H3 _ I3 q3) fun w' s4 ⟨z', H4, I4, r4, q4⟩ => ho' pins s4 σ H4 y z' u w' Q I4 r2 r4 q4))
theorem pt_chain {op op' : CmpOp} {r r' : R2} (ho : OpR X (compareOp op) r) (ho' : OpR X (compareOp op') r') (ha : PE X a ta) (hb : PE X b tb) (hc : PE X c tc)
    (hm : lastMarks [op, op'] [b, c] = false := by with_unfolding_all rfl) : PT X (.Compare a [op, op'] [b, c] pos) (tTest (tChain r r' ta tb tc)) := by
  intro pins s σ H Q I h
  refine isTrue_chain (thn (ha pins s σ H _ I h) fun v s1 ⟨x, H1, I1, r1, q1⟩ => test_link (thn (hb pins s1 σ H1 _ I1 q1) fun u s2 ⟨y, H2, I2, r2, q2⟩ =>
    thn (ho pins s2 σ H2 x y v u _ I2 r1 r2 q2) fun d s3 ⟨z, H3, I3, r3, k, e, q3⟩ => ?_)) hm
  subst e
  cases r3
  refine wpAny_truthy_bool ?_
  cases k with
  | false =>
    obtain ⟨k', e', q'⟩ := q3
    cases e'
    exact ite_ff ⟨H3, I3, q'⟩
  | true =>
    refine ite_tt (test_last (thn (hc pins s3 σ H3 _ I3 q3) fun w' s4 ⟨z', H4, I4, r4, q4⟩ => thn (ho' pins s4 σ H4 y z' u w' _ I4 r2 r4 q4) fun d' s5 ⟨z2, H5, I5, r5, k2, e2, q5⟩ => ?_))
    subst e2
    cases r5
    exact wpAny_truthy_bool ⟨H5, I5, q5⟩

def TruV (K : PySem.W.Frag) (x : V) (H : Hp) (k : Bool) : Prop :=
  match x with
  | .non => k = false
  | .bl b => k = b
  | .int i => k = (i != 0)
  | .str y => y.length ≤ sizeLine ∧ k = ((y.length : Int) != 0)
  | .byt y => y.size ≤ sizeLine ∧ k = ((y.size : Int) != 0)
  | .ref p => (∃ xs, SqL K H p xs ∧ k = !xs.isEmpty) ∨ (∃ xs, SqT K H p xs ∧ k = !xs.isEmpty) ∨ ∃ kvs, H p = some (.dK kvs) ∧ k = !kvs.isEmpty
  | _ => False
theorem isEmpty_kv {κ : Type} {kvs : List (κ × V)} {vs : List (κ × Value)} (r : KV kvs vs) : (!vs.isEmpty) = !kvs.isEmpty := by
  cases r <;> rfl
theorem isEmpty_of {xs : List V} {its : List Value} (r : Vals xs its) : (!its.toArray.isEmpty) = !xs.isEmpty := by
  cases r <;> simp
theorem line63 : (sizeLine : Nat) < 2 ^ 63 := by rw [sizeLine_eq]; decide
theorem tru_ok : TruR X (fun x H Q => ∃ k, TruV X.K x H k ∧ Q k H) := by
  intro pins s σ H x v Q I rx h
  obtain ⟨k, e, q⟩ := h
  have hl := line63
  have hs : sizeLine = 16777216 := sizeLine_eq
  cases x with
  | non =>
    cases rx
    have e' : k = false := e
    subst e'
    exact truthy_none ⟨H, I, q⟩
  | bl b =>
    cases rx
    have e' : k = b := e
    subst e'
    exact wpAny_truthy_bool ⟨H, I, q⟩
  | int i =>
    obtain ⟨t, rfl⟩ := rx
    have e' : k = (i != 0) := e
    subst e'
    exact PySem.P.truthy_int ⟨H, I, q⟩
  | str y =>
    obtain ⟨t, rfl⟩ := rx
    obtain ⟨hy, e'⟩ : y.length ≤ sizeLine ∧ k = ((y.length : Int) != 0) := e
    subst e'
    exact PySem.P.truthy_str (by omega) ⟨H, I.tok _, q⟩
  | byt y =>
    obtain ⟨t, rfl⟩ := rx
    obtain ⟨hy, e'⟩ : y.size ≤ sizeLine ∧ k = ((y.size : Int) != 0) := e
    subst e'
    exact PySem.W.truthy_bytes (by omega) ⟨H, I.tok _, q⟩
  | ref p =>
    cases rx
    have e' : (∃ xs, SqL X.K H p xs ∧ k = !xs.isEmpty) ∨ (∃ xs, SqT X.K H p xs ∧ k = !xs.isEmpty) ∨ ∃ kvs, H p = some (.dK kvs) ∧ k = !kvs.isEmpty := e
    rcases e' with ⟨xs, hx, e'⟩ | ⟨xs, hx, e'⟩ | ⟨kvs, hx, e'⟩
    · subst e'
      obtain ⟨its, r, pl, hz⟩ := I.list hx
      have hlen := r.length
      exact wpAny_truthy_list pl.isList (by simp only [List.size_toArray]; omega) ⟨H, I.tok _, by rw [isEmpty_of r]; exact q⟩
    · subst e'
      obtain ⟨its, r, pl, hz⟩ := I.tuple hx
      have hlen := r.length
      exact truthy_tuple pl (by simp only [List.size_toArray]; omega) ⟨H, I.tok _, by rw [isEmpty_of r]; exact q⟩
    · subst e'
      obtain ⟨hz, hS, vs, r, m⟩ : kvs.length ≤ sizeLine ∧ (p == sysModules) = false ∧ ∃ vs, KV kvs vs ∧ s.heap.DictOf (mixKind X.prog X.w) p vs := I.hok p _ hx
      have hlen : kvs.length = vs.length := Paired.length r
      exact wpAny_truthy_dict hS m (by omega) ⟨H, I.tok _, by rw [isEmpty_kv r]; exact q⟩
  | _ => exact (show False from e).elim
theorem pt_truth (ha : PE X a ta) (he : ∀ whole, isTrue a X.env whole = (do let v ← whole; standAt a.pos; holding [v] (truthy v))) :
    PT X a (fun σ H Q => ta σ H fun x H' => ∃ k, TruV X.K x H' k ∧ Q k H') := by
  intro pins s σ H Q I h
  exact isTrue_plain (thn (ha pins s σ H _ I h) fun v s1 ⟨x, H1, I1, r1, q1⟩ => tru_ok pins s1 σ H1 x v Q I1 r1 q1) (he _)

theorem pe_byt {x : List UInt8} {k : Nat} : PE X (.Constant (.bytes x) k pos) (fun _ H Q => Q (.byt x.toArray) H) := fun _ _ _ H _ I h => PySem.W.Constant_bytes ⟨.byt x.toArray, H, I.tok _, ⟨_, rfl⟩, h⟩
theorem op_add_str : OpR X (binaryOp .Add) (fun x y H Q => ∃ i j, x = .str i ∧ y = .str j ∧ i.length + j.length ≤ sizeLine ∧ Q (.str (i ++ j)) H) := by
  intro pins s σ H x y v u Q I rx ry h
  obtain ⟨i, j, rfl, rfl, hz, q⟩ := h
  obtain ⟨t, rfl⟩ := rx
  obtain ⟨t', rfl⟩ := ry
  exact add_str (fun t' tk => ⟨.str (i ++ j), H, I.tok _, ⟨_, rfl⟩, q⟩) hz
theorem iop_add_str : OpR X (inplaceOp .Add) (fun x y H Q => ∃ i j, x = .str i ∧ y = .str j ∧ i.length + j.length ≤ sizeLine ∧ Q (.str (i ++ j)) H) := by
  intro pins s σ H x y v u Q I rx ry h
  obtain ⟨i, j, rfl, rfl, hz, q⟩ := h
  obtain ⟨t, rfl⟩ := rx
  obtain ⟨t', rfl⟩ := ry
  exact iadd_str (fun t' tk => ⟨.str (i ++ j), H, I.tok _, ⟨_, rfl⟩, q⟩) hz
theorem op_add_byt : OpR X (binaryOp .Add) (fun x y H Q => ∃ i j, x = .byt i ∧ y = .byt j ∧ i.size + j.size ≤ 16777216 ∧ Q (.byt (i ++ j)) H) := by
  intro pins s σ H x y v u Q I rx ry h
  obtain ⟨i, j, rfl, rfl, hz, q⟩ := h
  obtain ⟨t, rfl⟩ := rx
  obtain ⟨t', rfl⟩ := ry
  exact PySem.W.KBy.add_bytes hz (fun t' tk => ⟨.byt (i ++ j), H, I.tok _, ⟨_, rfl⟩, q⟩)

def PlainIxT (b : Expr) : Prop := ∀ o i, subscripted b false o i = operate [o, i] (getItem o i)
theorem pe_item_str (ha : PE X a ta) (hb : PE X b tb) (hs : PlainIxT b) :
    PE X (.Subscript a b pos) (tOp (fun x y H Q => ∃ z i c, x = .str z ∧ y = .int i ∧ 0 ≤ i ∧ i < 2 ^ 63 ∧ i < z.length ∧ z.cps[i.toNat]? = some c ∧ Q (.str ⟨#[c]⟩) H) ta tb) := by
  intro pins s σ H Q I h
  refine Subscript_ (binT ha hb I h fun v u s2 x y H2 I2 rx ry q => ?_)
  obtain ⟨z, i, c, rfl, rfl, h0, h63, h1, hc, q⟩ := q
  obtain ⟨t, rfl⟩ := rx
  obtain ⟨t', rfl⟩ := ry
  have e : seqIndex? i z.length = some i.toNat := PySem.StrLaws.seqIndex_nonneg h0 h1
  exact tail_any (typeIs_str s2 z t) slot_str_getitem.lookup (getItem_str (c := c) (by
    have e1 : decide (i < -(2 ^ 63 : Int)) = false := decide_eq_false (by omega)
    have e2 : decide (i ≥ 2 ^ 63) = false := decide_eq_false (by omega)
    rw [e1, e2] <;> rfl) (by rw [e]; exact hc) ⟨.str ⟨#[c]⟩, H2, I2.tok _, ⟨_, rfl⟩, q⟩) (hs _ _)
theorem pe_item_byt (ha : PE X a ta) (hb : PE X b tb) (hs : PlainIxT b) :
    PE X (.Subscript a b pos) (tOp (fun x y H Q => ∃ (z : List UInt8) (i : Int), x = .byt z.toArray ∧ y = .int i ∧ z.length ≤ sizeLine ∧ 0 ≤ i ∧ i < z.length ∧ Q (.int ((z.getD i.toNat 0).toNat : Nat)) H) ta tb) := by
  intro pins s σ H Q I h
  refine Subscript_ (binT ha hb I h fun v u s2 x y H2 I2 rx ry q => ?_)
  obtain ⟨z, i, rfl, rfl, hz, h0, h1, q⟩ := q
  obtain ⟨t, rfl⟩ := rx
  obtain ⟨t', rfl⟩ := ry
  have hl : sizeLine = 16777216 := sizeLine_eq
  exact tail_any (PySem.W.typeIs_bytes s2 z.toArray t) PySem.W.FB.slot_bytes_getitem.lookup (PySem.W.getItem_bytes (by omega) h0 h1 ⟨.int ((z.getD i.toNat 0).toNat : Nat), H2, I2.tok _, ⟨_, rfl⟩, q⟩) (hs _ _)

theorem vals1 {x : V} {us : List Value} (r : Vals [x] us) : ∃ u, us = [u] ∧ RelV x u := by
  cases r with
  | cons r1 r2 => cases r2; exact ⟨_, rfl, r1⟩
theorem vals2 {x y : V} {us : List Value} (r : Vals [x, y] us) : ∃ u w', us = [u, w'] ∧ RelV x u ∧ RelV y w' := by
  cases r with
  | cons r1 r2 =>
    cases r2 with
    | cons r3 r4 => cases r4; exact ⟨_, _, rfl, r1, r3⟩
theorem call_abs : CallR X (.builtin "abs") (fun xs H Q => ∃ i, xs = [.int i] ∧ Q (.int (if i < 0 then -i else i)) H) := by
  intro pins s σ H xs us Q I r h
  obtain ⟨i, rfl, q⟩ := h
  obtain ⟨u, rfl, t, rfl⟩ := vals1 r
  exact call_abs_int fun u tk => ⟨.int (if i < 0 then -i else i), H, I.tok _, ⟨_, rfl⟩, q⟩
theorem call_max2 (hc : X.calm = true) : CallR X (.builtin "max") (fun xs H Q => ∃ i j, xs = [.int i, .int j] ∧ Q (.int (if j > i then j else i)) H) := by
  intro pins s σ H xs us Q I r h
  obtain ⟨i, j, rfl, q⟩ := h
  obtain ⟨u, w', rfl, ⟨t, rfl⟩, ⟨t', rfl⟩⟩ := vals2 r
  refine max_two_ints (I.ok.hd hc) fun h' tk k => ⟨_, H, I.kept k, ?_, q⟩
  by_cases hj : j > i
  · rw [if_pos hj, if_pos hj]; exact ⟨_, rfl⟩
  · rw [if_neg hj, if_neg hj]; exact ⟨_, rfl⟩
theorem call_min2 (hc : X.calm = true) : CallR X (.builtin "min") (fun xs H Q => ∃ i j, xs = [.int i, .int j] ∧ Q (.int (if j < i then j else i)) H) := by
  intro pins s σ H xs us Q I r h
  obtain ⟨i, j, rfl, q⟩ := h
  obtain ⟨u, w', rfl, ⟨t, rfl⟩, ⟨t', rfl⟩⟩ := vals2 r
  refine min_two_ints (I.ok.hd hc) fun h' tk k => ⟨_, H, I.kept k, ?_, q⟩
  by_cases hj : j < i
  · rw [if_pos hj, if_pos hj]; exact ⟨_, rfl⟩
  · rw [if_neg hj, if_neg hj]; exact ⟨_, rfl⟩
theorem call_int1 : CallR X (.type "int") (fun xs H Q => (∃ i, xs = [.int i] ∧ Q (.int i) H) ∨ ∃ k, xs = [.bl k] ∧ Q (.int (if k then 1 else 0)) H) := by
  intro pins s σ H xs us Q I r h
  rcases h with ⟨i, rfl, q⟩ | ⟨k, rfl, q⟩
  · obtain ⟨u, rfl, t, rfl⟩ := vals1 r
    exact call_int_int ⟨.int i, H, I, ⟨_, rfl⟩, q⟩
  · obtain ⟨u, rfl, r1⟩ := vals1 r
    cases r1
    exact call_int_bool ⟨.int (if k then 1 else 0), H, I.tok _, ⟨_, rfl⟩, q⟩
theorem call_bool1 : CallR X (.type "bool") (fun xs H Q => (∃ i, xs = [.int i] ∧ Q (.bl (i != 0)) H) ∨ ∃ k, xs = [.bl k] ∧ Q (.bl k) H) := by
  intro pins s σ H xs us Q I r h
  rcases h with ⟨i, rfl, q⟩ | ⟨k, rfl, q⟩
  · obtain ⟨u, rfl, t, rfl⟩ := vals1 r
    exact call_bool_int ⟨.bl (i != 0), H, I, rfl, q⟩
  · obtain ⟨u, rfl, r1⟩ := vals1 r
    cases r1
    exact call_bool_bool ⟨.bl k, H, I, rfl, q⟩
theorem call_str_int : CallR X (.type "str") (fun xs H Q => ∃ i, xs = [.int i] ∧ i.natAbs.log2 < 1920 ∧ Q (.str (toString i)) H) := by
  intro pins s σ H xs us Q I r h
  obtain ⟨i, rfl, hz, q⟩ := h
  obtain ⟨u, rfl, t, rfl⟩ := vals1 r
  exact PySem.P.str_of_int hz ⟨.str _, H, I.tok _, ⟨_, rfl⟩, q⟩
theorem call_ord : CallR X (.builtin "ord") (fun xs H Q => ∃ x, xs = [.str x] ∧ x.length = 1 ∧ Q (.int (x.cps.getD 0 0 : Nat)) H) := by
  intro pins s σ H xs us Q I r h
  obtain ⟨x, rfl, hz, q⟩ := h
  obtain ⟨u, rfl, t, rfl⟩ := vals1 r
  exact ord_of_one hz ⟨.int _, H, I.tok _, ⟨_, rfl⟩, q⟩
theorem call_chr : CallR X (.builtin "chr") (fun xs H Q => ∃ i, xs = [.int i] ∧ 0 ≤ i ∧ i ≤ 1114111 ∧ Q (.str ⟨#[i.toNat]⟩) H) := by
  intro pins s σ H xs us Q I r h
  obtain ⟨i, rfl, h0, h1, q⟩ := h
  obtain ⟨u, rfl, t, rfl⟩ := vals1 r
  exact chr_of_range h0 h1 ⟨.str _, H, I.tok _, ⟨_, rfl⟩, q⟩
def LenV (K : PySem.W.Frag) (x : V) (H : Hp) (n : Nat) : Prop :=
  match x with
  | .str y => y.length ≤ sizeLine ∧ n = y.length
  | .byt y => y.size ≤ sizeLine ∧ n = y.size
  | .ref p => (∃ xs, SqL K H p xs ∧ n = xs.length) ∨ ∃ xs, SqT K H p xs ∧ n = xs.length
  | _ => False
theorem call_len : CallR X (.builtin "len") (fun xs H Q => ∃ x n, xs = [x] ∧ LenV X.K x H n ∧ Q (.int n) H) := by
  intro pins s σ H xs us Q I r h
  obtain ⟨x, n, rfl, e, q⟩ := h
  obtain ⟨u, rfl, rx⟩ := vals1 r
  have hl := line63
  have hs : sizeLine = 16777216 := sizeLine_eq
  cases x with
  | str y =>
    obtain ⟨t, rfl⟩ := rx
    obtain ⟨hy, e'⟩ : y.length ≤ sizeLine ∧ n = y.length := e
    subst e'
    exact len_str (by omega) ⟨.int _, H, I.tok _, ⟨_, rfl⟩, q⟩
  | byt y =>
    obtain ⟨t, rfl⟩ := rx
    obtain ⟨hy, e'⟩ : y.size ≤ sizeLine ∧ n = y.size := e
    subst e'
    exact PySem.W.len_bytes (by omega) ⟨.int _, H, I.tok _, ⟨_, rfl⟩, q⟩
  | ref p =>
    cases rx
    have e' : (∃ xs, SqL X.K H p xs ∧ n = xs.length) ∨ ∃ xs, SqT X.K H p xs ∧ n = xs.length := e
    rcases e' with ⟨xs, hx, e'⟩ | ⟨xs, hx, e'⟩
    · subst e'
      obtain ⟨its, r', pl, hz⟩ := I.list hx
      have hlen := r'.length
      exact Calls.call_len_list pl.isList (by simp only [List.size_toArray]; omega) ⟨.int xs.length, H, I.tok _, ⟨_, by simp only [List.size_toArray]; rw [hlen]⟩, q⟩
    · subst e'
      obtain ⟨its, r', pl, hz⟩ := I.tuple hx
      have hlen := r'.length
      exact len_tuple pl (by simp only [List.size_toArray]; omega) ⟨.int xs.length, H, I.tok _, ⟨_, by simp only [List.size_toArray]; rw [hlen]⟩, q⟩
  | _ => exact (show False from e).elim
theorem call_divmod : CallR X (.builtin "divmod") (fun xs H Q => ∃ i j, xs = [.int i, .int j] ∧ CDiv i j ∧ ∀ p, H p = none → Q (.ref p) (upd H p (.tup [.int (i / j), .int (i % j)]))) := by
  intro pins s σ H xs us Q I r h
  obtain ⟨i, j, rfl, ⟨h1, h2⟩, q⟩ := h
  obtain ⟨u, w', rfl, ⟨t, rfl⟩, ⟨t', rfl⟩⟩ := vals2 r
  refine divmod_int (by omega) ?_ (.inl (PyProof.noPylong_small (by omega)))
  rw [Int.fdiv_eq_ediv_of_nonneg i (by omega), Int.fmod_eq_emod_of_nonneg i (by omega)]
  have hn : H s.heap.objs.size = none := I.hok.fresh (Nat.le_refl _)
  refine ⟨.ref s.heap.objs.size, _, ?_, rfl, q _ hn⟩
  refine I.laid (fun b o e => Heap.get?_push_of_some _ e) (Nat.le_refl _) ⟨by simp only [List.length_cons, List.length_nil]; rw [sizeLine_eq]; decide, [.int (i / j) s.toks, .int (i % j) (s.toks + 1)], .cons ⟨_, rfl⟩ (.cons ⟨_, rfl⟩ .nil), ?_⟩
  exact ⟨_, Heap.get?_push_size s.heap rfl, rfl, 0, rfl⟩
end
end L2

namespace L2
open PySem PySem.Spec PyProof.Rows

structure ObjM (h : Heap) (x dx C : Addr) (mA : Str → Option Value) : Prop where
  obj : h.get? x = some (PySem.W.instObj C dx)
  ns : h.Ns1 dx mA
  ne : dx ≠ x

theorem lookIn_ns {h : Heap} {dx : Addr} {mA : Str → Option Value} (n : h.Ns1 dx mA) : ∃ od, h.get? dx = some od ∧ ∀ name, PySem.W.lookIn name od = some (mA name) := by
  obtain ⟨o, es, ep, ho, hd, hk, _, hm⟩ := n
  refine ⟨o, ho, fun name => ?_⟩
  have e := hm name
  unfold nsFind findBy at e
  rw [← Array.find?_toList] at e
  unfold PySem.W.lookIn
  rw [hd]
  dsimp only
  split
  · rename_i y q
    rw [q] at e
    exact congrArg some e
  · rename_i q
    rw [q] at e
    have a : es.toList.any (·.refKey) = false := by
      rw [List.any_eq_false]
      intro y hy
      obtain ⟨z, t, hkey⟩ := hk y (Array.mem_toList_iff.mp hy)
      simp [DictEntry.refKey, hkey]
    have a' : ¬ es.toList.any (·.refKey) = true := by rw [a]; exact Bool.false_ne_true
    rw [if_neg a']
    exact congrArg some e

theorem ObjM.look {h : Heap} {x dx C : Addr} {mA : Str → Option Value} (I : ObjM h x dx C mA) : ∃ od, PySem.W.InstAt h x (PySem.W.instObj C dx) C (some od) ∧ ∀ name, PySem.W.lookIn name od = some (mA name) :=
  let ⟨od, ho, hl⟩ := lookIn_ns I.ns
  ⟨od, ⟨I.obj, rfl, rfl, ho⟩, hl⟩

section
variable {prog : Program} {w : World} {A : Around} {E : Value → Shared → Prop} {s : Shared} {K : PySem.W.Frag} {x dx C f : Addr} {mA : Str → Option Value} {name : Str} {v : Value}

theorem get_map {expr : Bool} {Q : Value → Shared → Prop} (X : K.In s.heap) (I : ObjM s.heap x dx C mA) (hg : PySem.W.plainGet K C name = true) (hh : PySem.W.hasDictIn K C = true)
    (ha : PySem.W.findIn K (.ref C) name = some none) (hv : mA name = some v) (hv' : PySem.W.handedIn v = true) (h : Q v { s with toks := s.toks + 1 }) :
    wpAny (model prog w) A (getAttr (.ref x) name expr) Q E s := by
  obtain ⟨od, J, hl⟩ := I.look
  exact PySem.W.get_value X J (PySem.W.plainGet_of hg).1 (PySem.W.findObj_own hh ha rfl (by rw [hl, hv])) hv' h

theorem get_const {expr : Bool} {a : Value} {Q : Value → Shared → Prop} (X : K.In s.heap) (I : ObjM s.heap x dx C mA) (hg : PySem.W.plainGet K C name = true) (hh : PySem.W.hasDictIn K C = true)
    (ha : PySem.W.findIn K (.ref C) name = some (some a)) (hn : PySem.W.specialIn K a "__get__" = some none) (hc : PySem.W.copiedNames.contains name = false) (hv : mA name = none) (hv' : PySem.W.handedIn a = true)
    (h : Q a { s with toks := s.toks + 1 }) : wpAny (model prog w) A (getAttr (.ref x) name expr) Q E s := by
  obtain ⟨od, J, hl⟩ := I.look
  exact PySem.W.get_value X J (PySem.W.plainGet_of hg).1 (PySem.W.findObj_cls hh ha hn hv' hc (by rw [hl, hv])) hv' h

theorem get_meth {pl : Sem Bool} {Q : Value × List Value → Shared → Prop} (X : K.In s.heap) (I : ObjM s.heap x dx C mA) (hg : PySem.W.plainGet K C name = true)
    (hf : PySem.W.findIn K (.ref C) name = some (some (.ref f))) (ht : PySem.W.isFn K (.ref f) = true) (hv : mA name = none) (h : Q (.ref f, [.ref x]) s) :
    wpAny (model prog w) A (getMethod (.ref x) name pl) Q E s := by
  obtain ⟨od, J, hl⟩ := I.look
  exact PySem.W.method_fn X J (PySem.W.plainGet_of hg).1 (PySem.W.plainGet_of hg).2 hf (beq_iff_eq.mp ht) (by show (PySem.W.lookIn name od).map (·.isSome) = some false; rw [hl, hv]; rfl) h

theorem set_map {ns : List Str} {Q : Unit → Shared → Prop} (X : K.In s.heap) (I : ObjM s.heap x dx C mA)
    (hs : PySem.W.findIn K (.ref C) "__setattr__" = some (some (.builtin "object.__setattr__"))) (hp : PySem.W.plainOver K C = true) (ht : PySem.W.takerIn K C name = some none) (hh : PySem.W.hasDictIn K C = true)
    (hw : PySem.Within mA ns) (hsz : ns.length ≤ sizeLine)
    (h : ∀ h', ObjM h' x dx C (fun y => if y = name then some v else mA y) → Heap.SameBut dx s.heap h' → Q () { s with heap := h', toks := s.toks + 2 }) :
    wpAny (model prog w) A (setAttr (.ref x) name v) Q E s := by
  obtain ⟨od, J, hl⟩ := I.look
  refine PySem.W.set_plain X J hs (PySem.W.osa_open (s := { s with toks := s.toks + 1 }) (r := none) X J hp ht fun b => ?_)
  obtain ⟨cd, hc, hd'⟩ := PySem.W.any_some hh
  have hx : s.heap.get? x = some ⟨.ref C, some dx, .plain, #[]⟩ := I.obj
  refine wpAny_bind (wpAny_pure (wpAny_bind (wpAny_bind (wpAny_loadPart hx (wpAny_bind (PySem.W.Looks.here (s := { s with toks := s.toks + 1 }) (PySem.W.looks_clsIn X hc) ?_))))))
  rw [hd']
  refine wpAny_pure (a := some dx) (wpAny_bind (wpAny_pure (wpAny_bind ?_)))
  refine wpAny_nsSet1 (s := { s with toks := s.toks + 1 }) I.ns fun h' hn2 hs2 => ?_
  obtain ⟨oD, esD, epD, hoD, hdD, hcD⟩ := hn2.count (PySem.Within.cons name v hw)
  refine wpAny_bind (wpAny_lookBehind hoD (by rw [hdD]; exact pastItsLine_dict (Nat.le_trans hcD (by rw [List.length_cons]; omega))) ?_)
  exact wpAny_pure (h _ ⟨(hs2.2 _ (Ne.symm I.ne)).trans I.obj, hn2, I.ne⟩ hs2)

theorem make_map {R : Result → Shared → Prop} {vs : List Value} {kw : List (Str × Value)} (X : K.In s.heap) (hm : PySem.W.makesIn K C = true)
    (hi : PySem.W.findIn K (.ref C) "__init__" = some (some (.ref f))) (hf : PySem.W.typeIn K (.ref f) = some (.type "function"))
    (h : codeAny (model prog w) (A.under (.builtin "type.__call__" ⟨.ref C :: vs, kw⟩)) (.call (.ref f) ⟨.ref (s.heap.objs.size + 1) :: vs, kw⟩) (PySem.W.InitBack (s.heap.objs.size + 1) R)
      { s with heap := (s.heap.push PySem.W.emptyDict).push (PySem.W.instObj C s.heap.objs.size) }) :
    codeAny (model prog w) A (.call (.ref C) ⟨vs, kw⟩) R s := by
  obtain ⟨hh, g, d, t, os⟩ := s
  exact PySem.W.make_core (PySem.W.makes_of X hm) (PySem.W.looks_findIn X hi) (fun self => PySem.W.bind_fn X self hf) (.inl rfl) h
theorem make_map0 {R : Result → Shared → Prop} (X : K.In s.heap) (hm : PySem.W.makesIn K C = true)
    (hi : PySem.W.findIn K (.ref C) "__init__" = some (some (.builtin "object.__init__")))
    (hb : ∀ self, PySem.W.Looks (model prog w) s.heap (bindSpecial (.builtin "object.__init__") self) (.builtin "object.__init__", [self]))
    (h : codeAny (model prog w) (A.under (.builtin "type.__call__" ⟨[.ref C], []⟩)) (.call (.builtin "object.__init__") ⟨[.ref (s.heap.objs.size + 1)], []⟩) (PySem.W.InitBack (s.heap.objs.size + 1) R)
      { s with heap := (s.heap.push PySem.W.emptyDict).push (PySem.W.instObj C s.heap.objs.size) }) :
    codeAny (model prog w) A (.call (.ref C) ⟨[], []⟩) R s := by
  obtain ⟨hh, g, d, t, os⟩ := s
  exact PySem.W.make_core (PySem.W.makes_of X hm) (PySem.W.looks_findIn X hi) hb (.inr ⟨rfl, rfl⟩) h
end

def putF (f : Str) (v : V) : List (Str × V) → List (Str × V)
  | [] => [(f, v)]
  | (g, x) :: r => if g = f then (g, v) :: r else (g, x) :: putF f v r
theorem lookup_putF (f g : Str) (v : V) : ∀ fs : List (Str × V), (putF f v fs).lookup g = if g = f then some v else fs.lookup g
  | [] => by
    show List.lookup g [(f, v)] = _
    by_cases h : g = f
    · have hb : (g == f) = true := beq_iff_eq.mpr h
      simp only [List.lookup, hb, if_pos h]
    · have hb : (g == f) = false := beq_eq_false_iff_ne.mpr h
      simp only [List.lookup, hb, if_neg h]
  | (k, x) :: r => by
    have ih := lookup_putF f g v r
    rw [show putF f v ((k, x) :: r) = (if k = f then (k, v) :: r else (k, x) :: putF f v r) from rfl]
    by_cases hk : k = f
    · rw [if_pos hk]
      by_cases h : g = k
      · have hb : (g == k) = true := beq_iff_eq.mpr h
        simp only [List.lookup, hb, if_pos (h.trans hk)]
      · have hb : (g == k) = false := beq_eq_false_iff_ne.mpr h
        simp only [List.lookup, hb, if_neg (fun e : g = f => h (e.trans hk.symm))]
    · rw [if_neg hk]
      by_cases h : g = k
      · have hb : (g == k) = true := beq_iff_eq.mpr h
        simp only [List.lookup, hb, if_neg (fun e : g = f => hk (h.symm.trans e))]
      · have hb : (g == k) = false := beq_eq_false_iff_ne.mpr h
        simp only [List.lookup, hb]
        exact ih
theorem keys_putF (f : Str) (v : V) : ∀ fs : List (Str × V), f ∈ (putF f v fs).map (·.1) ∧ ∀ g, g ∈ fs.map (·.1) → g ∈ (putF f v fs).map (·.1)
  | [] => ⟨by simp [putF], fun g h => by simp at h⟩
  | (k, x) :: r => by
    obtain ⟨i1, i2⟩ := keys_putF f v r
    rw [show putF f v ((k, x) :: r) = (if k = f then (k, v) :: r else (k, x) :: putF f v r) from rfl]
    by_cases hk : k = f
    · rw [if_pos hk]
      subst hk
      exact ⟨by simp, fun g h => by simpa using h⟩
    · rw [if_neg hk]
      refine ⟨?_, fun g h => ?_⟩
      · rw [List.map_cons]
        exact List.mem_cons_of_mem _ i1
      · rw [List.map_cons] at h ⊢
        rcases List.mem_cons.mp h with e | e
        · exact List.mem_cons.mpr (.inl e)
        · exact List.mem_cons_of_mem _ (i2 g e)
theorem length_putF (f : Str) (v : V) : ∀ fs : List (Str × V), (putF f v fs).length ≤ fs.length + 1
  | [] => by simp [putF]
  | (k, x) :: r => by
    have ih := length_putF f v r
    rw [show putF f v ((k, x) :: r) = (if k = f then (k, v) :: r else (k, x) :: putF f v r) from rfl]
    by_cases hk : k = f
    · rw [if_pos hk, List.length_cons, List.length_cons]; omega
    · rw [if_neg hk, List.length_cons, List.length_cons]; omega

theorem RelO.some_of {v : V} {o : Option Value} (r : RelO (some v) o) : ∃ u, o = some u ∧ RelV v u := by
  cases o with
  | none => exact (show False from r).elim
  | some u => exact ⟨u, rfl, r⟩
theorem RelO.none_of {o : Option Value} (r : RelO none o) : o = none := by
  cases o with
  | none => rfl
  | some u => exact (show False from r).elim
theorem handed_of {v : V} {u : Value} (r : RelV v u) : PySem.W.handedIn u = true := by
  cases v with
  | non => cases (show u = Value.none from r); rfl
  | bl b => cases (show u = Value.bool b from r); rfl
  | int i => obtain ⟨t, e⟩ := (show ∃ t, u = Value.int i t from r); cases e; rfl
  | str x => obtain ⟨t, e⟩ := (show ∃ t, u = Value.str x t from r); cases e; rfl
  | byt b => obtain ⟨t, e⟩ := (show ∃ t, u = Value.bytes b t from r); cases e; rfl
  | flt b => obtain ⟨t, e⟩ := (show ∃ t, u = Value.float b t from r); cases e; rfl
  | ref a => cases (show u = Value.ref a from r); rfl
  | ty n => cases (show u = Value.type n from r); rfl

section
variable {P : Program} {w : World} {H H' : Hp} {h h' : Heap} {a C dx : Addr} {fs fs' : List (Str × V)}
theorem ins_get (hok : HOk P w H h) (e : H a = some (.ins C dx fs)) : ∃ mA, ObjM h a dx C mA ∧ (∀ f, RelO (fs.lookup f) (mA f)) ∧ PySem.Within mA (fs.map (·.1)) ∧ fs.length ≤ 1000 ∧ H dx = some (.own a) := by
  obtain ⟨d, z, ne, ob, mA, n, r, q⟩ := (show ObjOk P w H h a (.ins C dx fs) from hok a _ e)
  exact ⟨mA, ⟨ob, n, ne⟩, r, q, z, d⟩
end

structure Cls (K : PySem.W.Frag) (C : Addr) : Prop where
  pg : PySem.W.plainGet K C Str.empty = true
  hd : PySem.W.hasDictIn K C = true
  po : PySem.W.plainOver K C = true
  sa : PySem.W.findIn K (.ref C) "__setattr__" = some (some (.builtin "object.__setattr__"))
theorem Cls.get {K : PySem.W.Frag} {C : Addr} (c : Cls K C) (f : Str) : PySem.W.plainGet K C f = true := c.pg
def NoAttr (K : PySem.W.Frag) (C : Addr) (f : Str) : Prop := PySem.W.findIn K (.ref C) f = some none
theorem NoAttr.taker {K : PySem.W.Frag} {C : Addr} {f : Str} (n : NoAttr K C f) : PySem.W.takerIn K C f = some none := by
  unfold PySem.W.takerIn
  rw [show PySem.W.findIn K (.ref C) f = some none from n]
  rfl
structure Con (K : PySem.W.Frag) (C : Addr) (f : Str) (v : V) (u : Value) : Prop where
  at_ : PySem.W.findIn K (.ref C) f = some (some u)
  rel : RelV v u
  get : PySem.W.specialIn K u "__get__" = some none
  cp : PySem.W.copiedNames.contains f = false
structure Meth (K : PySem.W.Frag) (C : Addr) (m : Str) (f : Addr) : Prop where
  at_ : PySem.W.findIn K (.ref C) m = some (some (.ref f))
  fn : PySem.W.isFn K (.ref f) = true
  kp : PySem.W.keepIn K (.ref f) = true

section
variable {X : Cx} {pins : List (Addr × Obj)} {σ : St} {H : Hp} {s : Shared} {a C dx : Addr} {fs : List (Str × V)} {f : Str} {v : V} {A : Around} {E : Value → Shared → Prop}

theorem getattr_ok {b : Bool} {Q : Value → Shared → Prop} (I : Inv X pins σ H s) (e : H a = some (.ins C dx fs)) (c : Cls X.K C) (n : NoAttr X.K C f) (l : fs.lookup f = some v)
    (h : ∀ u s', Inv X pins σ H s' → RelV v u → Q u s') : wpAny (model X.prog X.w) A (getAttr (.ref a) f b) Q E s := by
  obtain ⟨mA, O, r, _, _, _⟩ := ins_get I.hok e
  obtain ⟨u, hu, ru⟩ := RelO.some_of (v := v) (o := mA f) (by rw [← l]; exact r f)
  exact get_map I.kIn O (c.get f) c.hd n hu (handed_of ru) (h u _ (I.tok _) ru)

theorem getcon_ok {b : Bool} {u : Value} {Q : Value → Shared → Prop} (I : Inv X pins σ H s) (e : H a = some (.ins C dx fs)) (c : Cls X.K C) (k : Con X.K C f v u) (l : fs.lookup f = none)
    (h : ∀ s', Inv X pins σ H s' → Q u s') : wpAny (model X.prog X.w) A (getAttr (.ref a) f b) Q E s := by
  obtain ⟨mA, O, r, _, _, _⟩ := ins_get I.hok e
  have hn : mA f = none := RelO.none_of (by rw [← l]; exact r f)
  exact get_const I.kIn O (c.get f) c.hd k.at_ k.get k.cp hn (handed_of k.rel) (h _ (I.tok _))

theorem getmeth_ok {m : Str} {g : Addr} {pl : Sem Bool} {Q : Value × List Value → Shared → Prop} (I : Inv X pins σ H s) (e : H a = some (.ins C dx fs)) (c : Cls X.K C) (k : Meth X.K C m g) (l : fs.lookup m = none)
    (h : Q (.ref g, [.ref a]) s) : wpAny (model X.prog X.w) A (getMethod (.ref a) m pl) Q E s := by
  obtain ⟨mA, O, r, _, _, _⟩ := ins_get I.hok e
  have hn : mA m = none := RelO.none_of (by rw [← l]; exact r m)
  exact get_meth I.kIn O (c.get m) k.at_ k.fn hn h

theorem setattr_ok {y : V} {u : Value} {Q : Unit → Shared → Prop} (I : Inv X pins σ H s) (e : H a = some (.ins C dx fs)) (c : Cls X.K C) (n : NoAttr X.K C f) (hl : fs.length < 1000) (ry : RelV y u)
    (h : ∀ s', Inv X pins σ (upd H a (.ins C dx (putF f y fs))) s' → Q () s') : wpAny (model X.prog X.w) A (setAttr (.ref a) f u) Q E s := by
  obtain ⟨mA, O, r, wi, _, ho⟩ := ins_get I.hok e
  have hz : (fs.map (·.1)).length ≤ sizeLine := by rw [List.length_map, sizeLine_eq]; omega
  refine set_map I.kIn O c.sa c.po n.taker c.hd wi hz fun h' O' sb => h _ ?_
  have hd : ∃ o, h'.get? dx = some o := let ⟨o, _, _, e', _⟩ := O'.ns; ⟨o, e'⟩
  refine I.write (x := a) (e := dx) (by rw [e]; exact True.intro) (.inr ho) (fun b q hb z => (sb.2 b hb).trans z) hd ?_
  refine ⟨by rw [upd_ne O.ne]; exact ho, ?_, O.ne, O'.obj, _, O'.ns, fun g => ?_, fun g hg => ?_⟩
  · have := length_putF f y fs; omega
  · show RelO ((putF f y fs).lookup g) (if g = f then some u else mA g)
    rw [lookup_putF]
    by_cases q : g = f
    · rw [if_pos q, if_pos q]; exact ry
    · rw [if_neg q, if_neg q]; exact r g
  · by_cases q : g = f
    · rw [q]; exact (keys_putF f y fs).1
    · refine (keys_putF f y fs).2 g (wi g fun z => hg ?_)
      show (if g = f then some u else mA g) = none
      rw [if_neg q]; exact z

theorem Inv.made (I : Inv X pins σ H s) : Inv X pins σ (upd (upd H s.heap.objs.size (.own (s.heap.objs.size + 1))) (s.heap.objs.size + 1) (.ins C s.heap.objs.size []))
    { s with heap := (s.heap.push PySem.W.emptyDict).push (PySem.W.instObj C s.heap.objs.size) } := by
  have e1 : (s.heap.push PySem.W.emptyDict).get? s.heap.objs.size = some PySem.W.emptyDict := Heap.get?_push_size s.heap rfl
  have e2 : ((s.heap.push PySem.W.emptyDict).push (PySem.W.instObj C s.heap.objs.size)).get? (s.heap.objs.size + 1) = some (PySem.W.instObj C s.heap.objs.size) := by
    have := Heap.get?_push_size (s.heap.push PySem.W.emptyDict) (o := PySem.W.instObj C s.heap.objs.size) rfl
    rwa [Heap.size_push] at this
  have e3 : (s.heap.push PySem.W.emptyDict).Ns s.heap.objs.size (fun _ => none) := ⟨PySem.W.emptyDict, #[], _, e1, rfl, (fun e he => absurd he (by simp)), fun _ => rfl⟩
  have I1 := I.laid (a := s.heap.objs.size) (o := .own (s.heap.objs.size + 1)) (h' := s.heap.push PySem.W.emptyDict) (t' := s.toks) (fun b u q => Heap.get?_push_of_some _ q) (Nat.le_refl _) ⟨_, e1⟩
  refine I1.laid (a := s.heap.objs.size + 1) (o := .ins C s.heap.objs.size []) (t' := s.toks) (fun b u q => Heap.get?_push_of_some _ q) (Nat.le_of_eq (Heap.size_push _ _)) ?_
  have ne : s.heap.objs.size ≠ s.heap.objs.size + 1 := Nat.ne_of_lt (Nat.lt_succ_self _)
  refine ⟨by rw [upd_ne ne, upd_same], Nat.zero_le _, ne, e2, fun _ => none, (Heap.Ns1.of_empty e3).at fun o q => Heap.get?_push_of_some _ q, fun _ => True.intro, fun y hy => absurd rfl hy⟩

theorem attr_of {prog : Program} {w : World} {env : Env} {e : Expr} {f : Str} {pos : Pos} {s : Shared} {Q : Value → Shared → Prop} (hb : attributeBase e f env (eval e env) = eval e env)
    (h : wpAny (model prog w) A (eval e env) (fun o s₁ => wpAny (model prog w) A (getAttr o f true) Q E s₁) E s) : wpAny (model prog w) A (eval (.Attribute e f pos) env) Q E s :=
  Attribute_any_ h (by rw [arm_eval_Attribute, hb])
end

def tFld (K : PySem.W.Frag) (ta : TE) (f : Str) : TE := fun σ H Q => ta σ H fun x H1 => ∃ a C dx fs v, x = .ref a ∧ H1 a = some (.ins C dx fs) ∧ Cls K C ∧ NoAttr K C f ∧ fs.lookup f = some v ∧ Q v H1
def tCon (K : PySem.W.Frag) (ta : TE) (f : Str) : TE := fun σ H Q => ta σ H fun x H1 => ∃ a C dx fs v u, x = .ref a ∧ H1 a = some (.ins C dx fs) ∧ Cls K C ∧ Con K C f v u ∧ fs.lookup f = none ∧ Q v H1
def sFld (K : PySem.W.Frag) (ta tv : TE) (f : Str) : TS := fun D σ H => tv σ H fun y H1 => ta σ H1 fun x H2 => ∃ a C dx fs, x = .ref a ∧ H2 a = some (.ins C dx fs) ∧ Cls K C ∧ NoAttr K C f ∧ fs.length < 1000 ∧
  D.nx σ (upd H2 a (.ins C dx (putF f y fs)))
def InOp (X : Cx) (op : Operator) (rd : V → V → Hp → VK → Prop) : Prop :=
  ∀ (pins : List (Addr × Obj)) (s : Shared) (σ : St) (H : Hp) (x y : V) (u v : Value) (Q : VK), Inv X pins σ H s → RelV x u → RelV y v → rd x y H Q → wpAny (model X.prog X.w) X.A (inplaceOp op u v) (EP X pins σ Q) X.xe s
def sFldAug (K : PySem.W.Frag) (ta tv : TE) (rd : V → V → Hp → VK → Prop) (f : Str) : TS := fun D σ H => ta σ H fun x H1 => ∃ a C dx fs v, x = .ref a ∧ H1 a = some (.ins C dx fs) ∧ Cls K C ∧ NoAttr K C f ∧ fs.lookup f = some v ∧
  tv σ H1 fun y H2 => rd v y H2 fun z H3 => ∃ dx' fs', H3 a = some (.ins C dx' fs') ∧ fs'.length < 1000 ∧ D.nx σ (upd H3 a (.ins C dx' (putF f z fs')))

section
variable {X : Cx} {o e value : Expr} {f : Str} {pos pos' tpos : Pos} {ta tv : TE}
theorem pe_fld (he : PE X e ta) (hb : attributeBase e f X.env (eval e X.env) = eval e X.env) : PE X (.Attribute e f pos) (tFld X.K ta f) := by
  intro pins s σ H Q I h
  refine attr_of hb (thn (he pins s σ H _ I h) fun u s1 ⟨x, H1, I1, rx, a, C, dx, fs, v, ex, ea, c, n, l, q⟩ => ?_)
  subst ex
  obtain rfl : u = Value.ref a := rx
  exact getattr_ok I1 ea c n l fun u' s2 I2 ru => ⟨v, H1, I2, ru, q⟩
theorem pe_con (he : PE X e ta) (hb : attributeBase e f X.env (eval e X.env) = eval e X.env) : PE X (.Attribute e f pos) (tCon X.K ta f) := by
  intro pins s σ H Q I h
  refine attr_of hb (thn (he pins s σ H _ I h) fun u s1 ⟨x, H1, I1, rx, a, C, dx, fs, v, u0, ex, ea, c, k, l, q⟩ => ?_)
  subst ex
  obtain rfl : u = Value.ref a := rx
  exact getcon_ok I1 ea c k l fun s2 I2 => ⟨v, H1, I2, k.rel, q⟩
theorem ps_fld (ha : PE X o ta) (hv : PE X value tv) (hs : swapsWith value (some (.Attribute o f pos')) pos.line X.env = pure false) : PS X (.Assign [.Attribute o f pos'] value pos) (sFld X.K ta tv f) := by
  intro pins s σ H D I h
  refine plainObj_wpAny_Assign_Attribute (thn (hv pins s σ H _ I h) fun u s1 ⟨y, H1, I1, ry, q⟩ => thn (ha pins s1 σ H1 _ I1 q) fun ov s2 ⟨x, H2, I2, rx, a, C, dx, fs, ex, ea, c, n, l, q2⟩ => ?_) hs
  subst ex
  obtain rfl : ov = Value.ref a := rx
  exact setattr_ok I2 ea c n l ry fun s3 I3 => ⟨σ, _, I3, q2⟩
theorem ps_fldaug {op : Operator} {rd : V → V → Hp → VK → Prop} (ha : PE X o ta) (hv : PE X value tv) (hop : InOp X op rd) : PS X (.AugAssign (.Attribute o f tpos) op value pos) (sFldAug X.K ta tv rd f) := by
  intro pins s σ H D I h
  refine wpAny_AugAssign_AttributeAny (thn (ha pins s σ H _ I h) fun ov s1 ⟨x, H1, I1, rx, a, C, dx, fs, v, ex, ea, c, n, l, q⟩ => ?_)
  subst ex
  obtain rfl : ov = Value.ref a := rx
  refine getattr_ok I1 ea c n l fun u s2 I2 ru => thn (hv pins s2 σ H1 _ I2 q) fun w3 s3 ⟨y, H2, I3, ry, q3⟩ => thn (hop pins s3 σ H2 v y u w3 _ I3 ru ry q3) fun w4 s4 ⟨z, H3, I4, rz, dx', fs', ea', l', q4⟩ => ?_
  exact setattr_ok I4 ea' c n l' rz fun s5 I5 => ⟨σ, _, I5, q4⟩
def rAdd : V → V → Hp → VK → Prop := fun x y H Q => ∃ i j, x = .int i ∧ y = .int j ∧ Q (.int (i + j)) H
def rSub : V → V → Hp → VK → Prop := fun x y H Q => ∃ i j, x = .int i ∧ y = .int j ∧ Q (.int (i - j)) H
theorem in_add : InOp X .Add rAdd := by
  rintro pins s σ H x y u v Q I rx ry ⟨i, j, rfl, rfl, q⟩
  obtain ⟨t, rfl⟩ := (show ∃ t, u = Value.int i t from rx)
  obtain ⟨t', rfl⟩ := (show ∃ t', v = Value.int j t' from ry)
  exact PyProof.Rows.iadd_int ⟨.int (i + j), H, I.tok _, ⟨_, rfl⟩, q⟩
theorem in_sub : InOp X .Sub rSub := by
  rintro pins s σ H x y u v Q I rx ry ⟨i, j, rfl, rfl, q⟩
  obtain ⟨t, rfl⟩ := (show ∃ t, u = Value.int i t from rx)
  obtain ⟨t', rfl⟩ := (show ∃ t', v = Value.int j t' from ry)
  exact PyProof.Rows.isub_int ⟨.int (i - j), H, I.tok _, ⟨_, rfl⟩, q⟩

theorem methcall_of {pl : Sem Bool} {m : Str} {apos : Pos} {args : List Expr} {pins : List (Addr × Obj)} {s : Shared} {σ : St} {H : Hp} {Q : Value → Shared → Prop} {te : TE} (he : PE X e te) (I : Inv X pins σ H s)
    (h : te σ H fun x H1 => ∃ a C dx fs g, x = .ref a ∧ H1 a = some (.ins C dx fs) ∧ Cls X.K C ∧ Meth X.K C m g ∧ fs.lookup m = none ∧
      ∀ s1, Inv X pins σ H1 s1 → wpAny (model X.prog X.w) X.A (callWith pos (.ref g) [.ref a] (backTo pos (starEach args X.env)) (backToKw pos (keywordEach [] X.env))) Q X.xe s1)
    (ht : eval (.Call (.Attribute e m apos) args [] pos) X.env = (do
      let ov ← eval e X.env
      standAt apos.atName
      let (f, first) ← holding [ov] (getMethod ov m pl)
      callWith pos f first (backTo pos (starEach args X.env)) (backToKw pos (keywordEach [] X.env)))) :
    wpAny (model X.prog X.w) X.A (eval (.Call (.Attribute e m apos) args [] pos) X.env) Q X.xe s := by
  refine PySem.W.methodCall_KW (pl := pl) (thn (he pins s σ H _ I h) fun u s1 ⟨x, H1, I1, rx, a, C, dx, fs, g, ex, ea, c, k, l, q⟩ => ?_) ht
  subst ex
  obtain rfl : u = Value.ref a := rx
  exact getmeth_ok I1 ea c k l (q s1 I1)
end

section
variable {X : Cx} {pins : List (Addr × Obj)} {σ : St} {H : Hp} {s : Shared} {A : Around} {E : Value → Shared → Prop} {Q : Value → Shared → Prop} {c : Value} {b : Bool}
inductive TyOf (K : PySem.W.Frag) (H : Hp) : V → Value → Prop where
  | non : TyOf K H .non (.type "NoneType")
  | bl (x : Bool) : TyOf K H (.bl x) (.type "bool")
  | int (i : Int) : TyOf K H (.int i) (.type "int")
  | str (x : Str) : TyOf K H (.str x) (.type "str")
  | flt (x : UInt64) : TyOf K H (.flt x) (.type "float")
  | lst {a : Addr} {xs : List V} (e : H a = some (.lst xs)) : TyOf K H (.ref a) (.type "list")
  | frz {a : Addr} {o : Obj} {xs : List V} (e : H a = some (.frz o (.lst xs))) : TyOf K H (.ref a) (.type "list")
  | tup {a : Addr} {xs : List V} (e : H a = some (.tup xs)) : TyOf K H (.ref a) (.type "tuple")
  | dK {a : Addr} {kvs : List (Key × V)} (e : H a = some (.dK kvs)) : TyOf K H (.ref a) (.type "dict")
  | dT {a : Addr} {kvs : List (List Key × V)} (e : H a = some (.dT kvs)) : TyOf K H (.ref a) (.type "dict")
  | ins {a C dx : Addr} {fs : List (Str × V)} (e : H a = some (.ins C dx fs)) (cl : Cls K C) (ha : PySem.W.findIn K (.ref C) "__class__" = some (some (.builtin "object.__class__")))
      (hn : PySem.W.specialIn K (.builtin "object.__class__") "__get__" = some (some (.builtin "getset_descriptor.__get__"))) (htk : PySem.W.takesIn K (.builtin "object.__class__") = some true)
      (hm : PySem.W.mroIn K C (.type "object") = some true) : TyOf K H (.ref a) (.ref C)
theorem isinst_ok {x : V} {u t : Value} (I : Inv X pins σ H s) (rx : RelV x u) (ty : TyOf X.K H x t) (e : PySem.W.kitOne X.K t c = some b) (h : ∀ tk, Q (.bool b) { s with toks := tk }) :
    wpAny (model X.prog X.w) A (call (.builtin "isinstance") [u, c]) Q E s := by
  cases ty with
  | non => cases (show u = Value.none from rx); exact PySem.W.kia_one PySem.W.kitx_none I.kIn True.intro e (fun z => nomatch z) h
  | bl y => cases (show u = Value.bool y from rx); exact PySem.W.kia_one PySem.W.kitx_bool I.kIn True.intro e (fun z => nomatch z) h
  | int i => obtain ⟨t, q⟩ := (show ∃ t, u = Value.int i t from rx); cases q; exact PySem.W.kia_one PySem.W.kitx_int I.kIn True.intro e (fun z => nomatch z) h
  | str y => obtain ⟨t, q⟩ := (show ∃ t, u = Value.str y t from rx); cases q; exact PySem.W.kia_one PySem.W.kitx_str I.kIn True.intro e (fun z => nomatch z) h
  | flt y => obtain ⟨t, q⟩ := (show ∃ t, u = Value.float y t from rx); cases q; exact PySem.W.kia_one PySem.W.kitx_float I.kIn True.intro e (fun z => nomatch z) h
  | @lst a xs ea =>
    cases (show u = Value.ref a from rx)
    obtain ⟨_, _, n, _, h1⟩ := (show ObjOk X.prog X.w H s.heap a (.lst xs) from I.hok a _ ea)
    exact PySem.W.kia_one PySem.W.kitx_list I.kIn ⟨_, h1, rfl⟩ e (fun z => nomatch z) h
  | @frz a ob xs ea =>
    cases (show u = Value.ref a from rx)
    obtain ⟨_, _, _, n, _, h1⟩ := (show ObjOk X.prog X.w H s.heap a (.frz ob (.lst xs)) from I.hok a _ ea)
    exact PySem.W.kia_one PySem.W.kitx_list I.kIn ⟨_, h1, rfl⟩ e (fun z => nomatch z) h
  | @tup a xs ea =>
    cases (show u = Value.ref a from rx)
    obtain ⟨_, _, _, p⟩ := (show ObjOk X.prog X.w H s.heap a (.tup xs) from I.hok a _ ea)
    obtain ⟨o, h1, h2, _⟩ := p
    exact PySem.W.kia_one PySem.W.kitx_tuple I.kIn ⟨o, h1, h2⟩ e (fun z => nomatch z) h
  | @dK a kvs ea =>
    cases (show u = Value.ref a from rx)
    obtain ⟨_, _, vs, _, p⟩ := (show ObjOk X.prog X.w H s.heap a (.dK kvs) from I.hok a _ ea)
    obtain ⟨o, es, ep, h1, h2, _⟩ := p
    exact PySem.W.kia_one PySem.W.kitx_dict I.kIn ⟨o, h1, h2.1⟩ e (fun z => nomatch z) h
  | @dT a kvs ea =>
    cases (show u = Value.ref a from rx)
    obtain ⟨_, _, xs, _, o, es, ep, h1, h2, _⟩ := (show ObjOk X.prog X.w H s.heap a (.dT kvs) from I.hok a _ ea)
    exact PySem.W.kia_one PySem.W.kitx_dict I.kIn ⟨o, h1, h2.1⟩ e (fun z => nomatch z) h
  | @ins a C dx fs ea cl ha hn htk hm =>
    cases (show u = Value.ref a from rx)
    obtain ⟨mA, O, _⟩ := ins_get I.hok ea
    obtain ⟨od, J, _⟩ := O.look
    exact PySem.W.kia_one (PySem.W.kitx_own (cl.get _) cl.hd ha hn htk hm) I.kIn J e (fun z => nomatch z) h
end
end L2

namespace L2
open PySem PySem.Spec PyProof.Rows

structure Room (k : Nat) (A : Around) : Prop where
  hd : A.handled = none
  dp : A.depth + 3 * k + 5 < recursionLimit
  un : A.units + 16 * k + 200 < cLine
theorem Room.mono {j k : Nat} {A : Around} (r : Room k A) (h : j ≤ k) : Room j A := ⟨r.hd, by have := r.dp; omega, by have := r.un; omega⟩
theorem Room.deeper {k : Nat} {A : Around} (r : Room (k + 1) A) (env : Env) : Room k (A.deeper env) :=
  ⟨r.hd, by have := r.dp; show A.depth + 1 + 3 * k + 5 < _; omega, by have := r.un; show A.units + 3 + 16 * k + 200 < _; omega⟩
theorem Room.in1 {k : Nat} {A : Around} (r : Room (k + 1) A) : Room k A.in1 :=
  ⟨r.hd, by have := r.dp; show A.depth + 3 * k + 5 < _; omega, by have := r.un; show A.units + 1 + 16 * k + 200 < _; omega⟩
theorem make_depth {A : Around} {C : Addr} {us : List Value} {kw : List (Str × Value)} : (A.under (.builtin "type.__call__" ⟨.ref C :: us, kw⟩)).depth = A.depth + 1 := by
  first | rfl | simp [Around.under, Code.weight, Code.isCreation, Code.isGuard, Code.isCaller, Code.frames, Code.isFrame, guardIds]
theorem make_units {A : Around} {C : Addr} {us : List Value} {kw : List (Str × Value)} : (A.under (.builtin "type.__call__" ⟨.ref C :: us, kw⟩)).units = A.units + 1 := by
  first | rfl | simp [Around.under, Code.cUnits, Code.frames, Code.isFrame]
theorem Room.make {k : Nat} {A : Around} (r : Room (k + 1) A) (C : Addr) (us : List Value) (kw : List (Str × Value)) : Room k (A.under (.builtin "type.__call__" ⟨.ref C :: us, kw⟩)) :=
  ⟨r.hd, by have := r.dp; rw [make_depth]; omega, by have := r.un; rw [make_units]; omega⟩
theorem Room.depth {k : Nat} {A : Around} (r : Room k A) : A.depth < recursionLimit := by have := r.dp; omega
theorem Room.units {k : Nat} {A : Around} (r : Room k A) : A.units + 64 < cLine := by have := r.un; omega
theorem Room.units0 {k : Nat} {A : Around} (r : Room k A) : A.units < cLine := by have := r.un; omega

def tNil : TA := fun _ H Q => Q [] H
def tCons (ta : TE) (tr : TA) : TA := fun σ H Q => ta σ H fun x H1 => tr σ H1 fun xs H2 => Q (x :: xs) H2
section
variable {X : Cx} {e : Expr} {es : List Expr} {te : TE} {t : TA} {pos : Pos}
theorem pa_nil : PA X [] tNil := fun _ _ _ _ H Q I h => Calls.spliced_nil ⟨[], H, I, .nil, h⟩
theorem pa_cons (ha : PE X e te) (hr : PA X es t) (hs : starEach (e :: es) X.env = (false, eval e X.env) :: starEach es X.env := by rfl) : PA X (e :: es) (tCons te t) := by
  intro pos pins s σ H Q I h
  rw [hs]
  show wpAny _ _ (spliced ((false, eval e X.env) :: backTo pos (starEach es X.env))) _ _ s
  refine Calls.spliced_cons (thn (ha pins s σ H _ I h) fun u s1 ⟨x, H1, I1, r1, q1⟩ => ?_)
  exact thn (hr pos pins s1 σ H1 _ I1 q1) fun us s2 ⟨xs, H2, I2, r2, q2⟩ => ⟨x :: xs, H2, I2, .cons r1 r2, q2⟩

def tTup (t : TA) : TE := fun σ H Q => t σ H fun xs H1 => xs.length ≤ sizeLine ∧ ∀ p, H1 p = none → Q (.ref p) (upd H1 p (.tup xs))
def tLst (t : TA) : TE := fun σ H Q => t σ H fun xs H1 => xs.length ≤ sizeLine ∧ ∀ p, H1 p = none → Q (.ref p) (upd H1 p (.lst xs))
theorem pe_tup {x1} (h : PA X es t) : PE X (.Tuple es x1 pos) (tTup t) := by
  intro pins s σ H Q I hq
  refine wpAny_Tuple_spliced (thn (h pos pins s σ H _ I hq) fun us s1 ⟨xs, H1, I1, r, z, q⟩ => ⟨by rw [← r.length]; exact z, ?_⟩)
  have hf : H1 s1.heap.objs.size = none := I1.hok.fresh (Nat.le_refl _)
  refine ⟨.ref s1.heap.objs.size, upd H1 s1.heap.objs.size (.tup xs), I1.laid (t' := s1.toks) (fun b u e => Heap.get?_push_of_some _ e) (Nat.le_refl _) ?_, rfl, q _ hf⟩
  exact ⟨z, us, r, ⟨_, Heap.get?_push_size _ rfl, rfl, _, rfl⟩⟩
theorem pe_lst (h : PA X es t) : PE X (.List es pos) (tLst t) := by
  intro pins s σ H Q I hq
  refine wpAny_List_spliced (thn (h pos pins s σ H _ I hq) fun us s1 ⟨xs, H1, I1, r, z, q⟩ => ⟨by rw [← r.length]; exact z, ?_⟩)
  have hf : H1 s1.heap.objs.size = none := I1.hok.fresh (Nat.le_refl _)
  refine ⟨.ref s1.heap.objs.size, upd H1 s1.heap.objs.size (.lst xs), I1.laid (t' := s1.toks) (fun b u e => Heap.get?_push_of_some _ e) (Nat.le_refl _) ?_, rfl, q _ hf⟩
  exact ⟨z, us, 0, r, Heap.get?_push_size _ rfl⟩
end

abbrev Sp := List V → Hp → VK → XK → Prop
abbrev CXT := List Env → Hp → Shared → XK → Value → Shared → Prop

structure Env0 (P : Program) (w : World) (K : PySem.W.Frag) (mg : Str → Option Value) (base : Heap) (A : Around) (outer : List Env) (s : Shared) (H : Hp) : Prop where
  frames : A.frames = some outer
  mod : Mod K mg base
  bs : ∀ b o, base.get? b = some o → s.heap.get? b = some o ∧ H b = none
  bsz : base.objs.size ≤ s.heap.objs.size
  funs : s.heap.FunFrames base outer
  frf : ∀ b ∈ frs outer, H b = none
  hok : HOk P w H s.heap
  bare : AllBare s.gens
def CE (outer : List Env) (P : Program) (w : World) (H : Hp) (s : Shared) (Q : VK) (u : Value) (s' : Shared) : Prop :=
  ∃ v H', s'.os = s.os ∧ AllBare s'.gens ∧ Un (frs outer) [] H H' s.heap s'.heap ∧ HOk P w H' s'.heap ∧ RelV v u ∧ Q v H'
def CR (CX : CXT) (outer : List Env) (P : Program) (w : World) (H : Hp) (s : Shared) (Q : VK) (E : XK) (r : Result) (s' : Shared) : Prop :=
  match r with
  | .ok (.ret u) => CE outer P w H s Q u s'
  | .ok _ => False
  | .error e => CX outer H s E e s'
structure FnOk (P : Program) (w : World) (K : PySem.W.Frag) (mg : Str → Option Value) (base : Heap) (CX : CXT) (k : Nat) (f : Addr) (fd : FuncData) (ps : List Str) (sp : Sp) : Prop where
  len : ∀ vs H Q E, sp vs H Q E → vs.length = ps.length
  run : ∀ (A : Around) (outer : List Env) (s : Shared) (H : Hp) (args : Args) (us : List Value) (vs : List V) (Q : VK) (E : XK), Room k A → Env0 P w K mg base A outer s H → BindsTo s fd args (ps.zip us) → Vals vs us → sp vs H Q E →
    codeAny (model P w) A (.call (.ref f) args) (CR CX outer P w H s Q E) s
theorem FnOk.mono {P : Program} {w : World} {K : PySem.W.Frag} {mg : Str → Option Value} {base : Heap} {CX : CXT} {j k : Nat} {f : Addr} {fd : FuncData} {ps : List Str} {sp : Sp} (F : FnOk P w K mg base CX j f fd ps sp) (h : j ≤ k) :
    FnOk P w K mg base CX k f fd ps sp := ⟨F.len, fun A outer s H args us vs Q E hr => F.run A outer s H args us vs Q E (hr.mono h)⟩
theorem FnOk.imp {P : Program} {w : World} {K : PySem.W.Frag} {mg : Str → Option Value} {base : Heap} {CX : CXT} {k : Nat} {f : Addr} {fd : FuncData} {ps : List Str} {sp sp' : Sp} (F : FnOk P w K mg base CX k f fd ps sp)
    (h : ∀ vs H Q E, sp' vs H Q E → sp vs H Q E) : FnOk P w K mg base CX k f fd ps sp' :=
  ⟨fun vs H Q E q => F.len vs H Q E (h _ _ _ _ q), fun A outer s H args us vs Q E hr he hb hv hs => F.run A outer s H args us vs Q E hr he hb hv (h _ _ _ _ hs)⟩

theorem Env0.make {P : Program} {w : World} {K : PySem.W.Frag} {mg : Str → Option Value} {base : Heap} {A : Around} {outer : List Env} {s : Shared} {H : Hp} (e : Env0 P w K mg base A outer s H) (C : Addr) (us : List Value) (kw : List (Str × Value)) :
    Env0 P w K mg base (A.under (.builtin "type.__call__" ⟨.ref C :: us, kw⟩)) outer s H := ⟨by first | exact e.frames | (simpa [Around.under, Code.envs, Code.isFrame, pushEnvs] using e.frames), e.mod, e.bs, e.bsz, e.funs, e.frf, e.hok, e.bare⟩
theorem Env0.in1 {P : Program} {w : World} {K : PySem.W.Frag} {mg : Str → Option Value} {base : Heap} {A : Around} {outer : List Env} {s : Shared} {H : Hp} (e : Env0 P w K mg base A outer s H) :
    Env0 P w K mg base A.in1 outer s H := ⟨e.frames, e.mod, e.bs, e.bsz, e.funs, e.frf, e.hok, e.bare⟩

section
variable {X : Cx} {pins : List (Addr × Obj)} {σ : St} {H : Hp} {s s' : Shared}
theorem Inv.env0 (I : Inv X pins σ H s) : Env0 X.prog X.w X.K X.mg X.base X.A X.stack s H :=
  ⟨I.ok.frames, I.ok.mod, I.bs, Nat.le_trans I.ok.bsz I.sz, I.stack, I.stkFree, I.hok, I.bare⟩
theorem Inv.after {Q : VK} {u : Value} (I : Inv X pins σ H s) (h : CE X.stack X.prog X.w H s Q u s') : EP X pins σ Q u s' := by
  obtain ⟨v, H', os, bare, un, hok, r, q⟩ := h
  obtain ⟨hh, g, d, t, os'⟩ := s'
  obtain rfl : os' = s.os := os
  exact ⟨v, H', I.call (h' := hh) (g' := g) (d' := d) (t' := t) (ch := []) un hok bare (fun b z => absurd z (by simp)), r, q⟩
end

def tCall (sp : Sp) (dvs : List V) (E : XK) (t : TA) : TE := fun σ H Q => t σ H fun vs H1 => sp (vs ++ dvs) H1 Q E
def tMeth (C : Addr) (m : Str) (sp : Sp) (dvs : List V) (E : XK) (ta : TE) (t : TA) : TE := fun σ H Q => ta σ H fun x H1 => ∃ a dx fs, x = .ref a ∧ H1 a = some (.ins C dx fs) ∧ fs.lookup m = none ∧
  t σ H1 fun vs H2 => sp (x :: (vs ++ dvs)) H2 Q E
def tMake (C : Addr) (sp : Sp) (dvs : List V) (E : XK) (t : TA) : TE := fun σ H Q => t σ H fun vs H1 => ∀ x dx, H1 x = none → H1 dx = none → dx ≠ x →
  sp (.ref x :: (vs ++ dvs)) (upd (upd H1 dx (.own x)) x (.ins C dx [])) (fun v H2 => v = .non ∧ Q (.ref x) H2) E

def Binds (K : PySem.W.Frag) (fd : FuncData) (ps : List Str) (ds : List Value) : Prop :=
  ∀ (s : Shared) (us : List Value), K.In s.heap → (us ++ ds).length = ps.length → BindsTo s fd ⟨us, []⟩ (ps.zip (us ++ ds))
theorem Binds.all {K : PySem.W.Frag} {fd : FuncData} {ps : List Str} (h : ∀ us : List Value, us.length = ps.length → bindArgs fd ⟨us, []⟩ = pure (ps.zip us)) : Binds K fd ps [] := fun s us _ hl => by
  rw [List.append_nil] at hl ⊢
  exact .of_eq (h us hl)

def Passes (CX : CXT) (X : Cx) (E : XK) : Prop := ∀ (pins : List (Addr × Obj)) (σ : St) (H : Hp) (s : Shared) (e : Value) (s' : Shared), Inv X pins σ H s → CX X.stack H s E e s' → X.xe e s'

section
variable {X : Cx} {CX : CXT} {k : Nat} {f C : Addr} {fd : FuncData} {ps : List Str} {sp : Sp} {dvs : List V} {ds : List Value} {E : XK} {x m : Str} {p pos apos : Pos} {e o : Expr} {es : List Expr} {ta : TE} {t : TA}

theorem run_fn {pins : List (Addr × Obj)} {σ : St} {H : Hp} {s : Shared} {Q : VK} {us : List Value} {vs : List V} (F : FnOk X.prog X.w X.K X.mg X.base CX k f fd ps sp) (hr : Room k X.A) (hb : Binds X.K fd ps ds) (hd : Vals dvs ds) (hx : Passes CX X E)
    (I : Inv X pins σ H s) (r : Vals vs us) (h : sp (vs ++ dvs) H Q E) : wpAny (model X.prog X.w) X.A (call (.ref f) us) (EP X pins σ Q) X.xe s := by
  have r2 : Vals (vs ++ dvs) (us ++ ds) := r.append hd
  have hl : (us ++ ds).length = ps.length := by rw [← r2.length]; exact F.len _ _ _ _ h
  refine wpAny_call (codeAny_mono (F.run X.A X.stack s H ⟨us, []⟩ (us ++ ds) (vs ++ dvs) Q E hr I.env0 (hb s us I.kIn hl) r2 h) fun r s' hq => ?_)
  cases r with
  | error e => exact hx pins σ H s e s' I hq
  | ok fl =>
    cases fl with
    | ret u => exact I.after hq
    | next => exact False.elim hq
    | brk => exact False.elim hq
    | cont => exact False.elim hq

theorem pe_call (F : FnOk X.prog X.w X.K X.mg X.base CX k f fd ps sp) (hr : Room k X.A) (hg : Gl X x) (hm : X.mg x = some (.ref f)) (hk : PySem.W.keepIn X.K (.ref f) = true) (hb : Binds X.K fd ps ds) (hd : Vals dvs ds) (hx : Passes CX X E)
    (ha : PA X (e :: es) t) (hdb : (x == ("__debug__" : Str)) = false := by decide) (he : starEach (e :: es) X.env = (false, eval e X.env) :: starEach es X.env := by rfl) (hpl : (backTo pos (starEach es X.env)).any (·.1) = false := by rfl) :
    PE X (.Call (.Name x p) (e :: es) [] pos) (tCall sp dvs E t) := by
  intro pins s σ H Q I h
  refine wpAny_Call_Name_kw (ld_glob I hg hm ?_ hdb)
  refine PySem.W.callWith_K (h₀ := X.base) I.ok.mod.kin hk (thn (ha pos pins s σ H _ I h) fun us s1 ⟨vs, H1, I1, r, q⟩ => ⟨I1.kIn, ?_⟩) he hpl
  exact run_fn F hr hb hd hx I1 r q
theorem pe_call0 (F : FnOk X.prog X.w X.K X.mg X.base CX k f fd ps sp) (hr : Room k X.A) (hg : Gl X x) (hm : X.mg x = some (.ref f)) (hk : PySem.W.keepIn X.K (.ref f) = true) (hb : Binds X.K fd ps ds) (hd : Vals dvs ds) (hx : Passes CX X E)
    (hdb : (x == ("__debug__" : Str)) = false := by decide) : PE X (.Call (.Name x p) [] [] pos) (tCall sp dvs E tNil) := by
  intro pins s σ H Q I h
  refine wpAny_Call_Name_kw (ld_glob I hg hm ?_ hdb)
  exact PySem.W.callWith_K0 I.kIn hk (run_fn (us := []) F hr hb hd hx I .nil h)

theorem pe_meth {pl : Sem Bool} (he : PE X o ta) (c : Cls X.K C) (hm : Meth X.K C m f) (F : FnOk X.prog X.w X.K X.mg X.base CX k f fd ps sp) (hr : Room k X.A) (hb : Binds X.K fd ps ds) (hd : Vals dvs ds) (hx : Passes CX X E) (ha : PA X (e :: es) t)
    (hst : starEach (e :: es) X.env = (false, eval e X.env) :: starEach es X.env := by rfl) (hpl : (backTo pos (starEach es X.env)).any (·.1) = false := by rfl)
    (ht : eval (.Call (.Attribute o m apos) (e :: es) [] pos) X.env = (do
      let ov ← eval o X.env
      standAt apos.atName
      let (f, first) ← holding [ov] (getMethod ov m pl)
      callWith pos f first (backTo pos (starEach (e :: es) X.env)) (backToKw pos (keywordEach [] X.env))) := by rfl) :
    PE X (.Call (.Attribute o m apos) (e :: es) [] pos) (tMeth C m sp dvs E ta t) := by
  intro pins s σ H Q I h
  refine PySem.W.methodCall_KW (pl := pl) (thn (he pins s σ H _ I h) fun u s1 ⟨x, H1, I1, rx, a, dx, fs, ex, ea, l, q⟩ => ?_) ht
  subst ex
  obtain rfl : u = Value.ref a := rx
  refine getmeth_ok I1 ea c hm l ?_
  refine PySem.W.callWith_K (first := [.ref a]) (h₀ := X.base) I.ok.mod.kin hm.kp (thn (ha pos pins s1 σ H1 _ I1 q) fun us s2 ⟨vs, H2, I2, r, q2⟩ => ⟨I2.kIn, ?_⟩) hst hpl
  exact run_fn (us := .ref a :: us) (vs := .ref a :: vs) F hr hb hd hx I2 (.cons rfl r) q2
theorem pe_meth0 {pl : Sem Bool} (he : PE X o ta) (c : Cls X.K C) (hm : Meth X.K C m f) (F : FnOk X.prog X.w X.K X.mg X.base CX k f fd ps sp) (hr : Room k X.A) (hb : Binds X.K fd ps ds) (hd : Vals dvs ds) (hx : Passes CX X E)
    (ht : eval (.Call (.Attribute o m apos) [] [] pos) X.env = (do
      let ov ← eval o X.env
      standAt apos.atName
      let (f, first) ← holding [ov] (getMethod ov m pl)
      callWith pos f first (backTo pos (starEach [] X.env)) (backToKw pos (keywordEach [] X.env))) := by rfl) :
    PE X (.Call (.Attribute o m apos) [] [] pos) (tMeth C m sp dvs E ta tNil) := by
  intro pins s σ H Q I h
  refine PySem.W.methodCall_KW (pl := pl) (thn (he pins s σ H _ I h) fun u s1 ⟨x, H1, I1, rx, a, dx, fs, ex, ea, l, q⟩ => ?_) ht
  subst ex
  obtain rfl : u = Value.ref a := rx
  refine getmeth_ok I1 ea c hm l ?_
  exact PySem.W.callWith_K0 (first := [.ref a]) I1.kIn hm.kp (run_fn (us := [.ref a]) (vs := [.ref a]) F hr hb hd hx I1 (.cons rfl .nil) q)

structure Mk (K : PySem.W.Frag) (C f : Addr) : Prop where
  makes : PySem.W.makesIn K C = true
  init : PySem.W.findIn K (.ref C) "__init__" = some (some (.ref f))
  fn : PySem.W.isFn K (.ref f) = true
  kp : PySem.W.keepIn K (.ref C) = true

theorem run_make {pins : List (Addr × Obj)} {σ : St} {H : Hp} {s : Shared} {Q : VK} {us : List Value} {vs : List V} (M : Mk X.K C f) (F : FnOk X.prog X.w X.K X.mg X.base CX k f fd ps sp) (hr : Room (k + 1) X.A) (hb : Binds X.K fd ps ds) (hd : Vals dvs ds)
    (hx : Passes CX X E) (I : Inv X pins σ H s) (r : Vals vs us)
    (h : ∀ x dx, H x = none → H dx = none → dx ≠ x → sp (.ref x :: (vs ++ dvs)) (upd (upd H dx (.own x)) x (.ins C dx [])) (fun v H2 => v = .non ∧ Q (.ref x) H2) E) :
    wpAny (model X.prog X.w) X.A (call (.ref C) us) (EP X pins σ Q) X.xe s := by
  have hq := h (s.heap.objs.size + 1) s.heap.objs.size (I.hok.fresh (Nat.le_succ _)) (I.hok.fresh (Nat.le_refl _)) (Nat.ne_of_lt (Nat.lt_succ_self _))
  have I2 := Inv.made (C := C) I
  have r2 : Vals (V.ref (s.heap.objs.size + 1) :: (vs ++ dvs)) (Value.ref (s.heap.objs.size + 1) :: (us ++ ds)) := .cons rfl (r.append hd)
  have hl : (Value.ref (s.heap.objs.size + 1) :: us ++ ds).length = ps.length := by
    have e := r2.length
    rw [F.len _ _ _ _ hq] at e
    exact e.symm
  refine wpAny_call (make_map (f := f) I.kIn M.makes M.init (beq_iff_eq.mp M.fn) (codeAny_mono (F.run _ X.stack _ _ ⟨Value.ref (s.heap.objs.size + 1) :: us, []⟩ (Value.ref (s.heap.objs.size + 1) :: (us ++ ds)) _ _ E (hr.make C us [])
    (I2.env0.make C us []) (hb _ (Value.ref (s.heap.objs.size + 1) :: us) I2.kIn hl) r2 hq) fun r s' hq' => ?_))
  cases r with
  | error e => exact hx pins σ _ _ e s' I2 hq'
  | ok fl =>
    cases fl with
    | ret u =>
      obtain ⟨v, H', I3, rv, ev, q3⟩ := I2.after hq'
      subst ev
      exact ⟨rv, ⟨V.ref (s.heap.objs.size + 1), H', I3, rfl, q3⟩⟩
    | next => exact False.elim hq'
    | brk => exact False.elim hq'
    | cont => exact False.elim hq'
theorem pe_make (M : Mk X.K C f) (F : FnOk X.prog X.w X.K X.mg X.base CX k f fd ps sp) (hr : Room (k + 1) X.A) (hg : Gl X x) (hm : X.mg x = some (.ref C)) (hb : Binds X.K fd ps ds) (hd : Vals dvs ds) (hx : Passes CX X E)
    (ha : PA X (e :: es) t) (hdb : (x == ("__debug__" : Str)) = false := by decide) (he : starEach (e :: es) X.env = (false, eval e X.env) :: starEach es X.env := by rfl) (hpl : (backTo pos (starEach es X.env)).any (·.1) = false := by rfl) :
    PE X (.Call (.Name x p) (e :: es) [] pos) (tMake C sp dvs E t) := by
  intro pins s σ H Q I h
  refine wpAny_Call_Name_kw (ld_glob I hg hm ?_ hdb)
  refine PySem.W.callWith_K (h₀ := X.base) I.ok.mod.kin M.kp (thn (ha pos pins s σ H _ I h) fun us s1 ⟨vs, H1, I1, r, q⟩ => ⟨I1.kIn, ?_⟩) he hpl
  exact run_make M F hr hb hd hx I1 r q
theorem pe_make0 (M : Mk X.K C f) (F : FnOk X.prog X.w X.K X.mg X.base CX k f fd ps sp) (hr : Room (k + 1) X.A) (hg : Gl X x) (hm : X.mg x = some (.ref C)) (hb : Binds X.K fd ps ds) (hd : Vals dvs ds) (hx : Passes CX X E)
    (hdb : (x == ("__debug__" : Str)) = false := by decide) : PE X (.Call (.Name x p) [] [] pos) (tMake C sp dvs E tNil) := by
  intro pins s σ H Q I h
  refine wpAny_Call_Name_kw (ld_glob I hg hm ?_ hdb)
  exact PySem.W.callWith_K0 I.kIn M.kp (run_make (us := []) M F hr hb hd hx I .nil h)
end

def PK (X : Cx) (kws : List Keyword) (t : TA) : Prop :=
  ∀ (pos : Pos) (pins : List (Addr × Obj)) (s : Shared) (σ : St) (H : Hp) (Q : List V → Hp → Prop), Inv X pins σ H s → t σ H Q → wpAny (model X.prog X.w) X.A (evalAll ((backToKw pos (keywordEach kws X.env)).map (·.2))) (AP X pins σ Q) X.xe s
section
variable {X : Cx} {CX : CXT} {k : Nat} {f C : Addr} {fd : FuncData} {ps ks : List Str} {sp : Sp} {E : XK} {x m : Str} {p pos apos kpos : Pos} {e o : Expr} {es : List Expr} {kws : List Keyword} {te ta : TE} {t tk : TA} {nm : Option Str}
theorem pk_nil : PK X [] tNil := fun _ _ _ _ H Q I h => wpAny_evalAll_nil ⟨[], H, I, .nil, h⟩
theorem pk_cons (ha : PE X e te) (hr : PK X kws t) : PK X (⟨nm, e, kpos⟩ :: kws) (tCons te t) := by
  intro pos pins s σ H Q I h
  show wpAny _ _ (evalAll ((do let v ← eval e X.env; standAt pos; pure v) :: (backToKw pos (keywordEach kws X.env)).map (·.2))) _ _ s
  refine wpAny_evalAll_cons (wpAny_bind (thn (ha pins s σ H _ I h) fun u s1 ⟨x, H1, I1, r1, q1⟩ => wpAny_bind (wpAny_standAt (wpAny_pure ?_))))
  exact thn (hr pos pins s1 σ H1 _ I1 q1) fun us s2 ⟨xs, H2, I2, r2, q2⟩ => ⟨x :: xs, H2, I2, .cons r1 r2, q2⟩

structure KBinds (K : PySem.W.Frag) (fd : FuncData) (ps ks : List Str) (g : List Value → List Value → List Value) (gV : List V → List V → List V) : Prop where
  to : ∀ (s : Shared) (us ws : List Value), K.In s.heap → (g us ws).length = ps.length → BindsTo s fd ⟨us, ks.zip ws⟩ (ps.zip (g us ws))
  rel : ∀ {vs : List V} {us : List Value} {zs : List V} {ws : List Value}, Vals vs us → Vals zs ws → Vals (gV vs zs) (g us ws)
def tCallK (sp : Sp) (gV : List V → List V → List V) (E : XK) (t tk : TA) : TE := fun σ H Q => t σ H fun vs H1 => tk σ H1 fun zs H2 => sp (gV vs zs) H2 Q E
variable {g : List Value → List Value → List Value} {gV : List V → List V → List V}
theorem run_fnk {pins : List (Addr × Obj)} {σ : St} {H : Hp} {s : Shared} {Q : VK} {us ws : List Value} {vs zs : List V} (F : FnOk X.prog X.w X.K X.mg X.base CX k f fd ps sp) (hr : Room k X.A) (hb : KBinds X.K fd ps ks g gV) (hx : Passes CX X E)
    (I : Inv X pins σ H s) (r : Vals vs us) (rz : Vals zs ws) (h : sp (gV vs zs) H Q E) : wpAny (model X.prog X.w) X.A (call (.ref f) us (ks.zip ws)) (EP X pins σ Q) X.xe s := by
  have r2 := hb.rel r rz
  have hl : (g us ws).length = ps.length := by rw [← r2.length]; exact F.len _ _ _ _ h
  refine wpAny_call (codeAny_mono (F.run X.A X.stack s H ⟨us, ks.zip ws⟩ (g us ws) (gV vs zs) Q E hr I.env0 (hb.to s us ws I.kIn hl) r2 h) fun r s' hq => ?_)
  cases r with
  | error e => exact hx pins σ H s e s' I hq
  | ok fl =>
    cases fl with
    | ret u => exact I.after hq
    | next => exact False.elim hq
    | brk => exact False.elim hq
    | cont => exact False.elim hq
theorem pe_callK (F : FnOk X.prog X.w X.K X.mg X.base CX k f fd ps sp) (hr : Room k X.A) (hg : Gl X x) (hm : X.mg x = some (.ref f)) (hk : PySem.W.keepIn X.K (.ref f) = true) (hb : KBinds X.K fd ps ks g gV) (hx : Passes CX X E)
    (ha : PA X (e :: es) t) (hkw : PK X kws tk) (hall : (backToKw pos (keywordEach kws X.env)).all (·.1.isSome) = true := by rfl) (hks : (backToKw pos (keywordEach kws X.env)).filterMap (·.1) = ks := by rfl)
    (hdb : (x == ("__debug__" : Str)) = false := by decide) (he : starEach (e :: es) X.env = (false, eval e X.env) :: starEach es X.env := by rfl)
    (hpl : ((backTo pos (starEach (e :: es) X.env)).any (·.1) || (backToKw pos (keywordEach kws X.env)).any (·.1.isNone)) = false := by rfl) :
    PE X (.Call (.Name x p) (e :: es) kws pos) (tCallK sp gV E t tk) := by
  intro pins s σ H Q I h
  refine wpAny_Call_Name_kw (ld_glob I hg hm ?_ hdb)
  refine PySem.W.callWith_KW (h₀ := X.base) I.ok.mod.kin hk hall (thn (ha pos pins s σ H _ I h) fun us s1 ⟨vs, H1, I1, r, q⟩ => ?_) hpl he
  refine thn (hkw pos pins s1 σ H1 _ I1 q) fun ws s2 ⟨zs, H2, I2, rz, q2⟩ => ⟨I2.kIn, ?_⟩
  rw [hks]
  exact run_fnk F hr hb hx I2 r rz q2
end

structure FnScope (N P : List Str) (sc : Scope) : Prop where
  kind : sc.kind = .function
  co : sc.isCoroutine = false
  gen : sc.isGenerator = false
  nd : N.Nodup
  pre : N.take P.length = P
  par : ∀ x ∈ P, sc.names.lookup x = some .local ∨ sc.names.lookup x = some .cell
  nofree : ∀ y ∈ sc.names, y.2 ≠ .free

theorem bindL_out {kindOf : Str → Option NameKind} {x : Str} : ∀ {binds : List (Str × Value)} {m : Str → Option Value}, (∀ v, (x, v) ∉ binds) → bindL kindOf binds m x = m x
  | [], _, _ => rfl
  | (n, v) :: r, m, h => by
    unfold bindL
    rw [bindL_out fun w hw => h w (List.mem_cons_of_mem _ hw)]
    split
    · have : x ≠ n := by rintro rfl; exact h v List.mem_cons_self
      simp [this]
    · rfl
theorem bindC_out {kindOf : Str → Option NameKind} {x : Str} : ∀ {binds : List (Str × Value)} {m : Str → Option Value}, (∀ v, (x, v) ∉ binds) → bindC kindOf binds m x = m x
  | [], _, _ => rfl
  | (n, v) :: r, m, h => by
    unfold bindC
    rw [bindC_out fun w hw => h w (List.mem_cons_of_mem _ hw)]
    split
    · rfl
    · have : x ≠ n := by rintro rfl; exact h v List.mem_cons_self
      simp [this]
theorem bindL_get {kindOf : Str → Option NameKind} {x : Str} {v : Value} : ∀ {P : List Str} {vs : List Value} {i : Nat} {m : Str → Option Value}, P.Nodup → P[i]? = some x → vs[i]? = some v → kindOf x = some .local →
    bindL kindOf (P.zip vs) m x = some v
  | [], _, _, _, _, h, _, _ => by simp at h
  | _ :: _, [], _, _, _, _, h, _ => by simp at h
  | p :: P, w :: vs, 0, m, nd, h1, h2, hk => by
    simp at h1 h2; subst h1; subst h2
    show bindL kindOf ((p, w) :: P.zip vs) m p = _
    unfold bindL
    rw [bindL_out fun v hv => (List.nodup_cons.mp nd).1 (List.of_mem_zip hv).1, if_pos hk]
    simp
  | p :: P, w :: vs, i + 1, m, nd, h1, h2, hk => by
    show bindL kindOf ((p, w) :: P.zip vs) m x = _
    unfold bindL
    exact bindL_get (i := i) (List.nodup_cons.mp nd).2 (by simpa using h1) (by simpa using h2) hk
theorem bindC_get {kindOf : Str → Option NameKind} {x : Str} {v : Value} : ∀ {P : List Str} {vs : List Value} {i : Nat} {m : Str → Option Value}, P.Nodup → P[i]? = some x → vs[i]? = some v → kindOf x ≠ some .local →
    bindC kindOf (P.zip vs) m x = some v
  | [], _, _, _, _, h, _, _ => by simp at h
  | _ :: _, [], _, _, _, _, h, _ => by simp at h
  | p :: P, w :: vs, 0, m, nd, h1, h2, hk => by
    simp at h1 h2; subst h1; subst h2
    show bindC kindOf ((p, w) :: P.zip vs) m p = _
    unfold bindC
    rw [bindC_out fun v hv => (List.nodup_cons.mp nd).1 (List.of_mem_zip hv).1, if_neg hk]
    simp
  | p :: P, w :: vs, i + 1, m, nd, h1, h2, hk => by
    show bindC kindOf ((p, w) :: P.zip vs) m x = _
    unfold bindC
    exact bindC_get (i := i) (List.nodup_cons.mp nd).2 (by simpa using h1) (by simpa using h2) hk

def start (N : List Str) (vs : List V) : St := vs.map some ++ List.replicate (N.length - vs.length) none

def cxOf (CX : CXT) (P : Program) (w : World) (K : PySem.W.Frag) (mg : Str → Option Value) (base : Heap) (N : List Str) (qual : Str) (scope : Scope) (f : Addr) (cd : Value) (A : Around) (outer : List Env) (s : Shared) (H : Hp) (E : XK) : Cx where
  prog := P
  w := w
  K := K
  mg := mg
  base := base
  A := A.deeper (envOfC qual scope s.heap.objs.size f cd)
  N := N
  s₀ := s
  H₀ := H
  env := envOfC qual scope s.heap.objs.size f cd
  outer := outer
  stack := envOfC qual scope s.heap.objs.size f cd :: outer
  ex := []
  calm := true
  fn := fun _ => true
  pn := []
  xe := fun e s' => wpAny (model P w) (A.deeper (envOfC qual scope s.heap.objs.size f cd)) (leaving (envOfC qual scope s.heap.objs.size f cd) e) (fun _ s'' => CX outer H s E e s'') (fun e' s'' => CX outer H s E e' s'') s'

theorem cell_has {sc : Scope} {n : Nat} {x : Str} (h : sc.names.lookup x = some .cell) : ∃ c, (cellsFrom n sc.names []).lookup x = some c := by
  have q := PySem.W.cellsFrom_some sc.names n [] (.inl h)
  exact Option.isSome_iff_exists.mp q

theorem inv_start {CX : CXT} {P : Program} {w : World} {K : PySem.W.Frag} {mg : Str → Option Value} {base : Heap} {N ps : List Str} {qual : Str} {scope : Scope} {f : Addr} {cd : Value} {A : Around} {outer : List Env} {s s1 : Shared} {H : Hp} {E : XK} {us : List Value} {vs : List V}
    (S : FnScope N ps scope) (hd : A.handled = none) (e0 : Env0 P w K mg base A outer s H) (hl : vs.length = ps.length) (r : Vals vs us)
    (x : InCallC s s.heap.objs.size (bindL (envOfC qual scope s.heap.objs.size f cd).kindOf (ps.zip us) fun _ => none) (cellsFrom (s.heap.objs.size + 1) scope.names []) (bindC (envOfC qual scope s.heap.objs.size f cd).kindOf (ps.zip us) fun _ => none) s1) :
    Inv (cxOf CX P w K mg base N qual scope f cd A outer s H E) [] (start N vs) H s1 := by
  have hpl : ps.length ≤ N.length := by have := congrArg List.length S.pre; rw [List.length_take] at this; omega
  obtain ⟨h1, tk, rfl, hk⟩ := x.done
  have noA : ∀ b : Addr, b ∉ (cxOf CX P w K mg base N qual scope f cd A outer s H E).ex := fun b z => absurd (show b ∈ ([] : List Addr) from z) (by simp)
  refine ⟨⟨e0.mod, S.kind, rfl, rfl, Nat.le_refl _, fun y z c h1 h2 => ?_, fun y hy => ?_, fun y c _ h => ?_, fun _ => hd, Around.frames_deeper e0.frames, .inr ⟨rfl, rfl⟩, fun b z => absurd z (noA b), e0.bs, e0.bsz, fun b _ _ => noA b, fun b z => absurd z (noA b), e0.funs, e0.frf⟩,
    rfl, e0.bare, Un.kept hk, ⟨_, x.toInCall.ns, fun i y v h1 h2 h3 => ?_⟩, fun y c h => ⟨_, x.cell y c h⟩, e0.hok.fresh (Nat.le_refl _), fun y c h => ?_, fun p hp => absurd (show p ∈ ([] : List (Addr × Obj)) from hp) (by simp), e0.hok.kept hk, ?_⟩
  · exact name_of_addr x.apart (PySem.mem_of_lookup h1) (PySem.mem_of_lookup h2)
  · have hy : scope.names.lookup y = some .cell ∨ scope.names.lookup y = some .free := hy
    rcases hy with hy | hy
    · exact cell_has hy
    · exact absurd rfl (S.nofree _ (PySem.mem_of_lookup hy))
  · exact Nat.le_of_lt (x.above y c (PySem.mem_of_lookup h))
  · have hi : i < vs.length := by
      unfold start at h2
      by_cases hi : i < vs.length
      · exact hi
      · rw [List.getElem?_append_right (by simpa using hi)] at h2
        rw [List.getElem?_replicate] at h2
        split at h2 <;> cases h2
    have ha : vs[i]? = some v := by
      unfold start at h2
      rw [List.getElem?_append_left (by simpa using hi), List.getElem?_map] at h2
      cases e : vs[i]? with
      | none => rw [e] at h2; cases h2
      | some a => rw [e] at h2; cases h2; rfl
    obtain ⟨u, hu, rv⟩ := r.get ha
    have hp : ps[i]? = some y := by
      rw [← S.pre, List.getElem?_take_of_lt (by omega)]; exact h1
    have ndP : ps.Nodup := by rw [← S.pre]; exact S.nd.sublist (List.take_sublist _ _)
    refine ⟨u, rv, ?_⟩
    rcases S.par y (List.mem_of_getElem? hp) with k | k
    · exact .inl ⟨k, bindL_get ndP hp hu k⟩
    · obtain ⟨c, e⟩ := cell_has (n := s.heap.objs.size + 1) k
      refine .inr ⟨.inl k, c, e, ?_⟩
      have q := x.cell y c e
      rw [bindC_get ndP hp hu (by show scope.names.lookup y ≠ _; rw [k]; decide)] at q
      exact q
  · exact e0.hok.fresh (Nat.le_of_lt (x.above y c (PySem.mem_of_lookup h)))
  · unfold start
    show _ = N.length
    rw [List.length_append, List.length_map, List.length_replicate]
    omega

theorem fn_of {CX : CXT} {P : Program} {w : World} {K : PySem.W.Frag} {mg : Str → Option Value} {base : Heap} {k : Nat} {f : Addr} {name qual : Str} {params : Arguments} {body : List Stmt} {scope : Scope} {dV kV doc pm cdv ct oc : Value} {an od : Option Addr}
    {osl : Array (Option Value)} {N ps : List Str} {sp : Sp} (lk : K.lookup f = some ⟨oc, od, .func (PySem.W.fnOf name qual params body scope dV kV doc pm an cdv ct), osl⟩) (hcd : PySem.W.codeIn K cdv qual = true) (S : FnScope N ps scope)
    (len : ∀ vs H Q E, sp vs H Q E → vs.length = ps.length)
    (hbody : ∀ (A : Around) (outer : List Env) (s : Shared) (H : Hp) (vs : List V) (Q : VK) (E : XK), Room k (A.deeper (envOfC qual scope s.heap.objs.size f cdv)) → sp vs H Q E →
      ∃ t, PSs (cxOf CX P w K mg base N qual scope f cdv A outer s H E) body t ∧ t { nx := fun _ H' => Q .non H', rt := Q } (start N vs) H) :
    FnOk P w K mg base CX (k + 1) f (PySem.W.fnOf name qual params body scope dV kV doc pm an cdv ct) ps sp := by
  refine ⟨len, fun A outer s H args us vs Q E hr e0 hb r hsp => ?_⟩
  have hl := len _ _ _ _ hsp
  have KX : K.In s.heap := e0.mod.kin.keeps fun b o e => (e0.bs b o e).1
  have lim : s.heap.NoLimit := e0.mod.nolimit.keeps fun b o e => (e0.bs b o e).1
  have hkind : ∀ y ∈ ps.zip us, scope.names.lookup y.1 = some .local ∨ (scope.names.lookup y.1 = some .cell ∧ ((cellsFrom (s.heap.objs.size + 1) scope.names []).lookup y.1).isSome = true) := fun ⟨n, v⟩ hy => by
    rcases S.par n (List.of_mem_zip hy).1 with q | q
    · exact .inl q
    · exact .inr ⟨q, PySem.W.cellsFrom_some _ _ _ (.inl q)⟩
  refine codeAny_call_function hr.depth (KX _ _ lk) rfl S.co S.gen rfl (PySem.W.codeRec_of KX hcd) (hb _ _ _ _ ?_)
  refine wpAny_newFunctionEnv_cells S.kind hkind fun env he s1 x => ?_
  subst he
  refine ⟨lim.keeps x.toInCall.keep, codeAny_func ?_⟩
  obtain ⟨t, ht, hq⟩ := hbody A outer s H vs Q E (hr.deeper _) hsp
  have I : Inv (cxOf CX P w K mg base N qual scope f cdv A outer s H E) [] (start N vs) H s1 := inv_start S hr.hd e0 hl r x
  refine wpAny_mono (ht [] s1 (start N vs) H _ I hq) (fun fl s' hs => ?_) fun e s' hs => hs
  have fin : ∀ {σ' : St} {H' : Hp} {v : V} {u : Value}, Inv (cxOf CX P w K mg base N qual scope f cdv A outer s H E) [] σ' H' s' → RelV v u → Q v H' → CE outer P w H s Q u s' :=
    fun {σ' H' v u} J rv q => ⟨v, H', J.os, J.bare, J.base, J.hok, rv, q⟩
  cases fl with
  | ret u =>
    obtain ⟨v, σ', H', J, rv, q⟩ := hs
    exact fin J rv q
  | next =>
    obtain ⟨σ', H', J, q⟩ := hs
    exact fin (v := V.non) (u := Value.none) J rfl q
  | brk =>
    obtain ⟨_, _, _, q⟩ := hs
    exact False.elim q
  | cont =>
    obtain ⟨_, _, _, q⟩ := hs
    exact False.elim q
end L2

namespace L2
open PySem PySem.Spec PyProof.Rows
section
variable {X : Cx} {x : Str} {p pos : Pos} {e : Expr} {es : List Expr} {t : TA} {id T : String} {r : List V → Hp → VK → Prop}

def tCB (r : List V → Hp → VK → Prop) (t : TA) : TE := fun σ H Q => t σ H fun vs H1 => r vs H1 Q
theorem pe_callB (hc : CallR X (.builtin id) r) (hg : Gl X x) (hm : X.mg x = none) (hv : bootBuiltins x = some (.builtin id)) (ha : PA X (e :: es) t) (hn : x ≠ "__name__" := by decide) (hdb : (x == ("__debug__" : Str)) = false := by decide)
    (he : starEach (e :: es) X.env = (false, eval e X.env) :: starEach es X.env := by rfl) (hpl : (backTo pos (starEach es X.env)).any (·.1) = false := by rfl) : PE X (.Call (.Name x p) (e :: es) [] pos) (tCB r t) := by
  intro pins s σ H Q I h
  refine wpAny_Call_Name_kw (ld_blt I hg hm hv ?_ hn hdb)
  exact PyProof.Rows.callWith_builtin1 (thn (ha pos pins s σ H _ I h) fun us s1 ⟨vs, H1, I1, r1, q1⟩ => hc pins s1 σ H1 vs us Q I1 r1 q1) he hpl
theorem pe_callTy (hc : CallR X (.type T) r) (hg : Gl X x) (hm : X.mg x = none) (hv : bootBuiltins x = some (.type T)) (ha : PA X (e :: es) t) (hn : x ≠ "__name__" := by decide) (hdb : (x == ("__debug__" : Str)) = false := by decide)
    (he : starEach (e :: es) X.env = (false, eval e X.env) :: starEach es X.env := by rfl) (hpl : (backTo pos (starEach es X.env)).any (·.1) = false := by rfl) : PE X (.Call (.Name x p) (e :: es) [] pos) (tCB r t) := by
  intro pins s σ H Q I h
  refine wpAny_Call_Name_kw (ld_blt I hg hm hv ?_ hn hdb)
  exact PyProof.Rows.callWith_type1 (thn (ha pos pins s σ H _ I h) fun us s1 ⟨vs, H1, I1, r1, q1⟩ => hc pins s1 σ H1 vs us Q I1 r1 q1) he hpl
theorem pe_callTy0 (hc : CallR X (.type T) r) (hg : Gl X x) (hm : X.mg x = none) (hv : bootBuiltins x = some (.type T)) (hn : x ≠ "__name__" := by decide) (hdb : (x == ("__debug__" : Str)) = false := by decide) :
    PE X (.Call (.Name x p) [] [] pos) (tCB r tNil) := by
  intro pins s σ H Q I h
  refine wpAny_Call_Name_kw (ld_blt I hg hm hv ?_ hn hdb)
  exact PyProof.Rows.callWith_type0 (hc pins s σ H [] [] Q I .nil h)
end
end L2

namespace HT
open PySem PyProof.Rows

def lexLt : List Int → List Int → Bool
  | [], [] => false
  | [], _ :: _ => true
  | _ :: _, [] => false
  | x :: xs, y :: ys => if x = y then lexLt xs ys else decide (x < y)
theorem lexLt_cons (x y : Int) (xs ys : List Int) : lexLt (x :: xs) (y :: ys) = if x = y then lexLt xs ys else decide (x < y) := rfl
theorem lexLt_nil_nil : lexLt [] [] = false := rfl
theorem lexLt_nil_cons (y : Int) (ys : List Int) : lexLt [] (y :: ys) = true := rfl
theorem lexLt_cons_nil (x : Int) (xs : List Int) : lexLt (x :: xs) [] = false := rfl

theorem eqAt_int (A : Around) (s : Shared) (a : Int) (t : Tok) (c : Int) (u : Tok) : ∃ e, SeqAt.EqAt A s (.int a t) (.int c u) e ∧ (e = true ↔ a = c) :=
  ⟨(a == c), SeqAt.EqAt.int_int a t c u, by simp⟩
theorem rcLt_int (A : Around) (s : Shared) (a : Int) (t : Tok) (c : Int) (u : Tok) (prog : Program) (w : World) (E : Value → Shared → Prop) (Q : Value → Shared → Prop) (h : Q (.bool (decide (a < c))) s) :
    wpAny (model prog w) A (richCompare .Lt (.int a t) (.int c u)) Q E s :=
  (PyProof.Rows.lt_int h : wpAny (model prog w) A (compareOp .Lt (.int a t) (.int c u)) Q E s)

section
open PySem.SeqAt
open PySem.AutoSeq1 (wpAny_loadPart')
open PySem.MeetsSeq PySem.MeetsSeq2 PySem.MeetsSeq3

theorem tuple_lt_ints (l b : Addr) (items items2 : Array Value) (n n2 : Nat) (dd dd2 : Option Addr) (sl sl2 : Array (Option Value)) (ns ms : List Int) (hi : IntsAre items.toList ns) (hj : IntsAre items2.toList ms) :
    Meets (Builtin.«tuple.__lt__» ⟨[.ref l, .ref b], []⟩)
      (fun _ R s => s.heap.get? l = some { cls := .type "tuple", dict := dd, data := .seq items n, slots := sl } ∧ s.heap.get? b = some { cls := .type "tuple", dict := dd2, data := .seq items2 n2, slots := sl2 } ∧
        R (.ok (.ret (.bool (lexLt ns ms)))) s) :=
  .of_wp fun prog w A R s h => by
    obtain ⟨hp, g, d, tk, os⟩ := s; obtain ⟨hl, hb, h⟩ := h
    have f2 := AutoSeq1.sub_tuple_tuple
    have z1 : items.size = ns.length := by rw [← hi.length]; simp
    have z2 : items2.size = ms.length := by rw [← hj.length]; simp
    wp_walk using wpAny_loadPart' hl, wpAny_loadPart' hb, wpAny_forIn_list _ (fun rest b s' => b.1 = none ∧ s' = ⟨hp, g, d, tk, os⟩ ∧ ∃ (vs ws : List Value) (ns' ms' : List Int), rest = vs.zip ws ∧
      IntsAre vs ns' ∧ IntsAre ws ms' ∧ ns'.length + items2.size = ms'.length + items.size ∧ R (.ok (.ret (.bool (lexLt ns' ms')))) ⟨hp, g, d, tk, os⟩) _
    case turn =>
      rintro ⟨y, x⟩ rest b s' ⟨hb', rfl, vs, ws, ns', ms', hz, hvi, hwi, hlen, hR⟩
      cases hvi with
      | nil => rw [List.zip_nil_left] at hz; cases hz
      | cons a t hvi' =>
        cases hwi with
        | nil => rw [List.zip_nil_right] at hz; cases hz
        | cons c u hwi' =>
          rw [List.zip_cons_cons] at hz
          injection hz with hyx hrest
          injection hyx with hy hx
          subst hy hx
          rw [lexLt_cons] at hR
          simp only [List.length_cons] at hlen
          obtain ⟨e, he, hiff⟩ := eqAt_int A.in1 ⟨hp, g, d, tk, os⟩ a t c u
          refine wpAny_bind (he prog w _ _ ?_)
          cases e with
          | true =>
            rw [if_pos (hiff.mp rfl)] at hR
            wp_walk
            exact ⟨rfl, rfl, _, _, _, _, hrest, hvi', hwi', by omega, hR⟩
          | false =>
            rw [if_neg (fun q => absurd (hiff.mpr q) Bool.false_ne_true)] at hR
            have hri := rcLt_int A.in1 ⟨hp, g, d, tk, os⟩ a t c u prog w
            wp_walk using hri
            exact ⟨_, rfl, by simpa using hR⟩
    case fin =>
      rintro ⟨b1, b2⟩ s' ⟨hb', rfl, vs, ws, ns', ms', hz, hvi, hwi, hlen, hR⟩
      simp only at hb'
      subst hb'
      have hv : lexLt ns' ms' = decide (items.size < items2.size) := by
        cases hvi with
        | nil =>
          cases hwi with
          | nil =>
            simp only [List.length_nil] at hlen
            rw [lexLt_nil_nil]
            exact (decide_eq_false (by omega)).symm
          | cons c u hw =>
            simp only [List.length_nil, List.length_cons] at hlen
            rw [lexLt_nil_cons]
            exact (decide_eq_true (by omega)).symm
        | cons a t hv =>
          cases hwi with
          | nil =>
            simp only [List.length_nil, List.length_cons] at hlen
            rw [lexLt_cons_nil]
            exact (decide_eq_false (by omega)).symm
          | cons c u hw =>
            rw [List.zip_cons_cons] at hz
            cases hz
      rw [hv] at hR
      wp_walk
      exact ⟨_, rfl, by simpa [Builtin.Tuple.tupleCompareSizes] using hR⟩
    case h =>
      exact ⟨rfl, rfl, items.toList, items2.toList, ns, ms, rfl, hi, hj, by omega, h⟩
end

section
variable {prog : Program} {w : World} {A : Around} {E : Value → Shared → Prop} {s : Shared}

theorem lt_tupInts {l b : Addr} {items items2 : Array Value} {ns ms : List Int} {Q : Value → Shared → Prop} (hl : IsTup s.heap l items) (hb : IsTup s.heap b items2) (hi : IntsAre items.toList ns) (hj : IntsAre items2.toList ms)
    (hu : A.units < cLine) (h : Q (.bool (lexLt ns ms)) s) : wpAny (model prog w) A (compareOp .Lt (.ref l) (.ref b)) Q E s := by
  obtain ⟨⟨cls, dd, data, sl⟩, ho, hc, n, hd⟩ := id hl
  obtain ⟨⟨cls2, dd2, data2, sl2⟩, ho2, hc2, n2, hd2⟩ := id hb
  simp only at hc hd hc2 hd2
  subst hc hd hc2 hd2
  exact richCompare_meets_room (op := .Lt) ⟨_, ho, rfl⟩ ⟨_, ho2, rfl⟩ PySem.F.slot_tuple_lt PySem.F.entry_tuple_lt (PySem.F.args_tuple_lt_2 _ _) (tuple_lt_ints l b items items2 n n2 dd dd2 sl sl2 ns ms hi hj)
    ⟨ho, ho2, show Value.bool (lexLt ns ms) ≠ Value.notImplemented ∧ Q (.bool (lexLt ns ms)) s from ⟨(fun x => nomatch x), h⟩⟩ hu

theorem cat_tup {t b : Addr} {vs ws : List Value} {Q : Value → Shared → Prop} (ht : IsTup s.heap t vs.toArray) (hb : IsTup s.heap b ws.toArray) (hv : vs ≠ [])
    (h1 : ws = [] → Q (.ref t) s) (h2 : ws ≠ [] → Q (.ref s.heap.objs.size) { s with heap := s.heap.push { cls := .type "tuple", data := .seq (vs ++ ws).toArray } })
    (hsz : vs.length + ws.length ≤ sizeLine) : wpAny (model prog w) A (binaryOp .Add (.ref t) (.ref b)) Q E s := by
  obtain ⟨⟨cls, dd, data, sl⟩, ho, hc, n, hd⟩ := id ht
  obtain ⟨⟨cls2, dd2, data2, sl2⟩, ho2, hc2, n2, hd2⟩ := id hb
  simp only at hc hd hc2 hd2
  subst hc hd hc2 hd2
  have e : vs.toArray ++ ws.toArray = (vs ++ ws).toArray := by simp
  by_cases hw : ws = []
  · exact concat_meets ⟨_, ho, rfl⟩ ⟨_, ho2, rfl⟩ noFill_tuple_add seq_tuple_add PySem.F.slot_tuple_add PySem.F.entry_tuple_add (PySem.F.args_tuple_add_2 _ _)
      (tuple_addW1 t b vs.toArray ws.toArray n n2 dd dd2 sl sl2 (by simpa using hv) (by simp [hw])) ⟨ho, ho2, h1 hw⟩
  · refine concat_meets ⟨_, ho, rfl⟩ ⟨_, ho2, rfl⟩ noFill_tuple_add seq_tuple_add PySem.F.slot_tuple_add PySem.F.entry_tuple_add (PySem.F.args_tuple_add_2 _ _)
      (tuple_addW2 t b vs.toArray ws.toArray n n2 dd dd2 sl sl2 (by simpa using hv) (by simpa using hw) (by rw [List.size_toArray, List.size_toArray]; exact hsz)) ⟨ho, ho2, ?_⟩
    rw [e]
    exact h2 hw

def sIx (n d : Nat) : Option Int → Nat
  | none => d
  | some v => if v < 0 then (v + (n : Int)).toNat else min v.toNat n
theorem sIx_none (n d : Nat) : sIx n d none = d := rfl
theorem sIx_nat (n d k : Nat) : sIx n d (some (k : Int)) = min k n := by
  show (if (k : Int) < 0 then ((k : Int) + (n : Int)).toNat else min (k : Int).toNat n) = min k n
  rw [if_neg (by omega), Int.toNat_natCast]
theorem sIx_le (n d : Nat) (hd : d ≤ n) (o : Option Int) : sIx n d o ≤ n := by
  cases o with
  | none => exact hd
  | some v =>
    show (if v < 0 then (v + (n : Int)).toNat else min v.toNat n) ≤ n
    by_cases hv : v < 0
    · rw [if_pos hv]; omega
    · rw [if_neg hv]; exact Nat.min_le_right _ _
theorem clip_eq (v : Int) (n d : Nat) : (if v < 0 then max (v + (n : Int)) 0 else min v (n : Int)) = ((sIx n d (some v) : Nat) : Int) := by
  show (if v < 0 then max (v + (n : Int)) 0 else min v (n : Int)) = (((if v < 0 then (v + (n : Int)).toNat else min v.toNat n) : Nat) : Int)
  by_cases hv : v < 0
  · simp only [if_pos hv]; omega
  · simp only [if_neg hv]; omega
theorem adjust_gen (lo hi : Option Int) (n : Nat) : Builtin.Slice.sliceAdjust lo hi 1 (n : Int) = (((sIx n 0 lo : Nat) : Int), ((sIx n n hi : Nat) : Int)) := by
  have h1 : ¬ ((1 : Int) < 0) := by omega
  unfold Builtin.Slice.sliceAdjust
  simp only [h1, if_false]
  refine Prod.ext ?_ ?_
  · cases lo with
    | none => rfl
    | some v => exact clip_eq v n 0
  · cases hi with
    | none => rfl
    | some v => exact clip_eq v n n
theorem places_gen (i j : Nat) : Builtin.Slice.slicePlaces (i : Int) (j : Int) 1 = j - i := by
  unfold Builtin.Slice.slicePlaces
  have h1 : (1 : Int) > 0 := by omega
  simp only [h1, if_true, Int.ediv_one]
  split <;> omega
theorem slicePart_ {v : Value} {o : Option Int} {Q : Option Int → Shared → Prop} (p : IsPart v o) (h : Q o s) : wpAny (model prog w) A (Builtin.Slice.slicePartIndex v) Q E s := by
  cases p with
  | none => exact slicePart_none h
  | int i t => exact slicePart_int h
theorem sliceApplied_gen {sl : Addr} {vl vu : Value} {lo hi : Option Int} {n : Nat} {Q : Int × Int × Nat → Shared → Prop} (hs : s.heap.IsSliceOf sl vl vu .none) (pl : IsPart vl lo) (pu : IsPart vu hi)
    (h : Q (((sIx n 0 lo : Nat) : Int), 1, sIx n n hi - sIx n 0 lo) s) : wpAny (model prog w) A (Builtin.Slice.sliceApplied (.ref sl) (pure (n : Int))) Q E s := by
  obtain ⟨os, hos, hcs, hds⟩ := id hs
  unfold Builtin.Slice.sliceApplied Builtin.Slice.sliceFields
  refine wpAny_bind (wpAny_bind (wpAny_field hos hds (x := vl) rfl (wpAny_bind (wpAny_field hos hds (x := vu) rfl (wpAny_bind (wpAny_field hos hds (x := .none) rfl (wpAny_pure ?_)))))))
  refine wpAny_bind (slicePart_none ?_)
  show wpAny _ _ (if ((1 : Int) == 0) = true then _ else _) _ _ s
  rw [if_neg (by decide)]
  refine wpAny_bind (slicePart_ pl (wpAny_bind (slicePart_ pu (wpAny_bind (wpAny_pure ?_)))))
  show wpAny _ _ (match Builtin.Slice.sliceAdjust lo hi 1 (n : Int) with | (lo, hi) => pure (lo, (1 : Int), Builtin.Slice.slicePlaces lo hi 1)) _ _ s
  rw [adjust_gen lo hi n]
  show wpAny _ _ (pure (((sIx n 0 lo : Nat) : Int), (1 : Int), Builtin.Slice.slicePlaces ((sIx n 0 lo : Nat) : Int) ((sIx n n hi : Nat) : Int) 1)) _ _ s
  rw [places_gen]
  exact wpAny_pure h
theorem pick_gen (xs : Array Value) (i k : Nat) : ((List.range k).filterMap fun (m : Nat) => xs[((i : Int) + (m : Int) * 1).toNat]?).toArray = ((xs.toList.drop i).take k).toArray := by
  have e : (fun (m : Nat) => xs[((i : Int) + (m : Int) * 1).toNat]?) = fun m => xs[i + m]? := by
    funext m
    have : ((i : Int) + (m : Int) * 1).toNat = i + m := by omega
    rw [this]
  rw [e]
  have := pick_run xs i k
  rw [List.filterMap_map] at this
  have e2 : ((fun x => xs[x]?) ∘ fun x => i + x) = fun m => xs[i + m]? := rfl
  rw [e2] at this
  rw [this]

theorem getItem_tuple_cut {t sl : Addr} {items : Array Value} {vl vu : Value} {lo hi : Option Int} {Q : Value → Shared → Prop} (ht : IsTup s.heap t items) (hs : s.heap.IsSliceOf sl vl vu .none) (pl : IsPart vl lo) (pu : IsPart vu hi)
    (hw : ¬ (sIx items.size 0 lo = 0 ∧ sIx items.size items.size hi = items.size))
    (h : Q (.ref s.heap.objs.size) { s with heap := s.heap.push { cls := .type "tuple", data := .seq ((items.toList.drop (sIx items.size 0 lo)).take (sIx items.size items.size hi - sIx items.size 0 lo)).toArray } })
    (hsz : items.size ≤ sizeLine) : wpAny (model prog w) A (getItem (.ref t) (.ref sl)) Q E s := by
  have htake : sizeOk (.seq ((items.toList.drop (sIx items.size 0 lo)).take (sIx items.size items.size hi - sIx items.size 0 lo)).toArray) := by
    show ((items.toList.drop (sIx items.size 0 lo)).take (sIx items.size items.size hi - sIx items.size 0 lo)).toArray.size ≤ sizeLine
    rw [List.size_toArray, List.length_take, List.length_drop, Array.length_toList]
    omega
  have hj : sIx items.size items.size hi ≤ items.size := sIx_le _ _ (Nat.le_refl _) hi
  obtain ⟨os, hos, hcs, hds⟩ := id hs
  have hTs : s.TypeIs (.ref sl) "slice" := ⟨os, hos, hcs⟩
  unfold getItem
  try with_reducible refine wpAny_holding ?_
  first | refine wpAny_bind (wpAny_pure ?_) | skip
  refine wpAny_bind (wpAny_sequenceKey ht.typeIs (by decide) ?_)
  refine wpAny_bind (wpAny_callSpecial?_slot (name := Str.ofString "__getitem__") ht.typeIs PyProof.Rows.slot_tuple_getitem
    (wpAny_call_entry PyProof.Rows.slot_tuple_getitem ht.typeIs entry_tuple_getitem ?_ (args_tuple_getitem _ _)))
  show wpAny _ _ (Builtin.Tuple.tupleItemsOf (.ref t) >>= _) _ _ s
  refine wpAny_bind (tupleItemsOf_ ht ?_)
  refine wpAny_bind (wpAny_typeOf hTs ?_)
  rw [if_pos (by decide)]
  refine wpAny_bind (sliceApplied_gen hs pl pu ?_)
  have hno : ¬ ((((sIx items.size 0 lo : Nat) : Int) == 0 && (1 : Int) == 1 && (sIx items.size items.size hi - sIx items.size 0 lo) == items.size) = true) := by
    intro q
    rw [Bool.and_eq_true, Bool.and_eq_true] at q
    have q1 : ((sIx items.size 0 lo : Nat) : Int) = 0 := eq_of_beq q.1.1
    have q2 : sIx items.size items.size hi - sIx items.size 0 lo = items.size := eq_of_beq q.2
    exact hw ⟨by omega, by omega⟩
  show wpAny _ _ (if (((sIx items.size 0 lo : Nat) : Int) == 0 && (1 : Int) == 1 && (sIx items.size items.size hi - sIx items.size 0 lo) == items.size) = true then _ else _) _ _ s
  rw [if_neg hno, pick_gen]
  first
    | exact wpAny_bind (m := Builtin.Tuple.tupleExact _) (wpAny_newObj_type (wpAny_pure ⟨_, rfl, wpAny_pure h⟩) htake)
    | exact wpAny_bind (m := Builtin.Tuple.tupleExact _) (wpAny_newObj_type (wpAny_bind (wpAny_pure (wpAny_pure ⟨_, rfl, wpAny_pure h⟩))) htake)
    | exact wpAny_bind (wpAny_bind (m := Builtin.Tuple.tupleExact _) (wpAny_newObj_type (wpAny_pure (wpAny_pure ⟨_, rfl, wpAny_pure h⟩)) htake))
    | exact wpAny_bind (wpAny_bind (m := Builtin.Tuple.tupleExact _) (wpAny_newObj_type (wpAny_pure ⟨_, rfl, wpAny_pure h⟩) htake))
end
end HT

namespace L2
open PySem PySem.Spec PyProof.Rows

abbrev TO := St → Hp → (Option Int → Hp → Prop) → Prop
def PO (X : Cx) (e : Option Expr) (t : TO) : Prop :=
  ∀ (pins : List (Addr × Obj)) (s : Shared) (σ : St) (H : Hp) (Q : Option Int → Hp → Prop), Inv X pins σ H s → t σ H Q →
    wpAny (model X.prog X.w) X.A (evalPart e X.env) (fun u s' => ∃ o H', Inv X pins σ H' s' ∧ IsPart u o ∧ Q o H') X.xe s
def tNoPart : TO := fun _ H Q => Q none H
def tPart (t : TE) : TO := fun σ H Q => t σ H fun x H1 => ∃ i, x = .int i ∧ Q (some i) H1

theorem intsAre_of {ns : List Int} : ∀ {us : List Value}, Vals (ns.map V.int) us → IntsAre us ns := by
  induction ns with
  | nil => intro us r; rw [List.map_nil] at r; cases r; exact .nil
  | cons n ns ih =>
    intro us r
    rw [List.map_cons] at r
    cases r with
    | cons r1 r2 =>
      obtain ⟨t, e⟩ := r1
      subst e
      exact .cons n t (ih r2)

section
variable {X : Cx} {e : Expr} {te : TE} {lo hi : Option Expr} {tl th : TO} {pos p2 : Pos}

theorem po_none : PO X none tNoPart := by
  intro pins s σ H Q I h
  rw [evalPart_none]
  exact wpAny_pure ⟨none, H, I, .none, h⟩
theorem po_some (h : PE X e te) : PO X (some e) (tPart te) := by
  intro pins s σ H Q I hw
  rw [evalPart_some]
  refine thn (h pins s σ H _ I hw) fun u s1 ⟨x, H1, I1, r1, q1⟩ => ?_
  obtain ⟨i, rfl, q⟩ := q1
  obtain ⟨t, rfl⟩ := r1
  exact ⟨some i, H1, I1, .int i t, q⟩

def SlR (X : Cx) (r : V → Option Int → Option Int → Hp → VK → Prop) : Prop :=
  ∀ (pins : List (Addr × Obj)) (s : Shared) (σ : St) (H : Hp) (x : V) (v vl vu : Value) (lo hi : Option Int) (sl : Addr) (Q : VK), Inv X pins σ H s → RelV x v → s.heap.IsSliceOf sl vl vu .none → IsPart vl lo → IsPart vu hi → r x lo hi H Q →
    ∃ T id, typeLookup (.type T) "__getitem__" = pure (some (.builtin id)) ∧ s.TypeIs v T ∧ wpAny (model X.prog X.w) X.A (getItem v (.ref sl)) (EP X pins σ Q) X.xe s
theorem SlR.or {r r' : V → Option Int → Option Int → Hp → VK → Prop} (h : SlR X r) (h' : SlR X r') : SlR X (fun x lo hi H Q => r x lo hi H Q ∨ r' x lo hi H Q) := by
  intro pins s σ H x v vl vu lo hi sl Q I rx hs pl pu q
  rcases q with q | q
  · exact h pins s σ H x v vl vu lo hi sl Q I rx hs pl pu q
  · exact h' pins s σ H x v vl vu lo hi sl Q I rx hs pl pu q
def tSl (r : V → Option Int → Option Int → Hp → VK → Prop) (te : TE) (tl th : TO) : TE := fun σ H Q => te σ H fun x H1 => tl σ H1 fun l H2 => th σ H2 fun u H3 => r x l u H3 Q
theorem pe_slice {r : V → Option Int → Option Int → Hp → VK → Prop} (hr : SlR X r) (he : PE X e te) (hl : PO X lo tl) (hu : PO X hi th) : PE X (.Subscript e (.Slice lo hi none p2) pos) (tSl r te tl th) := by
  intro pins s σ H Q I h
  refine Subscript_ (thn (he pins s σ H _ I h) fun v s1 ⟨x, H1, I1, r1, q1⟩ => ?_)
  refine wpAny_Slice (thn (hl pins s1 σ H1 _ I1 q1) fun vl s2 ⟨l, H2, I2, pl, q2⟩ => thn (hu pins s2 σ H2 _ I2 q2) fun vu s3 ⟨u, H3, I3, pu, q3⟩ => ?_)
  rw [evalPart_none]
  refine wpAny_pure ?_
  have I4 : Inv X pins σ H3 { s3 with heap := s3.heap.push { cls := .type "slice", data := .fields #[vl, vu, .none] } } := I3.kept (t' := s3.toks) fun b ob q => Heap.get?_push_of_some _ q
  obtain ⟨T, id, hT, ht, hg⟩ := hr pins { s3 with heap := s3.heap.push { cls := .type "slice", data := .fields #[vl, vu, .none] } } σ H3 x v vl vu l u s3.heap.objs.size Q I4 r1 (Heap.IsSliceOf.new ..) pl pu q3
  show wpAny (model X.prog X.w) X.A (subscriptTail e (.Slice lo hi none p2) v (.ref s3.heap.objs.size)) (EP X pins σ Q) X.xe { s3 with heap := s3.heap.push { cls := .type "slice", data := .fields #[vl, vu, .none] } }
  exact tail_any (ops := [.ref s3.heap.objs.size, v]) ht hT hg (by with_unfolding_all rfl)

def cutV (xs : List V) (lo hi : Option Int) : List V := (xs.drop (HT.sIx xs.length 0 lo)).take (HT.sIx xs.length xs.length hi - HT.sIx xs.length 0 lo)
theorem cutV_length (xs : List V) (lo hi : Option Int) : (cutV xs lo hi).length ≤ xs.length := by
  unfold cutV
  rw [List.length_take, List.length_drop]
  omega
def rSlT (K : PySem.W.Frag) : V → Option Int → Option Int → Hp → VK → Prop := fun x lo hi H Q => ∃ a xs, x = .ref a ∧ SqT K H a xs ∧
  ¬ (HT.sIx xs.length 0 lo = 0 ∧ HT.sIx xs.length xs.length hi = xs.length) ∧ ∀ p, H p = none → Q (.ref p) (upd H p (.tup (cutV xs lo hi)))
theorem sl_tup : SlR X (rSlT X.K) := by
  intro pins s σ H x v vl vu lo hi sl Q I rx hs pl pu h
  obtain ⟨a, xs, rfl, hx, hw, q⟩ := h
  cases rx
  obtain ⟨its, r, ht, hz⟩ := I.tuple hx
  have hlen : its.toArray.size = xs.length := by rw [List.size_toArray]; exact r.length.symm
  refine ⟨"tuple", _, PyProof.Rows.slot_tuple_getitem.lookup, ht.typeIs, ?_⟩
  refine HT.getItem_tuple_cut ht hs pl pu (by rw [hlen]; exact hw) ?_ (by rw [hlen]; exact hz)
  rw [hlen]
  refine ⟨.ref s.heap.objs.size, _, I.laid (t' := s.toks) (o := .tup (cutV xs lo hi)) (fun b ob q => Heap.get?_push_of_some _ q) (Nat.le_refl _) ?_, rfl, q _ (I.hok.fresh (Nat.le_refl _))⟩
  exact ⟨Nat.le_trans (cutV_length xs lo hi) hz, _, (r.drop (HT.sIx xs.length 0 lo)).take (HT.sIx xs.length xs.length hi - HT.sIx xs.length 0 lo), IsTup.new _ _⟩

def rLtT (K : PySem.W.Frag) : R2 := fun x y H Q => ∃ a b ns ms, x = .ref a ∧ y = .ref b ∧ SqT K H a (ns.map V.int) ∧ SqT K H b (ms.map V.int) ∧ Q (.bl (HT.lexLt ns ms)) H
theorem op_ltT (hu : X.A.units < cLine) : OpR X (compareOp .Lt) (rLtT X.K) := by
  intro pins s σ H x y v u Q I rx ry h
  obtain ⟨a, b, ns, ms, rfl, rfl, ha, hb, q⟩ := h
  cases rx
  cases ry
  obtain ⟨its, r1, p1, _⟩ := I.tuple ha
  obtain ⟨its2, r2, p2, _⟩ := I.tuple hb
  have i1 : IntsAre its.toArray.toList ns := intsAre_of r1
  have i2 : IntsAre its2.toArray.toList ms := intsAre_of r2
  exact HT.lt_tupInts p1 p2 i1 i2 hu ⟨.bl (HT.lexLt ns ms), H, I, rfl, q⟩
def rCatT (K : PySem.W.Frag) : R2 := fun x y H Q => ∃ a b xs ys, x = .ref a ∧ y = .ref b ∧ SqT K H a xs ∧ SqT K H b ys ∧ xs ≠ [] ∧ xs.length + ys.length ≤ sizeLine ∧
  (ys = [] → Q (.ref a) H) ∧ (ys ≠ [] → ∀ p, H p = none → Q (.ref p) (upd H p (.tup (xs ++ ys))))
theorem Vals.nil_iff {xs : List V} {us : List Value} (r : Vals xs us) : us = [] ↔ xs = [] := by
  cases r with
  | nil => simp
  | cons _ _ => simp
theorem op_catT : OpR X (binaryOp .Add) (rCatT X.K) := by
  intro pins s σ H x y v u Q I rx ry h
  obtain ⟨a, b, xs, ys, rfl, rfl, ha, hb, hx, hz, q1, q2⟩ := h
  cases rx
  cases ry
  obtain ⟨its, r1, p1, _⟩ := I.tuple ha
  obtain ⟨its2, r2, p2, _⟩ := I.tuple hb
  refine HT.cat_tup p1 p2 (fun z => hx (r1.nil_iff.mp z)) (fun z => ⟨.ref a, H, I, rfl, q1 (r2.nil_iff.mp z)⟩) (fun z => ?_) (by rw [← r1.length, ← r2.length]; exact hz)
  refine ⟨.ref s.heap.objs.size, _, I.laid (t' := s.toks) (o := .tup (xs ++ ys)) (fun b ob q => Heap.get?_push_of_some _ q) (Nat.le_refl _) ?_, rfl, q2 (fun w => z (r2.nil_iff.mpr w)) _ (I.hok.fresh (Nat.le_refl _))⟩
  exact ⟨by rw [List.length_append]; exact hz, _, r1.append r2, IsTup.new _ _⟩
theorem call_tupleT : CallR X (.type "tuple") (fun xs H Q => ∃ a ys, xs = [.ref a] ∧ SqT X.K H a ys ∧ Q (.ref a) H) := by
  intro pins s σ H xs us Q I r h
  obtain ⟨a, ys, rfl, ha, q⟩ := h
  obtain ⟨u, rfl, ru⟩ := vals1 r
  cases ru
  obtain ⟨its, _, p1, _⟩ := I.tuple ha
  exact call_tuple_same (items := its.toArray) p1 ⟨.ref a, H, I, rfl, q⟩
end
end L2

namespace L2
open PySem PySem.Spec PyProof.Rows

def ixN (n : Nat) (i : Int) : Option Nat := if 0 ≤ i then (if i < n then some i.toNat else none) else if -(n : Int) ≤ i then some (i + n).toNat else none
def atI {α : Type} (xs : List α) (i : Int) : Option α := (ixN xs.length i).bind fun j => xs[j]?
theorem ixN_seq {n : Nat} {i : Int} {j : Nat} (h : ixN n i = some j) : seqIndex? i n = some j ∧ j < n ∧ -(n : Int) ≤ i ∧ i < n := by
  unfold ixN at h
  by_cases h0 : 0 ≤ i
  · rw [if_pos h0] at h
    by_cases h1 : i < n
    · rw [if_pos h1] at h
      have e : i.toNat = j := Option.some.inj h
      exact ⟨by rw [seqIndex_of h0 h1, e], by omega, by omega, h1⟩
    · rw [if_neg h1] at h; cases h
  · rw [if_neg h0] at h
    by_cases h1 : -(n : Int) ≤ i
    · rw [if_pos h1] at h
      have e : (i + n).toNat = j := Option.some.inj h
      exact ⟨by rw [seqIndex_neg (by omega) h1, e], by omega, h1, by omega⟩
    · rw [if_neg h1] at h; cases h
theorem atI_get {α : Type} {xs : List α} {i : Int} {v : α} (h : atI xs i = some v) : ∃ j, seqIndex? i xs.length = some j ∧ xs[j]? = some v ∧ j < xs.length ∧ -(xs.length : Int) ≤ i ∧ i < xs.length := by
  unfold atI at h
  cases e : ixN xs.length i with
  | none => rw [e] at h; cases h
  | some j =>
    rw [e] at h
    obtain ⟨h1, h2, h3, h4⟩ := ixN_seq e
    exact ⟨j, h1, h, h2, h3, h4⟩
theorem atI_nat {α : Type} {xs : List α} {j : Nat} {v : α} (h : xs[j]? = some v) : atI xs (j : Int) = some v := by
  have hj : j < xs.length := (List.getElem?_eq_some_iff.mp h).1
  have e : ixN xs.length (j : Int) = some j := by
    unfold ixN
    rw [if_pos (by omega), if_pos (by omega)]; simp
  unfold atI; rw [e]; exact h
theorem atI_last {α : Type} (xs : List α) (v : α) : atI (xs ++ [v]) (-1) = some v := by
  have hl : (xs ++ [v]).length = xs.length + 1 := by simp
  have e : ixN (xs ++ [v]).length (-1) = some xs.length := by
    unfold ixN
    rw [hl, if_neg (by decide), if_pos (by omega)]
    congr 1
    omega
  unfold atI
  rw [e]
  show (xs ++ [v])[xs.length]? = some v
  simp

def PlainIx (b : Expr) : Prop := ∀ o i, subscripted b false o i = operate [o, i] (getItem o i)
def IxR (X : Cx) (r : R2) : Prop :=
  ∀ (value slice : Expr) (pins : List (Addr × Obj)) (s : Shared) (σ : St) (H : Hp) (x y : V) (v u : Value) (Q : VK), Inv X pins σ H s → RelV x v → RelV y u → r x y H Q →
    subscripted slice false v u = operate [v, u] (getItem v u) → wpAny (model X.prog X.w) X.A (subscriptTail value slice v u) (EP X pins σ Q) X.xe s
def MtR (X : Cx) (id : String) (r : V → List V → Hp → VK → Prop) : Prop :=
  ∀ (pins : List (Addr × Obj)) (s : Shared) (σ : St) (H : Hp) (x : V) (xs : List V) (v : Value) (us : List Value) (Q : VK), Inv X pins σ H s → RelV x v → Vals xs us → r x xs H Q →
    wpAny (model X.prog X.w) X.A (call (.builtin id) (v :: us)) (EP X pins σ Q) X.xe s
section
variable {X : Cx} {a b : Expr} {ta tb : TE} {pos : Pos}
theorem IxR.or {r r' : R2} (h : IxR X r) (h' : IxR X r') : IxR X (fun x y H Q => r x y H Q ∨ r' x y H Q) := by
  intro value slice pins s σ H x y v u Q I rx ry q hs
  rcases q with q | q
  · exact h value slice pins s σ H x y v u Q I rx ry q hs
  · exact h' value slice pins s σ H x y v u Q I rx ry q hs
theorem MtR.or {id : String} {r r' : V → List V → Hp → VK → Prop} (h : MtR X id r) (h' : MtR X id r') : MtR X id (fun x xs H Q => r x xs H Q ∨ r' x xs H Q) := by
  intro pins s σ H x xs v us Q I rx rs q
  rcases q with q | q
  · exact h pins s σ H x xs v us Q I rx rs q
  · exact h' pins s σ H x xs v us Q I rx rs q
theorem pe_ix {r : R2} (hr : IxR X r) (ha : PE X a ta) (hb : PE X b tb) (hs : PlainIx b) : PE X (.Subscript a b pos) (tOp r ta tb) := by
  intro pins s σ H Q I h
  exact Subscript_ (binT ha hb I h fun v u s2 x y H2 I2 rx ry q => hr a b pins s2 σ H2 x y v u Q I2 rx ry q (hs _ _))

def rIxL (K : PySem.W.Frag) : R2 := fun x y H Q => ∃ p xs i v, x = .ref p ∧ y = .int i ∧ SqL K H p xs ∧ atI xs i = some v ∧ Q v H
def rIxT (K : PySem.W.Frag) : R2 := fun x y H Q => ∃ p xs i v, x = .ref p ∧ y = .int i ∧ SqT K H p xs ∧ atI xs i = some v ∧ Q v H
def rIxS : R2 := fun x y H Q => ∃ z i c, x = .str z ∧ y = .int i ∧ z.length ≤ sizeLine ∧ atI z.cps.toList i = some c ∧ Q (.str ⟨#[c]⟩) H
theorem ix_list : IxR X (rIxL X.K) := by
  intro value slice pins s σ H x y v u Q I rx ry h hs
  obtain ⟨p, xs, i, z, rfl, rfl, hq, he, q⟩ := h
  cases rx
  obtain ⟨t, rfl⟩ := ry
  obtain ⟨its, r, pl, hz⟩ := I.list hq
  obtain ⟨j, h1, h2, h3, h4, h5⟩ := atI_get he
  obtain ⟨w, ew, rw'⟩ := r.get h2
  have hl := r.length
  have hn := line63
  have fin : EP X pins σ Q w s := ⟨z, H, I, rw', q⟩
  by_cases h0 : 0 ≤ i
  · have hj : i.toNat = j := by
      rw [seqIndex_of h0 h5] at h1
      exact Option.some.inj h1
    exact item_listR pl.isList h0 (by omega) (by rw [hj]; simpa using ew) fin hs
  · have hj : (i + (its.toArray.size : Int)).toNat = j := by
      rw [seqIndex_neg (by omega) h4] at h1
      rw [List.size_toArray, ← hl]
      exact Option.some.inj h1
    exact subscriptTail_builtinR (x := w) pl.isList.typeIs slot_list_getitem.lookup
      (wpAny_getItem_list_neg (Q := fun r s' => r = w ∧ EP X pins σ Q r s') pl.isList (by omega) (by rw [List.size_toArray] <;> omega) (by omega) (by rw [hj]; simpa using ew) ⟨rfl, fin⟩) hs
theorem ix_tup : IxR X (rIxT X.K) := by
  intro value slice pins s σ H x y v u Q I rx ry h hs
  obtain ⟨p, xs, i, z, rfl, rfl, hq, he, q⟩ := h
  cases rx
  obtain ⟨t, rfl⟩ := ry
  obtain ⟨its, r, pl, hz⟩ := I.tuple hq
  obtain ⟨j, h1, h2, h3, h4, h5⟩ := atI_get he
  obtain ⟨w, ew, rw'⟩ := r.get h2
  have hl := r.length
  have hn := line63
  have fin : EP X pins σ Q w s := ⟨z, H, I, rw', q⟩
  exact subscriptTail_builtinR (x := w) pl.typeIs slot_tuple_getitem.lookup
    (getItem_tuple (j := j) (Q := fun r s' => r = w ∧ EP X pins σ Q r s') pl (by omega) (by omega) (by rw [List.size_toArray, ← hl]; exact h1) (by simpa using ew) ⟨rfl, fin⟩) hs
theorem ix_str : IxR X rIxS := by
  intro value slice pins s σ H x y v u Q I rx ry h hs
  obtain ⟨z, i, c, rfl, rfl, hz, he, q⟩ := h
  obtain ⟨t, rfl⟩ := rx
  obtain ⟨t', rfl⟩ := ry
  obtain ⟨j, h1, h2, h3, h4, h5⟩ := atI_get he
  have hl : z.cps.toList.length = z.length := by simp [Str.length]
  rw [hl] at h1 h4 h5
  have hn := line63
  exact tail_any (typeIs_str s z t) slot_str_getitem.lookup (getItem_str (c := c) (by
    have e1 : decide (i < -(2 ^ 63 : Int)) = false := decide_eq_false (by omega)
    have e2 : decide (i ≥ 2 ^ 63) = false := decide_eq_false (by omega)
    rw [e1, e2, Bool.or_false]) (by rw [h1]; simpa using h2) ⟨.str ⟨#[c]⟩, H, I.tok _, ⟨_, rfl⟩, q⟩) hs
def rIx (K : PySem.W.Frag) : R2 := fun x y H Q => rIxL K x y H Q ∨ rIxT K x y H Q ∨ rIxS x y H Q
theorem ix_seq : IxR X (rIx X.K) := ix_list.or (ix_tup.or ix_str)

theorem mapSeq_set (its : List Value) (n j : Nat) (u : Value) : Obj.mapSeq (·.setIfInBounds j u) { cls := .type "list", data := .seq its.toArray n } = { cls := .type "list", data := .seq (its.set j u).toArray n } := by
  simp [Obj.mapSeq]
theorem Inv.lst {pins : List (Addr × Obj)} {σ : St} {H : Hp} {s : Shared} {p : Addr} {xs : List V} (I : Inv X pins σ H s) (h : H p = some (.lst xs)) :
    ∃ (its : List Value) (n : Nat), Vals xs its ∧ s.heap.get? p = some { cls := .type "list", data := .seq its.toArray n } ∧ xs.length ≤ sizeLine := by
  obtain ⟨z, its, n, r, e⟩ := I.hok p _ h
  exact ⟨its, n, r, e, z⟩
theorem Inv.lstUpd {pins : List (Addr × Obj)} {σ : St} {H : Hp} {s : Shared} {p : Addr} {xs ys : List V} {its its' : List Value} {n n' : Nat} {f : Obj → Obj} (I : Inv X pins σ H s) (h : H p = some (.lst xs))
    (ho : s.heap.get? p = some { cls := .type "list", data := .seq its.toArray n }) (hf : f { cls := .type "list", data := .seq its.toArray n } = { cls := .type "list", data := .seq its'.toArray n' }) (r : Vals ys its') (hz : ys.length ≤ sizeLine) (t : Nat) :
    Inv X pins σ (upd H p (.lst ys)) { s with heap := s.heap.update p f, toks := t } := by
  have e : (s.heap.update p f).get? p = some { cls := .type "list", data := .seq its'.toArray n' } := by
    rw [Heap.get?_update_self f ho (by rw [hf] <;> rfl), hf]
  refine I.write (x := p) (e := p) (by rw [h]; trivial) (.inl rfl) (fun b u hb q => (Heap.get?_update_other _ _ (Ne.symm hb)).trans q) ⟨_, e⟩ ?_
  exact ⟨hz, its', n', r, e⟩
def rSetL : V → V → V → Hp → (Hp → Prop) → Prop := fun o i v H Q => ∃ p xs k j, o = .ref p ∧ i = .int k ∧ H p = some (.lst xs) ∧ ixN xs.length k = some j ∧ Q (upd H p (.lst (xs.set j v)))
theorem set_list : PSet X rSetL := by
  intro pins s σ H o i v ov iv u Q I ro ri rv h
  obtain ⟨p, xs, k, j, rfl, rfl, hp, hj, q⟩ := h
  cases ro
  obtain ⟨t, rfl⟩ := ri
  obtain ⟨its, n, r, ho, hz⟩ := I.lst hp
  obtain ⟨h1, h2, h3, h4⟩ := ixN_seq hj
  have hl := r.length
  have hn := line63
  have I' : Inv X pins σ (upd H p (.lst (xs.set j v))) { s with heap := s.heap.update p (Obj.mapSeq (·.setIfInBounds j u)) } :=
    I.lstUpd hp ho (mapSeq_set its n j u) (r.set rv j) (by rw [List.length_set]; exact hz) s.toks
  by_cases h0 : 0 ≤ k
  · have hk : k.toNat = j := by
      rw [seqIndex_of h0 h4] at h1
      exact Option.some.inj h1
    exact PySem.W.ki_setAt ho h0 (by omega) (by rw [List.size_toArray, ← hl]; exact h4) (by rw [hk]; exact ⟨_, I', q⟩)
  · have hk : (k + (its.toArray.size : Int)).toNat = j := by
      rw [seqIndex_neg (by omega) h3] at h1
      rw [List.size_toArray, ← hl]
      exact Option.some.inj h1
    exact PySem.W.ki_setBack ho (by omega) (by rw [List.size_toArray, ← hl]; exact h3) (by omega) (by rw [hk]; exact ⟨_, I', q⟩)

theorem slice_bounds (lo hi : Option Int) (n : Nat) : (sliceBounds lo hi none n).1 = ((HT.sIx n 0 lo : Nat) : Int) ∧ (sliceBounds lo hi none n).2.1 = ((HT.sIx n n hi : Nat) : Int) ∧ (sliceBounds lo hi none n).2.2 = 1 := by
  refine ⟨?_, ?_, rfl⟩
  · cases lo with
    | none => simp [sliceBounds, HT.sIx]
    | some i =>
      simp only [sliceBounds, HT.sIx, Option.getD_none, show (1 : Int) > 0 by decide, if_true]
      by_cases h : i < 0
      · simp only [h, if_true] <;> omega
      · simp only [h, if_false] <;> omega
  · cases hi with
    | none => simp [sliceBounds, HT.sIx]
    | some i =>
      simp only [sliceBounds, HT.sIx, Option.getD_none, show (1 : Int) > 0 by decide, if_true]
      by_cases h : i < 0
      · simp only [h, if_true] <;> omega
      · simp only [h, if_false] <;> omega
theorem slicePick_cut (its : List Value) (lo hi : Option Int) : slicePick its.toArray lo hi none = ((its.drop (HT.sIx its.length 0 lo)).take (HT.sIx its.length its.length hi - HT.sIx its.length 0 lo)).toArray := by
  obtain ⟨h1, h2, h3⟩ := slice_bounds lo hi its.toArray.size
  unfold slicePick
  rw [h1, h2, h3]
  simp only [sliceRange_one, pick_run, List.size_toArray] <;> rfl
def rSlL (K : PySem.W.Frag) : V → Option Int → Option Int → Hp → VK → Prop := fun x lo hi H Q => ∃ a xs, x = .ref a ∧ SqL K H a xs ∧ ∀ p, H p = none → Q (.ref p) (upd H p (.lst (cutV xs lo hi)))
theorem sl_list : SlR X (rSlL X.K) := by
  intro pins s σ H x v vl vu lo hi sl Q I rx hs pl pu h
  obtain ⟨a, xs, rfl, hx, q⟩ := h
  cases rx
  obtain ⟨its, r, ht, hz⟩ := I.list hx
  have hlen := r.length
  refine ⟨"list", _, slot_list_getitem.lookup, ht.isList.typeIs, ?_⟩
  refine wpAny_getItem_list_slice ht.isList hs pl pu .none (by simp) ?_ (by rw [List.size_toArray] <;> omega)
  rw [slicePick_cut, ← hlen]
  refine ⟨.ref s.heap.objs.size, _, I.laid (t' := s.toks) (o := .lst (cutV xs lo hi)) (fun b ob q => Heap.get?_push_of_some _ q) (Nat.le_refl _) ?_, rfl, q _ (I.hok.fresh (Nat.le_refl _))⟩
  exact ⟨Nat.le_trans (cutV_length xs lo hi) hz, _, 0, (r.drop (HT.sIx xs.length 0 lo)).take (HT.sIx xs.length xs.length hi - HT.sIx xs.length 0 lo), Heap.get?_push_size _ rfl⟩

def flatV : V → Bool
  | .non => true
  | .bl _ => true
  | .int _ => true
  | .str _ => true
  | _ => false
def eqV : V → V → Bool
  | .non, .non => true
  | .bl a, .bl b => a == b
  | .bl a, .int b => (if a then 1 else 0) == b
  | .int a, .bl b => a == (if b then 1 else 0)
  | .int a, .int b => a == b
  | .str a, .str b => a == b
  | _, _ => false
theorem eqAt_V {A : Around} {s : Shared} {y x : V} {u v : Value} (ry : RelV y u) (rx : RelV x v) (fy : flatV y = true) (fx : flatV x = true) : SeqAt.EqAt A s u v (eqV y x) := by
  cases y with
  | non =>
    cases ry
    cases x with
    | non => cases rx; exact SeqAt.EqAt.same _
    | bl b => cases rx; exact SeqAt.EqAt.none_bool b
    | int b => obtain ⟨t, rfl⟩ := rx; exact SeqAt.EqAt.none_int b t
    | str b => obtain ⟨t, rfl⟩ := rx; exact SeqAt.EqAt.none_str b t
    | _ => exact absurd (show false = true from fx) Bool.false_ne_true
  | bl a =>
    cases ry
    cases x with
    | non => cases rx; exact SeqAt.EqAt.bool_none a
    | bl b => cases rx; exact SeqAt.EqAt.bool_bool a b
    | int b => obtain ⟨t, rfl⟩ := rx; exact SeqAt.EqAt.bool_int a b t
    | str b => obtain ⟨t, rfl⟩ := rx; exact SeqAt.EqAt.bool_str a b t
    | _ => exact absurd (show false = true from fx) Bool.false_ne_true
  | int a =>
    obtain ⟨t', rfl⟩ := ry
    cases x with
    | non => cases rx; exact SeqAt.EqAt.int_none a t'
    | bl b => cases rx; exact SeqAt.EqAt.int_bool a t' b
    | int b => obtain ⟨t, rfl⟩ := rx; exact SeqAt.EqAt.int_int a t' b t
    | str b => obtain ⟨t, rfl⟩ := rx; exact SeqAt.EqAt.int_str a t' b t
    | _ => exact absurd (show false = true from fx) Bool.false_ne_true
  | str a =>
    obtain ⟨t', rfl⟩ := ry
    cases x with
    | non => cases rx; exact SeqAt.EqAt.str_none a t'
    | bl b => cases rx; exact SeqAt.EqAt.str_bool a t' b
    | int b => obtain ⟨t, rfl⟩ := rx; exact SeqAt.EqAt.str_int a t' b t
    | str b => obtain ⟨t, rfl⟩ := rx; exact SeqAt.EqAt.str_str a t' b t
    | _ => exact absurd (show false = true from fx) Bool.false_ne_true
  | _ => exact absurd (show false = true from fy) Bool.false_ne_true
def eqU (x : V) (u : Value) : Bool := match u with
  | .none => eqV .non x
  | .bool b => eqV (.bl b) x
  | .int i _ => eqV (.int i) x
  | .str z _ => eqV (.str z) x
  | _ => false
theorem eqU_of {x y : V} {u : Value} (r : RelV y u) (f : flatV y = true) : eqU x u = eqV y x := by
  cases y with
  | non => cases r; rfl
  | bl b => cases r; rfl
  | int i => obtain ⟨t, rfl⟩ := r; rfl
  | str z => obtain ⟨t, rfl⟩ := r; rfl
  | _ => exact absurd (show false = true from f) Bool.false_ne_true
theorem any_eqU {x : V} : ∀ {xs : List V} {us : List Value}, Vals xs us → xs.all flatV = true → us.any (eqU x) = xs.any fun y => eqV y x
  | _, _, .nil, _ => rfl
  | y :: xs, u :: us, .cons r t, f => by
    rw [List.all_cons, Bool.and_eq_true] at f
    rw [List.any_cons, List.any_cons, eqU_of r f.1, any_eqU t f.2]
theorem mem_eqAt {A : Around} {s : Shared} {x : V} {v : Value} (rx : RelV x v) (fx : flatV x = true) : ∀ {xs : List V} {us : List Value}, Vals xs us → xs.all flatV = true → ∀ u ∈ us, SeqAt.EqAt A s u v (eqU x u)
  | _, _, .nil, _ => fun u hu => by cases hu
  | y :: xs, u :: us, .cons r t, f => fun u' hu => by
    rw [List.all_cons, Bool.and_eq_true] at f
    rcases List.mem_cons.mp hu with rfl | hu
    · rw [eqU_of r f.1]; exact eqAt_V r rx f.1 fx
    · exact mem_eqAt rx fx t f.2 u' hu
def inV (x : V) (xs : List V) : Bool := xs.any fun y => eqV y x
def rIn (K : PySem.W.Frag) (neg : Bool) : R2 := fun x y H Q => ∃ p xs, y = .ref p ∧ (SqL K H p xs ∨ SqT K H p xs) ∧ flatV x = true ∧ xs.all flatV = true ∧ Q (.bl (if neg then !inV x xs else inV x xs)) H
theorem op_in_seq : OpR X (compareOp .In) (rIn X.K false) := by
  intro pins s σ H x y v u Q I rx ry h
  obtain ⟨p, xs, rfl, hq, fx, fs, q⟩ := h
  cases ry
  rcases hq with hq | hq
  · obtain ⟨its, r, pl, hz⟩ := I.list hq
    refine SeqAt.in_listAt (eqU x) pl.isList (fun w hw => mem_eqAt rx fx r fs w (by simpa using hw)) ⟨.bl _, H, I, rfl, ?_⟩
    rw [show its.toArray.any (eqU x) = its.any (eqU x) by simp, any_eqU r fs]
    exact q
  · obtain ⟨its, r, pl, hz⟩ := I.tuple hq
    refine SeqAt.in_tupleAt (eqU x) pl (fun w hw => mem_eqAt rx fx r fs w (by simpa using hw)) ⟨.bl _, H, I, rfl, ?_⟩
    rw [show its.toArray.any (eqU x) = its.any (eqU x) by simp, any_eqU r fs]
    exact q
theorem op_notIn_seq : OpR X (compareOp .NotIn) (rIn X.K true) := by
  intro pins s σ H x y v u Q I rx ry h
  obtain ⟨p, xs, rfl, hq, fx, fs, q⟩ := h
  cases ry
  rcases hq with hq | hq
  · obtain ⟨its, r, pl, hz⟩ := I.list hq
    refine SeqAt.notIn_listAt (eqU x) pl.isList (fun w hw => mem_eqAt rx fx r fs w (by simpa using hw)) ⟨.bl _, H, I, rfl, ?_⟩
    rw [show its.toArray.any (eqU x) = its.any (eqU x) by simp, any_eqU r fs]
    exact q
  · obtain ⟨its, r, pl, hz⟩ := I.tuple hq
    refine SeqAt.notIn_tupleAt (eqU x) pl (fun w hw => mem_eqAt rx fx r fs w (by simpa using hw)) ⟨.bl _, H, I, rfl, ?_⟩
    rw [show its.toArray.any (eqU x) = its.any (eqU x) by simp, any_eqU r fs]
    exact q
theorem op_notIn_str : OpR X (compareOp .NotIn) (fun x y H Q => ∃ i j, x = .str i ∧ y = .str j ∧ Q (.bl (!(!(Builtin.Str.occurrences j i 0 j.length 1).isEmpty))) H) := by
  intro pins s σ H x y v u Q I rx ry h
  obtain ⟨i, j, rfl, rfl, q⟩ := h
  obtain ⟨t, rfl⟩ := rx
  obtain ⟨t', rfl⟩ := ry
  exact notIn_str ⟨.bl _, H, I, rfl, q⟩

theorem call_len_seq : CallR X (.builtin "len") (fun xs H Q => ∃ p ys, xs = [.ref p] ∧ (SqL X.K H p ys ∨ SqT X.K H p ys) ∧ Q (.int ys.length) H) := by
  intro pins s σ H xs us Q I r h
  obtain ⟨p, ys, rfl, hq, q⟩ := h
  obtain ⟨u, rfl, rx⟩ := vals1 r
  cases rx
  have hn := line63
  rcases hq with hq | hq
  · obtain ⟨its, r', pl, hz⟩ := I.list hq
    have hlen := r'.length
    exact Calls.call_len_list pl.isList (by simp only [List.size_toArray] <;> omega) ⟨.int ys.length, H, I.tok _, ⟨s.toks + 1, by rw [List.size_toArray, hlen]⟩, q⟩
  · obtain ⟨its, r', pl, hz⟩ := I.tuple hq
    have hlen := r'.length
    exact len_tuple pl (by simp only [List.size_toArray] <;> omega) ⟨.int ys.length, H, I.tok _, ⟨s.toks + 1, by rw [List.size_toArray, hlen]⟩, q⟩
theorem call_len_str : CallR X (.builtin "len") (fun xs H Q => ∃ z, xs = [.str z] ∧ z.length ≤ sizeLine ∧ Q (.int z.length) H) := by
  intro pins s σ H xs us Q I r h
  obtain ⟨z, rfl, hz, q⟩ := h
  obtain ⟨u, rfl, t, rfl⟩ := vals1 r
  have hn := line63
  exact len_str (by omega) ⟨.int z.length, H, I.tok _, ⟨_, rfl⟩, q⟩
theorem CallR.or {f : Value} {r r' : List V → Hp → VK → Prop} (h : CallR X f r) (h' : CallR X f r') : CallR X f (fun xs H Q => r xs H Q ∨ r' xs H Q) := by
  intro pins s σ H xs us Q I rs q
  rcases q with q | q
  · exact h pins s σ H xs us Q I rs q
  · exact h' pins s σ H xs us Q I rs q
theorem call_list_of : CallR X (.type "list") (fun xs H Q => ∃ p ys, xs = [.ref p] ∧ (SqL X.K H p ys ∨ SqT X.K H p ys) ∧ ∀ l, H l = none → Q (.ref l) (upd H l (.lst ys))) := by
  intro pins s σ H xs us Q I r h
  obtain ⟨p, ys, rfl, hq, q⟩ := h
  obtain ⟨u, rfl, rx⟩ := vals1 r
  cases rx
  have fin : ∀ (its : List Value), Vals ys its → ys.length ≤ sizeLine → ∀ (h' : Heap) (c' : Nat), (∀ b o', s.heap.get? b = some o' → h'.get? b = some o') →
      h'.get? s.heap.objs.size = some { cls := .type "list", dict := none, data := .seq its.toArray c', slots := #[] } → EP X pins σ Q (.ref s.heap.objs.size) { s with heap := h' } := fun its r' hz h' c' kp e =>
    ⟨.ref s.heap.objs.size, _, I.laid (t' := s.toks) kp (Nat.le_refl _) (show ObjOk X.prog X.w _ h' _ (.lst ys) from ⟨hz, its, c', r', e⟩), rfl, q _ (I.hok.fresh (Nat.le_refl _))⟩
  rcases hq with hq | hq
  · obtain ⟨its, r', pl, hz⟩ := I.list hq
    have hlen := r'.length
    obtain ⟨o, ho, hc, n, hd⟩ := pl.isList
    exact call_list_seq p (.inl rfl) ho hc hd (fun h' c' kp e => fin its r' hz h' c' kp e) (by simp only [List.size_toArray] <;> omega)
  · obtain ⟨its, r', pl, hz⟩ := I.tuple hq
    have hlen := r'.length
    obtain ⟨o, ho, hc, n, hd⟩ := pl
    exact call_list_seq p (.inr rfl) ho hc hd (fun h' c' kp e => fin its r' hz h' c' kp e) (by simp only [List.size_toArray] <;> omega)
theorem call_tuple_of : CallR X (.type "tuple") (fun xs H Q => ∃ p ys, xs = [.ref p] ∧ ((SqL X.K H p ys ∧ ∀ l, H l = none → Q (.ref l) (upd H l (.tup ys))) ∨ (SqT X.K H p ys ∧ Q (.ref p) H))) := by
  intro pins s σ H xs us Q I r h
  obtain ⟨p, ys, rfl, h⟩ := h
  obtain ⟨u, rfl, rx⟩ := vals1 r
  cases rx
  rcases h with ⟨hq, q⟩ | ⟨hq, q⟩
  · obtain ⟨its, r', pl, hz⟩ := I.list hq
    have hlen := r'.length
    refine call_tuple_list pl.isList (fun h' kp => ?_) (by simp only [List.size_toArray] <;> omega)
    have I1 : Inv X pins σ H { s with heap := h' } := I.kept (t' := s.toks) kp
    have I2 : Inv X pins σ (upd H h'.objs.size (.tup ys)) { s with heap := h'.push { cls := .type "tuple", data := .seq its.toArray } } :=
      I1.laid (t' := s.toks) (fun b o e => Heap.get?_push_of_some _ e) (Nat.le_refl _) (show ObjOk X.prog X.w _ _ _ (.tup ys) from ⟨hz, its, r', IsTup.new _ _⟩)
    exact ⟨.ref h'.objs.size, _, I2, rfl, q _ (I1.hok.fresh (Nat.le_refl _))⟩
  · obtain ⟨its, r', pl, hz⟩ := I.tuple hq
    exact call_tuple_same pl ⟨.ref p, H, I, rfl, q⟩

def tyV (K : PySem.W.Frag) (T : String) (x : V) (H : Hp) : Prop := match x with
  | .str _ => T = "str"
  | .int _ => T = "int"
  | .ref p => (T = "list" ∧ ∃ xs, SqL K H p xs) ∨ (T = "tuple" ∧ ∃ o, K.lookup p = some o ∧ o.cls = .type "tuple" ∧ o.dict = none) ∨
      (T = "dict" ∧ ((∃ kvs, H p = some (.dK kvs)) ∨ ∃ kvs, H p = some (.dT kvs))) ∨ (T = "set" ∧ ∃ S n, H p = some (.set S n))
  | _ => False
theorem tyV_is {pins : List (Addr × Obj)} {σ : St} {H : Hp} {s : Shared} {T : String} {x : V} {v : Value} (I : Inv X pins σ H s) (r : RelV x v) (ty : tyV X.K T x H) :
    s.TypeIs v T ∧ ∀ a, v = .ref a → ∃ ob, s.heap.get? a = some ob ∧ ob.dict = none := by
  cases x with
  | str z =>
    obtain ⟨t, rfl⟩ := r
    cases (show T = "str" from ty)
    exact ⟨typeIs_str s z t, fun _ e => nomatch e⟩
  | int i =>
    obtain ⟨t, rfl⟩ := r
    cases (show T = "int" from ty)
    exact ⟨typeIs_int s i t, fun _ e => nomatch e⟩
  | ref p =>
    cases r
    rcases ty with ⟨rfl, xs, hq⟩ | ⟨rfl, o, hk, hc, hd⟩ | ⟨rfl, hk⟩ | ⟨rfl, S, n, hk⟩
    · obtain ⟨its, _, pl, _⟩ := I.list hq
      refine ⟨pl.isList.typeIs, fun a e => ?_⟩
      cases e
      obtain ⟨o, n, e, c, hd, _⟩ := pl
      exact ⟨o, e, hd⟩
    · refine ⟨⟨o, I.kIn p o hk, hc⟩, fun a e => ?_⟩
      cases e
      exact ⟨o, I.kIn _ o hk, hd⟩
    · have z : ∃ o, s.heap.get? p = some o ∧ o.ExactDict := by
        rcases hk with ⟨kvs, hk⟩ | ⟨kvs, hk⟩
        · obtain ⟨_, _, _, _, o, _, _, e, ex, _⟩ := I.hok p _ hk
          exact ⟨o, e, ex⟩
        · obtain ⟨_, _, _, _, o, _, _, e, ex, _⟩ := I.hok p _ hk
          exact ⟨o, e, ex⟩
      obtain ⟨o, e, ex⟩ := z
      refine ⟨⟨o, e, ex.1⟩, fun a e2 => ?_⟩
      cases e2
      exact ⟨o, e, ex.2.1⟩
    · obtain ⟨o, _, _, _, e, ex, _⟩ := I.hok p _ hk
      refine ⟨⟨o, e, ex.1⟩, fun a e2 => ?_⟩
      cases e2
      exact ⟨o, e, ex.2.1⟩
  | _ => exact False.elim ty
def tBM0 (K : PySem.W.Frag) (T : String) (r : V → List V → Hp → VK → Prop) (to : TE) : TE := fun σ H Q => to σ H fun x H1 => tyV K T x H1 ∧ r x [] H1 Q
def tBM (K : PySem.W.Frag) (T : String) (r : V → List V → Hp → VK → Prop) (to : TE) (t : TA) : TE := fun σ H Q => to σ H fun x H1 => tyV K T x H1 ∧ t σ H1 fun xs H2 => r x xs H2 Q
variable {o e : Expr} {es : List Expr} {to : TE} {t : TA} {name : Str} {apos cpos : Pos} {T id : String} {r : V → List V → Hp → VK → Prop}
theorem pe_bm0 (pa : PlainAttrs T) (slot : Slot T name id) (hty : typeOf (.builtin id) = pure (.type "method_descriptor")) (hm : MtR X id r) (ho : PE X o to)
    (hbase : attributeBase o name X.env (eval o X.env) = eval o X.env := by rfl) (hline : (apos.endLine == cpos.line) = true := by rfl) : PE X (.Call (.Attribute o name apos) [] [] cpos) (tBM0 X.K T r to) := by
  intro pins s σ H Q I h
  refine wpAny_Call_method0_late hbase hline (thn (ho pins s σ H _ I h) fun v s1 ⟨x, H1, I1, r1, ty, q1⟩ => ?_)
  obtain ⟨h1, h2⟩ := tyV_is I1 r1 ty
  exact ⟨T, id, pa, slot, hty, h1, h2, Calls.callWith_builtin rfl (PySem.evalArgs_none (hm pins s1 σ H1 x [] v [] Q I1 r1 .nil q1))⟩
theorem pe_bm (pa : PlainAttrs T) (slot : Slot T name id) (hty : typeOf (.builtin id) = pure (.type "method_descriptor")) (hm : MtR X id r) (ho : PE X o to) (ha : PA X (e :: es) t)
    (hbase : attributeBase o name X.env (eval o X.env) = eval o X.env := by rfl)
    (hfew : ((backTo cpos (starEach (e :: es) X.env)).all (fun x => !x.1) && (backToKw cpos (keywordEach [] X.env)).all (fun x => x.1.isSome)
      && decide ((e :: es).length + ([] : List Keyword).length + (if ([] : List Keyword).isEmpty then 0 else 1) < 30)) = true := by rfl)
    (hline : (apos.endLine == cpos.line) = true := by rfl) (hs : starEach (e :: es) X.env = (false, eval e X.env) :: starEach es X.env := by rfl) (hplain : (backTo cpos (starEach es X.env)).any (·.1) = false := by rfl) :
    PE X (.Call (.Attribute o name apos) (e :: es) [] cpos) (tBM X.K T r to t) := by
  intro pins s σ H Q I h
  refine wpAny_Call_method_late hbase hfew hline rfl (thn (ho pins s σ H _ I h) fun v s1 ⟨x, H1, I1, r1, ty, q1⟩ => ?_)
  obtain ⟨h1, h2⟩ := tyV_is I1 r1 ty
  refine ⟨T, id, pa, slot, hty, h1, h2, ?_⟩
  have hA := ha cpos pins s1 σ H1 _ I1 q1
  rw [hs] at hA ⊢
  refine Calls.callWith_builtin (by show (false || (backTo cpos (starEach es X.env)).any (·.1)) = false; rw [hplain] <;> rfl) (Calls.evalArgs_plain ?_)
  exact thn hA fun us s2 ⟨vs, H2, I2, r2, q2⟩ => hm pins s2 σ H2 x vs v us Q I2 r1 r2 q2
/- xs.append(e), list.index on a module's tuple .. are MtR facts of 06m -/
end
end L2

namespace L2
open PySem PySem.Spec PyProof.Rows

def MtM (X : Cx) (id : String) (r : V → List V → Hp → VK → Prop) : Prop :=
  ∀ (pins : List (Addr × Obj)) (s : Shared) (σ : St) (H : Hp) (x : V) (xs : List V) (v : Value) (us : List Value) (Q : VK), Inv X pins σ H s → RelV x v → Vals xs us → r x xs H Q →
    wpAny (model X.prog X.w) X.A (call (.builtin id) (v :: us)) (EP X pins σ Q) X.xe s

theorem Vals.one : ∀ {x : V} {us : List Value}, Vals [x] us → ∃ u, us = [u] ∧ RelV x u
  | _, _, .cons r .nil => ⟨_, rfl, r⟩
theorem Vals.two : ∀ {x y : V} {us : List Value}, Vals [x, y] us → ∃ u v, us = [u, v] ∧ RelV x u ∧ RelV y v
  | _, _, _, .cons r (.cons q .nil) => ⟨_, _, rfl, r, q⟩
theorem Vals.zero : ∀ {us : List Value}, Vals [] us → us = []
  | _, .nil => rfl
theorem Vals.dropLast {xs : List V} {us : List Value} (h : Vals xs us) : Vals xs.dropLast us.dropLast := by
  induction h with
  | nil => exact .nil
  | cons r t ih =>
    cases t with
    | nil => exact .nil
    | cons q t' => exact .cons r ih
theorem Vals.eraseIdx : ∀ {xs : List V} {us : List Value} (i : Nat), Vals xs us → Vals (xs.eraseIdx i) (us.eraseIdx i)
  | _, _, _, .nil => .nil
  | _, _, 0, .cons _ t => t
  | _, _, i + 1, .cons r t => .cons r (Vals.eraseIdx i t)
theorem Vals.reverse {xs : List V} {us : List Value} (h : Vals xs us) : Vals xs.reverse us.reverse := by
  induction h with
  | nil => exact .nil
  | cons r t ih => rw [List.reverse_cons, List.reverse_cons]; exact Vals.append ih (.cons r .nil)
theorem Vals.rep {xs : List V} {us : List Value} (h : Vals xs us) : ∀ k : Nat, Vals (List.replicate k xs).flatten (List.replicate k us).flatten
  | 0 => .nil
  | k + 1 => by
    rw [List.replicate_succ, List.replicate_succ, List.flatten_cons, List.flatten_cons]
    exact Vals.append h (Vals.rep h k)
theorem erase_last {α : Type} (l : List α) : l.eraseIdx (l.length - 1) = l.dropLast := by
  induction l with
  | nil => rfl
  | cons a r ih =>
    cases r with
    | nil => rfl
    | cons b r =>
      have e : (a :: b :: r).length - 1 = ((b :: r).length - 1) + 1 := by
        have h1 : (a :: b :: r).length = r.length + 2 := rfl
        have h2 : (b :: r).length = r.length + 1 := rfl
        omega
      rw [e, List.eraseIdx_cons_succ, ih]
      all_goals rfl
theorem len_erase {α : Type} : ∀ (l : List α) (i : Nat), (l.eraseIdx i).length ≤ l.length
  | [], _ => Nat.le_refl _
  | _ :: _, 0 => Nat.le_succ _
  | _ :: r, i + 1 => Nat.succ_le_succ (len_erase r i)
theorem foldl_rep (its : List Value) : ∀ (k : Nat) (acc : List Value),
    List.foldl (fun x1 x2 => x1 ++ x2) acc.toArray (List.replicate k its.toArray) = (acc ++ (List.replicate k its).flatten).toArray
  | 0, acc => by simp
  | k + 1, acc => by
    have e : acc.toArray ++ its.toArray = (acc ++ its).toArray := by simp
    have e2 : (acc ++ its) ++ (List.replicate k its).flatten = acc ++ (List.replicate (k + 1) its).flatten := by
      rw [List.replicate_succ, List.flatten_cons, List.append_assoc]
    rw [← e2, ← foldl_rep its k (acc ++ its), ← e, List.replicate_succ, List.foldl_cons]

section
variable {X : Cx} {pins : List (Addr × Obj)} {σ : St} {H : Hp} {s : Shared} {l b : Addr} {xs ys zs : List V}

theorem Inv.lset {its its' : List Value} {n : Nat} {f : Array Value → Array Value} {t' : Nat} (I : Inv X pins σ H s) (hH : H l = some (.lst xs))
    (e : s.heap.get? l = some { cls := .type "list", data := .seq its.toArray n }) (hf : f its.toArray = its'.toArray) (hv : Vals ys its') (hz : ys.length ≤ sizeLine) :
    Inv X pins σ (upd H l (.lst ys)) { s with heap := s.heap.update l (Obj.mapSeq f), toks := t' } := by
  have q := PySem.IsL.update e f
  rw [hf] at q
  refine I.write (x := l) (e := l) (by rw [hH]; exact trivial) (.inl rfl) (fun b' u hb hu => (Heap.get?_update_other s.heap (Obj.mapSeq f) (Ne.symm hb)).trans hu) ⟨_, q⟩ ?_
  exact ⟨hz, its', _, hv, q⟩
theorem Inv.lnew {its : List Value} {t' : Nat} (I : Inv X pins σ H s) (hv : Vals ys its) (hz : ys.length ≤ sizeLine) :
    Inv X pins σ (upd H s.heap.objs.size (.lst ys)) { s with heap := s.heap.push { cls := .type "list", data := .seq its.toArray }, toks := t' } :=
  I.laid (fun _ _ q => Heap.get?_push_of_some _ q) (Nat.le_refl _) ⟨hz, its, 0, hv, Heap.get?_push_size _ rfl⟩
theorem Inv.fresh (I : Inv X pins σ H s) : H s.heap.objs.size = none := I.hok.fresh (Nat.le_refl _)
theorem Inv.lstM (I : Inv X pins σ H s) (hH : H l = some (.lst xs)) : xs.length ≤ sizeLine ∧ ∃ (its : List Value) (n : Nat), Vals xs its ∧ xs.length = its.length ∧ s.heap.get? l = some { cls := .type "list", data := .seq its.toArray n } := by
  obtain ⟨z, its, n, r, e⟩ := I.hok l _ hH
  exact ⟨z, its, n, r, r.length, e⟩

theorem notLongL {n : Nat} (h : n ≤ sizeLine) : Builtin.List.listTooLong n = false := by
  unfold Builtin.List.listTooLong
  exact decide_eq_false (by omega)
end

section
variable {X : Cx}

def rAppend : V → List V → Hp → VK → Prop := fun x vs H Q => ∃ l xs y, x = .ref l ∧ vs = [y] ∧ H l = some (.lst xs) ∧ xs.length < sizeLine ∧ Q .non (upd H l (.lst (xs ++ [y])))
theorem mt_append : MtM X "list.append" rAppend := by
  intro pins s σ H x vs v us Q I rx rv h
  obtain ⟨l, xs, y, rfl, rfl, hH, hz, q⟩ := h
  cases rx
  obtain ⟨u, rfl, ru⟩ := rv.one
  obtain ⟨z, its, n, r, hl, e⟩ := I.lstM hH
  refine call_meets F.slot_list_append ⟨_, e, rfl⟩ F.entry_list_append (F.args_list_append_2 _ _) (PySem.list_append l its.toArray n u (by rw [List.size_toArray]; omega)) ⟨e, ?_⟩
  refine ⟨.non, _, I.lset (its' := its ++ [u]) hH e (by simp) (r.append (.cons ru .nil)) ?_, rfl, q⟩
  rw [List.length_append, List.length_singleton]
  omega

def rExtend : V → List V → Hp → VK → Prop := fun x vs H Q => ∃ l b xs zs, x = .ref l ∧ vs = [.ref b] ∧ H l = some (.lst xs) ∧ H b = some (.lst zs) ∧ xs.length + zs.length ≤ sizeLine ∧ Q .non (upd H l (.lst (xs ++ zs)))
theorem mt_extend : MtM X "list.extend" rExtend := by
  intro pins s σ H x vs v us Q I rx rv h
  obtain ⟨l, b, xs, zs, rfl, rfl, hH, hB, hz, q⟩ := h
  cases rx
  obtain ⟨u, rfl, ru⟩ := rv.one
  cases ru
  obtain ⟨z, its, n, r, hl, e⟩ := I.lstM hH
  obtain ⟨z2, its2, n2, r2, hl2, e2⟩ := I.lstM hB
  have hsz : its.toArray.size + its2.toArray.size ≤ sizeLine := by rw [List.size_toArray, List.size_toArray]; omega
  have hlong : ¬ (!its.toArray.isEmpty && Builtin.List.listTooLong (its.toArray.size + its2.toArray.size)) = true := by
    rw [notLongL hsz, Bool.and_false]
    exact Bool.false_ne_true
  refine call_meets F.slot_list_extend ⟨_, e, rfl⟩ F.entry_list_extend (F.args_list_extend_2 _ _)
    (AutoSeq1.list_extend_list_list_0 l its.toArray n b its2.toArray n2 hlong (by rw [List.size_toArray]; omega) (by omega)) ⟨e, e2, ?_⟩
  refine ⟨.non, _, I.lset (its' := its ++ its2) hH e (by simp) (r.append r2) ?_, rfl, q⟩
  rw [List.length_append]
  omega

def rPop : V → List V → Hp → VK → Prop := fun x vs H Q => ∃ l xs y, x = .ref l ∧ vs = [] ∧ H l = some (.lst xs) ∧ xs[xs.length - 1]? = some y ∧ Q y (upd H l (.lst xs.dropLast))
theorem mt_pop : MtM X "list.pop" rPop := by
  intro pins s σ H x vs v us Q I rx rv h
  obtain ⟨l, xs, y, rfl, rfl, hH, hy, q⟩ := h
  cases rx
  have hus := rv.zero
  subst hus
  obtain ⟨z, its, n, r, hl, e⟩ := I.lstM hH
  obtain ⟨u, hu, ru⟩ := r.get hy
  have hy' : its.toArray[its.toArray.size - 1]? = some u := by
    show its.toArray[its.length - 1]? = some u
    rw [← Array.getElem?_toList, ← hl]
    exact hu
  refine call_meets F.slot_list_pop ⟨_, e, rfl⟩ F.entry_list_pop (F.args_list_pop_1 _) (MeetsSeq.list_pop_last l its.toArray n u hy' (by rw [List.size_toArray]; omega)) ⟨e, ?_⟩
  refine ⟨y, _, I.lset (its' := its.dropLast) hH e ?_ r.dropLast ?_, ru, q⟩
  · show its.toArray.eraseIdxIfInBounds (its.toArray.size - 1) = its.dropLast.toArray
    rw [List.size_toArray, List.eraseIdxIfInBounds_toArray, erase_last]
  · rw [List.length_dropLast]
    omega

def rPopAt : V → List V → Hp → VK → Prop := fun x vs H Q => ∃ l xs i k y, x = .ref l ∧ vs = [.int i] ∧ H l = some (.lst xs) ∧ -(2 ^ 63) ≤ i ∧ i < 2 ^ 63 ∧ seqIndex? i xs.length = some k ∧ xs[k]? = some y ∧ Q y (upd H l (.lst (xs.eraseIdx k)))
theorem mt_popAt : MtM X "list.pop" rPopAt := by
  intro pins s σ H x vs v us Q I rx rv h
  obtain ⟨l, xs, i, k, y, rfl, rfl, hH, h1, h2, hk, hy, q⟩ := h
  cases rx
  obtain ⟨u, rfl, ru⟩ := rv.one
  obtain ⟨t, rfl⟩ := ru
  obtain ⟨z, its, n, r, hl, e⟩ := I.lstM hH
  obtain ⟨w, hw, rw'⟩ := r.get hy
  refine call_meets F.slot_list_pop ⟨_, e, rfl⟩ F.entry_list_pop (F.args_list_pop_2 _ _)
    (MeetsSeq.list_pop_at l its.toArray n i t k w (fitsIndex_both h1 h2) (by rw [List.size_toArray, ← hl]; exact hk) (by rw [← Array.getElem?_toList]; exact hw) (by rw [List.size_toArray]; omega)) ⟨e, ?_⟩
  refine ⟨y, _, I.lset (its' := its.eraseIdx k) hH e ?_ (r.eraseIdx k) ?_, rw', q⟩
  · show its.toArray.eraseIdxIfInBounds k = (its.eraseIdx k).toArray
    rw [List.eraseIdxIfInBounds_toArray]
  · have := len_erase xs k
    omega

def rReverse : V → List V → Hp → VK → Prop := fun x vs H Q => ∃ l xs, x = .ref l ∧ vs = [] ∧ H l = some (.lst xs) ∧ Q .non (upd H l (.lst xs.reverse))
theorem mt_reverse : MtM X "list.reverse" rReverse := by
  intro pins s σ H x vs v us Q I rx rv h
  obtain ⟨l, xs, rfl, rfl, hH, q⟩ := h
  cases rx
  have hus := rv.zero
  subst hus
  obtain ⟨z, its, n, r, hl, e⟩ := I.lstM hH
  refine call_meets F.slot_list_reverse ⟨_, e, rfl⟩ F.entry_list_reverse (F.args_list_reverse_1 _) (AutoSeq1.list_reverse_list_0 l its.toArray n (by rw [List.size_toArray]; omega)) ⟨e, ?_⟩
  refine ⟨.non, _, I.lset (its' := its.reverse) hH e (by simp) r.reverse ?_, rfl, q⟩
  rw [List.length_reverse]
  omega

def rClear : V → List V → Hp → VK → Prop := fun x vs H Q => ∃ l xs, x = .ref l ∧ vs = [] ∧ H l = some (.lst xs) ∧ Q .non (upd H l (.lst []))
theorem mt_clear : MtM X "list.clear" rClear := by
  intro pins s σ H x vs v us Q I rx rv h
  obtain ⟨l, xs, rfl, rfl, hH, q⟩ := h
  cases rx
  have hus := rv.zero
  subst hus
  obtain ⟨z, its, n, r, hl, e⟩ := I.lstM hH
  refine call_meets F.slot_list_clear ⟨_, e, rfl⟩ F.entry_list_clear (F.args_list_clear_1 _) (AutoSeq1.list_clear_list_0 l its.toArray n (by rw [List.size_toArray]; omega)) ⟨e, ?_⟩
  exact ⟨.non, _, I.lset (its' := []) (ys := []) hH e rfl .nil (Nat.zero_le _), rfl, q⟩

def rCat : R2 := fun x y H Q => ∃ l b xs zs, x = .ref l ∧ y = .ref b ∧ H l = some (.lst xs) ∧ H b = some (.lst zs) ∧ xs.length + zs.length ≤ sizeLine ∧ ∀ p, H p = none → Q (.ref p) (upd H p (.lst (xs ++ zs)))
theorem op_cat : OpR X (binaryOp .Add) rCat := by
  intro pins s σ H x y v u Q I rx ry h
  obtain ⟨l, b, xs, zs, rfl, rfl, hH, hB, hz, q⟩ := h
  cases rx
  cases ry
  obtain ⟨z, its, n, r, hl, e⟩ := I.lstM hH
  obtain ⟨z2, its2, n2, r2, hl2, e2⟩ := I.lstM hB
  refine PySem.P.add_list e e2 ?_ (by rw [List.size_toArray, List.size_toArray]; omega)
  have ea : its.toArray ++ its2.toArray = (its ++ its2).toArray := by simp
  rw [ea]
  exact ⟨.ref _, _, I.lnew (t' := s.toks) (r.append r2) (by rw [List.length_append]; omega), rfl, q _ I.fresh⟩
def rRep : R2 := fun x y H Q => ∃ l k xs, x = .ref l ∧ y = .int k ∧ H l = some (.lst xs) ∧ -(2 ^ 63) ≤ k ∧ k < 2 ^ 63 ∧ xs.length * k.toNat ≤ sizeLine ∧
  ∀ p, H p = none → Q (.ref p) (upd H p (.lst (List.replicate k.toNat xs).flatten))
theorem len_rep {α : Type} (xs : List α) (k : Nat) : (List.replicate k xs).flatten.length = k * xs.length := by
  induction k with
  | zero => simp
  | succ k ih => rw [List.replicate_succ, List.flatten_cons, List.length_append, ih, Nat.succ_mul, Nat.add_comm]
theorem op_rep : OpR X (binaryOp .Mult) rRep := by
  intro pins s σ H x y v u Q I rx ry h
  obtain ⟨l, k, xs, rfl, rfl, hH, h1, h2, hz, q⟩ := h
  cases rx
  obtain ⟨t, rfl⟩ := ry
  obtain ⟨z, its, n, r, hl, e⟩ := I.lstM hH
  have hlen : its.toArray.size * k.toNat ≤ sizeLine := by rw [List.size_toArray, ← hl]; exact hz
  have hcap : ¬ its.toArray.size * k.toNat > (2 ^ 63 - 1) / 8 := by
    have : (sizeLine : Nat) ≤ (2 ^ 63 - 1) / 8 := by decide
    omega
  have hfit : ¬ (!Builtin.List.listFitsIndex k) = true := by
    rw [fitsIndex_both h1 h2]
    exact Bool.false_ne_true
  have hlong : ¬ Builtin.List.listTooLong (its.toArray.size * k.toNat) = true := by
    rw [notLongL hlen]
    exact Bool.false_ne_true
  have hnew : List.foldl (fun x1 x2 => x1 ++ x2) #[] (List.replicate (if its.toArray.isEmpty = true then 0 else k.toNat) its.toArray) = (List.replicate k.toNat its).flatten.toArray := by
    have f0 : ∀ m : Nat, List.foldl (fun x1 x2 => x1 ++ x2) #[] (List.replicate m its.toArray) = (List.replicate m its).flatten.toArray := fun m => by
      have := foldl_rep its m []
      rw [List.nil_append] at this
      exact this
    rw [f0]
    cases its with
    | nil => simp
    | cons a r' => rw [if_neg (by simp)]
  refine wpAny_binaryOp_repeat_ref (T := "list") (U := "int") (by decide) ⟨_, e, rfl⟩ (fun s' => typeIs_int s' k t) noFill_list_mul F.fills_int_mul F.slot_int_rmul repeat_list F.slot_int_index.lookup
    (call_meets F.slot_int_rmul (typeIs_int s k t) F.entry_int_rmul (F.args_int_rmul_2 _ _) (int___rmul___int_list k t l its.toArray n)
      ⟨e, rfl, ⟨_, e, rfl⟩, call_meets F.slot_list_mul ⟨_, e, rfl⟩ F.entry_list_mul (F.args_list_mul_2 _ _) (AutoListH.list___mul___list_int_3 l its.toArray n k t hfit hcap hlong) ⟨e, ?_⟩⟩)
  rw [hnew]
  exact ⟨.ref _, _, I.lnew (t' := s.toks) (r.rep k.toNat) (by rw [len_rep, Nat.mul_comm]; exact hz), rfl, q _ I.fresh⟩

theorem del_list {pins : List (Addr × Obj)} {s : Shared} {σ : St} {H : Hp} {l : Addr} {xs : List V} {i : Int} {t : Tok} {k : Nat} {Q : Unit → Shared → Prop} (I : Inv X pins σ H s) (hH : H l = some (.lst xs))
    (h1 : -(2 ^ 63) ≤ i) (h2 : i < 2 ^ 63) (hk : seqIndex? i xs.length = some k) (h : ∀ s', Inv X pins σ (upd H l (.lst (xs.eraseIdx k))) s' → Q () s') :
    wpAny (model X.prog X.w) X.A (delItem (.ref l) (.int i t)) Q X.xe s := by
  obtain ⟨z, its, n, r, hl, e⟩ := I.lstM hH
  refine PySem.P.delItem_list (k := k) e (fitsIndex_both h1 h2) (by rw [List.size_toArray, ← hl]; exact hk) (h _ ?_) (by rw [List.size_toArray]; omega)
  refine I.lset (its' := its.eraseIdx k) (t' := s.toks) hH e ?_ (r.eraseIdx k) ?_
  · show its.toArray.eraseIdxIfInBounds k = (its.eraseIdx k).toArray
    rw [List.eraseIdxIfInBounds_toArray]
  · have := len_erase xs k
    omega
end

section
variable {prog : Program} {w : World} {A : Around} {E : Value → Shared → Prop} {s : Shared}
theorem splice_eq (its its2 : List Value) (a c : Nat) : its.toArray.extract 0 a ++ its2.toArray ++ its.toArray.extract c its.toArray.size = (its.take a ++ its2 ++ its.drop c).toArray := by
  apply Array.toList_inj.mp
  first
    | (simp
       exact List.take_of_length_le (by simp))
    | simp [List.take_of_length_le]
    | simp
theorem bounds_run {a c n : Nat} (hac : a ≤ c) (hc : c ≤ n) : sliceBounds (some (a : Int)) (some (c : Int)) none n = ((a : Int), (c : Int), 1) := by
  simp only [sliceBounds, Option.getD_none]
  have h1 : ¬ ((a : Int) < 0) := by omega
  have h2 : ¬ ((c : Int) < 0) := by omega
  simp only [h1, h2, if_false, show (1 : Int) > 0 by decide, if_true]
  congr 1
  · omega
  · congr 1; omega
set_option maxRecDepth 100000 in
theorem setItem_slice {l b sl : Addr} {items new : Array Value} {n n2 : Nat} {vl vu : Value} {a c : Nat} {Q : Unit → Shared → Prop}
    (e : s.heap.get? l = some { cls := .type "list", data := .seq items n }) (e2 : s.heap.get? b = some { cls := .type "list", data := .seq new n2 }) (hne : l ≠ b)
    (hs : s.heap.IsSliceOf sl vl vu .none) (pl : IsPart vl (some (a : Int))) (pu : IsPart vu (some (c : Int))) (hac : a ≤ c) (hc : c ≤ items.size)
    (hsz : items.size + new.size ≤ sizeLine) (h : Q () { s with heap := s.heap.update l (Obj.mapSeq fun xs => xs.extract 0 a ++ new ++ xs.extract c xs.size) }) :
    wpAny (model prog w) A (setItem (.ref l) (.ref sl) (.ref b)) Q E s := by
  have hl : s.heap.IsList l items := PySem.IsL.isList e
  have hb : s.heap.IsList b new := PySem.IsL.isList e2
  obtain ⟨os, hos, hcs, hds⟩ := id hs
  have hTs : s.TypeIs (.ref sl) "slice" := ⟨os, hos, hcs⟩
  have hstep : ¬ ((rawPart none == rawInt 0) = true) := Bool.false_ne_true
  have hsame : Builtin.List.listSameRef (.ref l) (.ref b) = false := by
    unfold Builtin.List.listSameRef
    exact beq_eq_false_iff_ne.mpr hne
  have hmax : (max (a : Int) (c : Int)).toNat = c := by omega
  have hz' : ((fun xs : Array Value => xs.extract 0 a ++ new ++ xs.extract c xs.size) items).size ≤ sizeLine + 1 := by
    simp only [Array.size_append, Array.size_extract]
    omega
  unfold setItem
  try with_reducible refine wpAny_holding ?_
  first | refine wpAny_bind (wpAny_pure ?_) | skip
  refine wpAny_bind (wpAny_sequenceKey hl.typeIs (by decide) ?_)
  refine wpAny_bind (wpAny_callSpecial?_slot (name := Str.ofString "__setitem__") hl.typeIs slot_list_setitem
    (wpAny_call_entry slot_list_setitem hl.typeIs entry_list_setitem ?_ (args_list_setitem _ _ _)))
  show wpAny _ _ (Builtin.List.listSubscript? (.ref sl) >>= _) _ _ s
  refine wpAny_bind ?_
  unfold Builtin.List.listSubscript?
  refine wpAny_bind (wpAny_specialOf hTs slice_no_index ?_)
  simp only [Option.isNone_none, if_true]
  refine wpAny_pure ?_
  show wpAny _ _ (typeOf (.ref sl) >>= _) _ _ s
  refine wpAny_bind (wpAny_typeOf hTs ?_)
  first
    | rw [if_neg (by decide)]
    | refine PySem.W.KFB.if_not (by decide) ?_
  rw [listSliceParts_eq]
  refine wpAny_bind (wpAny_bind (wpAny_field hos hds (x := .none) rfl (wpAny_bind (wpAny_listPart .none ?_))))
  rw [if_neg hstep]
  refine wpAny_bind (wpAny_field hos hds (x := vl) rfl (wpAny_bind (wpAny_listPart pl ?_)))
  refine wpAny_bind (wpAny_field hos hds (x := vu) rfl (wpAny_bind (wpAny_listPart pu (wpAny_pure ?_))))
  first
    | simp only [hsame, Bool.false_eq_true, if_false]
    | refine PySem.W.KFB.if_not hsame ?_
    | (dsimp only
       rw [if_neg (by rw [hsame]; exact Bool.false_ne_true)])
  refine wpAny_bind (m := Builtin.List.listAllItems (.ref b) "must assign iterable to extended slice") ?_
  unfold Builtin.List.listAllItems
  refine wpAny_bind (wpAny_typeOf hb.typeIs ?_)
  first
    | refine PySem.W.KFB.if_so (by decide) ?_
    | rw [if_pos (by decide)]
    | simp only [beq_self_eq_true, Bool.true_or, if_true]
  unfold Builtin.List.listItems
  refine wpAny_bind (wpAny_seqItems e2 rfl (wpAny_pure ?_))
  refine wpAny_bind (wpAny_bind (wpAny_seqItems e rfl (wpAny_pure ?_)))
  refine wpAny_bind (wpAny_of_eq ((sliceIndices_raw (some (a : Int)) (some (c : Int)) none items.size (by simp)).trans (congrArg (pure : Int × Int × Int → Sem (Int × Int × Int)) (bounds_run hac hc))) ?_)
  show wpAny _ _ (if ((1 : Int) == 1) = true then _ else _) _ _ s
  rw [if_pos (by decide)]
  refine wpAny_bind (wpAny_rule ?_)
  first
    | simp only [notLongL hsz, Bool.false_eq_true, if_false]
    | refine PySem.W.KFB.if_not (notLongL hsz) ?_
  first | refine wpAny_bind (wpAny_pure ?_) | skip
  show wpAny _ _ (updateSeq l (fun xs => xs.extract 0 ((a : Int)).toNat ++ new ++ xs.extract (max (a : Int) (c : Int)).toNat xs.size) >>= _) _ _ s
  rw [hmax, Int.toNat_natCast]
  refine wpAny_bind (wpAny_updateSeq (hz := Nat.le_trans (Nat.le_add_right _ _) hsz) (_hz' := hz') e rfl ?_)
  refine wpAny_bind (wpAny_letGo ?_)
  first
    | exact wpAny_bind (wpAny_pure (wpAny_pure ⟨.none, rfl, wpAny_pure h⟩))
    | exact wpAny_pure ⟨.none, rfl, wpAny_pure h⟩
end

section
variable {X : Cx}
theorem set_slice {pins : List (Addr × Obj)} {s : Shared} {σ : St} {H : Hp} {l b sl : Addr} {xs ys : List V} {a c : Int} {vl vu : Value} {Q : Unit → Shared → Prop} (I : Inv X pins σ H s)
    (hH : H l = some (.lst xs)) (hB : H b = some (.lst ys)) (hne : l ≠ b) (hs : s.heap.IsSliceOf sl vl vu .none) (ra : RelV (.int a) vl) (rc : RelV (.int c) vu) (h0 : 0 ≤ a) (hac : a ≤ c) (hc : c ≤ xs.length)
    (hz : xs.length + ys.length ≤ sizeLine) (h : ∀ s', Inv X pins σ (upd H l (.lst (xs.take a.toNat ++ ys ++ xs.drop c.toNat))) s' → Q () s') :
    wpAny (model X.prog X.w) X.A (setItem (.ref l) (.ref sl) (.ref b)) Q X.xe s := by
  obtain ⟨ta, rfl⟩ := ra
  obtain ⟨tc, rfl⟩ := rc
  obtain ⟨z, its, n, r, hl, e⟩ := I.lstM hH
  obtain ⟨z2, its2, n2, r2, hl2, e2⟩ := I.lstM hB
  obtain ⟨a', rfl⟩ := Int.eq_ofNat_of_zero_le h0
  obtain ⟨c', rfl⟩ := Int.eq_ofNat_of_zero_le (Int.le_trans h0 hac)
  simp only [Int.toNat_natCast] at h
  refine setItem_slice (a := a') (c := c') e e2 hne hs (.int _ _) (.int _ _) (by omega) (by rw [List.size_toArray]; omega) (by rw [List.size_toArray, List.size_toArray]; omega) (h _ ?_)
  refine I.lset (its' := its.take a' ++ its2 ++ its.drop c') (t' := s.toks) hH e ?_ (Vals.append (Vals.append (r.take _) r2) (r.drop _)) ?_
  · exact splice_eq its its2 a' c'
  · rw [List.length_append, List.length_append, List.length_take, List.length_drop]
    omega
end
end L2

namespace Att
open PySem PySem.W PySem.Calls PyProof.Rows

theorem ints_of_wellAll {P : Params} {h : Heap} : ∀ (ns : List Int) (vs : List Value), WellAll P h vs (ns.map WData.int) → IntsAre vs ns := by
  intro ns
  induction ns with
  | nil =>
    intro vs w
    rw [List.map_nil] at w
    cases w
    exact .nil
  | cons n ns ih =>
    intro vs w
    rw [List.map_cons] at w
    cases w with
    | cons a b =>
      cases a
      exact .cons _ _ (ih _ b)

theorem script_of {l : OpenLaw} {n : Nat} (hn : l.most = some n) {P : Params} {h : Heap} {args : List WData} {vals : List Value}
    (hpre : l.row.toRowW.claim.pre args = true) (hwl : WellAll P h vals args) :
    ∃ a vs ns, vals = [Value.ref a] ∧ args = [WData.list (ns.map WData.int)] ∧ h.get? a = some { cls := .type "list", data := .seq vs.toArray } ∧ IntsAre vs ns ∧ ns.length ≤ n := by
  have hsh : WShape.hasAll [] args [.list .int] = true := (pre_splitW hpre).1
  have hc : l.pre.holds [] { args := args } = true := (pre_splitW hpre).2
  obtain ⟨d, r, rfl, h1, h2⟩ := hasAllW_cons hsh
  obtain rfl := hasAllW_nil h2
  obtain ⟨xs, rfl, h3⟩ := hasW_list h1
  obtain ⟨ns, rfl⟩ := items_int h3
  have hlen : ns.length ≤ n := by
    unfold OpenLaw.pre at hc
    have h4 : (WTm.not (.lt (.lit (.int (n : Int))) (.len (.arg 0)))).holds [] { args := [.list (ns.map .int)] } = true := by
      have h4 := (holds_andW hc).1
      rw [hn] at h4
      exact h4
    have h5 := condW_of h4 (w_not (w_lt w_lit (w_len_list (w_arg rfl))))
    rw [List.length_map] at h5
    refine Nat.le_of_not_lt fun q => ?_
    have q' : (n : Int) < ((ns.length : Nat) : Int) := by omega
    first
      | (rw [decide_eq_true q'] at h5; exact absurd h5 (by decide))
      | (simp at h5; omega)
  cases hwl with
  | cons w1 w2 =>
    cases w2
    cases w1 with
    | list ho hall => exact ⟨_, _, ns, rfl, rfl, ho, ints_of_wellAll ns _ hall, hlen⟩

theorem post_true (l : OpenLaw) (args : List WData) : l.row.toRowW.claim.post args (.bool true) args = true :=
  postW_of (r := l.row.toRowW) (X := (true == true))
    (show WShape.has [] (.bool true) .bool = true by first | rfl | decide | simp [WShape.has, WShape.arms, WShape.armsAll])
    (show (WTm.eq .res (.lit (.bool true))).value [] { args := args, res := some (.bool true), after := args } = some (.bool (true == true)) from w_eq_bool (w_res rfl) w_lit) rfl

theorem attach {l : OpenLaw} {n : Nat} {q : Program} {loose : List Str} {XP : (Str → Option Value) → Heap → Prop} {YP : World → Heap → Prop} {d : DefRec} {x : Str}
    (hn : l.most = some n) (hdf : d.params.defaults = [])
    (hbind : ∀ pm cd doc v : Value, bindArgs (docDef d.name d.params d.body d.scope pm cd doc) ⟨[v], []⟩ = pure [(x, v)])
    (hx : d.scope.names.lookup x = some .local ∨ d.scope.names.lookup x = some .cell)
    (hk : d.scope.kind = .function) (hco : d.scope.isCoroutine = false) (hgen : d.scope.isGenerator = false)
    (body : ∀ (w : World) (s₀ s₁ s : Shared) (mg mb : Str → Option Value) (fa : Addr) (o : Obj) (pm cd doc : Value) (a : Addr) (vs : List Value) (ns : List Int),
      Ground q loose [] XP w s₀ mg mb s₁.heap → YP w s₁.heap →
      s₁.heap.get? fa = some o → o.data = .func (docDef d.name d.params d.body d.scope pm cd doc) → s₁.heap.CodeRec cd d.name → mg d.name = some (.ref fa) →
      s₁.heap.get? a = some { cls := .type "list", data := .seq vs.toArray } → IntsAre vs ns → ns.length ≤ n →
      s.gens = #[] → s.os = s₁.os →
      Fr s₁.heap s₁.heap.objs.size s.heap (bindL (envOfC d.name d.scope s₁.heap.objs.size fa cd).kindOf [(x, .ref a)] fun _ => none) →
      Cl s₁.heap.objs.size (cellsFrom (s₁.heap.objs.size + 1) d.scope.names []) s.heap (bindC (envOfC d.name d.scope s₁.heap.objs.size fa cd).kindOf [(x, .ref a)] fun _ => none) →
      wpAny (model l.prog w) (callerA.deeper (envOfC d.name d.scope s₁.heap.objs.size fa cd)) (execs d.body (envOfC d.name d.scope s₁.heap.objs.size fa cd))
        (fun f s' => f = .ret (.bool true) ∧ OldK s₁.heap s'.heap ∧ s'.os = s₁.os ∧ AllBare s'.gens) (fun _ _ => False) s) :
    WalkO q loose XP YP l.row.toRowW d [] (fun f vs => PySem.call f vs) := by
  intro w s₀ s₁ mg mb G Y fa o pm cd doc dV kV ho hd hcd hD hmg hg args vals as hpre hlay hrd hwl hlo
  obtain rfl : dV = .none := Dflts.none hD hdf
  obtain rfl : kV = .none := Dflts.noKw hD
  obtain ⟨a, vs, ns, rfl, rfl, hobj, hints, hlen⟩ := script_of hn hpre hwl
  refine enter_call ?_
  refine call_cells_ret (o := o) (by rw [depth_caller]; decide) ho (fd_plain hd) G.T.nolimit hcd (hbind pm cd doc (.ref a)) (fun y hy => ?_) (fun h₁ tk F X => ?_) hco hgen hk
  · obtain rfl : y = (x, Value.ref a) := List.mem_singleton.mp hy
    rcases hx with e | e
    · exact .inl e
    · exact .inr ⟨e, cellsFrom_some _ _ _ (.inl e)⟩
  · refine wpAny_mono (body w s₀ s₁ { s₁ with heap := h₁, toks := tk } mg mb fa o pm cd doc a vs ns G Y ho (fd_plain hd) hcd hmg hobj hints hlen hg rfl F X) (fun f s' hq => ?_) (fun _ _ hq => hq)
    obtain ⟨rfl, h2, h3, h4⟩ := hq
    exact ⟨.inl ⟨.bool true, .bool true, [], rfl, fun _ => rfl, .bool true, post_true l _, fun _ => ⟨List.Pairwise.nil, fun _ hm => (nomatch hm)⟩⟩, h2, h3, h4⟩

theorem attach_call {l : OpenLaw} {n : Nat} {q : Program} {loose : List Str} {XP : (Str → Option Value) → Heap → Prop} {YP : World → Heap → Prop} {d : DefRec}
    (hn : l.most = some n) (hdf : d.params.defaults = [])
    (call : ∀ (w : World) (s₀ s₁ : Shared) (mg mb : Str → Option Value) (fa : Addr) (o : Obj) (pm cd doc : Value) (a : Addr) (vs : List Value) (ns : List Int),
      Ground q loose [] XP w s₀ mg mb s₁.heap → YP w s₁.heap →
      s₁.heap.get? fa = some o → o.data = .func (docDef d.name d.params d.body d.scope pm cd doc) → s₁.heap.CodeRec cd d.name → mg d.name = some (.ref fa) →
      s₁.heap.get? a = some { cls := .type "list", data := .seq vs.toArray } → IntsAre vs ns → ns.length ≤ n → s₁.gens = #[] →
      codeAny (model l.prog w) callerA (.call (.ref fa) ⟨[.ref a], []⟩) (fun r s' => r = .ok (.ret (.bool true)) ∧ OldK s₁.heap s'.heap ∧ s'.os = s₁.os ∧ AllBare s'.gens) s₁) :
    WalkO q loose XP YP l.row.toRowW d [] (fun f vs => PySem.call f vs) := by
  intro w s₀ s₁ mg mb G Y fa o pm cd doc dV kV ho hd hcd hD hmg hg args vals as hpre hlay hrd hwl hlo
  obtain rfl : dV = .none := Dflts.none hD hdf
  obtain rfl : kV = .none := Dflts.noKw hD
  obtain ⟨a, vs, ns, rfl, rfl, hobj, hints, hlen⟩ := script_of hn hpre hwl
  refine enter_call (codeAny_mono (call w s₀ s₁ mg mb fa o pm cd doc a vs ns G Y ho (fd_plain hd) hcd hmg hobj hints hlen hg) fun r s' hq => ?_)
  obtain ⟨rfl, h2, h3, h4⟩ := hq
  exact ⟨.inl ⟨.bool true, .bool true, [], rfl, fun _ => rfl, .bool true, post_true l _, fun _ => ⟨List.Pairwise.nil, fun _ hm => (nomatch hm)⟩⟩, h2, h3, h4⟩

theorem attachN {l : OpenLaw} {n : Nat} {q : Program} {loose : List Str} {XP : (Str → Option Value) → Heap → Prop} {YP : World → Heap → Prop} {d : DefRec} {x : Str}
    (hn : l.most = some n) (hdf : d.params.defaults = [])
    (hbind : ∀ pm cd doc v : Value, bindArgs (docDef d.name d.params d.body d.scope pm cd doc) ⟨[v], []⟩ = pure [(x, v)])
    (hx : d.scope.names.lookup x = some .local ∨ d.scope.names.lookup x = some .cell)
    (hk : d.scope.kind = .function) (hco : d.scope.isCoroutine = false) (hgen : d.scope.isGenerator = false)
    (body : ∀ (w : World) (s₀ s₁ s : Shared) (mg mb : Str → Option Value) (fa : Addr) (o : Obj) (pm cd doc : Value) (a : Addr) (vs : List Value) (ns : List Int),
      Ground q loose [] XP w s₀ mg mb s₁.heap → YP w s₁.heap →
      s₁.heap.get? fa = some o → o.data = .func (docDef d.name d.params d.body d.scope pm cd doc) → s₁.heap.CodeRec cd d.name → mg d.name = some (.ref fa) →
      s₁.heap.get? a = some { cls := .type "list", data := .seq vs.toArray } → IntsAre vs ns → ns.length ≤ n →
      s.gens = #[] → s.os = s₁.os →
      Fr s₁.heap s₁.heap.objs.size s.heap (bindL (envOfC d.name d.scope s₁.heap.objs.size fa cd).kindOf [(x, .ref a)] fun _ => none) →
      Cl s₁.heap.objs.size (cellsFrom (s₁.heap.objs.size + 1) d.scope.names []) s.heap (bindC (envOfC d.name d.scope s₁.heap.objs.size fa cd).kindOf [(x, .ref a)] fun _ => none) →
      wpAny (model l.prog w) (callerA.deeper (envOfC d.name d.scope s₁.heap.objs.size fa cd)) (execs d.body (envOfC d.name d.scope s₁.heap.objs.size fa cd))
        (fun f s' => f = .ret (.bool true) ∧ (∀ b o, s₁.heap.get? b = some o → s'.heap.get? b = some o) ∧ s'.os = s₁.os ∧ s'.gens = #[]) (fun _ _ => False) s) :
    WalkN q loose XP YP l.row.toRowW d [] (fun f vs => PySem.call f vs) := by
  intro w s₀ s₁ mg mb G Y fa o pm cd doc dV kV ho hd hcd hD hmg hg args vals as hpre hlay hrd hwl hlo
  obtain rfl : dV = .none := Dflts.none hD hdf
  obtain rfl : kV = .none := Dflts.noKw hD
  obtain ⟨a, vs, ns, rfl, rfl, hobj, hints, hlen⟩ := script_of hn hpre hwl
  refine enter_callW ?_
  refine call_cells_ret (o := o) (by rw [depth_caller]; decide) ho (fd_plain hd) G.T.nolimit hcd (hbind pm cd doc (.ref a)) (fun y hy => ?_) (fun h₁ tk F X => ?_) hco hgen hk
  · obtain rfl : y = (x, Value.ref a) := List.mem_singleton.mp hy
    rcases hx with e | e
    · exact .inl e
    · exact .inr ⟨e, cellsFrom_some _ _ _ (.inl e)⟩
  · refine wpAny_mono (body w s₀ s₁ { s₁ with heap := h₁, toks := tk } mg mb fa o pm cd doc a vs ns G Y ho (fd_plain hd) hcd hmg hobj hints hlen hg rfl F X) (fun f s' hq => ?_) (fun _ _ hq => hq)
    obtain ⟨rfl, h2, h3, h4⟩ := hq
    exact ⟨.inl ⟨.bool true, .bool true, [], rfl, fun _ => rfl, .bool true, post_true l _, fun _ => ⟨List.Pairwise.nil, fun _ hm => (nomatch hm)⟩⟩, h2, h3, h4⟩

section
variable {prog : Program} {w : World} {A : Around} {E : Value → Shared → Prop} {s : Shared} {K : Frag}

theorem call_fn {R : Result → Shared → Prop} {name qual : Str} {params : Arguments} {body : List Stmt} {scope : Scope} {dV kV doc pm cdv ct oc : Value} {an od : Option Addr} {osl : Array (Option Value)} {f : Addr} {args : Args} {binds : List (Str × Value)}
    (X : K.In s.heap) (hlim : s.heap.NoLimit) (ho : K.lookup f = some ⟨oc, od, .func (fnOf name qual params body scope dV kV doc pm an cdv ct), osl⟩) (hcd : codeIn K cdv qual = true) (hroom : A.depth < recursionLimit)
    (hbind : BindsTo s (fnOf name qual params body scope dV kV doc pm an cdv ct) args binds)
    (hkind : (binds.all fun y => scope.names.lookup y.1 == some .local || scope.names.lookup y.1 == some .cell) = true)
    (h : ∀ s₁, InCallC s s.heap.objs.size (bindL (envOfC qual scope s.heap.objs.size f cdv).kindOf binds fun _ => none) (cellsFrom (s.heap.objs.size + 1) scope.names [])
        (bindC (envOfC qual scope s.heap.objs.size f cdv).kindOf binds fun _ => none) s₁ →
      wpAny (model prog w) (A.deeper (envOfC qual scope s.heap.objs.size f cdv)) (execs body (envOfC qual scope s.heap.objs.size f cdv))
        (fun fl s' => R (.ok (.ret (match fl with | .ret v => v | _ => .none))) s')
        (fun e s' => wpAny (model prog w) (A.deeper (envOfC qual scope s.heap.objs.size f cdv)) (leaving (envOfC qual scope s.heap.objs.size f cdv) e) (fun _ s'' => R (.error e) s'') (fun e' s'' => R (.error e') s'') s') s₁)
    (hco : scope.isCoroutine = false) (hgen : scope.isGenerator = false) (hk : scope.kind = .function) : codeAny (model prog w) A (.call (.ref f) args) R s := by
  refine codeAny_call_function hroom (X _ _ ho) rfl hco hgen rfl (codeRec_of X hcd) (hbind _ _ _ _ ?_)
  refine wpAny_newFunctionEnv_cells hk (kindsX hkind _) fun env he s₁ x => ?_
  subst he
  exact ⟨hlim.keeps x.toInCall.keep, codeAny_func (h s₁ x)⟩

theorem make_obj {R : Result → Shared → Prop} {C fI : Addr} {rest : List Value} {kw : List (Str × Value)}
    (X : K.In s.heap) (hm : makesIn K C = true) (hi : findIn K (.ref C) "__init__" = some (some (.ref fI))) (hf : isFn K (.ref fI) = true)
    (h : codeAny (model prog w) (A.under (.builtin "type.__call__" ⟨.ref C :: rest, kw⟩)) (.call (.ref fI) ⟨.ref (s.heap.objs.size + 1) :: rest, kw⟩) (InitBack (s.heap.objs.size + 1) R)
      { s with heap := (s.heap.push emptyDict).push (instObj C s.heap.objs.size) }) : codeAny (model prog w) A (.call (.ref C) ⟨rest, kw⟩) R s := by
  obtain ⟨hh, g, d, t, os⟩ := s
  exact make_core (makes_of X hm) (looks_findIn X hi) (fun self => bind_fn X self (beq_iff_eq.mp hf)) (.inl rfl) h

theorem get_field {x C : Addr} {ox : Obj} {es : List DictEntry} {n : Nat} {name : Str} {expr : Bool} {v : Value} {Q : Value → Shared → Prop}
    (X : K.In s.heap) (I : PySem.W.InstAt s.heap x ox C (some (dictOf es n))) (hg : plainGet K C name = true) (hh : hasDictIn K C = true) (ha : findIn K (.ref C) name = some none)
    (hl : getL name es = some (some v)) (hv : handedIn v = true) (h : Q v { s with toks := s.toks + 1 }) : wpAny (model prog w) A (getAttr (.ref x) name expr) Q E s :=
  get_value X I (plainGet_of hg).1 (findObj_own hh ha rfl hl) hv h

theorem get_method {x C f : Addr} {ox : Obj} {es : List DictEntry} {n : Nat} {name : Str} {pl : Sem Bool} {Q : Value × List Value → Shared → Prop}
    (X : K.In s.heap) (I : PySem.W.InstAt s.heap x ox C (some (dictOf es n))) (hg : plainGet K C name = true) (hf : findIn K (.ref C) name = some (some (.ref f))) (ht : isFn K (.ref f) = true)
    (hl : getL name es = some none) (h : Q (.ref f, [.ref x]) s) : wpAny (model prog w) A (getMethod (.ref x) name pl) Q E s :=
  method_fn X I (plainGet_of hg).1 (plainGet_of hg).2 hf (beq_iff_eq.mp ht) (by show (lookIn name (dictOf es n)).map _ = _; rw [lookIn_dict, hl]; rfl) h

def noObjs (h : Heap) : Heap := { h with objs := #[] }
theorem noObjs_get (h : Heap) (b : Addr) : (noObjs h).get? b = none := by
  cases e : (noObjs h).get? b with
  | none => rfl
  | some o => exact absurd (Heap.lt_size e) (Nat.not_lt_zero _)
def ledger (h : Heap) (L d : Addr) : List (Addr × Obj) := (List.range h.objs.size).filterMap fun a => if a = L ∨ a = d then none else (h.get? a).map fun o => (a, o)
theorem mem_ledger {h : Heap} {L d a : Addr} {o : Obj} : (a, o) ∈ ledger h L d ↔ a ≠ L ∧ a ≠ d ∧ h.get? a = some o := by
  unfold ledger
  rw [List.mem_filterMap]
  constructor
  · rintro ⟨b, _, e⟩
    split at e
    · cases e
    · rename_i hb
      obtain ⟨o', ho, e'⟩ := Option.map_eq_some_iff.mp e
      cases e'
      exact ⟨fun q => hb (.inl q), fun q => hb (.inr q), ho⟩
  · rintro ⟨n1, n2, ho⟩
    refine ⟨a, List.mem_range.mpr (Heap.lt_size ho), ?_⟩
    rw [if_neg (show ¬ (a = L ∨ a = d) from fun q => q.elim n1 n2), ho] <;> rfl
theorem news_ledger {h : Heap} {L d : Addr} {od : Obj} (hne : d ≠ L) (ho : h.get? d = some od) : News (noObjs h) L h ([] ++ (d, od) :: ledger h L d) := by
  rintro ⟨a, o⟩ hp
  rcases List.mem_cons.mp hp with e | hp
  · cases e
    exact ⟨ho, hne, noObjs_get _ _⟩
  · obtain ⟨n1, n2, e⟩ := mem_ledger.mp hp
    exact ⟨e, n1, noObjs_get _ _⟩
theorem fr_all {h : Heap} {L : Addr} {m : Str → Option Value} (n : h.Ns L m) : Fr (noObjs h) L h m :=
  ⟨n, fun b o e => (by rw [noObjs_get] at e; cases e), Nat.zero_le _⟩
theorem upd_ledger {h : Heap} {L d : Addr} {o o' : Obj} : Upd d o o' ((d, o) :: ledger h L d) ((d, o') :: ledger h L d) :=
  .head fun ⟨_, _⟩ hp => (mem_ledger.mp hp).2.1

theorem set_field {x C dx L : Addr} {ox : Obj} {m : Str → Option Value} {es es' : List DictEntry} {n n' : Nat} {name : Str} {v : Value} {Q : Unit → Shared → Prop}
    (X : K.In s.heap) (I : PySem.W.InstAt s.heap x ox C (some (dictOf es n))) (hd : ox.dict = some dx) (hL : s.heap.Ns L m) (hne : dx ≠ L)
    (hs : findIn K (.ref C) "__setattr__" = some (some (.builtin "object.__setattr__"))) (hp : plainOver K C = true) (ht : takerIn K C name = some none) (hh : hasDictIn K C = true) (hl : (getL name es).isSome = true)
    (e : (putL name (PyData.keyHash w.params name) (.str name (s.toks + 1)) v es, putN name es n) = (es', n')) (hz : es'.length ≤ 1000)
    (h : ∀ h' : Heap, h'.Ns L m → h'.get? dx = some (dictOf es' n') → (∀ b o, b ≠ dx → b ≠ L → s.heap.get? b = some o → h'.get? b = some o) → Q () { s with heap := h', toks := s.toks + 2 }) :
    wpAny (model prog w) A (setAttr (.ref x) name v) Q E s := by
  obtain ⟨e1, e2⟩ := Prod.mk.inj e
  have hdx : s.heap.get? dx = some (dictOf es n) := by
    have := I.dict
    rw [hd] at this
    exact this
  refine set_plain X I hs (osa_dict (s := { s with toks := s.toks + 1 }) (h₀ := noObjs s.heap) (L := L) (m := m) (od := dictOf es n) (od' := dictOf es' n') (es := es') (n := n') (pre := []) (post := ledger s.heap L dx)
    (fr_all hL) (news_ledger hne hdx) X I hd hp ht hh hl (fun _ q => nomatch q) (fun ⟨_, _⟩ q => (mem_ledger.mp q).2.1) (by rw [putName_dict, e1, e2]) rfl hz fun h' F' N' => ?_)
  exact h h' F'.ns (N'.get (List.Mem.head _)) fun b o n1 n2 ho => N'.get (List.Mem.tail _ (mem_ledger.mpr ⟨n2, n1, ho⟩))
end
end Att

namespace L2
open PySem PySem.Spec PyProof.Rows

theorem vals_ints : ∀ {vs : List Value} {ns : List Int}, IntsAre vs ns → Vals (ns.map V.int) vs
  | _, _, .nil => .nil
  | _, _, .cons n t h => .cons ⟨t, rfl⟩ (vals_ints h)

def Only (H : Hp) : Prop := ∀ b, H b = none ∨ ∃ o xs, H b = some (.frz o (.lst xs))

theorem law_call {P : Program} {w : World} {K : PySem.W.Frag} {mg mb : Str → Option Value} {CX : CXT} {k : Nat} {fa a : Addr} {fd : FuncData} {x : Str} {sp : Sp} {s₁ : Shared} {vs : List Value} {ns : List Int}
    (KX : K.In s₁.heap) (hns : s₁.heap.Ns mainGlobals mg) (hb : s₁.heap.Ns builtinsNs mb) (hbb : ∀ x : Str, x ≠ "__name__" → mb x = bootBuiltins x) (hlim : s₁.heap.NoLimit) (hg : s₁.gens = #[])
    (ha : s₁.heap.get? a = some { cls := .type "list", data := .seq vs.toArray }) (hi : IntsAre vs ns) (hl : ns.length ≤ sizeLine) (hr : Room k callerA)
    (F : ∀ base : Heap, K.In base → base.Ns mainGlobals mg → FnOk P w K mg base CX k fa fd [x] sp) (hbind : ∀ (s : Shared) (u : Value), BindsTo s fd ⟨[u], []⟩ [(x, u)])
    (hsp : ∀ H : Hp, Only H → SqL K H a (ns.map V.int) → sp [.ref a] H (fun v _ => v = .bl true) fun _ _ _ => False)
    (hCX : ∀ H e s', CX [] H s₁ (fun _ _ _ => False) e s' → False) :
    codeAny (model P w) callerA (.call (.ref fa) ⟨[.ref a], []⟩) (fun r s' => r = .ok (.ret (.bool true)) ∧ OldK s₁.heap s'.heap ∧ s'.os = s₁.os ∧ AllBare s'.gens) s₁ := by
  have rv := vals_ints hi
  have lenV := hi.length
  -- from an abstract heap in which nothing but the script may be tracked
  have core : ∀ H : Hp, Only H → SqL K H a (ns.map V.int) → HOk P w H s₁.heap → (∀ b, H b ≠ none → b = a) → (H a ≠ none → K.lookup a = none) →
      codeAny (model P w) callerA (.call (.ref fa) ⟨[.ref a], []⟩) (fun r s' => r = .ok (.ret (.bool true)) ∧ OldK s₁.heap s'.heap ∧ s'.os = s₁.os ∧ AllBare s'.gens) s₁ := by
    intro H hO hS hok hA hK
    have base_of : ∀ {b : Addr} {o : Obj}, s₁.heap.get? b = some o → H b = none → (hidT s₁.heap H).get? b = some o := fun e n => hidT_get e n
    have noA : ∀ {b : Addr} {o : Obj} {es : Array DictEntry} {ep : Nat}, s₁.heap.get? b = some o → o.data = .dict es ep → H b = none := fun {b o es ep} e d => by
      cases q : H b with
      | none => rfl
      | some u =>
        have e' : b = a := hA b (by rw [q]; simp)
        subst e'
        rw [ha] at e; cases e
        have d' : Data.seq vs.toArray _ = Data.dict es ep := d
        cases d'
    have nsK : ∀ {b : Addr} {m : Str → Option Value}, s₁.heap.Ns b m → (hidT s₁.heap H).Ns b m := fun {b m} ⟨o, es, ep, e, d, r⟩ => ⟨o, es, ep, base_of e (noA e d), d, r⟩
    have hKb : K.In (hidT s₁.heap H) := fun b o e => base_of (KX b o e) (by
      cases q : H b with
      | none => rfl
      | some u =>
        have e' : b = a := hA b (by rw [q]; simp)
        subst e'
        rw [hK (by rw [q]; simp)] at e; cases e)
    have hM : Mod K mg (hidT s₁.heap H) := ⟨hKb, nsK hns, ⟨mb, nsK hb, hbb⟩, let ⟨mc, h1, h2⟩ := hlim; ⟨mc, nsK h1, h2⟩⟩
    have e0 : Env0 P w K mg (hidT s₁.heap H) callerA [] s₁ H := ⟨rfl, hM, fun b o e => of_hidT e, Nat.le_of_eq (hidT_size _ _), trivial, fun b hb => absurd (show b ∈ ([] : List Addr) from hb) (by simp), hok, .of_eq hg⟩
    refine codeAny_mono ((F _ hKb (nsK hns)).run callerA [] s₁ H ⟨[.ref a], []⟩ [.ref a] [.ref a] _ _ hr e0 (hbind s₁ (.ref a)) (.cons rfl .nil) (hsp H hO hS)) fun r s' h => ?_
    cases r with
    | error e => exact (hCX H e s' h).elim
    | ok fl =>
      cases fl with
      | next => exact False.elim h
      | brk => exact False.elim h
      | cont => exact False.elim h
      | ret u =>
        obtain ⟨v, H', os, bare, un, hok', r', q⟩ := h
        have q' : v = .bl true := q
        subst q'
        obtain rfl : u = Value.bool true := r'
        refine ⟨rfl, OldK.of_keep fun b o e => ?_, os, bare⟩
        cases q : H b with
        | none => exact un.keep b o e q (by intro z; exact absurd (show b ∈ ([] : List Addr) from z) (by simp)) (by simp)
        | some u =>
          rcases hO b with z | ⟨ob, xs, z⟩
          · rw [q] at z; cases z
          · have z2 := un.frzs b ob _ z
            obtain ⟨e1, _⟩ := hok b _ z
            obtain ⟨e2, _⟩ := hok' b _ z2
            rw [e] at e1; cases e1
            exact e2
  cases hk : K.lookup a with
  | some o =>
    -- the script is one of the module's own objects
    have e := KX a o hk
    rw [ha] at e
    cases e
    refine core (fun _ => none) (fun _ => .inl rfl) (.inr ⟨_, vs.toArray, _, hk, rfl, rfl, rfl, by rw [List.size_toArray, lenV]; exact hl, by simpa using rv⟩) (fun b u z => by have z' : (none : Option HO) = some u := z; cases z') (fun b z => absurd rfl z) fun z => absurd rfl z
  | none =>
    refine core (fun b => if b = a then some (.frz { cls := .type "list", data := .seq vs.toArray } (.lst (ns.map V.int))) else none) (fun b => ?_) (.inl (.inr ⟨{ cls := .type "list", data := .seq vs.toArray }, if_pos rfl⟩)) (fun b u z => ?_) (fun b z => ?_) fun _ => hk
    · by_cases hb : b = a
      · exact .inr ⟨_, _, if_pos hb⟩
      · exact .inl (if_neg hb)
    · by_cases hb : b = a
      · have z' := (if_pos hb).symm.trans z
        cases z'
        subst hb
        exact ⟨ha, by rw [List.length_map]; exact hl, vs, _, rv, ha⟩
      · have z' := (if_neg hb).symm.trans z
        cases z'
    · by_cases hb : b = a
      · exact hb
      · exact absurd (if_neg hb) z
end L2

namespace L2
open PySem PySem.Spec PyProof.Rows

abbrev KOf {K : PySem.W.Frag} {h : Heap} (_ : K.In h) : PySem.W.Frag := K

theorem walk_of {l : PySem.W.OpenLaw} {n k : Nat} {q : Program} {loose : List Str} {XP : (Str → Option Value) → Heap → Prop} {YP : World → Heap → Prop} {d : DefRec} {K : Params → PySem.W.Frag} {CX : World → CXT} {sp : World → Sp} {x : Str}
    (hn : l.most = some n) (hn2 : n ≤ sizeLine) (hdf : d.params.defaults = []) (hr : Room k callerA)
    (hY : ∀ (w : World) (h : Heap), YP w h → (K w.params).In h)
    (F : ∀ (w : World) (mg : Str → Option Value) (fa : Addr) (h : Heap), (K w.params).In h → h.Ns mainGlobals mg → mg d.name = some (.ref fa) →
      ∃ fd : FuncData, (∀ (s : Shared) (u : Value), BindsTo s fd ⟨[u], []⟩ [(x, u)]) ∧
        ∀ base : Heap, (K w.params).In base → base.Ns mainGlobals mg → FnOk l.prog w (K w.params) mg base (CX w) k fa fd [x] (sp w))
    (hsp : ∀ (w : World) (H : Hp) (a : Addr) (ns : List Int), ns.length ≤ n → Only H → SqL (K w.params) H a (ns.map V.int) → sp w [.ref a] H (fun v _ => v = .bl true) fun _ _ _ => False)
    (hCX : ∀ (w : World) (H : Hp) (s : Shared) (e : Value) (s' : Shared), CX w [] H s (fun _ _ _ => False) e s' → False) :
    PySem.W.WalkO q loose XP YP l.row.toRowW d [] (fun f vs => PySem.call f vs) := by
  refine Att.attach_call hn hdf fun w s₀ s₁ mg mb fa o pm cd doc a vs ns G Y ho hd hcd hmg hobj hints hlen hg => ?_
  have KX := hY w _ Y
  obtain ⟨fd, hb, hF⟩ := F w mg fa _ KX G.T.g hmg
  exact law_call KX G.T.g G.T.b G.T.builtins G.T.nolimit hg hobj hints (Nat.le_trans hlen hn2) hr hF hb (fun H hO hS => hsp w H a ns hlen hO hS) fun H e s' => hCX w H s₁ e s'
theorem walk_ofK {l : PySem.W.OpenLaw} {n k : Nat} {q : Program} {loose : List Str} {XP : (Str → Option Value) → Heap → Prop} {YP : World → Heap → Prop} {d : DefRec} {K : Params → PySem.W.Frag} {CX : CXT} {sp : PySem.W.Frag → Sp} {x : Str}
    (hn : l.most = some n) (hn2 : n ≤ sizeLine) (hdf : d.params.defaults = []) (hr : Room k callerA)
    (hY : ∀ (w : World) (h : Heap), YP w h → (K w.params).In h)
    (F : ∀ (w : World) (mg : Str → Option Value) (fa : Addr) (h : Heap), (K w.params).In h → h.Ns mainGlobals mg → mg d.name = some (.ref fa) →
      ∃ fd : FuncData, (∀ (s : Shared) (u : Value), BindsTo s fd ⟨[u], []⟩ [(x, u)]) ∧
        ∀ base : Heap, (K w.params).In base → base.Ns mainGlobals mg → FnOk l.prog w (K w.params) mg base CX k fa fd [x] (sp (K w.params)))
    (hsp : ∀ (K : PySem.W.Frag) (H : Hp) (a : Addr) (ns : List Int), ns.length ≤ n → Only H → SqL K H a (ns.map V.int) → sp K [.ref a] H (fun v _ => v = .bl true) fun _ _ _ => False)
    (hCX : ∀ (H : Hp) (s : Shared) (e : Value) (s' : Shared), CX [] H s (fun _ _ _ => False) e s' → False) :
    PySem.W.WalkO q loose XP YP l.row.toRowW d [] (fun f vs => PySem.call f vs) :=
  walk_of (K := K) (CX := fun _ => CX) (sp := fun w => sp (K w.params)) hn hn2 hdf hr hY F (fun w H a ns h1 h2 h3 => hsp (K w.params) H a ns h1 h2 h3) fun _ H s e s' => hCX H s e s'
end L2


namespace L2
open PySem PySem.Spec PyProof.Rows

def inClass (s : Stmt) (j : Nat) : Stmt := match s with
  | .ClassDef _ _ _ body _ _ _ _ _ _ _ => body.getD j (.Pass ⟨0, 0, 0, 0⟩)
  | _ => .Pass ⟨0, 0, 0, 0⟩
def defArgs (s : Stmt) : Arguments := match s with
  | .FunctionDef _ a _ _ _ _ _ _ _ _ => a
  | _ => { posonlyargs := [], args := [], vararg := none, kwonlyargs := [], kw_defaults := [], kwarg := none, defaults := [] }
def defBody (s : Stmt) : List Stmt := match s with
  | .FunctionDef _ _ b _ _ _ _ _ _ _ => b
  | _ => []
def defScope (s : Stmt) : Scope := match s with
  | .FunctionDef _ _ _ _ _ _ sc _ _ _ => sc
  | _ => { kind := .function, names := [], isGenerator := false, isCoroutine := false }

abbrev CX0 : CXT := fun _ _ _ _ _ _ => False
abbrev E0 : XK := fun _ _ _ => False
theorem pass0 {X : Cx} : Passes CX0 X E0 := fun _ _ _ _ _ _ _ h => h.elim

structure Fun (K : PySem.W.Frag) (x qual : Str) (st : Stmt) (f : Addr) (fd : FuncData) : Prop where
  ex : ∃ (oc : Value) (od : Option Addr) (kV doc pm : Value) (an : Option Addr) (cdv ct : Value) (osl : Array (Option Value)),
    fd = PySem.W.fnOf x qual (defArgs st) (defBody st) (defScope st) .none kV doc pm an cdv ct ∧ K.lookup f = some ⟨oc, od, .func fd, osl⟩ ∧ PySem.W.codeIn K cdv qual = true
  kp : PySem.W.keepIn K (.ref f) = true
section
variable {P : Program} {w : World} {K : PySem.W.Frag} {mg : Str → Option Value} {base : Heap}
theorem Fun.ok {x qual : Str} {st : Stmt} {f : Addr} {fd : FuncData} {N ps : List Str} {k : Nat} {sp : Sp} (F : Fun K x qual st f fd) (S : FnScope N ps (defScope st)) (len : ∀ vs H Q E, sp vs H Q E → vs.length = ps.length)
    (hbody : ∀ (cdv : Value) (A : Around) (outer : List Env) (s : Shared) (H : Hp) (vs : List V) (Q : VK) (E : XK), Room k (A.deeper (envOfC qual (defScope st) s.heap.objs.size f cdv)) → sp vs H Q E →
      ∃ t, PSs (cxOf CX0 P w K mg base N qual (defScope st) f cdv A outer s H E).nox (defBody st) t ∧ t { nx := fun _ H' => Q .non H', rt := Q } (start N vs) H) : FnOk P w K mg base CX0 (k + 1) f fd ps sp := by
  obtain ⟨oc, od, kV, doc, pm, an, cdv, ct, osl, rfl, lk, hcd⟩ := F.ex
  refine fn_of lk hcd S len fun A outer s H vs Q E hr hsp => ?_
  obtain ⟨t, h, q⟩ := hbody cdv A outer s H vs Q E hr hsp
  exact ⟨t, h.nox, q⟩
theorem Fun.binds {x qual : Str} {st : Stmt} {f : Addr} {fd : FuncData} {ps : List Str} (F : Fun K x qual st f fd)
    (h : ∀ (kV doc pm : Value) (an : Option Addr) (cdv ct : Value) (us : List Value), us.length = ps.length → bindArgs (PySem.W.fnOf x qual (defArgs st) (defBody st) (defScope st) .none kV doc pm an cdv ct) ⟨us, []⟩ = pure (ps.zip us)) : Binds K fd ps [] := by
  obtain ⟨oc, od, kV, doc, pm, an, cdv, ct, osl, rfl, lk, hcd⟩ := F.ex
  exact .all (h kV doc pm an cdv ct)
theorem fun_mk {x qual : Str} {st : Stmt} {f : Addr} {oc : Value} {od an : Option Addr} {osl : Array (Option Value)} {kV doc pm cdv ct : Value} (l : K.lookup f = some ⟨oc, od, .func (PySem.W.fnOf x qual (defArgs st) (defBody st) (defScope st) .none kV doc pm an cdv ct), osl⟩)
    (c : PySem.W.codeIn K cdv qual = true) (k : PySem.W.keepIn K (.ref f) = true) : Fun K x qual st f (PySem.W.fnOf x qual (defArgs st) (defBody st) (defScope st) .none kV doc pm an cdv ct) := ⟨⟨oc, od, kV, doc, pm, an, cdv, ct, osl, rfl, l, c⟩, k⟩
end
theorem hu_of {A : Around} {k : Nat} (hr : Room k A) : A.units + 1 < cLine := Nat.lt_of_le_of_lt (Nat.add_le_add_left (by decide : 1 ≤ 64) _) hr.units
theorem small1000 {n : Nat} (h : n ≤ 1000) : n < sizeLine := Nat.lt_of_le_of_lt h (by decide)

section
variable {X : Cx}
theorem pv (i : Nat) {x : Str} {pos : Pos} (hN : X.N[i]? = some x := by rfl) (hv : Vis X.env.scope x := by first | exact Or.inl rfl | exact Or.inr (Or.inl rfl) | exact Or.inr (Or.inr rfl)) (hd : (x == ("__debug__" : Str)) = false := by decide)
    (hcd : (x == ("__classdict__" : Str)) = false := by decide) : PE X (.Name x pos) (tVar i) := pe_var hN hv hd hcd
end

theorem iteF {A B : Prop} (h : B) : if false = true then A else B := by
  rw [if_neg Bool.false_ne_true]
  exact h
theorem iteT {A B : Prop} (h : A) : if true = true then A else B := by
  rw [if_pos rfl]
  exact h
theorem ite2 {c A B : Prop} [Decidable c] (h1 : c → A) (h2 : ¬ c → B) : if c then A else B := by
  by_cases h : c
  · rw [if_pos h]
    exact h1 h
  · rw [if_neg h]
    exact h2 h
theorem iteNS {c A B : Prop} [Decidable c] (hc : c) (h : B) : if (!decide c) = true then A else B := by
  rw [decide_eq_true hc]
  exact iteF h

def Same (H H' : Hp) : Prop := ∀ b o, H b = some o → H' b = some o
theorem Same.refl (H : Hp) : Same H H := fun _ _ h => h
theorem Same.trans {H H1 H2 : Hp} (a : Same H H1) (b : Same H1 H2) : Same H H2 := fun c o h => b c o (a c o h)
theorem Same.free {H H' : Hp} (e : Same H H') {l : Addr} (h : H' l = Option.none) : H l = Option.none := by
  cases q : H l with
  | none => rfl
  | some o =>
    rw [e l o q] at h
    cases h
theorem Same.seq {K : PySem.W.Frag} {H H' : Hp} {a : Addr} {xs : List V} (e : Same H H') (h : SqL K H a xs) : SqL K H' a xs := by
  rcases h with (h | ⟨o, h⟩) | h
  · exact .inl (.inl (e _ _ h))
  · exact .inl (.inr ⟨o, e _ _ h⟩)
  · exact .inr h

end L2


namespace L2
open PySem PySem.Spec PyProof.Rows

section
variable {κ : Type} [DecidableEq κ]
def valV (kvs : List (κ × V)) (k : κ) : Option V := (kvs.find? fun kv => decide (kv.1 = k)).map (·.2)
def putK (kvs : List (κ × V)) (k : κ) (v : V) : List (κ × V) :=
  if (kvs.any fun kv => decide (kv.1 = k)) = true then kvs.map (fun kv => if kv.1 = k then (kv.1, v) else kv) else kvs ++ [(k, v)]
def dropK (kvs : List (κ × V)) (k : κ) : List (κ × V) := kvs.filter fun kv => decide (kv.1 ≠ k)

theorem valV_nil {k : κ} : valV ([] : List (κ × V)) k = none := rfl
theorem valV_pos {p : κ × V} {r : List (κ × V)} {k : κ} (e : p.1 = k) : valV (p :: r) k = some p.2 := by simp [valV, List.find?_cons, e]
theorem valV_neg {p : κ × V} {r : List (κ × V)} {k : κ} (e : ¬ p.1 = k) : valV (p :: r) k = valV r k := by simp [valV, List.find?_cons, e]
theorem valV_any (k : κ) : ∀ kvs : List (κ × V), (kvs.any fun kv => decide (kv.1 = k)) = (valV kvs k).isSome
  | [] => rfl
  | p :: r => by
    rw [List.any_cons]
    by_cases e : p.1 = k
    · simp only [valV_pos e, decide_eq_true e, Bool.true_or, Option.isSome_some]
    · rw [valV_neg e, decide_eq_false e, Bool.false_or]; exact valV_any k r
theorem valV_map (k j : κ) (y : V) : ∀ kvs : List (κ × V), valV (kvs.map fun kv => if kv.1 = k then (kv.1, y) else kv) j = (valV kvs j).map fun x => if j = k then y else x
  | [] => rfl
  | p :: r => by
    have ih := valV_map k j y r
    rw [List.map_cons]
    by_cases h : p.1 = k
    · rw [if_pos h]
      by_cases e : p.1 = j
      · rw [valV_pos (p := (p.1, y)) e, valV_pos e, Option.map_some, if_pos (e.symm.trans h)]
      · rw [valV_neg (p := (p.1, y)) e, valV_neg e, ih]
    · rw [if_neg h]
      by_cases e : p.1 = j
      · rw [valV_pos (p := p) e, valV_pos e, Option.map_some, if_neg (fun z => h (e.trans z))]
      · rw [valV_neg (p := p) e, valV_neg e, ih]
theorem valV_snoc (k j : κ) (y : V) : ∀ kvs : List (κ × V), valV kvs k = none → valV (kvs ++ [(k, y)]) j = if j = k then some y else valV kvs j
  | [], _ => by
    by_cases e : k = j
    · rw [if_pos e.symm]; exact valV_pos (p := (k, y)) e
    · rw [if_neg (fun z => e z.symm)]; exact valV_neg (p := (k, y)) e
  | p :: r, hn => by
    rw [List.cons_append]
    have hk : ¬ p.1 = k := fun z => by rw [valV_pos z] at hn; cases hn
    rw [valV_neg hk] at hn
    have ih := valV_snoc k j y r hn
    by_cases e : p.1 = j
    · rw [valV_pos e, valV_pos e, if_neg (fun z => hk (e.trans z))]
    · rw [valV_neg e, valV_neg e, ih]
theorem valV_put (kvs : List (κ × V)) (k j : κ) (y : V) : valV (putK kvs k y) j = if j = k then some y else valV kvs j := by
  unfold putK
  by_cases a : (kvs.any fun kv => decide (kv.1 = k)) = true
  · rw [if_pos a, valV_map]
    rw [valV_any] at a
    by_cases e : j = k
    · obtain ⟨x, hx⟩ := Option.isSome_iff_exists.mp a
      rw [if_pos e, e, hx, Option.map_some, if_pos rfl]
    · rw [if_neg e]
      cases valV kvs j with
      | none => rfl
      | some x => rw [Option.map_some, if_neg e]
  · rw [if_neg a]
    refine valV_snoc k j y kvs ?_
    rw [valV_any] at a
    cases q : valV kvs k with
    | none => rfl
    | some x => rw [q] at a; exact (a rfl).elim
theorem length_putK (kvs : List (κ × V)) (k : κ) (v : V) : (putK kvs k v).length ≤ kvs.length + 1 := by
  unfold putK
  split
  · rw [List.length_map]; omega
  · rw [List.length_append, List.length_cons, List.length_nil]; omega
theorem putK_new {kvs : List (κ × V)} {k : κ} (v : V) (h : valV kvs k = none) : putK kvs k v = kvs ++ [(k, v)] := by
  unfold putK
  rw [valV_any, h]
  exact if_neg (by decide)

theorem RelO.isSome_eq {o : Option V} {u : Option Value} (r : RelO o u) : o.isSome = u.isSome := by
  cases o with
  | none => cases u with
    | none => rfl
    | some _ => exact (show False from r).elim
  | some _ => cases u with
    | none => exact (show False from r).elim
    | some _ => rfl
theorem RelO.getD {o : Option V} {u : Option Value} {d : V} {d' : Value} (r : RelO o u) (rd : RelV d d') : RelV (o.getD d) (u.getD d') := by
  cases o with
  | none => cases u with
    | none => exact rd
    | some _ => exact (show False from r).elim
  | some _ => cases u with
    | none => exact (show False from r).elim
    | some _ => exact r

theorem KV.val {kvs : List (κ × V)} {vs : List (κ × Value)} (r : KV kvs vs) (k : κ) : RelO (valV kvs k) (valueAt vs k) := by
  unfold KV at r
  induction r with
  | nil => exact True.intro
  | @cons p q ps qs h t ih =>
    obtain ⟨h1, h2⟩ := h
    by_cases e : p.1 = k
    · have e' : q.1 = k := h1.symm.trans e
      have b : valueAt (q :: qs) k = some q.2 := by simp [valueAt, List.find?_cons, e']
      rw [valV_pos e, b]; exact h2
    · have e' : ¬ q.1 = k := fun z => e (h1.trans z)
      have b : valueAt (q :: qs) k = valueAt qs k := by simp [valueAt, List.find?_cons, e']
      rw [valV_neg e, b]; exact ih
theorem KV.any {kvs : List (κ × V)} {vs : List (κ × Value)} (r : KV kvs vs) (k : κ) : (kvs.any fun kv => decide (kv.1 = k)) = vs.any fun kv => decide (kv.1 = k) := by
  unfold KV at r
  induction r with
  | nil => rfl
  | cons h t ih => rw [List.any_cons, List.any_cons, ih, h.1]
theorem KV.repl {kvs : List (κ × V)} {vs : List (κ × Value)} (r : KV kvs vs) (k : κ) {y : V} {u : Value} (ry : RelV y u) :
    KV (kvs.map fun kv => if kv.1 = k then (kv.1, y) else kv) (vs.map fun kv => if kv.1 = k then (kv.1, u) else kv) := by
  unfold KV at r ⊢
  induction r with
  | nil => exact .nil
  | @cons p q ps qs h t ih =>
    rw [List.map_cons, List.map_cons]
    refine .cons ?_ ih
    obtain ⟨h1, h2⟩ := h
    by_cases e : p.1 = k
    · rw [if_pos e, if_pos (h1.symm.trans e)]; exact ⟨h1, ry⟩
    · rw [if_neg e, if_neg (fun z => e (h1.trans z))]; exact ⟨h1, h2⟩
theorem KV.put {kvs : List (κ × V)} {vs : List (κ × Value)} (r : KV kvs vs) (k : κ) {y : V} {u : Value} (ry : RelV y u) : KV (putK kvs k y) (stored vs k u) := by
  unfold putK stored
  rw [r.any k]
  by_cases e : (vs.any fun kv => decide (kv.1 = k)) = true
  · rw [if_pos e, if_pos e]; exact r.repl k ry
  · rw [if_neg e, if_neg e]; exact Paired.snoc r ⟨rfl, ry⟩
theorem KV.drop {kvs : List (κ × V)} {vs : List (κ × Value)} (r : KV kvs vs) (k : κ) : KV (dropK kvs k) (without vs k) := by
  unfold KV at r ⊢
  unfold dropK without
  induction r with
  | nil => exact .nil
  | @cons p q ps qs h t ih =>
    obtain ⟨h1, h2⟩ := h
    rw [List.filter_cons, List.filter_cons]
    by_cases e : p.1 = k
    · have a : ¬ decide (p.1 ≠ k) = true := by simp [e]
      have b : ¬ decide (q.1 ≠ k) = true := by simp [h1.symm.trans e]
      rw [if_neg a, if_neg b]; exact ih
    · have e' : ¬ q.1 = k := fun z => e (h1.trans z)
      have a : decide (p.1 ≠ k) = true := by simp [e]
      have b : decide (q.1 ≠ k) = true := by simp [e']
      rw [if_pos a, if_pos b]; exact .cons ⟨h1, h2⟩ ih
theorem KV.keys {kvs : List (κ × V)} {vs : List (κ × Value)} (r : KV kvs vs) : kvs.map (·.1) = vs.map (·.1) := by
  unfold KV at r
  induction r with
  | nil => rfl
  | cons h t ih => rw [List.map_cons, List.map_cons, ih, h.1]
theorem KV.length {kvs : List (κ × V)} {vs : List (κ × Value)} (r : KV kvs vs) : kvs.length = vs.length := Paired.length r
theorem dropK_le (kvs : List (κ × V)) (k : κ) : (dropK kvs k).length ≤ kvs.length := List.length_filter_le _ _
end


theorem kV_is {P : Program} {w : World} {k : Key} {u : Value} (r : RelV (kV k) u) : (mixKind P w).is k u = true := by
  cases k with
  | inl i => obtain ⟨t, e⟩ := (show ∃ t, u = Value.int i t from r); subst e; exact mixKind_int P w i t
  | inr x => obtain ⟨t, e⟩ := (show ∃ t, u = Value.str x t from r); subst e; exact mixKind_str P w x t
theorem kV_inj {a b : Key} (e : kV a = kV b) : a = b := by
  cases a with
  | inl i => cases b with
    | inl j => have e' : V.int i = V.int j := e; injection e' with e'; rw [e']
    | inr y => exact nomatch (show V.int i = V.str y from e)
  | inr x => cases b with
    | inl j => exact nomatch (show V.str x = V.int j from e)
    | inr y => have e' : V.str x = V.str y := e; injection e' with e'; rw [e']
theorem kVs_inj : ∀ {a b : List Key}, a.map kV = b.map kV → a = b
  | [], [], _ => rfl
  | [], _ :: _, e => by simp at e
  | _ :: _, [], e => by simp at e
  | x :: xs, y :: ys, e => by
    rw [List.map_cons, List.map_cons] at e
    injection e with e1 e2
    rw [kV_inj e1, kVs_inj e2]
theorem items_are {P : Program} {w : World} : ∀ {ks : List Key} {us : List Value}, Vals (ks.map kV) us → ItemsAre (mixKind P w) ks us
  | [], _, r => by rw [List.map_nil] at r; cases r; exact .nil
  | k :: ks, _, r => by
    rw [List.map_cons] at r
    cases r with
    | cons h t => exact .cons (kV_is h) (items_are t)

abbrev KT (H : Hp) : List (List Key × V) → List (List Key × Addr × Value) → Prop := Paired fun p q => p.1 = q.1 ∧ H q.2.1 = some (.tup (p.1.map kV)) ∧ RelV p.2 q.2.2
theorem KT.val {H : Hp} {kvs : List (List Key × V)} {xs : List (List Key × Addr × Value)} (r : KT H kvs xs) (k : List Key) : RelO (valV kvs k) ((atKey xs k).map (·.2)) := by
  induction r with
  | nil => exact True.intro
  | @cons p q ps qs h t ih =>
    obtain ⟨h1, _, h2⟩ := h
    by_cases e : p.1 = k
    · have e' : q.1 = k := h1.symm.trans e
      have b : atKey (q :: qs) k = some q.2 := by simp [atKey, List.find?_cons, e']
      rw [valV_pos e, b]; exact h2
    · have e' : ¬ q.1 = k := fun z => e (h1.trans z)
      have b : atKey (q :: qs) k = atKey qs k := by simp [atKey, List.find?_cons, e']
      rw [valV_neg e, b]; exact ih
theorem KT.repl {H : Hp} {kvs : List (List Key × V)} {xs : List (List Key × Addr × Value)} (r : KT H kvs xs) (k : List Key) {y : V} {u : Value} (ry : RelV y u) :
    KT H (kvs.map fun kv => if kv.1 = k then (kv.1, y) else kv) (xs.map (putAt k u)) := by
  induction r with
  | nil => exact .nil
  | @cons p q ps qs h t ih =>
    rw [List.map_cons, List.map_cons]
    refine .cons ?_ ih
    obtain ⟨h1, h2, h3⟩ := h
    unfold putAt
    by_cases e : p.1 = k
    · rw [if_pos e, if_pos (h1.symm.trans e)]; exact ⟨h1, h2, ry⟩
    · rw [if_neg e, if_neg (fun z => e (h1.trans z))]; exact ⟨h1, h2, h3⟩
theorem KT.put {H : Hp} {kvs : List (List Key × V)} {xs : List (List Key × Addr × Value)} (r : KT H kvs xs) (k : List Key) {b : Addr} {y : V} {u : Value} (hb : H b = some (.tup (k.map kV))) (ry : RelV y u) :
    KT H (putK kvs k y) (storedH xs k b u) := by
  have e : (kvs.any fun kv => decide (kv.1 = k)) = (atKey xs k).isSome := by
    rw [valV_any, (r.val k).isSome_eq, Option.isSome_map]
  unfold putK storedH
  rw [e]
  by_cases q : (atKey xs k).isSome = true
  · rw [if_pos q, if_pos q]; exact r.repl k ry
  · rw [if_neg q, if_neg q]; exact Paired.snoc r ⟨rfl, hb, ry⟩
theorem KT.keeps {H H' : Hp} {kvs : List (List Key × V)} {xs : List (List Key × Addr × Value)} (r : KT H kvs xs) (ht : ∀ b ys, H b = some (.tup ys) → H' b = some (.tup ys)) : KT H' kvs xs :=
  Paired.mapP r fun _ _ z => ⟨z.1, ht _ _ z.2.1, z.2.2⟩

section
variable {P : Program} {w : World} {H : Hp} {h : Heap} {a : Addr}
theorem rd_of {u : HO} (ok : HOk P w H h) (e : Rd H a u) : ObjOk P w H h a u := e.ok ok
theorem dk_rd {kvs : List (Key × V)} (ok : HOk P w H h) (e : Rd H a (.dK kvs)) : kvs.length ≤ sizeLine ∧ (a == sysModules) = false ∧ ∃ vs, KV kvs vs ∧ h.DictOf (mixKind P w) a vs :=
  show ObjOk P w H h a (.dK kvs) from rd_of ok e
theorem dk_of {kvs : List (Key × V)} (ok : HOk P w H h) (e : H a = some (.dK kvs)) : kvs.length ≤ sizeLine ∧ (a == sysModules) = false ∧ ∃ vs, KV kvs vs ∧ h.DictOf (mixKind P w) a vs := dk_rd ok (.inl e)
theorem key_of {ks : List Key} (ok : HOk P w H h) (e : H a = some (.tup (ks.map kV))) : (tupleKind (mixKind P w)).is h ks a := by
  obtain ⟨_, its, r, o, h1, h2, n, h3⟩ := (show ObjOk P w H h a (.tup (ks.map kV)) from ok a _ e)
  exact ⟨o, its.toArray, n, h1, h2, h3, by simpa using items_are r⟩
theorem dt_rd {kvs : List (List Key × V)} (ok : HOk P w H h) (e : Rd H a (.dT kvs)) : kvs.length ≤ sizeLine ∧ (a == sysModules) = false ∧
    ∃ xs, KT H kvs xs ∧ h.DictOfH (tupleKind (mixKind P w)) a xs := by
  obtain ⟨z, y, xs, r, o, es, ep, h1, h2, h3, h4, h5⟩ := (show ObjOk P w H h a (.dT kvs) from rd_of ok e)
  refine ⟨z, y, xs, r, o, es, ep, h1, h2, h3, h4, fun x hx => ?_, h5⟩
  have all : ∀ {l : List (List Key × V)} {m : List (List Key × Addr × Value)}, KT H l m → ∀ x ∈ m, (tupleKind (mixKind P w)).is h x.1 x.2.1 := by
    intro l m q
    induction q with
    | nil => intro x hx; exact nomatch hx
    | @cons p q ps qs hq t ih =>
      intro x hx
      rcases List.mem_cons.mp hx with e | hx
      · subst e
        exact key_of ok (by rw [← hq.1]; exact hq.2.1)
      · exact ih x hx
  exact all r x hx
theorem dt_of {kvs : List (List Key × V)} (ok : HOk P w H h) (e : H a = some (.dT kvs)) : kvs.length ≤ sizeLine ∧ (a == sysModules) = false ∧
    ∃ xs, KT H kvs xs ∧ h.DictOfH (tupleKind (mixKind P w)) a xs := dt_rd ok (.inl e)
end

def DGet (H : Hp) (a : Addr) (y : V) (r : Option V) : Prop :=
  (∃ kvs k, Rd H a (.dK kvs) ∧ y = kV k ∧ r = valV kvs k) ∨ ∃ kvs k b, Rd H a (.dT kvs) ∧ y = .ref b ∧ H b = some (.tup (k.map kV)) ∧ r = valV kvs k
def DPut (H : Hp) (a : Addr) (y v : V) (H' : Hp) : Prop :=
  (∃ kvs k, H a = some (.dK kvs) ∧ y = kV k ∧ kvs.length < sizeLine ∧ H' = upd H a (.dK (putK kvs k v))) ∨
  ∃ kvs k b, H a = some (.dT kvs) ∧ y = .ref b ∧ H b = some (.tup (k.map kV)) ∧ kvs.length < sizeLine ∧ H' = upd H a (.dT (putK kvs k v))
theorem DGet.k {H : Hp} {a : Addr} {kvs : List (Key × V)} {k : Key} (e : H a = some (.dK kvs)) : DGet H a (kV k) (valV kvs k) := .inl ⟨kvs, k, .inl e, rfl, rfl⟩
theorem DGet.t {H : Hp} {a b : Addr} {kvs : List (List Key × V)} {k : List Key} (e : H a = some (.dT kvs)) (eb : H b = some (.tup (k.map kV))) : DGet H a (.ref b) (valV kvs k) := .inr ⟨kvs, k, b, .inl e, rfl, eb, rfl⟩
theorem DPut.k {H : Hp} {a : Addr} {kvs : List (Key × V)} {k : Key} {v : V} (e : H a = some (.dK kvs)) (hl : kvs.length < sizeLine) : DPut H a (kV k) v (upd H a (.dK (putK kvs k v))) := .inl ⟨kvs, k, e, rfl, hl, rfl⟩
theorem DPut.t {H : Hp} {a b : Addr} {kvs : List (List Key × V)} {k : List Key} {v : V} (e : H a = some (.dT kvs)) (eb : H b = some (.tup (k.map kV))) (hl : kvs.length < sizeLine) :
    DPut H a (.ref b) v (upd H a (.dT (putK kvs k v))) := .inr ⟨kvs, k, b, e, rfl, eb, hl, rfl⟩


section
variable {X : Cx} {pins : List (Addr × Obj)} {σ : St} {H : Hp} {s : Shared} {a : Addr} {y v : V} {u r : Value} {o : Option V} {A : Around} {E : Value → Shared → Prop}

theorem Inv.big (I : Inv X pins σ H s) : sysModules < s.heap.objs.size := by
  have h : mainGlobals < s.heap.objs.size := (I.mod.glob.keeps I.bk).lt
  exact Nat.lt_trans (by decide) h

theorem d_getItem {Q : Value → Shared → Prop} (hu : A.units + 1 < cLine) (I : Inv X pins σ H s) (g : DGet H a y (some v)) (ry : RelV y u) (h : ∀ w' s', Inv X pins σ H s' → RelV v w' → Q w' s') :
    wpAny (model X.prog X.w) A (getItem (.ref a) u) Q E s := by
  rcases g with ⟨kvs, k, e, ey, l⟩ | ⟨kvs, k, b, e, ey, eb, l⟩
  · subst ey
    obtain ⟨z, hd, vs, rel, dd⟩ := dk_rd I.hok e
    obtain ⟨w', hw, rw'⟩ := RelO.some_of (v := v) (o := valueAt vs k) (by rw [l]; exact rel.val k)
    exact wpAny_getItem_of (kV_is ry) dd.mapOf hw (h w' _ (I.tok _) rw')
  · subst ey
    cases (show u = Value.ref b from ry)
    obtain ⟨z, hd, xs, rel, dd⟩ := dt_rd I.hok e
    obtain ⟨w', hw, rw'⟩ := RelO.some_of (v := v) (o := (atKey xs k).map (·.2)) (by rw [l]; exact rel.val k)
    obtain ⟨p, hp, hp2⟩ := Option.map_eq_some_iff.mp hw
    refine wpAny_getItem_heap (tupleKind_room_in1 hu) (key_of I.hok eb) dd hp ?_
    rw [hp2]
    exact h w' _ (I.tok _) rw'
theorem d_in {Q : Value → Shared → Prop} (hu : A.units + 1 < cLine) (I : Inv X pins σ H s) (g : DGet H a y o) (ry : RelV y u) (h : ∀ s', Inv X pins σ H s' → Q (.bool o.isSome) s') :
    wpAny (model X.prog X.w) A (compareOp .In u (.ref a)) Q E s := by
  rcases g with ⟨kvs, k, e, ey, l⟩ | ⟨kvs, k, b, e, ey, eb, l⟩
  · subst ey
    obtain ⟨z, hd, vs, rel, dd⟩ := dk_rd I.hok e
    refine wpAny_in_of (kV_is ry) hd dd.mapOf ?_
    rw [← (rel.val k).isSome_eq, ← l]
    exact h _ (I.tok _)
  · subst ey
    cases (show u = Value.ref b from ry)
    obtain ⟨z, hd, xs, rel, dd⟩ := dt_rd I.hok e
    refine wpAny_in_heap (tupleKind_room_in1 hu) (key_of I.hok eb) hd dd ?_
    have q := (rel.val k).isSome_eq
    rw [Option.isSome_map] at q
    rw [← q, ← l]
    exact h _ (I.tok _)
theorem d_notIn {Q : Value → Shared → Prop} (hu : A.units + 1 < cLine) (I : Inv X pins σ H s) (g : DGet H a y o) (ry : RelV y u) (h : ∀ s', Inv X pins σ H s' → Q (.bool (!o.isSome)) s') :
    wpAny (model X.prog X.w) A (compareOp .NotIn u (.ref a)) Q E s := by
  rcases g with ⟨kvs, k, e, ey, l⟩ | ⟨kvs, k, b, e, ey, eb, l⟩
  · subst ey
    obtain ⟨z, hd, vs, rel, dd⟩ := dk_rd I.hok e
    refine wpAny_notIn_of (kV_is ry) hd dd.mapOf ?_
    rw [← (rel.val k).isSome_eq, ← l]
    exact h _ (I.tok _)
  · subst ey
    cases (show u = Value.ref b from ry)
    obtain ⟨z, hd, xs, rel, dd⟩ := dt_rd I.hok e
    refine wpAny_notIn_heap (tupleKind_room_in1 hu) (key_of I.hok eb) hd dd ?_
    have q := (rel.val k).isSome_eq
    rw [Option.isSome_map] at q
    rw [← q, ← l]
    exact h _ (I.tok _)
theorem d_write {h' : Heap} {t' : Nat} {ob : HO} (I : Inv X pins σ H s) (mu : Mut (H a)) (hs : Heap.SameBut a s.heap h') (he : ∃ q, h'.get? a = some q) (new : ObjOk X.prog X.w (upd H a ob) h' a ob) :
    Inv X pins σ (upd H a ob) { s with heap := h', toks := t' } :=
  I.write (x := a) (e := a) mu (.inl rfl) (fun b q hb z => (hs.2 b hb).trans z) he new
theorem dk_new {P : Program} {w : World} {H' : Hp} {h' : Heap} {kvs : List (Key × V)} {vs : List (Key × Value)} (z : kvs.length ≤ sizeLine) (hd : (a == sysModules) = false) (rel : KV kvs vs) (dd : h'.DictOf (mixKind P w) a vs) :
    ObjOk P w H' h' a (.dK kvs) := ⟨z, hd, vs, rel, dd⟩
theorem d_setItem {H' : Hp} {Q : Unit → Shared → Prop} (hu : A.units + 1 < cLine) (I : Inv X pins σ H s) (g : DPut H a y v H') (ry : RelV y u) (rv : RelV v r) (h : ∀ s', Inv X pins σ H' s' → Q () s') :
    wpAny (model X.prog X.w) A (setItem (.ref a) u r) Q E s := by
  rcases g with ⟨kvs, k, e, ey, l, eH⟩ | ⟨kvs, k, b, e, ey, eb, l, eH⟩
  · subst ey eH
    obtain ⟨z, hd, vs, rel, dd⟩ := dk_of I.hok e
    have hz : vs.length ≤ sizeLine := by rw [← rel.length]; exact z
    have hl : (putK kvs k v).length ≤ sizeLine := by have := length_putK kvs k v; omega
    refine wpAny_setItem_pairs (hsz := hz) (kV_is ry) dd fun h' dd' hs => h _ ?_
    have he : ∃ q, h'.get? a = some q := let ⟨q, _, _, hq, _⟩ := dd'; ⟨q, hq⟩
    exact d_write I (by rw [e]; exact True.intro) hs he (dk_new hl hd (rel.put k rv) dd')
  · subst ey eH
    cases (show u = Value.ref b from ry)
    obtain ⟨z, hd, xs, rel, dd⟩ := dt_of I.hok e
    have hz : xs.length ≤ sizeLine := by rw [← Paired.length rel]; exact z
    have hl : (putK kvs k v).length ≤ sizeLine := by have := length_putK kvs k v; omega
    refine wpAny_setItem_heap (hsz := hz) (tupleKind_room_in1 hu) (key_of I.hok eb) dd fun h' dd' hs => h _ ?_
    obtain ⟨q, es, ep, hq, h2, h3, h4, _, h5⟩ := dd'
    refine d_write I (by rw [e]; exact True.intro) hs ⟨q, hq⟩ ⟨hl, hd, _, (rel.put k eb rv).keeps fun c ys ec => ?_, q, es, ep, hq, h2, h3, h4, h5⟩
    rw [upd_ne (ne_of ec e (fun z => nomatch z))]
    exact ec
end

section
variable {X : Cx} {pins : List (Addr × Obj)} {σ : St} {H : Hp} {s : Shared} {a : Addr} {kvs : List (Key × V)} {k : Key} {u : Value} {A : Around} {E : Value → Shared → Prop}
theorem d_delItem {Q : Unit → Shared → Prop} (I : Inv X pins σ H s) (e : H a = some (.dK kvs)) (ry : RelV (kV k) u) (l : (valV kvs k).isSome = true) (h : ∀ s', Inv X pins σ (upd H a (.dK (dropK kvs k))) s' → Q () s') :
    wpAny (model X.prog X.w) A (delItem (.ref a) u) Q E s := by
  obtain ⟨z, hd, vs, rel, dd⟩ := dk_of I.hok e
  refine wpAny_delItem_slot dd.typeIs (by decide) PySem.F.slot_dict_delitem
    (call_meetsIn PySem.F.slot_dict_delitem dd.typeIs PySem.F.entry_dict_delitem (PySem.F.args_dict_delitem_2 _ _) (meets_dict_delitem_pairs (mixKind X.prog X.w) a (kV_is ry)) ⟨vs, dd, by rw [← rel.length]; exact z, by rw [← (rel.val k).isSome_eq]; exact l, fun h' dd' hs => h _ ?_⟩)
  have he : ∃ q, h'.get? a = some q := let ⟨q, _, _, hq, _⟩ := dd'; ⟨q, hq⟩
  exact d_write I (by rw [e]; exact True.intro) hs he (dk_new (Nat.le_trans (dropK_le kvs k) z) hd (rel.drop k) dd')
theorem d_pop {v : V} {more : List Value} {Q : Value → Shared → Prop} (I : Inv X pins σ H s) (e : H a = some (.dK kvs)) (ry : RelV (kV k) u) (l : valV kvs k = some v) (hm : more = [] ∨ ∃ x, more = [x])
    (h : ∀ w' s', Inv X pins σ (upd H a (.dK (dropK kvs k))) s' → RelV v w' → Q w' s') : wpAny (model X.prog X.w) A (call (.builtin "dict.pop") (.ref a :: u :: more)) Q E s := by
  obtain ⟨z, hd, vs, rel, dd⟩ := dk_of I.hok e
  obtain ⟨w', hw, rw'⟩ := RelO.some_of (v := v) (o := valueAt vs k) (by rw [← l]; exact rel.val k)
  have hp : (keyPart u).isSome = true := by
    cases k with
    | inl i => obtain ⟨t, q⟩ := (show ∃ t, u = Value.int i t from ry); subst q; rfl
    | inr x => obtain ⟨t, q⟩ := (show ∃ t, u = Value.str x t from ry); subst q; rfl
  have ha : argsOk "dict.pop" ⟨.ref a :: u :: more, []⟩ := by
    rcases hm with q | ⟨x, q⟩
    · subst q; exact PySem.F.args_dict_pop_2 _ _
    · subst q; exact PySem.F.args_dict_pop_3 _ _ _
  refine call_meetsIn PySem.F.slot_dict_pop dd.typeIs PySem.F.entry_dict_pop ha (meets_dict_pop_there (mixKind X.prog X.w) a (kV_is ry) more hm hp)
    ⟨vs, w', dd, by rw [← rel.length]; exact z, hw, fun h' dd' hs => h w' _ ?_ rw'⟩
  have he : ∃ q, h'.get? a = some q := let ⟨q, _, _, hq, _⟩ := dd'; ⟨q, hq⟩
  exact d_write I (by rw [e]; exact True.intro) hs he (dk_new (Nat.le_trans (dropK_le kvs k) z) hd (rel.drop k) dd')
theorem d_popD {r : Value} {Q : Value → Shared → Prop} (I : Inv X pins σ H s) (e : H a = some (.dK kvs)) (ry : RelV (kV k) u) (l : valV kvs k = none) (h : ∀ s', Inv X pins σ H s' → Q r s') :
    wpAny (model X.prog X.w) A (call (.builtin "dict.pop") [.ref a, u, r]) Q E s := by
  obtain ⟨z, hd, vs, rel, dd⟩ := dk_of I.hok e
  have hn : valueAt vs k = none := RelO.none_of (by rw [← l]; exact rel.val k)
  have hp : (keyPart u).isSome = true := by
    cases k with
    | inl i => obtain ⟨t, q⟩ := (show ∃ t, u = Value.int i t from ry); subst q; rfl
    | inr x => obtain ⟨t, q⟩ := (show ∃ t, u = Value.str x t from ry); subst q; rfl
  exact call_meetsIn PySem.F.slot_dict_pop dd.typeIs PySem.F.entry_dict_pop (PySem.F.args_dict_pop_3 _ _ _) (meets_dict_pop_default (mixKind X.prog X.w) a (kV_is ry) hd hp r) ⟨vs, dd, hn, h _ (I.tok _)⟩
theorem d_clear {Q : Value → Shared → Prop} (I : Inv X pins σ H s) (e : H a = some (.dK kvs)) (h : ∀ s', Inv X pins σ (upd H a (.dK [])) s' → Q .none s') : wpAny (model X.prog X.w) A (call (.builtin "dict.clear") [.ref a]) Q E s := by
  obtain ⟨z, hd, vs, rel, dd⟩ := dk_of I.hok e
  refine call_meetsIn PySem.F.slot_dict_clear dd.typeIs PySem.F.entry_dict_clear (PySem.F.args_dict_clear_1 _) (meets_dict_clear (mixKind X.prog X.w) a) ⟨vs, dd, by rw [← rel.length]; exact z, fun h' dd' hs => h _ ?_⟩
  have he : ∃ q, h'.get? a = some q := let ⟨q, _, _, hq, _⟩ := dd'; ⟨q, hq⟩
  exact d_write (t' := s.toks) I (by rw [e]; exact True.intro) hs he (dk_new (Nat.zero_le _) hd .nil dd')
theorem d_len {Q : Value → Shared → Prop} (I : Inv X pins σ H s) (e : Rd H a (.dK kvs)) (h : ∀ t s', Inv X pins σ H s' → Q (.int kvs.length t) s') : wpAny (model X.prog X.w) A (call (.builtin "len") [.ref a]) Q E s := by
  obtain ⟨z, hd, vs, rel, dd⟩ := dk_rd I.hok e
  refine call_len_dict hd dd (by rw [← rel.length]; rw [sizeLine_eq] at z; omega) ?_
  rw [← rel.length]
  exact h _ _ (I.tok _)
theorem d_truth {Q : Bool → Shared → Prop} (I : Inv X pins σ H s) (e : Rd H a (.dK kvs)) (h : ∀ s', Inv X pins σ H s' → Q (!kvs.isEmpty) s') : wpAny (model X.prog X.w) A (truthy (.ref a)) Q E s := by
  obtain ⟨z, hd, vs, rel, dd⟩ := dk_rd I.hok e
  refine wpAny_truthy_dict hd dd (by rw [← rel.length]; rw [sizeLine_eq] at z; omega) ?_
  have q : kvs.isEmpty = vs.isEmpty := by cases rel <;> rfl
  rw [← q]
  exact h _ (I.tok _)
end


def NoSl (i : Expr) : Prop := ∀ ov iv, subscripted i false ov iv = operate [ov, iv] (getItem ov iv)
theorem subD_of {prog : Program} {w : World} {A : Around} {E : Value → Shared → Prop} {s : Shared} {env : Env} {value slice : Expr} {pos : Pos} {T id : String} {Q : Value → Shared → Prop}
    (hl : typeLookup (.type T) "__getitem__" = pure (some (.builtin id))) (hs : NoSl slice)
    (h : wpAny (model prog w) A (eval value env) (fun o s₁ => wpAny (model prog w) A (eval slice env) (fun i s₂ => s₂.TypeIs o T ∧ wpAny (model prog w) A (getItem o i) Q E s₂) E s₁) E s) :
    wpAny (model prog w) A (eval (.Subscript value slice pos) env) Q E s := by
  refine Subscript_ (wpAny_mono h (fun o s₁ h₁ => wpAny_mono h₁ (fun i s₂ h₂ => ?_) fun _ _ x => x) fun _ _ x => x)
  obtain ⟨hT, h₂⟩ := h₂
  unfold subscriptTail
  refine wpAny_bind ?_
  rw [getitemInPython_of_ne hT.not_modules]
  refine wpAny_bind (wpAny_specialOf hT hl ?_)
  have fin : wpAny (model prog w) A (subscripted slice false o i) (fun r s₃ => wpAny (model prog w) A (letTemporaryGo value o r >>= fun _ => pure r) Q E s₃) E s₂ := by
    rw [hs o i]
    exact wpAny_operating (wpAny_mono h₂ (fun r s₃ h₃ => wpAny_bind (wpAny_letTemporaryGo (wpAny_pure h₃))) fun _ _ x => x)
  first
    | exact wpAny_pure (wpAny_bind fin)
    | exact wpAny_bind (wpAny_pure (wpAny_bind fin))
    | exact wpAny_bind fin

theorem dict_typeIs {X : Cx} {pins : List (Addr × Obj)} {σ : St} {H : Hp} {s : Shared} {a : Addr} {y : V} {o : Option V} (I : Inv X pins σ H s) (g : DGet H a y o) : s.TypeIs (.ref a) "dict" := by
  rcases g with ⟨kvs, k, e, _, _⟩ | ⟨kvs, k, b, e, _, _, _⟩
  · obtain ⟨_, _, vs, _, dd⟩ := dk_rd I.hok e
    exact dd.typeIs
  · obtain ⟨_, _, xs, _, dd⟩ := dt_rd I.hok e
    exact dd.typeIs
theorem dict_noDict {X : Cx} {pins : List (Addr × Obj)} {σ : St} {H : Hp} {s : Shared} {a : Addr} {y : V} {o : Option V} (I : Inv X pins σ H s) (g : DGet H a y o) :
    ∀ b, Value.ref a = .ref b → ∃ ob, s.heap.get? b = some ob ∧ ob.dict = none := fun b q => by
  cases q
  rcases g with ⟨kvs, k, e, _, _⟩ | ⟨kvs, k, b, e, _, _, _⟩
  · obtain ⟨_, _, vs, _, ob, _, _, h1, h2, _⟩ := dk_rd I.hok e
    exact ⟨ob, h1, h2.2.1⟩
  · obtain ⟨_, _, xs, _, ob, _, _, h1, h2, _⟩ := dt_rd I.hok e
    exact ⟨ob, h1, h2.2.1⟩

def tDGet (td ty : TE) : TE := fun σ H Q => td σ H fun x H1 => ty σ H1 fun y H2 => ∃ a v, x = .ref a ∧ DGet H2 a y (some v) ∧ Q v H2
def tDIn (ty td : TE) : TE := fun σ H Q => ty σ H fun y H1 => td σ H1 fun x H2 => ∃ a o, x = .ref a ∧ DGet H2 a y o ∧ Q (.bl o.isSome) H2
def tDNotIn (ty td : TE) : TE := fun σ H Q => ty σ H fun y H1 => td σ H1 fun x H2 => ∃ a o, x = .ref a ∧ DGet H2 a y o ∧ Q (.bl (!o.isSome)) H2
def sDPut (td ty tv : TE) : TS := fun D σ H => tv σ H fun v H1 => td σ H1 fun x H2 => ty σ H2 fun y H3 => ∃ a H4, x = .ref a ∧ DPut H3 a y v H4 ∧ D.nx σ H4
def sDAug (td ty tv : TE) (rd : V → V → Hp → VK → Prop) : TS := fun D σ H => td σ H fun x H1 => ty σ H1 fun y H2 => ∃ a v, x = .ref a ∧ DGet H2 a y (some v) ∧
  tv σ H2 fun y2 H3 => rd v y2 H3 fun z H4 => ∃ H5, DPut H4 a y z H5 ∧ D.nx σ H5
def sDDel (td ty : TE) : TS := fun D σ H => td σ H fun x H1 => ty σ H1 fun y H2 => ∃ a kvs k, x = .ref a ∧ H2 a = some (.dK kvs) ∧ y = kV k ∧ (valV kvs k).isSome = true ∧ D.nx σ (upd H2 a (.dK (dropK kvs k)))

section
variable {X : Cx} {o i e value : Expr} {pos pos' tpos : Pos} {td ty tv : TE}
theorem pe_dget (hu : X.A.units + 1 < cLine) (ho : PE X o td) (hi : PE X i ty) (hs : NoSl i) : PE X (.Subscript o i pos) (tDGet td ty) := by
  intro pins s σ H Q I h
  refine subD_of PySem.F.slot_dict_getitem.lookup hs (thn (ho pins s σ H _ I h) fun u s1 ⟨x, H1, I1, rx, q1⟩ => thn (hi pins s1 σ H1 _ I1 q1) fun iv s2 ⟨y, H2, I2, ry, a, v, ex, g, q2⟩ => ?_)
  subst ex
  obtain rfl : u = Value.ref a := rx
  exact ⟨dict_typeIs I2 g, d_getItem hu I2 g ry fun w' s3 I3 rw' => ⟨v, H2, I3, rw', q2⟩⟩
theorem pc_din (hu : X.A.units + 1 < cLine) (hi : PE X i ty) (ho : PE X o td) : PC X .In i o (tDIn ty td) := by
  intro pins s σ H Q I h
  refine thn (hi pins s σ H _ I h) fun iv s1 ⟨y, H1, I1, ry, q1⟩ => thn (ho pins s1 σ H1 _ I1 q1) fun u s2 ⟨x, H2, I2, rx, a, ov, ex, g, q2⟩ => ?_
  subst ex
  obtain rfl : u = Value.ref a := rx
  exact d_in hu I2 g ry fun s3 I3 => ⟨.bl ov.isSome, H2, I3, rfl, q2⟩
theorem pc_dnotin (hu : X.A.units + 1 < cLine) (hi : PE X i ty) (ho : PE X o td) : PC X .NotIn i o (tDNotIn ty td) := by
  intro pins s σ H Q I h
  refine thn (hi pins s σ H _ I h) fun iv s1 ⟨y, H1, I1, ry, q1⟩ => thn (ho pins s1 σ H1 _ I1 q1) fun u s2 ⟨x, H2, I2, rx, a, ov, ex, g, q2⟩ => ?_
  subst ex
  obtain rfl : u = Value.ref a := rx
  exact d_notIn hu I2 g ry fun s3 I3 => ⟨.bl (!ov.isSome), H2, I3, rfl, q2⟩
theorem ps_dput (hu : X.A.units + 1 < cLine) (ho : PE X o td) (hi : PE X i ty) (hv : PE X value tv) (hs : swapsWith value (some (.Subscript o i pos')) pos.line X.env = pure false) :
    PS X (.Assign [.Subscript o i pos'] value pos) (sDPut td ty tv) := by
  intro pins s σ H D I h
  refine wpAny_Assign_Subscript (thn (hv pins s σ H _ I h) fun r s1 ⟨v, H1, I1, rv, q1⟩ => thn (ho pins s1 σ H1 _ I1 q1) fun u s2 ⟨x, H2, I2, rx, q2⟩ => thn (hi pins s2 σ H2 _ I2 q2) fun iv s3 ⟨y, H3, I3, ry, a, H4, ex, g, q3⟩ => ?_) hs
  subst ex
  obtain rfl : u = Value.ref a := rx
  exact d_setItem hu I3 g ry rv fun s4 I4 => ⟨σ, H4, I4, q3⟩
theorem ps_daug {op : Operator} {rd : V → V → Hp → VK → Prop} (hu : X.A.units + 1 < cLine) (ho : PE X o td) (hi : PE X i ty) (hv : PE X value tv) (hop : InOp X op rd)
    (ha : ∀ ov iv new, augStore i ov iv new = (do holding [new, ov, iv] (setItem ov iv new); release [new, ov, iv] []; pure .next)) : PS X (.AugAssign (.Subscript o i tpos) op value pos) (sDAug td ty tv rd) := by
  intro pins s σ H D I h
  refine wpAny_AugAssign_SubscriptAny (thn (ho pins s σ H _ I h) fun u s1 ⟨x, H1, I1, rx, q1⟩ => thn (hi pins s1 σ H1 _ I1 q1) fun iv s2 ⟨y, H2, I2, ry, a, v, ex, g, q2⟩ => ?_) ha
  subst ex
  obtain rfl : u = Value.ref a := rx
  refine d_getItem hu I2 g ry fun w' s3 I3 rw' => thn (hv pins s3 σ H2 _ I3 q2) fun w2 s4 ⟨y2, H3, I4, ry2, q3⟩ => thn (hop pins s4 σ H3 v y2 w' w2 _ I4 rw' ry2 q3) fun w3 s5 ⟨z, H4, I5, rz, H5, g5, q4⟩ => ?_
  exact d_setItem hu I5 g5 ry rz fun s6 I6 => ⟨σ, H5, I6, q4⟩
theorem ps_ddel (ho : PE X o td) (hi : PE X i ty) : PS X (.Delete [.Subscript o i tpos] pos) (sDDel td ty) := by
  intro pins s σ H D I h
  refine wpAny_Delete (wpAny_deleteEach_cons (wpAny_delete_Subscript (thn (ho pins s σ H _ I h) fun u s1 ⟨x, H1, I1, rx, q1⟩ => thn (hi pins s1 σ H1 _ I1 q1) fun iv s2 ⟨y, H2, I2, ry, a, kvs, k, ex, e, ey, l, q2⟩ => ?_)))
  subst ex ey
  obtain rfl : u = Value.ref a := rx
  exact d_delItem I2 e ry l fun s3 I3 => wpAny_deleteEach_nil ⟨σ, _, I3, q2⟩
end


theorem dk_empty {P : Program} {w : World} {H : Hp} (h : Heap) (hb : sysModules < h.objs.size) : ObjOk P w H (h.push { cls := .type "dict", data := .dict #[] }) h.objs.size (.dK []) :=
  ⟨Nat.zero_le _, beq_eq_false_iff_ne.mpr (Ne.symm (Nat.ne_of_lt hb)), [], .nil, Heap.DictOf.new h⟩
theorem dt_empty {P : Program} {w : World} {H : Hp} (h : Heap) (hb : sysModules < h.objs.size) : ObjOk P w H (h.push { cls := .type "dict", data := .dict #[] }) h.objs.size (.dT []) :=
  ⟨Nat.zero_le _, beq_eq_false_iff_ne.mpr (Ne.symm (Nat.ne_of_lt hb)), [], .nil, _, #[], 0, Heap.get?_push_size _ rfl, ⟨rfl, rfl, rfl⟩, rfl, rfl, List.nodup_nil⟩
def tDNewK : TE := fun _ H Q => ∀ p, H p = none → Q (.ref p) (upd H p (.dK []))
def tDNewT : TE := fun _ H Q => ∀ p, H p = none → Q (.ref p) (upd H p (.dT []))
section
variable {X : Cx} {pos : Pos}
theorem pe_dnewK : PE X (.Dict [] [] pos) tDNewK := fun pins s σ H Q I h =>
  wpAny_Dict_empty ⟨.ref s.heap.objs.size, _, I.laid (a := s.heap.objs.size) (o := .dK []) (t' := s.toks) (fun _ _ q => Heap.get?_push_of_some _ q) (Nat.le_refl _) (dk_empty s.heap I.big), rfl, h _ (I.hok.fresh (Nat.le_refl _))⟩
theorem pe_dnewT : PE X (.Dict [] [] pos) tDNewT := fun pins s σ H Q I h =>
  wpAny_Dict_empty ⟨.ref s.heap.objs.size, _, I.laid (a := s.heap.objs.size) (o := .dT []) (t' := s.toks) (fun _ _ q => Heap.get?_push_of_some _ q) (Nat.le_refl _) (dt_empty s.heap I.big), rfl, h _ (I.hok.fresh (Nat.le_refl _))⟩
end

def tPairs : List (TE × TE) → St → Hp → (List (V × V) → Hp → Prop) → Prop
  | [], _, H, Q => Q [] H
  | (tk, tv) :: r, σ, H, Q => tk σ H fun x H1 => tv σ H1 fun y H2 => tPairs r σ H2 fun ps H3 => Q ((x, y) :: ps) H3
abbrev VV : List (V × V) → List (Value × Value) → Prop := Paired fun p q => RelV p.1 q.1 ∧ RelV p.2 q.2
def PPs (X : Cx) (pos : Pos) (keys : List (Option Expr)) (values : List Expr) (trs : List (TE × TE)) : Prop :=
  ∀ (pins : List (Addr × Obj)) (s : Shared) (σ : St) (H : Hp) (Q : List (V × V) → Hp → Prop), Inv X pins σ H s → tPairs trs σ H Q →
    wpAny (model X.prog X.w) X.A (evalPairs (pairTrees keys values X.env pos)) (fun vs s' => ∃ ps H', Inv X pins σ H' s' ∧ VV ps vs ∧ Q ps H') X.xe s
theorem pps_nil {X : Cx} {pos : Pos} : PPs X pos [] [] [] := fun pins s σ H Q I h => pairTrees_nil_walk ⟨[], H, I, .nil, h⟩
theorem pps_cons {X : Cx} {pos : Pos} {k v : Expr} {ks : List (Option Expr)} {vs : List Expr} {tk tv : TE} {trs : List (TE × TE)} (hk : PE X k tk) (hv : PE X v tv) (hr : PPs X pos ks vs trs) :
    PPs X pos (some k :: ks) (v :: vs) ((tk, tv) :: trs) := fun pins s σ H Q I h =>
  pairTrees_cons_walk (thn (hk pins s σ H _ I h) fun u s1 ⟨x, H1, I1, rx, q1⟩ => thn (hv pins s1 σ H1 _ I1 q1) fun w2 s2 ⟨y, H2, I2, ry, q2⟩ =>
    thn (hr pins s2 σ H2 _ I2 q2) fun ws s3 ⟨ps, H3, I3, rel, q3⟩ => ⟨(x, y) :: ps, H3, I3, .cons ⟨rx, ry⟩ rel, q3⟩)

def mergeK (kvs more : List (Key × V)) : List (Key × V) := more.foldl (fun acc kv => putK acc kv.1 kv.2) kvs
theorem KV.merge : ∀ {more : List (Key × V)} {rs : List (Key × Value)} {kvs : List (Key × V)} {vs : List (Key × Value)}, KV more rs → KV kvs vs → KV (mergeK kvs more) (merged vs rs) := by
  intro more rs kvs vs r
  unfold KV at r
  induction r generalizing kvs vs with
  | nil => intro q; exact q
  | @cons p q ps qs h t ih =>
    intro r0
    have e : KV (putK kvs p.1 p.2) (stored vs q.1 q.2) := by
      have := r0.put p.1 h.2
      rw [← h.1]; exact this
    exact ih e
theorem length_mergeK : ∀ (more kvs : List (Key × V)), (mergeK kvs more).length ≤ kvs.length + more.length
  | [], kvs => by show kvs.length ≤ kvs.length + 0; omega
  | p :: r, kvs => by
    have h1 := length_mergeK r (putK kvs p.1 p.2)
    have h2 := length_putK kvs p.1 p.2
    show (mergeK (putK kvs p.1 p.2) r).length ≤ _
    rw [List.length_cons]; omega
theorem carries_of {P : Program} {w : World} : ∀ {kvs : List (Key × V)} {ws : List (Value × Value)}, VV (kvs.map fun kv => (kV kv.1, kv.2)) ws → ∃ rs, Carries (mixKind P w) ws rs ∧ KV kvs rs
  | [], _, r => by rw [List.map_nil] at r; cases r; exact ⟨[], True.intro, .nil⟩
  | p :: kvs, _, r => by
    rw [List.map_cons] at r
    cases r with
    | @cons a b as bs h t =>
      obtain ⟨rs, c, q⟩ := carries_of (P := P) (w := w) t
      obtain ⟨b1, b2⟩ := b
      exact ⟨(p.1, b2) :: rs, ⟨kV_is h.1, rfl, c⟩, .cons ⟨rfl, h.2⟩ q⟩
def tDisp (trs : List (TE × TE)) : TE := fun σ H Q => ∀ p, H p = none → tPairs trs σ (upd H p (.dK [])) fun ps H2 => H2 p = some (.dK []) ∧ ∃ kvs : List (Key × V), ps = kvs.map (fun kv => (kV kv.1, kv.2)) ∧ kvs.length ≤ 15 ∧ Q (.ref p) (upd H2 p (.dK (mergeK [] kvs)))
theorem pe_disp {X : Cx} {pos : Pos} {keys : List (Option Expr)} {values : List Expr} {trs : List (TE × TE)} (h : PPs X pos keys values trs) (hall : keys.all (·.isSome) = true) (hl : keys.length = values.length) (h0 : keys ≠ [])
    (h15 : keys.length ≤ 15) : PE X (.Dict keys values pos) (tDisp trs) := by
  intro pins s σ H Q I q
  have hn := I.hok.fresh (Nat.le_refl s.heap.objs.size)
  have I1 := I.laid (a := s.heap.objs.size) (o := .dK []) (h' := s.heap.push { cls := .type "dict", data := .dict #[] }) (t' := s.toks) (fun _ _ q => Heap.get?_push_of_some _ q) (Nat.le_refl _) (dk_empty s.heap I.big)
  refine wpAny_Dict_walk (knd := mixKind X.prog X.w) hall hl h0 h15 (thn (h pins _ σ _ _ I1 (q _ hn)) fun ws s2 ⟨ps, H2, I2, rel, e, kvs, ep, lk, q2⟩ => ?_)
  subst ep
  obtain ⟨rs, c, rk⟩ := carries_of (P := X.prog) (w := X.w) rel
  obtain ⟨z, hd, vs0, r0, dd⟩ := dk_of I2.hok e
  cases r0
  refine ⟨rs, c, dd, fun h' dd' hs => ⟨.ref s.heap.objs.size, _, ?_, rfl, q2⟩⟩
  have hz : (mergeK [] kvs).length ≤ sizeLine := by
    have h1 := length_mergeK kvs []
    rw [List.length_nil] at h1
    rw [sizeLine_eq]; omega
  have he : ∃ q, h'.get? s.heap.objs.size = some q := let ⟨q, _, _, hq, _⟩ := dd'; ⟨q, hq⟩
  exact d_write I2 (by rw [e]; exact True.intro) hs he (dk_new hz hd (rk.merge .nil) dd')


structure M1 (X : Cx) (o : Expr) (m : Str) (apos : Pos) (e : Expr) (cpos : Pos) : Prop where
  base : attributeBase o m X.env (eval o X.env) = eval o X.env
  few : ((backTo cpos (starEach [e] X.env)).all (fun x => !x.1) && (backToKw cpos (keywordEach [] X.env)).all (fun x => x.1.isSome)
    && decide (([e] : List Expr).length + ([] : List Keyword).length + (if ([] : List Keyword).isEmpty then 0 else 1) < 30)) = true
  line : (apos.endLine == cpos.line) = true
  trees : backTo cpos (starEach [e] X.env) = [(false, eval e X.env)]
structure M2 (X : Cx) (o : Expr) (m : Str) (apos : Pos) (e f : Expr) (cpos : Pos) : Prop where
  base : attributeBase o m X.env (eval o X.env) = eval o X.env
  few : ((backTo cpos (starEach [e, f] X.env)).all (fun x => !x.1) && (backToKw cpos (keywordEach [] X.env)).all (fun x => x.1.isSome)
    && decide (([e, f] : List Expr).length + ([] : List Keyword).length + (if ([] : List Keyword).isEmpty then 0 else 1) < 30)) = true
  line : (apos.endLine == cpos.line) = true
  trees : backTo cpos (starEach [e, f] X.env) = [(false, eval e X.env), (false, eval f X.env)]

def IsD (H : Hp) (a : Addr) : Prop := (∃ kvs, Rd H a (.dK kvs)) ∨ ∃ kvs, Rd H a (.dT kvs)
theorem isD_at {X : Cx} {pins : List (Addr × Obj)} {σ : St} {H : Hp} {s : Shared} {a : Addr} (I : Inv X pins σ H s) (d : IsD H a) :
    s.TypeIs (.ref a) "dict" ∧ (∀ b, Value.ref a = .ref b → ∃ ob, s.heap.get? b = some ob ∧ ob.dict = none) ∧ (a == sysModules) = false := by
  rcases d with ⟨kvs, e⟩ | ⟨kvs, e⟩
  · obtain ⟨_, hd, vs, _, dd⟩ := dk_rd I.hok e
    refine ⟨dd.typeIs, fun b q => ?_, hd⟩
    cases q
    obtain ⟨ob, _, _, h1, h2, _⟩ := dd
    exact ⟨ob, h1, h2.2.1⟩
  · obtain ⟨_, hd, xs, _, dd⟩ := dt_rd I.hok e
    refine ⟨dd.typeIs, fun b q => ?_, hd⟩
    cases q
    obtain ⟨ob, _, _, h1, h2, _⟩ := dd
    exact ⟨ob, h1, h2.2.1⟩

section
variable {X : Cx} {pins : List (Addr × Obj)} {σ : St} {H : Hp} {s : Shared} {a : Addr} {y d : V} {u r : Value} {o : Option V} {A : Around} {E : Value → Shared → Prop}
theorem d_get1 {Q : Value → Shared → Prop} (hu : A.units + 1 < cLine) (I : Inv X pins σ H s) (g : DGet H a y o) (ry : RelV y u) (h : ∀ w' s', Inv X pins σ H s' → RelV (o.getD .non) w' → Q w' s') :
    wpAny (model X.prog X.w) A (call (.builtin "dict.get") [.ref a, u]) Q E s := by
  rcases g with ⟨kvs, k, e, ey, l⟩ | ⟨kvs, k, b, e, ey, eb, l⟩
  · subst ey
    obtain ⟨z, hd, vs, rel, dd⟩ := dk_rd I.hok e
    refine call_meetsIn PySem.F.slot_dict_get dd.typeIs PySem.F.entry_dict_get (PySem.F.args_dict_get_2 _ _) (meets_dict_get (mixKind X.prog X.w) a (kV_is ry) hd) ⟨_, dd.mapOf, h _ _ (I.tok _) ?_⟩
    rw [l]
    exact (rel.val k).getD rfl
  · subst ey
    cases (show u = Value.ref b from ry)
    obtain ⟨z, hd, xs, rel, dd⟩ := dt_rd I.hok e
    refine call_meetsIn PySem.F.slot_dict_get dd.typeIs PySem.F.entry_dict_get (PySem.F.args_dict_get_2 _ _) (meetsH_dict_get (tupleKind (mixKind X.prog X.w)) a b hd) ⟨tupleKind_room_in1 hu, k, xs, key_of I.hok eb, dd, h _ _ (I.tok _) ?_⟩
    rw [l]
    exact (rel.val k).getD rfl
theorem d_get2 {Q : Value → Shared → Prop} (hu : A.units + 1 < cLine) (I : Inv X pins σ H s) (g : DGet H a y o) (ry : RelV y u) (rd : RelV d r) (h : ∀ w' s', Inv X pins σ H s' → RelV (o.getD d) w' → Q w' s') :
    wpAny (model X.prog X.w) A (call (.builtin "dict.get") [.ref a, u, r]) Q E s := by
  rcases g with ⟨kvs, k, e, ey, l⟩ | ⟨kvs, k, b, e, ey, eb, l⟩
  · subst ey
    obtain ⟨z, hd, vs, rel, dd⟩ := dk_rd I.hok e
    refine call_meetsIn PySem.F.slot_dict_get dd.typeIs PySem.F.entry_dict_get (PySem.F.args_dict_get_3 _ _ _) (meets_dict_get_default (mixKind X.prog X.w) a (kV_is ry) hd r) ⟨_, dd.mapOf, h _ _ (I.tok _) ?_⟩
    rw [l]
    exact (rel.val k).getD rd
  · subst ey
    cases (show u = Value.ref b from ry)
    obtain ⟨z, hd, xs, rel, dd⟩ := dt_rd I.hok e
    refine call_meetsIn PySem.F.slot_dict_get dd.typeIs PySem.F.entry_dict_get (PySem.F.args_dict_get_3 _ _ _) (meetsH_dict_get_default (tupleKind (mixKind X.prog X.w)) a b hd r) ⟨tupleKind_room_in1 hu, k, xs, key_of I.hok eb, dd, h _ _ (I.tok _) ?_⟩
    rw [l]
    exact (rel.val k).getD rd
end

def tDGet1 (td ty : TE) : TE := fun σ H Q => td σ H fun x H1 => ∃ a, x = .ref a ∧ IsD H1 a ∧ ty σ H1 fun y H2 => ∃ o, DGet H2 a y o ∧ Q (o.getD .non) H2
def tDGet2 (td ty tx : TE) : TE := fun σ H Q => td σ H fun x H1 => ∃ a, x = .ref a ∧ IsD H1 a ∧ ty σ H1 fun y H2 => tx σ H2 fun z H3 => ∃ o, DGet H3 a y o ∧ Q (o.getD z) H3
def tDPop1 (td ty : TE) : TE := fun σ H Q => td σ H fun x H1 => ∃ a, x = .ref a ∧ IsD H1 a ∧ ty σ H1 fun y H2 => ∃ kvs k v, H2 a = some (.dK kvs) ∧ y = kV k ∧ valV kvs k = some v ∧ Q v (upd H2 a (.dK (dropK kvs k)))
def tDPop2 (td ty tx : TE) : TE := fun σ H Q => td σ H fun x H1 => ∃ a, x = .ref a ∧ IsD H1 a ∧ ty σ H1 fun y H2 => tx σ H2 fun z H3 => ∃ kvs k, H3 a = some (.dK kvs) ∧ y = kV k ∧
  (∀ v, valV kvs k = some v → Q v (upd H3 a (.dK (dropK kvs k)))) ∧ (valV kvs k = none → Q z H3)
section
variable {X : Cx} {o e f : Expr} {apos cpos : Pos} {td ty tx : TE}
theorem pe_dget1 (hu : X.A.units + 1 < cLine) (ho : PE X o td) (he : PE X e ty) (m : M1 X o "get" apos e cpos) : PE X (.Call (.Attribute o "get" apos) [e] [] cpos) (tDGet1 td ty) := by
  intro pins s σ H Q I h
  refine wpAny_Call_method m.base m.few m.line PySem.F.plainAttrs_dict PySem.F.slot_dict_get PySem.F.type_dict_get (thn (ho pins s σ H _ I h) fun u s1 ⟨x, H1, I1, rx, a, ex, d, q1⟩ => ?_)
  subst ex
  obtain rfl : u = Value.ref a := rx
  obtain ⟨t1, t2, _⟩ := isD_at I1 d
  refine ⟨t1, t2, ?_⟩
  rw [m.trees]
  refine Calls.callWith_builtin rfl (Calls.evalArgs_plain (Calls.spliced_cons (thn (he pins s1 σ H1 _ I1 q1) fun iv s2 ⟨y, H2, I2, ry, ov, g, q2⟩ => Calls.spliced_nil ?_)))
  exact d_get1 hu I2 g ry fun w' s3 I3 rw' => ⟨_, H2, I3, rw', q2⟩
theorem pe_dget2 (hu : X.A.units + 1 < cLine) (ho : PE X o td) (he : PE X e ty) (hf : PE X f tx) (m : M2 X o "get" apos e f cpos) : PE X (.Call (.Attribute o "get" apos) [e, f] [] cpos) (tDGet2 td ty tx) := by
  intro pins s σ H Q I h
  refine wpAny_Call_method m.base m.few m.line PySem.F.plainAttrs_dict PySem.F.slot_dict_get PySem.F.type_dict_get (thn (ho pins s σ H _ I h) fun u s1 ⟨x, H1, I1, rx, a, ex, d, q1⟩ => ?_)
  subst ex
  obtain rfl : u = Value.ref a := rx
  obtain ⟨t1, t2, _⟩ := isD_at I1 d
  refine ⟨t1, t2, ?_⟩
  rw [m.trees]
  refine Calls.callWith_builtin rfl (Calls.evalArgs_plain (Calls.spliced_cons (thn (he pins s1 σ H1 _ I1 q1) fun iv s2 ⟨y, H2, I2, ry, q2⟩ =>
    Calls.spliced_cons (thn (hf pins s2 σ H2 _ I2 q2) fun fv s3 ⟨z, H3, I3, rz, ov, g, q3⟩ => Calls.spliced_nil ?_))))
  exact d_get2 hu I3 g ry rz fun w' s4 I4 rw' => ⟨_, H3, I4, rw', q3⟩
theorem pe_dpop1 (ho : PE X o td) (he : PE X e ty) (m : M1 X o "pop" apos e cpos) : PE X (.Call (.Attribute o "pop" apos) [e] [] cpos) (tDPop1 td ty) := by
  intro pins s σ H Q I h
  refine wpAny_Call_method m.base m.few m.line PySem.F.plainAttrs_dict PySem.F.slot_dict_pop PySem.F.type_dict_pop (thn (ho pins s σ H _ I h) fun u s1 ⟨x, H1, I1, rx, a, ex, d, q1⟩ => ?_)
  subst ex
  obtain rfl : u = Value.ref a := rx
  obtain ⟨t1, t2, _⟩ := isD_at I1 d
  refine ⟨t1, t2, ?_⟩
  rw [m.trees]
  refine Calls.callWith_builtin rfl (Calls.evalArgs_plain (Calls.spliced_cons (thn (he pins s1 σ H1 _ I1 q1) fun iv s2 ⟨y, H2, I2, ry, kvs, k, v, ea, ey, l, q2⟩ => Calls.spliced_nil ?_)))
  subst ey
  exact d_pop I2 ea ry l (.inl rfl) fun w' s3 I3 rw' => ⟨v, _, I3, rw', q2⟩
theorem pe_dpop2 (ho : PE X o td) (he : PE X e ty) (hf : PE X f tx) (m : M2 X o "pop" apos e f cpos) : PE X (.Call (.Attribute o "pop" apos) [e, f] [] cpos) (tDPop2 td ty tx) := by
  intro pins s σ H Q I h
  refine wpAny_Call_method m.base m.few m.line PySem.F.plainAttrs_dict PySem.F.slot_dict_pop PySem.F.type_dict_pop (thn (ho pins s σ H _ I h) fun u s1 ⟨x, H1, I1, rx, a, ex, d, q1⟩ => ?_)
  subst ex
  obtain rfl : u = Value.ref a := rx
  obtain ⟨t1, t2, _⟩ := isD_at I1 d
  refine ⟨t1, t2, ?_⟩
  rw [m.trees]
  refine Calls.callWith_builtin rfl (Calls.evalArgs_plain (Calls.spliced_cons (thn (he pins s1 σ H1 _ I1 q1) fun iv s2 ⟨y, H2, I2, ry, q2⟩ =>
    Calls.spliced_cons (thn (hf pins s2 σ H2 _ I2 q2) fun fv s3 ⟨z, H3, I3, rz, kvs, k, ea, ey, q3, q4⟩ => Calls.spliced_nil ?_))))
  subst ey
  cases l : valV kvs k with
  | some v => exact d_pop I3 ea ry l (.inr ⟨fv, rfl⟩) fun w' s4 I4 rw' => ⟨v, _, I4, rw', q3 v l⟩
  | none => exact d_popD I3 ea ry l fun s4 I4 => ⟨z, H3, I4, rz, q4 l⟩
end

section
variable {X : Cx} {pins : List (Addr × Obj)} {σ : St} {H : Hp} {s : Shared} {a : Addr} {kvs : List (Key × V)} {A : Around} {E : Value → Shared → Prop}
theorem d_copyOf {Q : Value → Shared → Prop} (I : Inv X pins σ H s) (e : Rd H a (.dK kvs)) (h : ∀ p s', H p = none → Inv X pins σ (upd H p (.dK kvs)) s' → Q (.ref p) s') : wpAny (model X.prog X.w) A (call (.type "dict") [.ref a]) Q E s := by
  obtain ⟨z, hd, vs, rel, dd⟩ := dk_rd I.hok e
  refine kt_call_dict hd dd (by rw [← rel.length]; exact z) fun h' dd' hs => ?_
  refine h _ _ (I.hok.fresh (Nat.le_refl _)) (I.laid (a := s.heap.objs.size) (o := .dK kvs) (t' := s.toks) (fun b q hq => ?_) (Nat.le_refl _) (dk_new z (beq_eq_false_iff_ne.mpr (Ne.symm (Nat.ne_of_lt I.big))) rel dd'))
  exact (hs.2 b (Nat.ne_of_lt (Heap.lt_size hq))).trans (Heap.get?_push_of_some _ hq)
end


section
variable {X : Cx} {pins : List (Addr × Obj)} {σ : St} {H : Hp} {s : Shared} {a : Addr} {y : V} {u : Value} {A : Around} {E : Value → Shared → Prop}
theorem d_missing {Q : Value → Shared → Prop} (hu : A.units + 1 < cLine) (hh : A.handled = none) (I : Inv X pins σ H s) (g : DGet H a y none) (ry : RelV y u)
    (h : ∀ h' e t', Heap.NewExc s.heap h' e "KeyError" → E (.ref e) { s with heap := h', toks := t' }) : wpAny (model X.prog X.w) A (getItem (.ref a) u) Q E s := by
  rcases g with ⟨kvs, k, e, ey, l⟩ | ⟨kvs, k, b, e, ey, eb, l⟩
  · subst ey
    obtain ⟨z, hd, vs, rel, dd⟩ := dk_rd I.hok e
    have hn : valueAt vs k = none := RelO.none_of (by rw [l]; exact rel.val k)
    exact wpAny_getItem_missing_of (kV_is ry) hd hh dd.mapOf hn fun h' ex ne => h h' ex _ ne
  · subst ey
    cases (show u = Value.ref b from ry)
    obtain ⟨z, hd, xs, rel, dd⟩ := dt_rd I.hok e
    have hn : (atKey xs k).map (·.2) = none := RelO.none_of (by rw [l]; exact rel.val k)
    exact wpAny_getItem_missing_heap (tupleKind_room_in1 hu) (key_of I.hok eb) hd hh dd (Option.map_eq_none_iff.mp hn) fun h' ex ne => h h' ex _ ne
end
end L2
namespace L2
open PySem PySem.Spec PyProof.Rows
section
variable {X : Cx}
theorem call_lenD : CallR X (.builtin "len") (fun xs H Q => ∃ a kvs, xs = [V.ref a] ∧ H a = some (.dK kvs) ∧ Q (.int kvs.length) H) := by
  intro pins s σ H xs us Q I r h
  obtain ⟨a, kvs, rfl, ha, q⟩ := h
  obtain ⟨u, rfl, ru⟩ := vals1 r
  cases ru
  exact d_len I (.inl ha) fun t s' I' => ⟨.int kvs.length, H, I', ⟨t, rfl⟩, q⟩
end
section
variable {κ : Type} [DecidableEq κ]
theorem valV_not {kvs : List (κ × V)} {k : κ} (h : valV kvs k = none) : ¬ k ∈ kvs.map (·.1) := by
  intro m
  obtain ⟨p, hp, e⟩ := List.mem_map.mp m
  have q : (kvs.any fun kv => decide (kv.1 = k)) = true := List.any_eq_true.mpr ⟨p, hp, decide_eq_true e⟩
  rw [valV_any, h] at q
  exact absurd q (by simp)
theorem valV_in {kvs : List (κ × V)} {k : κ} {v : V} (h : valV kvs k = some v) : k ∈ kvs.map (·.1) := by
  have q : (kvs.any fun kv => decide (kv.1 = k)) = true := by
    rw [valV_any, h]
    all_goals rfl
  obtain ⟨p, hp, e⟩ := List.any_eq_true.mp q
  exact List.mem_map.mpr ⟨p, hp, of_decide_eq_true e⟩
theorem nd_snoc : ∀ {l : List κ} {k : κ}, l.Nodup → ¬ k ∈ l → (l ++ [k]).Nodup
  | [], k, _, _ => by simp
  | a :: r, k, h, hk => by
    obtain ⟨h1, h2⟩ := List.nodup_cons.mp h
    show (a :: (r ++ [k])).Nodup
    refine List.nodup_cons.mpr ⟨fun m => ?_, nd_snoc h2 fun m => hk (List.mem_cons.mpr (Or.inr m))⟩
    rcases List.mem_append.mp m with q | q
    · exact h1 q
    · exact hk (List.mem_cons.mpr (Or.inl (List.mem_singleton.mp q).symm))
theorem nd_putK {kvs : List (κ × V)} {k : κ} (v : V) (hn : (kvs.map (·.1)).Nodup) (h : valV kvs k = none) : ((putK kvs k v).map (·.1)).Nodup := by
  rw [putK_new v h, List.map_append]
  exact nd_snoc hn (valV_not h)
theorem dropK_pos {p : κ × V} {r : List (κ × V)} {k : κ} (e : p.1 = k) : dropK (p :: r) k = dropK r k := by
  unfold dropK
  rw [List.filter_cons, if_neg (by simp [e])]
theorem dropK_neg {p : κ × V} {r : List (κ × V)} {k : κ} (e : ¬ p.1 = k) : dropK (p :: r) k = p :: dropK r k := by
  unfold dropK
  rw [List.filter_cons, if_pos (by simp [e])]
theorem dropK_no : ∀ {kvs : List (κ × V)} {k : κ}, ¬ k ∈ kvs.map (·.1) → dropK kvs k = kvs
  | [], _, _ => rfl
  | p :: r, k, h => by
    have h' : ¬ k ∈ r.map (·.1) := fun m => by
      obtain ⟨q, hq, e⟩ := List.mem_map.mp m
      exact h (List.mem_map.mpr ⟨q, List.mem_cons.mpr (Or.inr hq), e⟩)
    rw [dropK_neg fun e => h (List.mem_map.mpr ⟨p, List.mem_cons.mpr (Or.inl rfl), e⟩), dropK_no h']
theorem dropK_mem {kvs : List (κ × V)} {k : κ} {p : κ × V} (h : p ∈ dropK kvs k) : p ∈ kvs := (List.mem_filter.mp h).1
theorem nd_dropK : ∀ {kvs : List (κ × V)} {k : κ}, (kvs.map (·.1)).Nodup → ((dropK kvs k).map (·.1)).Nodup
  | [], _, _ => List.nodup_nil
  | p :: r, k, h => by
    have h : (p.1 :: r.map (·.1)).Nodup := h
    obtain ⟨h1, h2⟩ := List.nodup_cons.mp h
    by_cases e : p.1 = k
    · rw [dropK_pos e]
      exact nd_dropK h2
    · rw [dropK_neg e]
      show (p.1 :: (dropK r k).map (·.1)).Nodup
      refine List.nodup_cons.mpr ⟨fun m => h1 ?_, nd_dropK h2⟩
      obtain ⟨q, hq, eq⟩ := List.mem_map.mp m
      exact List.mem_map.mpr ⟨q, dropK_mem hq, eq⟩
theorem dropK_len : ∀ {kvs : List (κ × V)} {k : κ}, (kvs.map (·.1)).Nodup → k ∈ kvs.map (·.1) → (dropK kvs k).length + 1 = kvs.length
  | [], _, _, m => by simp at m
  | p :: r, k, h, m => by
    have h : (p.1 :: r.map (·.1)).Nodup := h
    have m : k = p.1 ∨ k ∈ r.map (·.1) := List.mem_cons.mp m
    obtain ⟨h1, h2⟩ := List.nodup_cons.mp h
    by_cases e : p.1 = k
    · subst e
      rw [dropK_pos rfl, dropK_no h1]
      all_goals rfl
    · have m' : k ∈ r.map (·.1) := m.resolve_left fun z => e z.symm
      have q := dropK_len h2 m'
      rw [dropK_neg e, List.length_cons, List.length_cons]
      omega
end
end L2

set_option maxHeartbeats 4000000
namespace L2
open PySem PySem.Spec PyProof.Rows

theorem noE {α : Type} {M : Model} {A : Around} {t : Sem α} {Q : α → Shared → Prop} {E : Value → Shared → Prop} {s : Shared} (h : wpAny M A t Q (fun _ _ => False) s) : wpAny M A t Q E s :=
  wpAny_mono h (fun _ _ q => q) fun _ _ f => f.elim

def closL (cells : List (Str × Addr)) : List (Str × NameKind) → List (Str × Addr) → List (Str × Addr)
  | [], acc => acc
  | (n, k) :: r, acc => closL cells r (if (k == NameKind.free) = true then (n, (cells.lookup n).getD 0) :: acc else acc)
theorem closL_sub {cells : List (Str × Addr)} {y : Str} {c : Addr} : ∀ (names : List (Str × NameKind)) (acc : List (Str × Addr)),
    (closL cells names acc).lookup y = some c → acc.lookup y = some c ∨ ((y, NameKind.free) ∈ names ∧ c = (cells.lookup y).getD 0)
  | [], acc, h => .inl h
  | (n, k) :: r, acc, h => by
    rcases closL_sub r _ h with h1 | ⟨h1, h2⟩
    · by_cases hk : (k == NameKind.free) = true
      · rw [if_pos hk, List.lookup_cons] at h1
        by_cases e : (y == n) = true
        · rw [e] at h1
          have e1 : y = n := by simpa using e
          have e2 : k = NameKind.free := by simpa using hk
          subst e1 e2
          exact .inr ⟨List.mem_cons_self, (Option.some.inj h1).symm⟩
        · have e1 : (y == n) = false := by simpa using e
          rw [e1] at h1
          exact .inl h1
      · rw [if_neg hk] at h1
        exact .inl h1
    · exact .inr ⟨List.mem_cons_of_mem _ h1, h2⟩
theorem closL_keeps {cells : List (Str × Addr)} {y : Str} : ∀ (names : List (Str × NameKind)) (acc : List (Str × Addr)), (∃ c, acc.lookup y = some c) → ∃ c, (closL cells names acc).lookup y = some c
  | [], _, h => h
  | (n, k) :: r, acc, h => by
    refine closL_keeps r _ ?_
    by_cases hk : (k == NameKind.free) = true
    · rw [if_pos hk, List.lookup_cons]
      by_cases e : (y == n) = true
      · rw [e]; exact ⟨_, rfl⟩
      · have e1 : (y == n) = false := by simpa using e
        rw [e1]; exact h
    · rw [if_neg hk]; exact h
theorem closL_has {cells : List (Str × Addr)} {y : Str} : ∀ (names : List (Str × NameKind)) (acc : List (Str × Addr)), (y, NameKind.free) ∈ names → ∃ c, (closL cells names acc).lookup y = some c
  | [], _, h => by simp at h
  | (n, k) :: r, acc, h => by
    rcases List.mem_cons.mp h with h | h
    · cases h
      refine closL_keeps r _ ?_
      rw [if_pos (by rfl), List.lookup_cons, beq_self_eq_true]
      exact ⟨_, rfl⟩
    · exact closL_has r _ h
theorem closureFor_free {scope : Scope} {env : Env} (h : ∀ x, (x, NameKind.free) ∈ scope.names → ∃ c, env.cells.lookup x = some c) : closureFor scope env = pure (closL env.cells scope.names []) := by
  have go : ∀ (names : List (Str × NameKind)) (acc : List (Str × Addr)), (∀ x, (x, NameKind.free) ∈ names → ∃ c, env.cells.lookup x = some c) →
      (forIn names acc fun (x : Str × NameKind) (cs : List (Str × Addr)) => match x with
        | (name, kind) => if (kind == NameKind.free) = true then do let a ← cellOf env name; pure (ForInStep.yield ((name, a) :: cs)) else pure (ForInStep.yield cs) : Sem (List (Str × Addr)))
      = pure (closL env.cells names acc) := by
    intro names
    induction names with
    | nil => intro acc _; rfl
    | cons x r ih =>
      intro acc hx
      obtain ⟨n, k⟩ := x
      rw [List.forIn_cons]
      by_cases hk : (k == NameKind.free) = true
      · have e2 : k = NameKind.free := by simpa using hk
        obtain ⟨c, hc⟩ := hx n (by rw [e2]; exact List.mem_cons_self)
        have hcell : cellOf env n = pure c := by unfold cellOf; rw [hc]
        simp only [hk, if_true, hcell]
        show (forIn r ((n, c) :: acc) _ : Sem (List (Str × Addr))) = _
        rw [ih _ fun y hy => hx y (List.mem_cons_of_mem _ hy)]
        simp only [closL, hk, if_true, hc, Option.getD_some]
      · simp only [hk, if_false]
        show (forIn r acc _ : Sem (List (Str × Addr))) = _
        rw [ih _ fun y hy => hx y (List.mem_cons_of_mem _ hy)]
        simp only [closL, hk, if_false]
        rfl
  have := go scope.names [] h
  unfold closureFor
  exact (congrArg (fun (t : Sem (List (Str × Addr))) => t >>= fun cs => (pure cs : Sem (List (Str × Addr)))) this).trans rfl

theorem lookup_relabel_free {env : Env} : ∀ {names : List (Str × NameKind)} {x : Str}, names.lookup x = some .free →
    (names.map fun (n, k) => if (k == NameKind.free && env.scope.kind == .function && env.kindOf n == some .cell) then (n, NameKind.cell) else (n, k)).lookup x = some .cell ∨
    (names.map fun (n, k) => if (k == NameKind.free && env.scope.kind == .function && env.kindOf n == some .cell) then (n, NameKind.cell) else (n, k)).lookup x = some .free
  | [], _, h => by simp at h
  | (n, k) :: r, x, h => by
    have ih := @lookup_relabel_free env r x
    show List.lookup x ((if (k == NameKind.free && env.scope.kind == .function && env.kindOf n == some .cell) = true then (n, NameKind.cell) else (n, k)) :: _) = _ ∨ List.lookup x ((if (k == NameKind.free && env.scope.kind == .function && env.kindOf n == some .cell) = true then (n, NameKind.cell) else (n, k)) :: _) = _
    cases hx : x == n with
    | true =>
      simp only [List.lookup_cons, hx] at h
      cases h
      by_cases hc : (NameKind.free == NameKind.free && env.scope.kind == .function && env.kindOf n == some .cell) = true
      · rw [if_pos hc]; left; simp [List.lookup_cons, hx]
      · rw [if_neg hc]; right; simp [List.lookup_cons, hx]
    | false =>
      simp only [List.lookup_cons, hx] at h
      by_cases hc : (k == NameKind.free && env.scope.kind == .function && env.kindOf n == some .cell) = true
      · rw [if_pos hc]; simp only [List.lookup_cons, hx]; exact ih h
      · rw [if_neg hc]; simp only [List.lookup_cons, hx]; exact ih h
theorem lookup_relabel_back {env : Env} {k : NameKind} : ∀ {names : List (Str × NameKind)} {x : Str},
    (names.map fun (n, k) => if (k == NameKind.free && env.scope.kind == .function && env.kindOf n == some .cell) then (n, NameKind.cell) else (n, k)).lookup x = some k →
    names.lookup x = some k ∨ (k = .cell ∧ names.lookup x = some .free)
  | [], _, h => by simp at h
  | (n, j) :: r, x, h => by
    have ih := @lookup_relabel_back env k r x
    have h' : List.lookup x ((if (j == NameKind.free && env.scope.kind == .function && env.kindOf n == some .cell) = true then (n, NameKind.cell) else (n, j)) :: r.map fun (n, k) => if (k == NameKind.free && env.scope.kind == .function && env.kindOf n == some .cell) then (n, NameKind.cell) else (n, k)) = some k := h
    cases hx : x == n with
    | true =>
      by_cases hc : (j == NameKind.free && env.scope.kind == .function && env.kindOf n == some .cell) = true
      · rw [if_pos hc] at h'
        simp only [List.lookup_cons, hx] at h' ⊢
        cases h'
        have e : j = NameKind.free := by
          have := hc
          simp only [Bool.and_eq_true] at this
          simpa using this.1.1
        rw [e]
        exact .inr ⟨rfl, rfl⟩
      · rw [if_neg hc] at h'
        simp only [List.lookup_cons, hx] at h' ⊢
        exact .inl h'
    | false =>
      by_cases hc : (j == NameKind.free && env.scope.kind == .function && env.kindOf n == some .cell) = true
      · rw [if_pos hc] at h'; simp only [List.lookup_cons, hx] at h' ⊢; exact ih h'
      · rw [if_neg hc] at h'; simp only [List.lookup_cons, hx] at h' ⊢; exact ih h'

def compChk (sc osc : Scope) (N N' : List Str) (sel : List (Option Nat)) : Bool :=
  (sc.names.all fun p => match p.2 with
    | .free => (osc.names.lookup p.1 == some .cell || osc.names.lookup p.1 == some .free) && sc.names.lookup p.1 == some .free
    | .cell => false
    | .local => sc.names.lookup p.1 == some .local
    | _ => true) && N'.length == sel.length && ((N'.zip sel).all fun p => match p.2 with
      | none => true
      | some j => N[j]? == some p.1 && sc.names.lookup p.1 == some .free)
def selS (sel : List (Option Nat)) (σ : St) : St := sel.map fun o => o.bind fun j => (σ[j]?).join

def cxComp (X : Cx) (N' : List Str) (scope : Scope) (C : Addr) (s : Shared) (H : Hp) (fp : List Addr) (pn : List (Addr × Obj)) : Cx where
  prog := X.prog
  w := X.w
  K := X.K
  mg := X.mg
  base := X.base
  A := X.A
  N := N'
  s₀ := s
  H₀ := H
  env := compEnvC scope (closL X.env.cells scope.names []) C X.env
  outer := X.stack
  stack := X.stack
  ex := fp
  fn := fun x => decide (scope.names.lookup x = some NameKind.local)
  calm := X.calm
  pn := pn
  xe := fun _ _ => False

section
variable {X : Cx} {pins : List (Addr × Obj)} {σ : St} {H : Hp} {s : Shared}

structure ChkOk (X : Cx) (sc : Scope) (N' : List Str) (sel : List (Option Nat)) : Prop where
  fr : ∀ x, (x, NameKind.free) ∈ sc.names → (X.env.kindOf x = some .cell ∨ X.env.kindOf x = some .free) ∧ sc.names.lookup x = some .free
  nc : ∀ y ∈ sc.names, y.2 ≠ NameKind.cell
  lo : ∀ y ∈ sc.names, y.2 = NameKind.local → sc.names.lookup y.1 = some .local
  ln : N'.length = sel.length
  sl : ∀ (i : Nat) (x : Str) (j : Nat), N'[i]? = some x → sel[i]? = some (some j) → X.N[j]? = some x ∧ sc.names.lookup x = some .free
theorem chk_ok {sc : Scope} {N' : List Str} {sel : List (Option Nat)} (h : compChk sc X.env.scope X.N N' sel = true) : ChkOk X sc N' sel := by
  unfold compChk at h
  simp only [Bool.and_eq_true] at h
  obtain ⟨⟨h1, h2⟩, h3⟩ := h
  rw [List.all_eq_true] at h1 h3
  refine ⟨fun x hx => ?_, fun y hy e => ?_, fun y hy e => ?_, by simpa using h2, fun i x j e1 e2 => ?_⟩
  · have := h1 _ hx
    simp only [Bool.and_eq_true, Bool.or_eq_true, beq_iff_eq] at this
    exact this
  · have := h1 _ hy
    rw [e] at this
    simp at this
  · have := h1 _ hy
    rw [e] at this
    simpa using this
  · have hm : (x, some j) ∈ N'.zip sel := by
      refine List.mem_of_getElem? (i := i) ?_
      rw [List.getElem?_zip_eq_some]
      exact ⟨e1, e2⟩
    have := h3 _ hm
    simp only [Bool.and_eq_true, beq_iff_eq] at this
    exact this

theorem clos_cells (I : Inv X pins σ H s) {sc : Scope} {N' : List Str} {sel : List (Option Nat)} (k : ChkOk X sc N' sel) :
    (∀ x, (x, NameKind.free) ∈ sc.names → ∃ c, X.env.cells.lookup x = some c) ∧ (∀ x c, (closL X.env.cells sc.names []).lookup x = some c → X.env.cells.lookup x = some c ∧ (x, NameKind.free) ∈ sc.names) := by
  have a : ∀ x, (x, NameKind.free) ∈ sc.names → ∃ c, X.env.cells.lookup x = some c := fun x hx => I.ok.has x (k.fr x hx).1
  refine ⟨a, fun x c h => ?_⟩
  rcases closL_sub _ _ h with h | ⟨h, e⟩
  · simp at h
  · obtain ⟨c', hc⟩ := a x h
    rw [hc] at e
    exact ⟨by rw [hc, e]; rfl, h⟩

theorem inv_block (I : Inv X pins σ H s) {scope : Scope} {N' : List Str} {sel : List (Option Nat)} {C : Addr} {fp : List Addr} {h₁ : Heap} {t' : Nat} {m : Str → Option Value} (hk : scope.kind = .function)
    (k : ChkOk X scope N' sel) (hC : s.heap.objs.size ≤ C) (hf : ∀ b ∈ fp, FpOk X pins H b) (hfl : ∀ b ∈ fp, b < s.heap.objs.size) (hns : h₁.Ns C m) (hkeep : ∀ b o, s.heap.get? b = some o → h₁.get? b = some o) :
    Inv (cxComp X N' scope C s H fp (X.pn ++ pins)) [] (selS sel σ) H { s with heap := h₁, toks := t' } := by
  obtain ⟨cl1, cl2⟩ := clos_cells I k
  have lkf : ∀ x, scope.names.lookup x = some .free → (relabel scope X.env).names.lookup x = some .cell ∨ (relabel scope X.env).names.lookup x = some .free := fun x hx => lookup_relabel_free hx
  have hfr : ∀ x, (relabel scope X.env).names.lookup x = some .cell ∨ (relabel scope X.env).names.lookup x = some .free → (x, NameKind.free) ∈ scope.names := fun x hx => by
    rcases hx with hx | hx
    · rcases lookup_relabel_back hx with h | ⟨_, h⟩
      · exact absurd rfl (k.nc _ (PySem.mem_of_lookup h))
      · exact PySem.mem_of_lookup h
    · rcases lookup_relabel_back hx with h | ⟨e, h⟩
      · exact PySem.mem_of_lookup h
      · exact PySem.mem_of_lookup h
  refine ⟨⟨I.ok.mod, hk, I.ok.glob, I.ok.blt, hC, fun x y c h1 h2 => ?_, fun x hx => ?_, fun x c h1 h2 => ?_, I.ok.hd, I.ok.frames, .inl rfl, fun b hb => ?_, I.bs, Nat.le_trans I.ok.bsz I.sz, fun b o e hb => ?_, fun b hb hb2 => ?_, I.stack, I.stkFree⟩,
    rfl, I.bare, Un.kept hkeep, ⟨m, hns, fun i x v e1 e2 e3 => ?_⟩, fun x c h => ?_, I.hok.fresh hC, fun x c h => ?_, fun p hp => ?_, I.hok.kept hkeep, ?_⟩
  · exact I.ok.inj x y c (cl2 x c h1).1 (cl2 y c h2).1
  · exact closL_has _ _ (hfr x hx)
  · have h1' : scope.names.lookup x = some NameKind.local := of_decide_eq_true h1
    have := (k.fr x (cl2 x c h2).2).2
    rw [h1'] at this
    cases this
  · refine ⟨Nat.ne_of_lt (Nat.lt_of_lt_of_le (hfl b hb) hC), fun x c h => ?_⟩
    exact (hf b hb).2.2.2.2.1 x c (cl2 x c h).1
  · rcases (hf b hb).2.2.2.1 with z | z
    · exact I.ok.noex b o e z
    · exact absurd (Nat.lt_of_lt_of_le (Heap.lt_size e) (Nat.le_trans I.ok.bsz z)) (Nat.lt_irrefl _)
  · rcases List.mem_cons.mp (I.stkSub b hb2) with z | z
    · exact (hf b hb).2.1 z
    · exact (hf b hb).2.2.1 z
  · -- a free name
    have e2' : sel[i]?.map (fun o => o.bind fun j => (σ[j]?).join) = some (some v) := by
      have := e2
      unfold selS at this
      rwa [List.getElem?_map] at this
    cases hs : sel[i]? with
    | none => rw [hs] at e2'; cases e2'
    | some o =>
      rw [hs] at e2'
      cases o with
      | none => cases e2'
      | some j =>
        have e4 : (σ[j]?).join = some v := Option.some.inj e2'
        have e5 : σ[j]? = some (some v) := by
          cases q : σ[j]? with
          | none => rw [q] at e4; cases e4
          | some r => rw [q] at e4; rw [show r = some v from e4]
        obtain ⟨hX, hl⟩ := k.sl i x j e1 hs
        obtain ⟨kk, _⟩ := k.fr x (PySem.mem_of_lookup hl)
        obtain ⟨m0, _, hloc⟩ := I.loc
        obtain ⟨u, ru, lu⟩ := hloc j x v hX e5 (kk.elim (fun z => .inr (.inl z)) fun z => .inr (.inr z))
        refine ⟨u, ru, ?_⟩
        rcases lu with ⟨z, _⟩ | ⟨_, c, hc, hcell⟩
        · rcases kk with y | y <;> (rw [z] at y; cases y)
        · refine .inr ⟨lkf x hl, c, ?_, hcell.keeps hkeep⟩
          obtain ⟨c', hc'⟩ := closL_has (cells := X.env.cells) scope.names [] (PySem.mem_of_lookup hl)
          have := (cl2 x c' hc').1
          rw [hc] at this
          cases this
          exact hc'
  · obtain ⟨v, z⟩ := I.cell x c (cl2 x c h).1
    exact ⟨v, z.keeps hkeep⟩
  · exact I.freeC x c (cl2 x c h).1
  · have hp' : p ∈ X.pn ++ pins := by
      have : p ∈ (X.pn ++ pins) ++ [] := hp
      rwa [List.append_nil] at this
    obtain ⟨e, n, ne, nf, d⟩ := I.pin p hp'
    refine ⟨hkeep _ _ e, n, Nat.ne_of_lt (Nat.lt_of_lt_of_le (Heap.lt_size e) hC), fun z => ?_, d⟩
    rcases List.mem_cons.mp (I.stkSub _ z) with z | z
    · exact ne z
    · exact nf z
  · show (sel.map _).length = N'.length
    rw [List.length_map]
    exact k.ln.symm

def PTs (X : Cx) (ifs : List Expr) (t : TT) : Prop :=
  ∀ (pins : List (Addr × Obj)) (s : Shared) (σ : St) (H : Hp) (Q : Bool → Hp → Prop), Inv X pins σ H s → t σ H Q →
    wpAny (model X.prog X.w) X.A (forIn ifs true fun c r => if r = true then do let ok ← isTrue c X.env (eval c X.env); pure (ForInStep.yield ok) else pure (ForInStep.yield r)) (TP X pins σ Q) X.xe s
def tTrue : TT := fun _ H Q => Q true H
theorem pts_nil : PTs X [] tTrue := fun _ _ _ H _ I h => wpAny_tests_nil ⟨H, I, h⟩
theorem pts_one {c : Expr} {t : TT} (h : PT X c t) : PTs X [c] t := fun pins s σ H Q I q => wpAny_tests_one (h pins s σ H Q I q)

theorem compLoop_any {prog : Program} {w : World} {A : Around} {R : Result → Shared → Prop} {s : Shared} {elt target iter : Expr} {ifs : List Expr} {scope : Scope} {pos : Pos} {it acc : Value} {env : Env} (I : Nat → Shared → Prop)
    (turn : ∀ n s, I n s → wpAny (model prog w) A (pyNext it) (fun r s₁ => match r with
      | none => R (.ok .next) s₁
      | some v => wpAny (model prog w) A (letOwnedTupleGo target it v) (fun _ s₁' => wpAny (model prog w) A (assign target env v) (fun _ s₂ =>
          wpAny (model prog w) A (forIn ifs true fun c r => if r = true then do let ok ← isTrue c env (eval c env); pure (ForInStep.yield ok) else pure (ForInStep.yield r)) (fun ok s₃ =>
            if ok = true then wpAny (model prog w) A (eval elt env) (fun x s₄ =>
              wpAny (model prog w) A (call (.builtin "list.append") [acc, x]) (fun _ s₅ => ∃ m, m < n ∧ I m s₅) (notedBy (model prog w) A env fun e s' => R (.error e) s') s₄) (notedBy (model prog w) A env fun e s' => R (.error e) s') s₃
            else ∃ m, m < n ∧ I m s₃) (notedBy (model prog w) A env fun e s' => R (.error e) s') s₂) (notedBy (model prog w) A env fun e s' => R (.error e) s') s₁') (notedBy (model prog w) A env fun e s' => R (.error e) s') s₁) (notedBy (model prog w) A env fun e s' => R (.error e) s') s)
    (n : Nat) (h : I n s) :
    codeAny (model prog w) A (.compLoop (.ListComp elt [⟨target, iter, ifs, 0⟩] scope pos) 0 it acc env) R s := by
  refine codeAny_loop rfl I (fun n s hI => ?_) n h
  show wpAny _ A ((compTurn (.ListComp elt [⟨target, iter, ifs, 0⟩] scope pos) 0 it acc env).onRaise (fun x => do noteFrame x env; theTreesLotGoes x)) _ _ s
  refine wpAny_noted ?_
  rw [compTurn_list]
  refine wpAny_bind (wpAny_standAt (wpAny_bind (wpAny_mono (turn n s hI) (fun r s₁ h₁ => ?_) fun _ _ h' => h')))
  cases r with
  | none => exact wpAny_pure h₁
  | some v =>
    refine wpAny_bind (wpAny_mono h₁ (fun _ s₁' h₁' => ?_) fun _ _ h' => h')
    refine wpAny_bind (wpAny_mono h₁' (fun _ s₂ h₂ => wpAny_bind (wpAny_mono h₂ (fun ok s₃ h₃ => ?_) fun _ _ h' => h')) fun _ _ h' => h')
    cases ok with
    | false => exact wpAny_pure ⟨rfl, h₃⟩
    | true =>
      exact wpAny_bind (wpAny_bind (wpAny_mono h₃ (fun x s₄ h₄ => wpAny_bind (wpAny_mono h₄ (fun _ s₅ h₅ => wpAny_pure (wpAny_pure ⟨rfl, h₅⟩)) fun _ _ h' => h')) fun _ _ h' => h'))

def lcTurn (sel : List (Option Nat)) (g : TG) (tt : TT) (te : TE) (σ : St) (J : It) (W : Nat → Nat → List V → Hp → Prop) (Q : List V → Hp → Prop) : Prop :=
  ∀ i m ys H, W i m ys H → (J.stop i H ∧ Q ys H) ∨
    (J.go i H ∧ ys.length < sizeLine ∧ ∃ N : List V → Hp → Prop, (∀ ys' H', N ys' H' → ∃ m', m' < m ∧ W (i + 1) m' ys' H') ∧
      ∀ x H', J.yld i H x H' → g x (selS sel σ) H' fun σ2 H2 => tt σ2 H2 fun b H3 => if b = true then te σ2 H3 fun y H4 => N (ys ++ [y]) H4 else N ys H3)

def GKeeps (sel : List (Option Nat)) (g : TG) : Prop := ∀ (σ : St) (x : V) (H : Hp) (Q : St → Hp → Prop), g x (selS sel σ) H Q → g x (selS sel σ) H fun σ2 H2 => (∀ (i : Nat) v, (selS sel σ)[i]? = some (some v) → σ2[i]? = some (some v)) ∧ Q σ2 H2
theorem sel_none {sel : List (Option Nat)} {i : Nat} {σ : St} {v : V} (h : sel[i]? = some none) : ¬ (selS sel σ)[i]? = some (some v) := fun e => by
  unfold selS at e
  rw [List.getElem?_map, h] at e
  cases e
theorem set_keeps {sel : List (Option Nat)} {i : Nat} {σ σ2 : St} {x : V} (h : sel[i]? = some none) (k : ∀ (j : Nat) v, (selS sel σ)[j]? = some (some v) → σ2[j]? = some (some v)) :
    ∀ (j : Nat) v, (selS sel σ)[j]? = some (some v) → (σ2.set i (some x))[j]? = some (some v) := fun j v e => by
  by_cases hj : i = j
  · subst hj; exact absurd e (sel_none h)
  · rw [List.getElem?_set_ne hj]; exact k j v e
theorem gk_name {sel : List (Option Nat)} {i : Nat} (h : sel[i]? = some none) : GKeeps sel (gName i) := fun _ _ _ _ q => ⟨set_keeps h fun _ _ e => e, q⟩
theorem gk_two {K : PySem.W.Frag} {sel : List (Option Nat)} {i j : Nat} (h : sel[i]? = some none) (h' : sel[j]? = some none) : GKeeps sel (gTup K 2 (gCons (gName i) (gCons (gName j) gNil))) := fun σ x H Q q => by
  obtain ⟨a, xs, e1, e2, e3, v, r, e4, v2, r2, e5, e6, q⟩ := q
  exact ⟨a, xs, e1, e2, e3, v, r, e4, v2, r2, e5, e6, set_keeps h' (set_keeps h fun _ _ e => e), q⟩

theorem lc_block {elt tg iter : Expr} {ifs : List Expr} {scope : Scope} {pos : Pos} {N' : List Str} {sel : List (Option Nat)} {g : TG} {tt : TT} {te : TE} {it : Addr} {fp : List Addr} {tn : Nat → Heap → Prop} {J : It}
    {W : Nat → Nat → List V → Hp → Prop} {Qe : List V → Hp → Prop} {RR : Value → Addr → Result → Shared → Prop} {E : Value → Shared → Prop} {m0 : Nat}
    (hc : X.calm = true) (hk : scope.kind = .function) (k : ChkOk X scope N' sel) (I : Inv X pins σ H s) (T : Turn X.prog X.w X.K tg J fp it tn) (st : tn 0 s.heap) (f2 : ∀ b ∈ fp, FpOk X pins H b)
    (hb : ∀ (C : Addr) (s : Shared) (H : Hp) (fp : List Addr) (pn : List (Addr × Obj)), PG (cxComp X N' scope C s H fp pn) tg g ∧ PTs (cxComp X N' scope C s H fp pn) ifs tt ∧ PE (cxComp X N' scope C s H fp pn) elt te)
    (hgk : GKeeps sel g) (w0 : W 0 m0 [] H) (turn : lcTurn sel g tt te σ J W Qe)
    (hRR : ∀ (D C : Addr) (s' : Shared) (H' : Hp) (ys : List V) (m : Str → Option Value), H' D = none → Inv X pins σ (upd H' D (.lst ys)) s' → s'.heap.Ns C m → FpOk X pins (upd H' D (.lst ys)) C → Qe ys H' → RR (.ref D) C (.ok .next) s') :
    wpAny (model X.prog X.w) X.A (newList []) (fun acc s₃ => wpAny (model X.prog X.w) X.A (newFunctionEnv scope X.env.globals (closL X.env.cells scope.names []) [] X.env.qual none .none (some X.env)) (fun cenv s₄ =>
      codeAny (model X.prog X.w) X.A (.compStart (.ListComp elt [⟨tg, iter, ifs, 0⟩] scope pos) 0 (.ref it) acc { cenv with scope := relabel scope X.env }) (RR acc cenv.locals) s₄) E s₃) E s := by
  refine wpAny_newObj_type (wpAny_newFunctionEnv k.nc (by intro y hy; simp at hy) (fun h₁ hns₁ hsb₁ => ?_) hk)
  dsimp only at hns₁ hsb₁ ⊢
  generalize hH2 : s.heap.push { cls := .type "list", dict := none, data := .seq ([] : List Value).toArray } = H2 at hns₁ hsb₁ ⊢
  have hC : H2.objs.size = s.heap.objs.size + 1 := by rw [← hH2, Heap.size_push]
  have hDC : s.heap.objs.size ≠ H2.objs.size := by rw [hC]; exact Nat.ne_of_lt (Nat.lt_succ_self _)
  have hCle : s.heap.objs.size ≤ H2.objs.size := by rw [hC]; exact Nat.le_succ _
  have below : ∀ b, b < s.heap.objs.size → b ≠ H2.objs.size ∧ b ≠ s.heap.objs.size := fun b hb => ⟨by rw [hC]; exact Nat.ne_of_lt (Nat.lt_succ_of_lt hb), Nat.ne_of_lt hb⟩
  have old : ∀ b o, s.heap.get? b = some o → h₁.get? b = some o := fun b o e => hsb₁.extBut b o (below b (Heap.lt_size e)).1 (Heap.get?_push_of_some _ (hH2 ▸ Heap.get?_push_of_some _ e))
  have hacc : h₁.get? s.heap.objs.size = some { cls := .type "list", data := .seq ([] : List Value).toArray } := hsb₁.extBut _ _ hDC (Heap.get?_push_of_some _ (hH2 ▸ Heap.get?_push_size _ rfl))
  have hfl : ∀ b ∈ fp, b < s.heap.objs.size := fun b hb => let ⟨_, e, _⟩ := T.obj 0 _ st b hb; Heap.lt_size e
  have hst₁ : tn 0 h₁ := T.keep _ _ _ st fun b _ o e => old b o e
  generalize hDe : s.heap.objs.size = D at hDC hCle below hacc hfl ⊢
  generalize hCe : H2.objs.size = C at hns₁ hsb₁ hC hDC hCle below ⊢
  have fD : ∀ {H' : Hp}, H' D = none → FpOk X pins H' D := fun hn => I.fpOk (by rw [hDe]; exact Nat.le_refl _) hn
  have fC : ∀ {H' : Hp}, H' C = none → FpOk X pins H' C := fun hn => I.fpOk (by rw [hDe]; exact hCle) hn
  have HD : H D = none := I.hok.fresh (by rw [hDe]; exact Nat.le_refl _)
  -- the pin of the new list, in the block
  have pinD : ∀ {o : Obj} {σ' : St} {H' : Hp} {s' : Shared} {ps : List (Addr × Obj)}, Inv (cxComp X N' scope C s H fp (X.pn ++ pins)) ps σ' H' s' → s'.heap.get? D = some o → H' D = none → (∀ v, o.data ≠ .cell v) →
      Inv (cxComp X N' scope C s H fp (X.pn ++ pins)) (ps ++ [(D, o)]) σ' H' s' := fun {o σ' H' s' ps} J1 e n d => by
    refine J1.pins_of fun p hp => ?_
    rcases List.mem_append.mp hp with hp | hp
    · exact J1.pin p (List.mem_append_right _ hp)
    · rw [List.mem_singleton.mp hp]
      refine ⟨e, n, hDC, fun z => ?_, d⟩
      rcases List.mem_cons.mp (I.stkSub D z) with z | z
      · exact (fD HD).2.1 z
      · exact (fD HD).2.2.1 z
  have loop : ∀ s₃ : Shared, s₃ = { s with heap := h₁, toks := s.toks + ([] : List (Str × Value)).length } →
      codeAny (model X.prog X.w) X.A (.compLoop (.ListComp elt [⟨tg, iter, ifs, 0⟩] scope pos) 0 (.ref it) (.ref D) (compEnvC scope (closL X.env.cells scope.names []) C X.env)) (RR (.ref D) C) s₃ := by
    rintro s₃ rfl
    have I4 : Inv (cxComp X N' scope C s H fp (X.pn ++ pins)) [] (selS sel σ) H { s with heap := h₁, toks := s.toks + ([] : List (Str × Value)).length } :=
      inv_block I hk k (by rw [hDe]; exact hCle) f2 (fun b hb => by rw [hDe]; exact hfl b hb) hns₁ old
    refine compLoop_any (fun n s' => ∃ i H' ys its nn, Inv (cxComp X N' scope C s H fp (X.pn ++ pins)) [] (selS sel σ) H' s' ∧ tn i s'.heap ∧ (∀ b ∈ fp, H' b = none) ∧ H' D = none ∧
      s'.heap.get? D = some { cls := .type "list", data := .seq (List.toArray its) nn } ∧ Vals ys its ∧ ys.length ≤ sizeLine ∧ W i n ys H') ?_ m0 ⟨0, H, [], [], 0, I4, hst₁, fun b hb => (f2 b hb).1, HD, hacc, .nil, Nat.zero_le _, w0⟩
    rintro n s3 ⟨i, H3, ys, its, nn, I3, st3, fr3, hD3, o3, v3, z3, w3⟩
    have I3' := pinD I3 o3 hD3 (fun v z => by cases z)
    have stat : ∀ {ps : List (Addr × Obj)} {H' : Hp}, (∀ p ∈ ps, p.1 = D) → (∀ b ∈ fp, H' b = none) → ∀ b ∈ fp, FpOk (cxComp X N' scope C s H fp (X.pn ++ pins)) ps H' b := fun {ps H'} hps hn b hb => by
      obtain ⟨a0, a1, a2, a3, a4, a5⟩ := f2 b hb
      refine ⟨hn b hb, Nat.ne_of_lt (Nat.lt_of_lt_of_le (hfl b hb) hCle), fun z => ?_, .inl hb, fun x c h => a4 x c ((clos_cells I k).2 x c h).1, fun p hp => ?_⟩
      · rcases List.mem_cons.mp (I.stkSub b z) with z | z
        · exact a1 z
        · exact a2 z
      · rcases List.mem_append.mp hp with hp | hp
        · exact a5 p hp
        · rw [hps p hp]
          exact (Nat.ne_of_lt (hfl b hb)).symm
    rcases turn i n ys H3 w3 with ⟨stop, qe⟩ | ⟨go, hz, Nn, hNn, step⟩
    · refine noE (thn (T.done (cxComp X N' scope C s H fp (X.pn ++ pins)) rfl rfl rfl hc i _ s3 _ H3 _ I3' (stat (fun p hp => by have : p ∈ [] ++ [(D, _)] := hp; rw [List.nil_append] at this; rw [List.mem_singleton.mp this]) fr3) st3 stop) fun r s4 ⟨hr, J4⟩ => ?_)
      subst hr
      obtain ⟨m4, n4, _⟩ := id J4.loc
      have o4 := (J4.pin (D, _) (List.mem_append_right _ (List.mem_append_right _ (List.mem_singleton.mpr rfl)))).1
      have hC4 : H3 C = none := J4.free
      have hDC' : C ≠ D := Ne.symm hDC
      refine hRR D C s4 H3 ys m4 hD3 (I.call' (ch := fp) J4.os ?_ ?_ J4.bare (fun b hb => ?_)) n4 (fC (by rw [upd_ne hDC']; exact hC4)) qe
      · have u := J4.base
        have nD : ∀ b o, s.heap.get? b = some o → b ≠ D := fun b o e => by rw [← hDe]; exact Nat.ne_of_lt (Heap.lt_size e)
        have nD2 : ∀ b o, H b = some o → b ≠ D := fun b o e => ne_of_none e HD
        exact ⟨u.keep, u.slot, fun b o e n hx => by rw [upd_ne (nD b o e)]; exact u.free b o e n hx, u.there, fun b xs e => by rw [upd_ne (nD2 b _ e)]; exact u.tups b xs e,
          fun b o w e => by rw [upd_ne (nD2 b _ e)]; exact u.frzs b o w e, fun b ps e => by rw [upd_ne (nD2 b _ e)]; exact u.tbls b ps e⟩
      · intro b o e
        by_cases hbD : b = D
        · subst hbD
          rw [upd_same] at e
          cases e
          exact ⟨z3, its, nn, v3, o4⟩
        · rw [upd_ne hbD] at e
          exact (J4.hok b o e).stay (fun c u _ q => q) (fun c q => by rw [upd_ne (ne_of_none q hD3)]; exact q) fun c xs q => by rw [upd_ne (ne_of_none q hD3)]; exact q
      · obtain ⟨a0, a1, a2, a3, a4, a5⟩ := f2 b hb
        exact ⟨a3, a1, a4, a5⟩
    · refine noE (thn (T.item (cxComp X N' scope C s H fp (X.pn ++ pins)) rfl rfl rfl hc i _ s3 _ H3 _ I3' (stat (fun p hp => by have : p ∈ [] ++ [(D, _)] := hp; rw [List.nil_append] at this; rw [List.mem_singleton.mp this]) fr3) st3 go) fun r s4 ⟨u, hr, h4⟩ => ?_)
      subst hr
      refine noE (thn h4 fun _ s5 ⟨x, H5, I5, r5, y5, st5, fr5⟩ => ?_)
      obtain ⟨hb1, hb2, hb3⟩ := hb C s H fp (X.pn ++ pins)
      have I5' := I5.pinned (stat (fun p hp => by have : p ∈ [] ++ [(D, _)] := hp; rw [List.nil_append] at this; rw [List.mem_singleton.mp this]) fr5) (T.obj _ _ st5)
      refine noE (thn (hb1 _ s5 _ H5 x u _ I5' r5 (hgk _ _ _ _ (step x H5 y5))) fun _ s6 ⟨σ6, H6, I6, hw6, q6⟩ => ?_)
      refine noE (thn (hb2 _ s6 σ6 H6 _ I6 q6) fun ok s7 ⟨H7, I7, q7⟩ => ?_)
      -- what stands behind the turn
      have back : ∀ {σ8 : St} {H8 : Hp} {s8 : Shared}, Inv (cxComp X N' scope C s H fp (X.pn ++ pins)) (([] ++ [(D, { cls := .type "list", data := .seq (List.toArray its) nn })]) ++ pinsAt fp s5.heap) σ8 H8 s8 →
          tn (i + 1) s8.heap ∧ (∀ b ∈ fp, H8 b = none) ∧ H8 D = none ∧ s8.heap.get? D = some { cls := .type "list", data := .seq (List.toArray its) nn } := fun {σ8 H8 s8} J8 => by
        refine ⟨T.keep _ _ _ st5 fun b hb o e => (J8.pin (b, o) (List.mem_append_right _ (List.mem_append_right _ (mem_pinsAt hb e)))).1, fun b hb => ?_, ?_, ?_⟩
        · obtain ⟨o, e, d⟩ := T.obj _ _ st5 b hb
          exact (J8.pin (b, o) (List.mem_append_right _ (List.mem_append_right _ (mem_pinsAt hb e)))).2.1
        · exact (J8.pin (D, _) (List.mem_append_right _ (List.mem_append_left _ (List.mem_append_right _ (List.mem_singleton.mpr rfl))))).2.1
        · exact (J8.pin (D, _) (List.mem_append_right _ (List.mem_append_left _ (List.mem_append_right _ (List.mem_singleton.mpr rfl))))).1
      have weak : ∀ {H8 : Hp} {s8 : Shared} {ps : List (Addr × Obj)}, Inv (cxComp X N' scope C s H fp (X.pn ++ pins)) ps σ6 H8 s8 → Inv (cxComp X N' scope C s H fp (X.pn ++ pins)) [] (selS sel σ) H8 s8 := fun {H8 s8 ps} J8 =>
        (J8.pins_of (pins' := []) fun p hp => by simp at hp).weak (by rw [J8.len]; exact I4.len) hw6
      cases ok with
      | false =>
        obtain ⟨st8, fr8, hD8, o8⟩ := back I7
        obtain ⟨m', hm, w8⟩ := hNn ys H7 q7
        exact ⟨m', hm, i + 1, H7, ys, its, nn, weak I7, st8, fr8, hD8, o8, v3, z3, w8⟩
      | true =>
        refine noE (thn (hb3 _ s7 σ6 H7 _ I7 q7) fun y s8 ⟨yv, H8, I8, ry, q8⟩ => ?_)
        obtain ⟨st8, fr8, hD8, o8⟩ := back I8
        obtain ⟨m', hm, w8⟩ := hNn _ _ q8
        have hl := v3.length
        refine call_meets F.slot_list_append ⟨_, o8, rfl⟩ F.entry_list_append (F.args_list_append_2 _ _) (PySem.list_append D (List.toArray its) nn y (by rw [List.size_toArray]; omega)) ⟨o8, ?_⟩
        have q := PySem.IsL.update o8 (fun z => z.push y)
        rw [show (List.toArray its).push y = (its ++ [y]).toArray by simp] at q
        have kp : ∀ b o, b ≠ D → s8.heap.get? b = some o → (s8.heap.update D (Obj.mapSeq fun z => z.push y)).get? b = some o := fun b o hb e => (Heap.get?_update_other s8.heap (Obj.mapSeq fun z => z.push y) (Ne.symm hb)).trans e
        refine ⟨m', hm, i + 1, H8, ys ++ [yv], its ++ [y], _, (weak I8).turned (t' := s8.toks) kp hD8 hDC (.inr (by show s.heap.objs.size ≤ D; rw [hDe]; exact Nat.le_refl _)) (fun x c h => (fD HD).2.2.2.2.1 x c ((clos_cells I k).2 x c h).1) (fun p hp => (fD HD).2.2.2.2.2 p (by have : p ∈ (X.pn ++ pins) ++ [] := hp; rwa [List.append_nil] at this)),
          T.keep _ _ _ st8 (fun b hb o e => kp b o (Nat.ne_of_lt (hfl b hb)) e), fr8, hD8, q, v3.append (.cons ry .nil), ?_, w8⟩
        rw [List.length_append, List.length_singleton]
        omega
  exact codeAny_compStart_list (loop _ rfl) (T.self _ 0 _ _ _ hst₁ (loop _ rfl))

def tLc (sel : List (Option Nat)) (wi : TI) (g : TG) (tt : TT) (te : TE) : TE := fun σ H Q => wi σ H fun J H1 => ∃ W : Nat → Nat → List V → Hp → Prop, (∃ m, W 0 m [] H1) ∧
  lcTurn sel g tt te σ J W fun ys H => ∀ D, H D = none → Q (.ref D) (upd H D (.lst ys))
theorem pe_lc {elt tg iter : Expr} {ifs : List Expr} {scope : Scope} {pos : Pos} {wi : TI} {N' : List Str} {sel : List (Option Nat)} {g : TG} {tt : TT} {te : TE}
    (hc : X.calm = true) (hk : scope.kind = .function) (chk : compChk scope X.env.scope X.N N' sel = true) (hi : PI X tg iter wi) (hgk : GKeeps sel g)
    (hb : ∀ (C : Addr) (s : Shared) (H : Hp) (fp : List Addr) (pn : List (Addr × Obj)), PG (cxComp X N' scope C s H fp pn) tg g ∧ PTs (cxComp X N' scope C s H fp pn) ifs tt ∧ PE (cxComp X N' scope C s H fp pn) elt te)
    (hs : ∀ x, foldedSetIterable iter X.env x = pure x := by intro _; rfl) : PE X (.ListComp elt [⟨tg, iter, ifs, 0⟩] scope pos) (tLc sel wi g tt te) := by
  intro pins s σ H Q I h
  have k := chk_ok chk
  rw [eval_ListComp]
  refine wpAny_comprehension_free (use := none) rfl hs (closureFor_free (clos_cells I k).1) hk k.lo (thn (hi pins s σ H _ I h) fun v s1 h1 => thn h1 fun itv s2 h2 => ?_)
  obtain ⟨it, fp, tn, J, H2, e, I2, T, st2, f2, W, ⟨m0, w0⟩, turn⟩ := h2
  subst e
  refine lc_block (RR := fun acc C => compPost (model X.prog X.w) X.A X.xe none (EP X pins σ Q) acc C) hc hk k I2 T st2 f2 hb hgk w0 turn ?_
  intro D C s' H' ys m hD I' hns fC q
  refine ⟨m, hns, fun h' hs' => ⟨.ref D, _, I'.turned (t' := s'.toks) (fun b o hb e => (hs'.2 b hb).trans e) fC.1 fC.2.1 fC.2.2.2.1 fC.2.2.2.2.1 fC.2.2.2.2.2, rfl, q D hD⟩⟩

theorem lc_list {K : PySem.W.Frag} {a : Addr} {xs : List V} {sel : List (Option Nat)} {g : TG} {tt : TT} {te : TE} {σ : St} {H : Hp} {Qe : List V → Hp → Prop} (Pv : Nat → List V → Hp → Prop) (h0 : Pv 0 [] H)
    (hl : ∀ i ys H, i ≤ xs.length → Pv i ys H → SqL K H a xs ∧ ys.length ≤ i) (hz : xs.length ≤ sizeLine)
    (hs : ∀ i x ys H, xs[i]? = some x → Pv i ys H → g x (selS sel σ) H fun σ2 H2 => tt σ2 H2 fun b H3 => if b = true then te σ2 H3 fun y H4 => Pv (i + 1) (ys ++ [y]) H4 else Pv (i + 1) ys H3)
    (hd : ∀ ys H, Pv xs.length ys H → Qe ys H) : ∃ W : Nat → Nat → List V → Hp → Prop, (∃ m, W 0 m [] H) ∧ lcTurn sel g tt te σ (Itl K a) W Qe := by
  refine ⟨fun i m ys H => m = xs.length - i ∧ i ≤ xs.length ∧ Pv i ys H, ⟨_, rfl, Nat.zero_le _, h0⟩, ?_⟩
  rintro i m ys H ⟨rfl, hi, p⟩
  obtain ⟨hS, hy⟩ := hl i ys H hi p
  by_cases e : i = xs.length
  · subst e
    exact .inl ⟨⟨xs, hS, Nat.le_refl _⟩, hd _ _ p⟩
  · have hlt : i < xs.length := Nat.lt_of_le_of_ne hi e
    refine .inr ⟨⟨xs, xs[i], hS, by simp [hlt]⟩, by omega, Pv (i + 1), fun ys' H' p' => ⟨xs.length - (i + 1), by omega, rfl, hlt, p'⟩, ?_⟩
    rintro x H' ⟨rfl, hx⟩
    exact hs i x ys H' (hx xs hS) p
theorem lc_tup {K : PySem.W.Frag} {a : Addr} {xs : List V} {sel : List (Option Nat)} {g : TG} {tt : TT} {te : TE} {σ : St} {H : Hp} {Qe : List V → Hp → Prop} (Pv : Nat → List V → Hp → Prop) (h0 : Pv 0 [] H)
    (hl : ∀ i ys H, i ≤ xs.length → Pv i ys H → SqT K H a xs ∧ ys.length ≤ i) (hz : xs.length ≤ sizeLine)
    (hs : ∀ i x ys H, xs[i]? = some x → Pv i ys H → g x (selS sel σ) H fun σ2 H2 => tt σ2 H2 fun b H3 => if b = true then te σ2 H3 fun y H4 => Pv (i + 1) (ys ++ [y]) H4 else Pv (i + 1) ys H3)
    (hd : ∀ ys H, Pv xs.length ys H → Qe ys H) : ∃ W : Nat → Nat → List V → Hp → Prop, (∃ m, W 0 m [] H) ∧ lcTurn sel g tt te σ (Itt K a) W Qe := by
  refine ⟨fun i m ys H => m = xs.length - i ∧ i ≤ xs.length ∧ Pv i ys H, ⟨_, rfl, Nat.zero_le _, h0⟩, ?_⟩
  rintro i m ys H ⟨rfl, hi, p⟩
  obtain ⟨hS, hy⟩ := hl i ys H hi p
  by_cases e : i = xs.length
  · subst e
    exact .inl ⟨⟨xs, hS, Nat.le_refl _⟩, hd _ _ p⟩
  · have hlt : i < xs.length := Nat.lt_of_le_of_ne hi e
    refine .inr ⟨⟨xs, xs[i], hS, by simp [hlt]⟩, by omega, Pv (i + 1), fun ys' H' p' => ⟨xs.length - (i + 1), by omega, rfl, hlt, p'⟩, ?_⟩
    rintro x H' ⟨rfl, hx⟩
    exact hs i x ys H' (hx xs hS) p
theorem lc_range {lo : Int} {n : Nat} {sel : List (Option Nat)} {g : TG} {tt : TT} {te : TE} {σ : St} {H : Hp} {Qe : List V → Hp → Prop} (Pv : Nat → List V → Hp → Prop) (h0 : Pv 0 [] H)
    (hl : ∀ i ys H, i ≤ n → Pv i ys H → ys.length ≤ i) (hz : n ≤ sizeLine)
    (hs : ∀ i ys H, i < n → Pv i ys H → g (.int (lo + i)) (selS sel σ) H fun σ2 H2 => tt σ2 H2 fun b H3 => if b = true then te σ2 H3 fun y H4 => Pv (i + 1) (ys ++ [y]) H4 else Pv (i + 1) ys H3)
    (hd : ∀ ys H, Pv n ys H → Qe ys H) : ∃ W : Nat → Nat → List V → Hp → Prop, (∃ m, W 0 m [] H) ∧ lcTurn sel g tt te σ (Itr lo n) W Qe := by
  refine ⟨fun i m ys H => m = n - i ∧ i ≤ n ∧ Pv i ys H, ⟨_, rfl, Nat.zero_le _, h0⟩, ?_⟩
  rintro i m ys H ⟨rfl, hi, p⟩
  have hy := hl i ys H hi p
  by_cases e : i = n
  · subst e
    exact .inl ⟨Nat.le_refl _, hd _ _ p⟩
  · have hlt : i < n := Nat.lt_of_le_of_ne hi e
    refine .inr ⟨hlt, by omega, Pv (i + 1), fun ys' H' p' => ⟨n - (i + 1), by omega, rfl, hlt, p'⟩, ?_⟩
    rintro x H' ⟨rfl, rfl⟩
    exact hs i ys H' hlt p

def tSetLc (i : Nat) (sel : List (Option Nat)) (wi : TI) (g : TG) (tt : TT) (te : TE) : TS := fun D σ H => wi σ H fun J H1 => ∃ W : Nat → Nat → List V → Hp → Prop, (∃ m, W 0 m [] H1) ∧
  lcTurn sel g tt te σ J W fun ys H => ∀ l, H l = none → D.nx (σ.set i (some (.ref l))) (upd H l (.lst ys))
theorem ps_setLc {i : Nat} {x : Str} {elt tg iter : Expr} {ifs : List Expr} {scope : Scope} {pos pos' spos : Pos} {wi : TI} {N' : List Str} {sel : List (Option Nat)} {g : TG} {tt : TT} {te : TE}
    (hN : X.N.Nodup) (hi' : X.N[i]? = some x) (hx : Loc X.env.scope x)
    (hc : X.calm = true) (hk : scope.kind = .function) (chk : compChk scope X.env.scope X.N N' sel = true) (hi : PI X tg iter wi) (hgk : GKeeps sel g)
    (hb : ∀ (C : Addr) (s : Shared) (H : Hp) (fp : List Addr) (pn : List (Addr × Obj)), PG (cxComp X N' scope C s H fp pn) tg g ∧ PTs (cxComp X N' scope C s H fp pn) ifs tt ∧ PE (cxComp X N' scope C s H fp pn) elt te)
    (hsw : swapsWith (.ListComp elt [⟨tg, iter, ifs, 0⟩] scope pos) (some (.Name x pos')) spos.line X.env = pure true)
    (hs : ∀ x, foldedSetIterable iter X.env x = pure x := by intro _; rfl) (hf : X.fn x = true ∨ X.env.scope.names.lookup x = some .local := by first | exact .inl rfl | exact .inr rfl | assumption) :
    PS X (.Assign [.Name x pos'] (.ListComp elt [⟨tg, iter, ifs, 0⟩] scope pos) spos) (tSetLc i sel wi g tt te) := by
  intro pins s σ H Dn I h
  have k := chk_ok chk
  rw [exec_Assign_Name_used _ _ _ _ hsw]
  refine wpAny_bind (wpAny_standAt (wpAny_bind ?_))
  show wpAny _ X.A (do let _ ← comprehension (.ListComp elt [⟨tg, iter, ifs, 0⟩] scope pos) scope X.env _ (newList []) false (eval iter X.env) (some (assign (.Name x pos') X.env))) _ _ s
  refine wpAny_bind (wpAny_mono (wpAny_comprehension_free (use := some (assign (.Name x pos') X.env)) (Q := fun _ s' => SP X pins Dn .next s') rfl hs (closureFor_free (clos_cells I k).1) hk k.lo
    (thn (hi pins s σ H _ I h) fun v s1 h1 => thn h1 fun itv s2 h2 => ?_)) (fun _ s' hq => wpAny_pure (wpAny_pure hq)) fun _ _ e => e)
  obtain ⟨it, fp, tn, J, H2, e, I2, T, st2, f2, W, ⟨m0, w0⟩, turn⟩ := h2
  subst e
  refine lc_block (RR := fun acc C => compPost (model X.prog X.w) X.A X.xe (some (assign (.Name x pos') X.env)) (fun _ s' => SP X pins Dn .next s') acc C) hc hk k I2 T st2 f2 hb hgk w0 turn ?_
  intro D C s' H' ys m hD I' hns fC q
  obtain ⟨oC, es, ep, eC, dC, rC⟩ := id hns
  have I'' : Inv X (pins ++ [(C, oC)]) σ (upd H' D (.lst ys)) s' := I'.pins_of fun p hp => by
    rcases List.mem_append.mp hp with hp | hp
    · exact I'.pin p (List.mem_append_right _ hp)
    · rw [List.mem_singleton.mp hp]
      exact ⟨eC, fC.1, fC.2.1, fC.2.2.1, fun v z => by rw [dC] at z; cases z⟩
  refine thn (pg_name (pos := pos') hN hi' hx hf (pins ++ [(C, oC)]) s' σ _ (.ref D) (.ref D) (fun σ2 H2 => σ2 = σ.set i (some (.ref D)) ∧ H2 = upd H' D (.lst ys)) I'' rfl ⟨rfl, rfl⟩) fun _ s9 h9 => ?_
  obtain ⟨σ9, H9, I9, rfl, rfl⟩ := h9
  have eC9 := (I9.pin (C, oC) (List.mem_append_right _ (List.mem_append_right _ (List.mem_singleton.mpr rfl)))).1
  refine ⟨m, ⟨oC, es, ep, eC9, dC, rC⟩, fun h' hs' => ?_⟩
  exact ⟨_, _, (I9.unpinned).turned (t' := s9.toks) (fun b o hb e => (hs'.2 b hb).trans e) fC.1 fC.2.1 fC.2.2.2.1 fC.2.2.2.2.1 fC.2.2.2.2.2, q D hD⟩
end
end L2
namespace L2
open PySem PySem.Spec PyProof.Rows
section
variable {X : Cx} {tg : Expr} {a b : Expr} {ta tb : TE} {pos : Pos}

def tMid (t u : TS) : TS := fun D σ H => ∃ M : St → Hp → Prop, t { D with nx := M } σ H ∧ ∀ σ' H', M σ' H' → u D σ' H'
theorem pss_mid {st : Stmt} {rest : List Stmt} {t u : TS} (h1 : PS X st t) (h2 : PSs X rest u) : PSs X (st :: rest) (tMid t u) := by
  intro pins s σ H D I h
  obtain ⟨M, hM, hu⟩ := h
  refine wpAny_execs_cons (thn (h1 pins s σ H { D with nx := M } I hM) fun f s1 q => ?_)
  cases f with
  | next =>
    obtain ⟨σ', H', I', q⟩ := q
    exact h2 pins s1 σ' H' D I' (hu _ _ q)
  | ret v => exact q
  | brk => exact q
  | cont => exact q

def Its (x : Str) : It := ⟨fun i _ => i < x.length, fun i H v H' => H' = H ∧ ∃ c, x.cps.toList[i]? = some c ∧ v = .str ⟨#[c]⟩, fun i _ => x.length ≤ i⟩
theorem turn_strA {P : Program} {w : World} {K : PySem.W.Frag} {tg : Expr} (x : Str) (t : Tok) (it : Addr) : Turn P w K tg (Its x) [it] it (fun i h => h.IsStrIter it "str_ascii_iterator" x t i) where
  mem := by simp
  obj := fun i h st b hb => by
    have e : b = it := by simpa using hb
    subst e
    obtain ⟨o, e, c, d⟩ := st
    exact ⟨o, e, fun v z => by rw [d] at z; cases z⟩
  keep := fun i h h' st k => let ⟨o, ho, r⟩ := st; ⟨o, k it (by simp) o ho, r⟩
  item := by
    intro X hP hw hK hc i pins s σ H E I hf st hg
    subst hP hw hK
    have hlt : i < x.cps.size := hg
    obtain ⟨f0, f1, f2, f3, f4, f5⟩ := hf it (by simp)
    refine wpAny_pyNext_ascii_item st (c := x.cps[i]) (by simp [hlt]) fun h' st' sb => ?_
    have I1 : Inv X pins σ H { s with heap := h', toks := s.toks + 1 } := I.turned (t' := s.toks + 1) (fun b o hb e => (sb.2 b hb).trans e) f0 f1 f3 f4 f5
    obtain ⟨o, e, c, d⟩ := id st'
    exact ⟨_, rfl, go_of (s := { s with heap := h', toks := s.toks + 1 }) e c d (by decide) ⟨.str ⟨#[x.cps[i]]⟩, H, I1, ⟨_, rfl⟩, ⟨rfl, x.cps[i], by simp [hlt], rfl⟩, st', fun b hb => (hf b hb).1⟩⟩
  done := by
    intro X hP hw hK hc i pins s σ H E I hf st hg
    subst hP hw hK
    have hle : x.cps.size ≤ i := hg
    obtain ⟨f0, f1, f2, f3, f4, f5⟩ := hf it (by simp)
    exact wpAny_pyNext_ascii_end (I.ok.hd hc) st (by simp; omega) fun h' eb => ⟨rfl, I.turned (t' := s.toks) (fun b o hb e => eb b o hb e) f0 f1 f3 f4 f5⟩
  self := fun _ _ _ _ _ st h => wpAny_pyIter_striter_ascii st h
theorem turn_strW {P : Program} {w : World} {K : PySem.W.Frag} {tg : Expr} (x : Str) (t : Tok) (it : Addr) : Turn P w K tg (Its x) [it] it (fun i h => h.IsStrIter it "str_iterator" x t i) where
  mem := by simp
  obj := fun i h st b hb => by
    have e : b = it := by simpa using hb
    subst e
    obtain ⟨o, e, c, d⟩ := st
    exact ⟨o, e, fun v z => by rw [d] at z; cases z⟩
  keep := fun i h h' st k => let ⟨o, ho, r⟩ := st; ⟨o, k it (by simp) o ho, r⟩
  item := by
    intro X hP hw hK hc i pins s σ H E I hf st hg
    subst hP hw hK
    have hlt : i < x.cps.size := hg
    obtain ⟨f0, f1, f2, f3, f4, f5⟩ := hf it (by simp)
    refine wpAny_pyNext_wide_item st (c := x.cps[i]) (by simp [hlt]) fun h' st' sb => ?_
    have I1 : Inv X pins σ H { s with heap := h', toks := s.toks + 1 } := I.turned (t' := s.toks + 1) (fun b o hb e => (sb.2 b hb).trans e) f0 f1 f3 f4 f5
    obtain ⟨o, e, c, d⟩ := id st'
    exact ⟨_, rfl, go_of (s := { s with heap := h', toks := s.toks + 1 }) e c d (by decide) ⟨.str ⟨#[x.cps[i]]⟩, H, I1, ⟨_, rfl⟩, ⟨rfl, x.cps[i], by simp [hlt], rfl⟩, st', fun b hb => (hf b hb).1⟩⟩
  done := by
    intro X hP hw hK hc i pins s σ H E I hf st hg
    subst hP hw hK
    have hle : x.cps.size ≤ i := hg
    obtain ⟨f0, f1, f2, f3, f4, f5⟩ := hf it (by simp)
    exact wpAny_pyNext_wide_end (I.ok.hd hc) st (by simp; omega) fun h' eb => ⟨rfl, I.turned (t' := s.toks) (fun b o hb e => eb b o hb e) f0 f1 f3 f4 f5⟩
  self := fun _ _ _ _ _ st h => wpAny_pyIter_striter_wide st h
def iStr (tl : TE) : TI := fun σ H R => tl σ H fun x H1 => ∃ z, x = .str z ∧ R (Its z) H1
theorem pi_str {l : Expr} {tl : TE} (hl : PE X l tl) : PI X tg l (iStr tl) := by
  intro pins s σ H R I h
  refine thn (hl pins s σ H _ I h) fun v s1 ⟨x, H1, I1, r1, q1⟩ => ?_
  obtain ⟨z, e, q⟩ := q1
  subst e
  obtain ⟨t, rfl⟩ := r1
  have fp : ∀ b ∈ [s1.heap.objs.size], FpOk X pins H1 b := fun b hb => by
    have e : b = s1.heap.objs.size := by simpa using hb
    subst e
    exact I1.fpOk (Nat.le_refl _) (I1.hok.fresh (Nat.le_refl _))
  cases ha : z.cps.all (· < 128)
  · exact wpAny_pyIter_wide ha ⟨s1.heap.objs.size, [s1.heap.objs.size], _, _, H1, rfl, I1.kept (t' := s1.toks) fun b o e => Heap.get?_push_of_some _ e, turn_strW z t _, ⟨_, Heap.get?_push_size _ rfl, rfl, rfl⟩, fp, q⟩
  · exact wpAny_pyIter_ascii ha ⟨s1.heap.objs.size, [s1.heap.objs.size], _, _, H1, rfl, I1.kept (t' := s1.toks) fun b o e => Heap.get?_push_of_some _ e, turn_strA z t _, ⟨_, Heap.get?_push_size _ rfl, rfl, rfl⟩, fp, q⟩
theorem lc_str {z : Str} {sel : List (Option Nat)} {g : TG} {tt : TT} {te : TE} {σ : St} {H : Hp} {Qe : List V → Hp → Prop} (Pv : Nat → List V → Hp → Prop) (h0 : Pv 0 [] H)
    (hl : ∀ i ys H, i ≤ z.length → Pv i ys H → ys.length ≤ i) (hz : z.length ≤ sizeLine)
    (hs : ∀ i c ys H, z.cps.toList[i]? = some c → Pv i ys H → g (.str ⟨#[c]⟩) (selS sel σ) H fun σ2 H2 => tt σ2 H2 fun b H3 => if b = true then te σ2 H3 fun y H4 => Pv (i + 1) (ys ++ [y]) H4 else Pv (i + 1) ys H3)
    (hd : ∀ ys H, Pv z.length ys H → Qe ys H) : ∃ W : Nat → Nat → List V → Hp → Prop, (∃ m, W 0 m [] H) ∧ lcTurn sel g tt te σ (Its z) W Qe := by
  refine ⟨fun i m ys H => m = z.length - i ∧ i ≤ z.length ∧ Pv i ys H, ⟨_, rfl, Nat.zero_le _, h0⟩, ?_⟩
  rintro i m ys H ⟨rfl, hi, p⟩
  have hy := hl i ys H hi p
  by_cases e : i = z.length
  · subst e
    exact .inl ⟨Nat.le_refl _, hd _ _ p⟩
  · have hlt : i < z.length := Nat.lt_of_le_of_ne hi e
    refine .inr ⟨hlt, by omega, Pv (i + 1), fun ys' H' p' => ⟨z.length - (i + 1), by omega, rfl, hlt, p'⟩, ?_⟩
    rintro x H' ⟨rfl, c, hc, rfl⟩
    exact hs i c ys H' hc p

theorem bools_of {bs : List Bool} : ∀ {us : List Value}, Vals (bs.map V.bl) us → LSm.BoolsAre us bs := by
  induction bs with
  | nil => intro us r; cases r; exact .nil
  | cons b bs ih =>
    intro us r
    cases r with
    | cons h t =>
      cases h
      exact .cons b (ih t)
theorem call_all (hc : X.calm = true) : CallR X (.builtin "all") (fun xs H Q => ∃ (p : Addr) (bs : List Bool), xs = [.ref p] ∧ SqL X.K H p (bs.map V.bl) ∧ Q (.bl (bs.all id)) H) := by
  intro pins s σ H xs us Q I r h
  obtain ⟨p, bs, rfl, hp, q⟩ := h
  obtain ⟨u, rfl, ru⟩ := vals1 r
  cases ru
  obtain ⟨its, rv, pl, hz⟩ := I.list hp
  have hb := bools_of rv
  have hl := pl.isList
  have hlt : p < s.heap.objs.size := by obtain ⟨_, e, _⟩ := hl; exact Heap.lt_size e
  refine call_all_walk (wpAny_pyIter_list hl ?_)
  refine ⟨s.heap.objs.size, [s.heap.objs.size, p], [s.heap.objs.size], its.toArray.size, _, _, fun i => (bs[i]?).getD true, rfl, Walks.list (A := X.A.in1) (I.ok.hd hc) _ p (Nat.ne_of_lt hlt) its.toArray,
    ⟨⟨_, Heap.get?_push_size _ rfl, rfl, rfl⟩, hl.push _⟩, fun i v s' Q' E' hP hQ => ?_, fun h' tk hk => ?_⟩
  · obtain ⟨b, e, rfl⟩ := hb.get i v (by simpa using hP)
    simp only [e, Option.getD_some] at hQ
    exact wpAny_truthy_bool hQ
  · have e : ((List.range its.toArray.size).all fun i => (bs[i]?).getD true) = bs.all id := by
      rw [List.size_toArray, hb.length]; exact LSm.range_all bs
    rw [e]
    exact ⟨.bl _, H, I.kept (LSm.kept_iter hk), rfl, q⟩
theorem call_isinst : CallR X (.builtin "isinstance") (fun xs H Q => ∃ x n t b, xs = [x, .ty n] ∧ TyOf X.K H x t ∧ PySem.W.kitOne X.K t (.type n) = some b ∧ Q (.bl b) H) := by
  intro pins s σ H xs us Q I r h
  obtain ⟨x, n, t, b, rfl, ty, e, q⟩ := h
  obtain ⟨u, w', rfl, ru, rw'⟩ := vals2 r
  cases rw'
  exact isinst_ok I ru ty e fun tk => ⟨.bl b, H, I.tok _, rfl, q⟩
theorem op_le_str : OpR X (compareOp .LtE) (fun x y H Q => ∃ i j, x = .str i ∧ y = .str j ∧ Q (.bl (!decide (j.cps.toList < i.cps.toList))) H) := by
  intro pins s σ H x y v u Q I rx ry h
  obtain ⟨i, j, rfl, rfl, q⟩ := h
  obtain ⟨t, rfl⟩ := rx
  obtain ⟨t', rfl⟩ := ry
  exact PySem.P.le_str (fin_bl I q rfl)

def cutS (z : Str) (lo hi : Option Int) : Str := ⟨((z.cps.toList.drop (HT.sIx z.length 0 lo)).take (HT.sIx z.length z.length hi - HT.sIx z.length 0 lo)).toArray⟩
theorem sIx_leS (n d : Nat) (hd : d ≤ n) (o : Option Int) : HT.sIx n d o ≤ n := by
  cases o with
  | none => exact hd
  | some v => simp only [HT.sIx]; split <;> omega
theorem range_nat (a b : Nat) : sliceRange (a : Int) (b : Int) 1 = (List.range (b - a)).map (fun k => a + k) := by
  unfold sliceRange
  simp only [show (1 : Int) > 0 by decide, if_true]
  have ec : (if (a : Int) < (b : Int) then ((b : Int) - a + 1 - 1) / 1 else 0).toNat = b - a := by split <;> simp <;> omega
  rw [ec]
  refine List.map_congr_left fun k _ => ?_
  omega
theorem idx_eq (lo hi : Option Int) (n : Nat) : Builtin.Str.strSliceIndices lo hi 1 n = (List.range (HT.sIx n n hi - HT.sIx n 0 lo)).map (fun k => HT.sIx n 0 lo + k) := by
  rw [← range_nat]
  unfold Builtin.Str.strSliceIndices
  simp only [show (1 : Int) > 0 by decide, if_true]
  congr 1
  · cases lo with
    | none => rfl
    | some v => simp only [HT.sIx]; split <;> omega
  · cases hi with
    | none => rfl
    | some v => simp only [HT.sIx]; split <;> omega
theorem slice_eq (z : Str) (lo hi : Option Int) : Txt.slice z lo hi = cutS z lo hi := by
  have ha := sIx_leS z.length 0 (Nat.zero_le _) lo
  have hb := sIx_leS z.length z.length (Nat.le_refl _) hi
  unfold Txt.slice cutS
  rw [idx_eq]
  generalize HT.sIx z.length 0 lo = a at *
  generalize HT.sIx z.length z.length hi = b at *
  have hl : z.cps.toList.length = z.length := rfl
  split
  · rename_i h
    have h' : b - a = z.length := by simpa using h
    apply Str.ext'
    show z.cps = ((z.cps.toList.drop a).take (b - a)).toArray
    have h0 : a = 0 ∨ z.length = 0 := by omega
    rcases h0 with h0 | h0
    · subst h0
      rw [List.drop_zero, h', ← hl, List.take_length]
    · have : z.cps.toList = [] := List.eq_nil_of_length_eq_zero (hl.trans h0)
      have hz : z.cps = #[] := by rw [← Array.toArray_toList (xs := z.cps), this]
      rw [this, hz]; simp
  · by_cases hab : a ≤ b
    · have h := StrLaws.picks z.cps.toList (b - a) a (by omega)
      have h2 : List.filterMap (fun x => z.cps[x]?) (List.map (fun k => a + k) (List.range (b - a))) = List.take (b - a) (List.drop a z.cps.toList) := by simpa using h
      rw [h2]
    · have : b - a = 0 := by omega
      rw [this]; simp
theorem cut_le (z : Str) (lo hi : Option Int) : (cutS z lo hi).length ≤ z.length := by rw [← slice_eq]; exact Txt.slice_le z lo hi
def rSlS : V → Option Int → Option Int → Hp → VK → Prop := fun x lo hi H Q => ∃ z, x = .str z ∧ z.length ≤ sizeLine ∧ Q (.str (cutS z lo hi)) H
theorem sl_str : SlR X rSlS := by
  intro pins s σ H x v vl vu lo hi sl Q I rx hs pl pu h
  obtain ⟨z, rfl, hz, q⟩ := h
  obtain ⟨t, rfl⟩ := rx
  rw [← slice_eq] at q
  refine ⟨"str", _, F.slot_str_getitem.lookup, typeIs_str _ _ _, ?_⟩
  have fin : ∀ (l u : Option (Int × Tok)), vl = partValue l → vu = partValue u → lo = l.map (·.1) → hi = u.map (·.1) → wpAny (model X.prog X.w) X.A (getItem (.str z t) (.ref sl)) (EP X pins σ Q) X.xe s := by
    rintro l u rfl rfl rfl rfl
    exact wpAny_getItem_str_slice (l := l) (u := u) (st := none) hs rfl (post_val_or_str ⟨Nat.le_trans (Txt.slice_le z _ _) hz, fun t' k => ⟨.str _, H, I.tok _, ⟨_, rfl⟩, q⟩⟩)
  cases pl with
  | none =>
    cases pu with
    | none => exact fin none none rfl rfl rfl rfl
    | int j uj => exact fin none (some (j, uj)) rfl rfl rfl rfl
  | int i ui =>
    cases pu with
    | none => exact fin (some (i, ui)) none rfl rfl rfl rfl
    | int j uj => exact fin (some (i, ui)) (some (j, uj)) rfl rfl rfl rfl
def rStarts : V → List V → Hp → VK → Prop := fun x vs H Q => ∃ z y, x = .str z ∧ vs = [.str y] ∧ Q (.bl (Txt.startswith z y)) H
theorem mt_startswith : MtR X "str.startswith" rStarts := by
  intro pins s σ H x vs v us Q I rx rv h
  obtain ⟨z, y, rfl, rfl, q⟩ := h
  obtain ⟨t, rfl⟩ := rx
  obtain ⟨u, rfl, ru⟩ := vals1 rv
  obtain ⟨t', rfl⟩ := ru
  exact SC.startswith ⟨.bl _, H, I, rfl, q⟩
theorem strs_of {zs : List Str} : ∀ {us : List Value}, Vals (zs.map V.str) us → StrsAre us zs := by
  induction zs with
  | nil => intro us r; cases r; exact .nil
  | cons b bs ih =>
    intro us r
    cases r with
    | cons h t =>
      obtain ⟨tk, rfl⟩ := h
      exact .cons _ _ (ih t)
def rJoin (K : PySem.W.Frag) : V → List V → Hp → VK → Prop := fun x vs H Q => ∃ (z : Str) (p : Addr) (zs : List Str), x = .str z ∧ vs = [.ref p] ∧ SqL K H p (zs.map V.str) ∧ (zs.map (·.length)).sum + zs.length * z.length ≤ 16777216 ∧ Q (.str (Txt.join z zs)) H
theorem mt_join : MtR X "str.join" (rJoin X.K) := by
  intro pins s σ H x vs v us Q I rx rv h
  obtain ⟨z, p, zs, rfl, rfl, hp, hz, q⟩ := h
  obtain ⟨t, rfl⟩ := rx
  obtain ⟨u, rfl, ru⟩ := vals1 rv
  cases ru
  obtain ⟨its, r', pl, _⟩ := I.list hp
  exact join_list pl.isList (strs_of r') hz fun t' k => ⟨.str _, H, I.tok _, ⟨_, rfl⟩, q⟩

inductive EqD (K : PySem.W.Frag) (H : Hp) : Nat → V → V → Bool → Prop
  | flat {n : Nat} {x y : V} : flatV x = true → flatV y = true → EqD K H n x y (eqV x y)
  | same {n : Nat} {a : Addr} : EqD K H n (.ref a) (.ref a) true
  | lst {n : Nat} {a b : Addr} {xs ys : List V} {e : Nat → Bool} : SqL K H a xs → SqL K H b ys → a ≠ b → xs.length = ys.length → (∀ i x y, xs[i]? = some x → ys[i]? = some y → EqD K H n x y (e i)) → EqD K H (n + 1) (.ref a) (.ref b) ((List.range xs.length).all e)
  | lstN {n : Nat} {a b : Addr} {xs ys : List V} : SqL K H a xs → SqL K H b ys → a ≠ b → xs.length ≠ ys.length → EqD K H (n + 1) (.ref a) (.ref b) false
  | tup {n : Nat} {a b : Addr} {xs ys : List V} {e : Nat → Bool} : SqT K H a xs → SqT K H b ys → a ≠ b → (∀ i x y, xs[i]? = some x → ys[i]? = some y → EqD K H n x y (e i)) → EqD K H (n + 1) (.ref a) (.ref b) ((List.range (min xs.length ys.length)).all e && xs.length == ys.length)
  | tupF {n : Nat} {a : Addr} {xs : List V} {y : V} : SqT K H a xs → flatV y = true → EqD K H n (.ref a) y false
  | fTup {n : Nat} {a : Addr} {xs : List V} {y : V} : SqT K H a xs → flatV y = true → EqD K H n y (.ref a) false
theorem item_of {xs : List V} {its : List Value} {j : Nat} (r : Vals xs its) (h : j < its.toArray.size) : ∃ x, xs[j]? = some x ∧ RelV x its.toArray[j] := by
  have hl := r.length
  have hj : j < xs.length := by rw [List.size_toArray] at h; omega
  obtain ⟨u, hu, ru⟩ := r.get (i := j) (x := xs[j]) (by simp [hj])
  refine ⟨xs[j], by simp [hj], ?_⟩
  have e : its.toArray[j] = u := by
    have h2 : j < its.length := by rw [List.size_toArray] at h; exact h
    have := List.getElem?_eq_getElem h2
    rw [hu] at this
    simpa using (Option.some.inj this).symm
  rw [e]; exact ru
theorem _root_.PyProof.Rows.IsTup.isTuple' {h : Heap} {a : Addr} {its : Array Value} (p : IsTup h a its) : h.IsTuple a its := p
theorem EqD.at {K : PySem.W.Frag} {H : Hp} {n : Nat} {x y : V} {b : Bool} (d : EqD K H n x y b) : ∀ {X : Cx} {pins : List (Addr × Obj)} {σ : St} {s : Shared} {A : Around} {u v : Value}, X.K = K → Inv X pins σ H s → RelV x u → RelV y v → A.units + n < cLine → SeqAt.EqAt A s u v b := by
  induction d with
  | flat fx fy => intro X pins σ s A u v hK I rx ry hu; exact eqAt_V rx ry fx fy
  | same => intro X pins σ s A u v hK I rx ry hu; cases rx; cases ry; exact SeqAt.EqAt.same _
  | @lst n a b xs ys e hx hy hne hl _ ih =>
    intro X pins σ s A u v hK I rx ry hu
    subst hK
    cases rx; cases ry
    obtain ⟨ia, ra, pa, _⟩ := I.list hx
    obtain ⟨ib, rb, pb, _⟩ := I.list hy
    have la := ra.length
    have lb := rb.length
    have hs : ia.toArray.size = ib.toArray.size := by rw [List.size_toArray, List.size_toArray]; omega
    have q := SeqAt.RcAt.lists (A := A) (e := e) pa.isList pb.isList hs (by omega) fun j h1 h2 => by
      obtain ⟨x, ex, rx⟩ := item_of ra h1
      obtain ⟨y, ey, ry⟩ := item_of rb h2
      exact ih j x y ex ey rfl I rx ry (by show A.units + 1 + n < cLine; omega)
    rw [List.size_toArray, ← la] at q
    exact SeqAt.EqAt.of_refs hne q
  | @lstN n a b xs ys hx hy hne hl =>
    intro X pins σ s A u v hK I rx ry hu
    subst hK
    cases rx; cases ry
    obtain ⟨ia, ra, pa, _⟩ := I.list hx
    obtain ⟨ib, rb, pb, _⟩ := I.list hy
    have la := ra.length
    have lb := rb.length
    exact SeqAt.EqAt.of_refs hne (SeqAt.RcAt.lists_lengths pa.isList pb.isList (by rw [List.size_toArray, List.size_toArray]; simp; omega) (by omega))
  | @tup n a b xs ys e hx hy hne _ ih =>
    intro X pins σ s A u v hK I rx ry hu
    subst hK
    cases rx; cases ry
    obtain ⟨ia, ra, pa, _⟩ := I.tuple hx
    obtain ⟨ib, rb, pb, _⟩ := I.tuple hy
    have la := ra.length
    have lb := rb.length
    have q := SeqAt.RcAt.tuples (A := A) (e := e) pa.isTuple' pb.isTuple' (by omega) fun j h1 h2 => by
      obtain ⟨x, ex, rx⟩ := item_of ra h1
      obtain ⟨y, ey, ry⟩ := item_of rb h2
      exact ih j x y ex ey rfl I rx ry (by show A.units + 1 + n < cLine; omega)
    rw [List.size_toArray, List.size_toArray, ← la, ← lb] at q
    exact SeqAt.EqAt.of_refs hne q
  | @tupF n a xs y hx fy =>
    intro X pins σ s A u v hK I rx ry hu
    subst hK
    cases rx
    obtain ⟨ia, ra, pa, _⟩ := I.tuple hx
    have hu' : A.units < cLine := by omega
    cases y with
    | non => cases (show v = Value.none from ry); exact SeqAt.EqAt.tuple_none pa.isTuple' hu'
    | bl b => cases (show v = Value.bool b from ry); exact SeqAt.EqAt.tuple_bool b pa.isTuple' hu'
    | int i => obtain ⟨t, q⟩ := (show ∃ t, v = Value.int i t from ry); cases q; exact SeqAt.EqAt.tuple_int i t pa.isTuple' hu'
    | str z => obtain ⟨t, q⟩ := (show ∃ t, v = Value.str z t from ry); cases q; exact SeqAt.EqAt.tuple_str z t pa.isTuple' hu'
    | byt b => cases fy
    | flt b => cases fy
    | ref a => cases fy
    | ty n => cases fy
  | @fTup n a xs y hx fy =>
    intro X pins σ s A u v hK I rx ry hu
    subst hK
    cases ry
    obtain ⟨ia, ra, pa, _⟩ := I.tuple hx
    have hu' : A.units < cLine := by omega
    cases y with
    | non => cases (show u = Value.none from rx); exact SeqAt.EqAt.none_tuple pa.isTuple' hu'
    | bl b => cases (show u = Value.bool b from rx); exact SeqAt.EqAt.bool_tuple b pa.isTuple' hu'
    | int i => obtain ⟨t, q⟩ := (show ∃ t, u = Value.int i t from rx); cases q; exact SeqAt.EqAt.int_tuple i t pa.isTuple' hu'
    | str z => obtain ⟨t, q⟩ := (show ∃ t, u = Value.str z t from rx); cases q; exact SeqAt.EqAt.str_tuple z t pa.isTuple' hu'
    | byt b => cases fy
    | flt b => cases fy
    | ref a => cases fy
    | ty n => cases fy
def EqIt (K : PySem.W.Frag) (H : Hp) (n : Nat) (xs ys : List V) (e : Nat → Bool) : Prop := ∀ i x y, xs[i]? = some x → ys[i]? = some y → EqD K H n x y (e i)
def rEqL (K : PySem.W.Frag) (neg : Bool) : R2 := fun x y H Q => ∃ a b xs ys n e, x = .ref a ∧ y = .ref b ∧ SqL K H a xs ∧ SqL K H b ys ∧ n ≤ 90 ∧ EqIt K H n xs ys e ∧ Q (.bl (neg ^^ (decide (xs.length = ys.length) && (List.range xs.length).all e))) H
theorem op_eqL (hu : X.A.units + 100 < cLine) : OpR X (compareOp .Eq) (rEqL X.K false) := by
  intro pins s σ H x y v u Q I rx ry h
  obtain ⟨a, b, xs, ys, n, e, rfl, rfl, hx, hy, hn, he, q⟩ := h
  cases rx; cases ry
  obtain ⟨ia, ra, pa, _⟩ := I.list hx
  obtain ⟨ib, rb, pb, _⟩ := I.list hy
  have la := ra.length
  have lb := rb.length
  rw [Bool.false_xor] at q
  by_cases hl : xs.length = ys.length
  · rw [decide_eq_true hl, Bool.true_and] at q
    refine SeqAt.eq_listAt (e := e) pa.isList pb.isList (by rw [List.size_toArray, List.size_toArray]; omega) (by omega) (fun j h1 h2 => ?_) ⟨.bl _, H, I, rfl, ?_⟩
    · obtain ⟨x, ex, rx⟩ := item_of ra h1
      obtain ⟨y, ey, ry⟩ := item_of rb h2
      exact (he j x y ex ey).at rfl I rx ry (by show X.A.units + 1 + n < cLine; omega)
    · rw [List.size_toArray, ← la]; exact q
  · rw [decide_eq_false hl, Bool.false_and] at q
    exact SeqAt.eq_list_lengthsAt pa.isList pb.isList (by rw [List.size_toArray, List.size_toArray]; simp; omega) (by omega) ⟨.bl _, H, I, rfl, q⟩
theorem op_neL (hu : X.A.units + 100 < cLine) : OpR X (compareOp .NotEq) (rEqL X.K true) := by
  intro pins s σ H x y v u Q I rx ry h
  obtain ⟨a, b, xs, ys, n, e, rfl, rfl, hx, hy, hn, he, q⟩ := h
  cases rx; cases ry
  obtain ⟨ia, ra, pa, _⟩ := I.list hx
  obtain ⟨ib, rb, pb, _⟩ := I.list hy
  have la := ra.length
  have lb := rb.length
  rw [Bool.true_xor] at q
  by_cases hl : xs.length = ys.length
  · rw [decide_eq_true hl, Bool.true_and] at q
    refine SeqAt.RcNeAt.lists (e := e) pa.isList pb.isList (by rw [List.size_toArray, List.size_toArray]; omega) (by omega) (fun j h1 h2 => ?_) _ _ _ _ ⟨.bl _, H, I, rfl, ?_⟩
    · obtain ⟨x, ex, rx⟩ := item_of ra h1
      obtain ⟨y, ey, ry⟩ := item_of rb h2
      exact (he j x y ex ey).at rfl I rx ry (by show X.A.units + 1 + n < cLine; omega)
    · rw [List.size_toArray, ← la]; exact q
  · rw [decide_eq_false hl, Bool.false_and] at q
    exact SeqAt.RcNeAt.lists_lengths pa.isList pb.isList (by rw [List.size_toArray, List.size_toArray]; simp; omega) (by omega) _ _ _ _ ⟨.bl _, H, I, rfl, q⟩
def rEqT (K : PySem.W.Frag) (neg : Bool) : R2 := fun x y H Q => ∃ a b xs ys n e, x = .ref a ∧ y = .ref b ∧ SqT K H a xs ∧ SqT K H b ys ∧ n ≤ 90 ∧ EqIt K H n xs ys e ∧ Q (.bl (neg ^^ ((List.range (min xs.length ys.length)).all e && xs.length == ys.length))) H
theorem op_eqT (hu : X.A.units + 100 < cLine) : OpR X (compareOp .Eq) (rEqT X.K false) := by
  intro pins s σ H x y v u Q I rx ry h
  obtain ⟨a, b, xs, ys, n, e, rfl, rfl, hx, hy, hn, he, q⟩ := h
  cases rx; cases ry
  obtain ⟨ia, ra, pa, _⟩ := I.tuple hx
  obtain ⟨ib, rb, pb, _⟩ := I.tuple hy
  have la := ra.length
  have lb := rb.length
  rw [Bool.false_xor] at q
  refine SeqAt.eq_tupleAt (e := e) pa.isTuple' pb.isTuple' (by omega) (fun j h1 h2 => ?_) ⟨.bl _, H, I, rfl, ?_⟩
  · obtain ⟨x, ex, rx⟩ := item_of ra h1
    obtain ⟨y, ey, ry⟩ := item_of rb h2
    exact (he j x y ex ey).at rfl I rx ry (by show X.A.units + 1 + n < cLine; omega)
  · rw [List.size_toArray, List.size_toArray, ← la, ← lb]; exact q
theorem op_neT (hu : X.A.units + 100 < cLine) : OpR X (compareOp .NotEq) (rEqT X.K true) := by
  intro pins s σ H x y v u Q I rx ry h
  obtain ⟨a, b, xs, ys, n, e, rfl, rfl, hx, hy, hn, he, q⟩ := h
  cases rx; cases ry
  obtain ⟨ia, ra, pa, _⟩ := I.tuple hx
  obtain ⟨ib, rb, pb, _⟩ := I.tuple hy
  have la := ra.length
  have lb := rb.length
  rw [Bool.true_xor] at q
  refine SeqAt.RcNeAt.tuples (e := e) pa.isTuple' pb.isTuple' (by omega) (fun j h1 h2 => ?_) _ _ _ _ ⟨.bl _, H, I, rfl, ?_⟩
  · obtain ⟨x, ex, rx⟩ := item_of ra h1
    obtain ⟨y, ey, ry⟩ := item_of rb h2
    exact (he j x y ex ey).at rfl I rx ry (by show X.A.units + 1 + n < cLine; omega)
  · rw [List.size_toArray, List.size_toArray, ← la, ← lb]; exact q
theorem hu100 {A : Around} {k : Nat} (hr : Room k A) : A.units + 100 < cLine := Nat.lt_of_le_of_lt (by omega) hr.un

def strsAre : List Expr → List Str → Bool
  | [], [] => true
  | .Constant (.str x) _ _ :: r, z :: zs => x == z && strsAre r zs
  | _, _ => false
def tStrs (zs : List Str) : TA := fun _ H Q => Q (zs.map V.str) H
theorem pa_strs : ∀ {es : List Expr} {zs : List Str}, strsAre es zs = true → PA X es (tStrs zs) := by
  intro es
  induction es with
  | nil =>
    intro zs h
    cases zs with
    | nil => exact pa_nil
    | cons z zs => cases h
  | cons e r ih =>
    intro zs h
    unfold strsAre at h
    split at h
    · exact absurd ‹e :: r = []› (List.cons_ne_nil _ _)
    · rename_i x j p r' z zs' h1
      cases h1
      rw [Bool.and_eq_true] at h
      have hx : x = z := by simpa using h.1
      subst hx
      exact pa_cons (X := X) (e := .Constant (.str x) j p) pe_str (ih h.2)
    · cases h
end
end L2
namespace L2
open PySem PySem.Spec PyProof.Rows
set_option genInjectivity false in
structure Def (K : PySem.W.Frag) (mg : Str → Option Value) (x : Str) (st : Stmt) (ps : List Str) where
  f : Addr
  fd : FuncData
  F : Fun K x x st f fd
  hm : mg x = some (.ref f)
  b : Binds K fd ps []
theorem cxOf_K {CX : CXT} {P : Program} {w : World} {K : PySem.W.Frag} {mg : Str → Option Value} {base : Heap} {N : List Str} {qual : Str} {scope : Scope} {f : Addr} {cd : Value} {A : Around} {outer : List Env} {s : Shared} {H : Hp} {E : XK} :
    (cxOf CX P w K mg base N qual scope f cd A outer s H E).K = K := rfl
theorem cxComp_K {X : Cx} {N : List Str} {scope : Scope} {C : Addr} {s : Shared} {H : Hp} {fp : List Addr} {pn : List (Addr × Obj)} : (cxComp X N scope C s H fp pn).K = X.K := rfl
structure InK (K : PySem.W.Frag) (x : Str) (st : Stmt) : Prop where
  ex : ∃ (f : Addr) (oc : Value) (od : Option Addr) (kV doc pm : Value) (an : Option Addr) (cdv ct : Value) (osl : Array (Option Value)),
    PySem.W.nsIn K mainGlobals x = some (some (.ref f)) ∧ K.lookup f = some ⟨oc, od, .func (PySem.W.fnOf x x (defArgs st) (defBody st) (defScope st) .none kV doc pm an cdv ct), osl⟩ ∧ PySem.W.codeIn K cdv x = true ∧ PySem.W.keepIn K (.ref f) = true
theorem InK.of {K : PySem.W.Frag} {x : Str} {st : Stmt} {f : Addr} {oc : Value} {od : Option Addr} {kV doc pm : Value} {an : Option Addr} {cdv ct : Value} {osl : Array (Option Value)}
    (a : PySem.W.nsIn K mainGlobals x = some (some (.ref f))) (l : K.lookup f = some ⟨oc, od, .func (PySem.W.fnOf x x (defArgs st) (defBody st) (defScope st) .none kV doc pm an cdv ct), osl⟩) (c : PySem.W.codeIn K cdv x = true) (k : PySem.W.keepIn K (.ref f) = true) : InK K x st :=
  ⟨⟨f, oc, od, kV, doc, pm, an, cdv, ct, osl, a, l, c, k⟩⟩
theorem InK.def {K : PySem.W.Frag} {mg : Str → Option Value} {h : Heap} {x : Str} {st : Stmt} {ps : List Str} (i : InK K x st) (X : K.In h) (G : h.Ns mainGlobals mg)
    (hb : ∀ (kV doc pm : Value) (an : Option Addr) (cdv ct : Value) (us : List Value), us.length = ps.length → bindArgs (PySem.W.fnOf x x (defArgs st) (defBody st) (defScope st) .none kV doc pm an cdv ct) ⟨us, []⟩ = pure (ps.zip us)) : Nonempty (Def K mg x st ps) := by
  obtain ⟨f, oc, od, kV, doc, pm, an, cdv, ct, osl, a, l, c, k⟩ := i.ex
  have F := fun_mk (x := x) (qual := x) (st := st) l c k
  exact ⟨⟨f, _, F, PySem.W.mg_of X G a, F.binds hb⟩⟩
def strsOf : List Str → List Value → Bool
  | [], [] => true
  | z :: zs, .str x _ :: r => x == z && strsOf zs r
  | _, _ => false
theorem strsOf_vals : ∀ {zs : List Str} {us : List Value}, strsOf zs us = true → Vals (zs.map V.str) us := by
  intro zs
  induction zs with
  | nil =>
    intro us h
    cases us with
    | nil => exact .nil
    | cons u r => cases h
  | cons z zs ih =>
    intro us h
    cases us with
    | nil => cases h
    | cons u r =>
      cases u with
      | str x t =>
        have h' : (x == z && strsOf zs r) = true := h
        rw [Bool.and_eq_true] at h'
        have e : x = z := by simpa using h'.1
        subst e
        exact .cons ⟨t, rfl⟩ (ih h'.2)
      | _ => cases h
structure InT (K : PySem.W.Frag) (x : Str) (zs : List Str) : Prop where
  ex : ∃ (p : Addr) (dd : Option Addr) (its : Array Value) (n : Nat) (sl : Array (Option Value)), PySem.W.nsIn K mainGlobals x = some (some (.ref p)) ∧ K.lookup p = some ⟨.type "tuple", dd, .seq its n, sl⟩ ∧ its.size ≤ sizeLine ∧ strsOf zs its.toList = true
theorem InT.of {K : PySem.W.Frag} {x : Str} {zs : List Str} {p : Addr} {dd : Option Addr} {its : Array Value} {n : Nat} {sl : Array (Option Value)} (a : PySem.W.nsIn K mainGlobals x = some (some (.ref p))) (l : K.lookup p = some ⟨.type "tuple", dd, .seq its n, sl⟩)
    (s : its.size ≤ sizeLine) (v : strsOf zs its.toList = true) : InT K x zs := ⟨⟨p, dd, its, n, sl, a, l, s, v⟩⟩
theorem bt_len : bootBuiltins "len" = some (.builtin "len") := by decide +kernel
theorem bt_all : bootBuiltins "all" = some (.builtin "all") := by decide +kernel
theorem bt_isinstance : bootBuiltins "isinstance" = some (.builtin "isinstance") := by decide +kernel
theorem bt_str : bootBuiltins "str" = some (.type "str") := by decide +kernel
theorem bt_int : bootBuiltins "int" = some (.type "int") := by decide +kernel
theorem bt_bool : bootBuiltins "bool" = some (.type "bool") := by decide +kernel
theorem bt_list : bootBuiltins "list" = some (.type "list") := by decide +kernel
theorem bt_tuple : bootBuiltins "tuple" = some (.type "tuple") := by decide +kernel
theorem Same.seqT {K : PySem.W.Frag} {H H' : Hp} {a : Addr} {xs : List V} (e : Same H H') (h : SqT K H a xs) : SqT K H' a xs := by
  rcases h with (h | ⟨o, h⟩) | h
  · exact .inl (.inl (e _ _ h))
  · exact .inl (.inr ⟨o, e _ _ h⟩)
  · exact .inr h
theorem Same.upd {H : Hp} {a : Addr} {o : HO} (h : H a = none) : Same H (L2.upd H a o) := fun b u e => by rw [upd_ne (ne_of_none e h)]; exact e
theorem Same.updR {H H1 : Hp} {a : Addr} {o : HO} (s : Same H H1) (h : H1 a = none) : Same H (L2.upd H1 a o) := s.trans (Same.upd h)
theorem lenV_str {K : PySem.W.Frag} {z : Str} {H : Hp} {n : Nat} : LenV K (.str z) H n ↔ z.length ≤ sizeLine ∧ n = z.length := Iff.rfl
theorem lenV_ref {K : PySem.W.Frag} {p : Addr} {H : Hp} {n : Nat} : LenV K (.ref p) H n ↔ (∃ xs, SqL K H p xs ∧ n = xs.length) ∨ ∃ xs, SqT K H p xs ∧ n = xs.length := Iff.rfl
end L2
namespace L2
open PySem PySem.Spec PyProof.Rows
section
variable {X : Cx} {o e f : Expr} {apos cpos pos : Pos} {td ty tx : TE}

def DKd (P : Program) (w : World) (K : PySem.W.Frag) (a : Addr) (kvs : List (Key × V)) : Prop := (a == sysModules) = false ∧ ∀ h : Heap, K.In h → ∃ vs, KV kvs vs ∧ h.DictOf (mixKind P w) a vs
def tDGetK (P : Program) (w : World) (K : PySem.W.Frag) (td ty tx : TE) : TE := fun σ H Q => td σ H fun x H1 => ∃ a kvs, x = .ref a ∧ DKd P w K a kvs ∧ ty σ H1 fun y H2 => tx σ H2 fun z H3 => ∃ k, y = kV k ∧ Q ((valV kvs k).getD z) H3
theorem pe_dgetK (ho : PE X o td) (he : PE X e ty) (hf : PE X f tx) (m : M2 X o "get" apos e f cpos) : PE X (.Call (.Attribute o "get" apos) [e, f] [] cpos) (tDGetK X.prog X.w X.K td ty tx) := by
  intro pins s σ H Q I h
  refine wpAny_Call_method m.base m.few m.line PySem.F.plainAttrs_dict PySem.F.slot_dict_get PySem.F.type_dict_get (thn (ho pins s σ H _ I h) fun u s1 ⟨x, H1, I1, rx, a, kvs, ex, d, q1⟩ => ?_)
  subst ex
  obtain rfl : u = Value.ref a := rx
  obtain ⟨vs1, _, dd1⟩ := d.2 s1.heap I1.kIn
  have t2 : ∀ b, Value.ref a = .ref b → ∃ ob, s1.heap.get? b = some ob ∧ ob.dict = none := by
    intro b hb
    cases hb
    obtain ⟨o, es, ep, h1, h2, _⟩ := dd1
    exact ⟨o, h1, h2.2.1⟩
  refine ⟨dd1.typeIs, t2, ?_⟩
  rw [m.trees]
  refine Calls.callWith_builtin rfl (Calls.evalArgs_plain (Calls.spliced_cons (thn (he pins s1 σ H1 _ I1 q1) fun iv s2 ⟨y, H2, I2, ry, q2⟩ =>
    Calls.spliced_cons (thn (hf pins s2 σ H2 _ I2 q2) fun fv s3 ⟨z, H3, I3, rz, k, ey, q3⟩ => Calls.spliced_nil ?_))))
  subst ey
  obtain ⟨vs, rel, dd⟩ := d.2 s3.heap I3.kIn
  refine call_meetsIn PySem.F.slot_dict_get dd.typeIs PySem.F.entry_dict_get (PySem.F.args_dict_get_3 _ _ _) (meets_dict_get_default (mixKind X.prog X.w) a (kV_is ry) d.1 fv) ⟨_, dd.mapOf, ?_⟩
  exact ⟨_, H3, I3.tok _, (rel.val k).getD rz, q3⟩

def gLst (K : PySem.W.Frag) (n : Nat) (t : TGs) : TG := fun v σ H Q => ∃ a xs, v = .ref a ∧ SqL K H a xs ∧ xs.length = n ∧ t xs σ H Q
theorem draw_list {prog : Program} {w : World} {A : Around} {E : Value → Shared → Prop} {it l : Addr} {items : Array Value} (hne : l ≠ it) : ∀ (n i : Nat) (s : Shared) (Q : List Value → Shared → Prop), s.heap.IsListIter it l i → s.heap.IsList l items → i + n ≤ items.size →
    (∀ h', h'.IsListIter it l (i + n) → Heap.SameBut it s.heap h' → Q ((items.toList.drop i).take n) { s with heap := h' }) → wpAny (model prog w) A (draw (.ref it) n) Q E s
  | 0, i, s, Q, hit, _, _, hQ => by
    show wpAny _ _ (pure []) Q E s
    exact wpAny_pure (by simpa using hQ s.heap hit (Heap.SameBut.refl ..))
  | n + 1, i, s, Q, hit, ht, hle, hQ => by
    have hlt : i < items.size := by omega
    show wpAny _ _ (pyNext (.ref it) >>= _) Q E s
    refine wpAny_bind (wpAny_pyNext_list_item hit ht (x := items[i]) (by simp [hlt]) fun h₁ hit₁ hs₁ => ?_)
    refine wpAny_bind (wpAny_holding (draw_list hne n (i + 1) _ _ hit₁ (ht.extBut hs₁.extBut hne) (by omega) fun h₂ hit₂ hs₂ => wpAny_pure ?_))
    have hd : items.toList.drop i = items[i] :: items.toList.drop (i + 1) := by simp [List.drop_eq_getElem_cons, hlt]
    have := hQ h₂ (by rw [show i + (n + 1) = i + 1 + n by omega]; exact hit₂) (hs₁.trans hs₂)
    rw [hd, List.take_succ_cons] at this
    exact this
theorem unpackItems_list {prog : Program} {w : World} {A : Around} {E : Value → Shared → Prop} {s : Shared} {t : Addr} {items : Array Value} {Q : List Value → Shared → Prop} (hh : A.handled = none) (ht : s.heap.IsList t items)
    (hQ : ∀ h', Heap.ExtBut s.heap.objs.size s.heap h' → Q items.toList { s with heap := h' }) : wpAny (model prog w) A (unpackItems (.ref t) items.size none) Q E s := by
  have hlt : t ≠ s.heap.objs.size := by obtain ⟨o, ho, _⟩ := ht; exact Nat.ne_of_lt (Heap.lt_size ho)
  unfold unpackItems
  refine wpAny_bind ?_
  · unfold notIterableAtAll
    refine wpAny_bind (wpAny_specialOf ht.typeIs F.slot_list_iter.lookup ?_)
    refine wpAny_pure ?_
    simp only [Bool.false_eq_true, if_false]
    refine wpAny_bind (wpAny_holding (wpAny_pyIter_list ht ?_))
    refine wpAny_bind (wpAny_holding (draw_list hlt items.size 0 _ _ ⟨_, Heap.get?_push_size _ rfl, rfl, rfl⟩ (ht.push _) (by omega) fun h₁ hit₁ hs₁ => ?_))
    have hall : List.take items.size (List.drop 0 items.toList) = items.toList := by
      rw [List.drop_zero]; exact List.take_of_length_le (by simp)
    rw [hall]
    rw [if_neg (by simp)]
    have ht₁ : h₁.IsList t items := (ht.push _).extBut hs₁.extBut hlt
    refine wpAny_bind (wpAny_holding (wpAny_pyNext_list_end hh hit₁ ht₁ (by simp) fun h₂ he₂ => ?_))
    simp only [Option.isSome_none, Bool.false_eq_true, if_false]
    refine wpAny_pure (hQ h₂ fun b o hb e => he₂ b o hb (hs₁.extBut b o hb (Heap.get?_push_of_some _ e)))
theorem pg_lst {es : List Expr} {k : Nat} {t : TGs} {n : Nat} (hc : X.calm = true) (h : PGs X es t)
    (hn : (assignEach es X.env).length = n := by rfl) (hst : (assignEach es X.env).findIdx? (·.1) = none := by rfl) : PG X (.Tuple es k pos) (gLst X.K n t) := by
  intro pins s σ H v u Q I r hw
  obtain ⟨a, xs, e1, hq, hl, hw⟩ := hw
  subst e1
  cases r
  obtain ⟨its, rv, ht, hz⟩ := I.list hq
  rw [arm_assign_Tuple]
  refine wpAny_bind (wpAny_standAt ?_)
  unfold unpack
  rw [show (assignEach es X.env).length = its.toArray.size by rw [hn, ← hl, List.size_toArray, rv.length], hst]
  refine wpAny_bind (wpAny_holding (unpackItems_list (I.ok.hd hc) ht.isList fun h' hx => ?_))
  have I1 : Inv X pins σ H { s with heap := h' } := I.kept (t' := s.toks) fun b o e => hx b o (Nat.ne_of_lt (Heap.lt_size e)) e
  exact h pins _ σ H xs _ Q I1 (by simpa using rv) hw

variable {K : PySem.W.Frag}
theorem ix_listK (h : X.K = K) : IxR X (rIxL K) := by subst h; exact ix_list
theorem ix_tupK (h : X.K = K) : IxR X (rIxT K) := by subst h; exact ix_tup
theorem op_in_seqK (h : X.K = K) : OpR X (compareOp .In) (rIn K false) := by subst h; exact op_in_seq
theorem op_notIn_seqK (h : X.K = K) : OpR X (compareOp .NotIn) (rIn K true) := by subst h; exact op_notIn_seq
theorem call_lenK (h : X.K = K) : CallR X (.builtin "len") (fun xs H Q => ∃ x n, xs = [x] ∧ LenV K x H n ∧ Q (.int n) H) := by subst h; exact call_len
theorem call_tuple_ofK (h : X.K = K) : CallR X (.type "tuple") (fun xs H Q => ∃ p ys, xs = [.ref p] ∧ ((SqL K H p ys ∧ ∀ l, H l = none → Q (.ref l) (upd H l (.tup ys))) ∨ (SqT K H p ys ∧ Q (.ref p) H))) := by subst h; exact call_tuple_of
theorem call_list_ofK (h : X.K = K) : CallR X (.type "list") (fun xs H Q => ∃ p ys, xs = [.ref p] ∧ (SqL K H p ys ∨ SqT K H p ys) ∧ ∀ l, H l = none → Q (.ref l) (upd H l (.lst ys))) := by subst h; exact call_list_of
theorem sl_listK (h : X.K = K) : SlR X (rSlL K) := by subst h; exact sl_list
theorem sl_tupK (h : X.K = K) : SlR X (rSlT K) := by subst h; exact sl_tup
def tIfM (c : TT) (t u : TS) : TS := fun D σ H => ∃ M1 M2 : Hp → Prop, (c σ H fun b H1 => if b = true then M1 H1 else M2 H1) ∧ (∀ H1, M1 H1 → t D σ H1) ∧ ∀ H1, M2 H1 → u D σ H1
theorem ps_ifM {X : Cx} {pos : Pos} {t u : TS} {c : Expr} {a b : List Stmt} {tc : TT} (hc : PT X c tc) (ha : PSs X a t) (hb : PSs X b u) : PS X (.If c a b pos) (tIfM tc t u) := by
  intro pins s σ H D I h
  obtain ⟨M1, M2, h, h1, h2⟩ := h
  refine wpAny_If (thn (hc pins s σ H _ I h) fun d s1 ⟨H1, I1, q1⟩ => ?_)
  cases d with
  | true => exact ha pins s1 σ H1 D I1 (h1 _ q1)
  | false => exact hb pins s1 σ H1 D I1 (h2 _ q1)
theorem Inv.turned2 {X : Cx} {pins : List (Addr × Obj)} {σ : List (Option V)} {H : Hp} {s : Shared} {h' : Heap} {t' : Nat} {e it : Addr} (I : Inv X pins σ H s) (k : ∀ b o, b ≠ e → b ≠ it → s.heap.get? b = some o → h'.get? b = some o) (fe : FpOk X pins H e) (fi : FpOk X pins H it) : Inv X pins σ H { s with heap := h', toks := t' } := by
  obtain ⟨e0, e1, _, e3, e4, e5⟩ := fe
  obtain ⟨i0, i1, _, i3, i4, i5⟩ := fi
  have nit : ∀ b u, H b = some u → b ≠ it := fun b u q z => by rw [z, i0] at q; cases q
  have nie : ∀ b u, H b = some u → b ≠ e := fun b u q z => by rw [z, e0] at q; cases q
  have kk : ∀ b o, b ∉ [e, it] → s.heap.get? b = some o → h'.get? b = some o := fun b o hc q => k b o (fun z => hc (by simp [z])) (fun z => hc (by simp [z])) q
  refine I.step (g' := s.gens) (d' := s.drawn) (ch := [e, it]) (fun b hb => ?_) (fun b o _ _ hc q _ => kk b o hc q) (fun b o _ _ hc q _ => ⟨o.slots, kk b o hc q⟩) (fun _ _ _ _ n => n)
    (fun b o hc q => ⟨o, kk b o hc q⟩) (fun _ _ q => q) (fun _ _ _ q => q) (fun b ps q => ⟨#[], by rw [q]; simp⟩) (fun m hm => ?_) (fun b u q => ?_) I.bare
  · rcases List.mem_cons.mp hb with rfl | hb
    · exact ⟨e3, e1, e4, e5⟩
    · have z : b = it := by simpa using hb
      subst z
      exact ⟨i3, i1, i4, i5⟩
  · obtain ⟨o, es, ep, ho, r⟩ := hm
    exact ⟨o, es, ep, k _ o (Ne.symm e1) (Ne.symm i1) ho, r⟩
  · refine (I.hok b u q).stay (fun c v hc q' => k c v ?_ ?_ q') (fun _ q => q) fun _ _ q => q
    · rcases hc with z | z
      · rw [z]; exact nie b u q
      · exact nie c _ z
    · rcases hc with z | z
      · rw [z]; exact nit b u q
      · exact nit c _ z
def Ite (K : PySem.W.Frag) (a : Addr) : It :=
  ⟨fun i H => ∃ xs x, SqL K H a xs ∧ xs[i]? = some x, fun i H v H' => ∃ p x, v = .ref p ∧ H p = none ∧ H' = upd H p (.tup [.int (i : Nat), x]) ∧ ∀ xs, SqL K H a xs → xs[i]? = some x, fun i H => ∃ xs, SqL K H a xs ∧ xs.length ≤ i⟩
theorem turn_enum {P : Program} {w : World} {K : PySem.W.Frag} {es : List Expr} {x1} {pos : Pos} (a e it : Addr) (hne : e ≠ it) : Turn P w K (.Tuple es x1 pos) (Ite K a) [e, it] e (fun i h => (∃ old, IsEnum h e it (i : Nat) old) ∧ h.IsListIter it a i) where
  mem := by simp
  obj := fun i h st b hb => by
    obtain ⟨⟨old, he⟩, hit⟩ := st
    rcases List.mem_cons.mp hb with rfl | hb
    · exact ⟨_, he, fun v z => by
        have z' : Data.fields _ = Data.cell v := z
        cases z'⟩
    · have z : b = it := by simpa using hb
      subst z
      obtain ⟨o, e, c, d⟩ := hit
      exact ⟨o, e, fun v z => by rw [d] at z; cases z⟩
  keep := fun i h h' st k => ⟨let ⟨old, he⟩ := st.1; ⟨old, k e (by simp) _ he⟩, st.2.at fun o q => k it (by simp) o q⟩
  item := by
    intro X hP hw hK hc i pins s σ H E I hf st hg
    subst hP hw hK
    obtain ⟨xs, x, hq, hx⟩ := hg
    obtain ⟨its, rv, p, hz⟩ := I.list hq
    obtain ⟨u, hu, ru⟩ := rv.get hx
    obtain ⟨⟨old, he⟩, hit⟩ := st
    have fe := hf e (by simp)
    have fi := hf it (by simp)
    have helt : e < s.heap.objs.size := Heap.lt_size he
    have hilt : it < s.heap.objs.size := by obtain ⟨_, q, _⟩ := hit; exact Heap.lt_size q
    refine wpAny_pyNext_enum_item he hit p.isList (x := u) (by simpa using hu) hne fun h' ho hit' hT hsz hk => ?_
    refine ⟨_, rfl, wpAny_letOwnedTupleGo_enum ho fun h'' he'' hs'' => ?_⟩
    have hfr : H s.heap.objs.size = none := I.hok.fresh (Nat.le_refl _)
    have I1 : Inv X pins σ (upd H s.heap.objs.size (.tup [.int (i : Nat), x])) { s with heap := s.heap.push { cls := .type "tuple", data := .seq #[.int (i : Nat) s.toks, u] }, toks := s.toks } :=
      I.laid (t' := s.toks) (fun b v q => Heap.get?_push_of_some _ q) (Nat.le_refl _) ⟨show 2 ≤ sizeLine by decide, [.int (i : Nat) s.toks, u], .cons ⟨_, rfl⟩ (.cons ru .nil), ⟨_, Heap.get?_push_size _ rfl, rfl, _, rfl⟩⟩
    have up : ∀ {b : Addr}, FpOk X pins H b → b < s.heap.objs.size → FpOk X pins (upd H s.heap.objs.size (.tup [.int (i : Nat), x])) b := fun f hb => ⟨by rw [upd_ne (Nat.ne_of_lt hb)]; exact f.1, f.2⟩
    have I2 : Inv X pins σ (upd H s.heap.objs.size (.tup [.int (i : Nat), x])) { s with heap := h'', toks := s.toks + 1 } :=
      Inv.turned2 (s := { s with heap := s.heap.push { cls := .type "tuple", data := .seq #[.int (i : Nat) s.toks, u] }, toks := s.toks }) (h' := h'') (t' := s.toks + 1) (e := e) (it := it) I1 (fun b o b1 b2 q => by
        rw [hs''.2 b b1]
        by_cases hb : b = s.heap.objs.size
        · subst hb
          rw [Heap.get?_push_size _ rfl] at q
          cases q
          exact hT
        · refine hk b o b1 b2 ?_
          rw [← q]
          exact (Heap.get?_push_ne _ _ _ hb).symm) (up fe helt) (up fi hilt)
    refine ⟨.ref s.heap.objs.size, _, I2, rfl, ⟨_, x, rfl, hfr, rfl, fun ys hy => by rw [I.list_inj hy hq]; exact hx⟩, ⟨⟨_, by simpa using he''⟩, hit'.at fun o q => (hs''.2 it hne.symm).trans q⟩, fun b hb => ?_⟩
    rcases List.mem_cons.mp hb with rfl | hb
    · exact (up fe helt).1
    · have z : b = it := by simpa using hb
      subst z
      exact (up fi hilt).1
  done := by
    intro X hP hw hK hc i pins s σ H E I hf st hg
    subst hP hw hK
    obtain ⟨xs, hq, hx⟩ := hg
    obtain ⟨its, rv, p, hz⟩ := I.list hq
    obtain ⟨⟨old, he⟩, hit⟩ := st
    have fe := hf e (by simp)
    have fi := hf it (by simp)
    have hl := rv.length
    exact wpAny_pyNext_enum_end (I.ok.hd hc) he hit p.isList (by simp; omega) fun h' eb => ⟨rfl, Inv.turned2 (t' := s.toks) (e := e) (it := it) I (fun b o _ hb q => eb b o hb q) fe fi⟩
  self := fun _ _ _ _ _ st h => let ⟨_, he⟩ := st.1; wpAny_pyIter_enum he h
theorem bt_enumerate : bootBuiltins "enumerate" = some (.type "enumerate") := by decide +kernel
def iEnum (K : PySem.W.Frag) (ta : TA) : TI := fun σ H R => ta σ H fun vs H1 => ∃ a : Addr, vs = [.ref a] ∧ (∃ xs, SqL K H1 a xs) ∧ R (Ite K a) H1
theorem pi_enum {X : Cx} {es : List Expr} {x1} {tpos : Pos} {a : Expr} {ta : TA} {p pos : Pos} (hg : Gl X "enumerate") (hm : X.mg "enumerate" = none) (ha : PA X [a] ta) (hs : starEach [a] X.env = [(false, eval a X.env)] := by rfl) : PI X (.Tuple es x1 tpos) (.Call (.Name "enumerate" p) [a] [] pos) (iEnum X.K ta) := by
  intro pins s σ H R I h
  refine Call_ (ld_blt I hg hm bt_enumerate (PyProof.Rows.callWith_type1 (thn (ha pos pins s σ H _ I h) fun us s1 ⟨vs, H1, I1, r1, q1⟩ => ?_) hs rfl))
  obtain ⟨l, q0, ⟨xs, hq⟩, q⟩ := q1
  subst q0
  cases r1 with
  | cons r rr =>
    cases rr
    cases r
    obtain ⟨its, rv, pl, hz⟩ := I1.list hq
    refine call_enumerate_list pl.isList fun h' he hit hsz hk => wpAny_pyIter_enum he ?_
    refine ⟨s1.heap.objs.size + 1, [s1.heap.objs.size + 1, s1.heap.objs.size], _, _, H1, rfl, I1.kept (t' := s1.toks) hk, turn_enum l _ _ (Nat.succ_ne_self _), ⟨⟨_, he⟩, hit⟩, fun b hb => ?_, q⟩
    rcases List.mem_cons.mp hb with rfl | hb
    · exact I1.fpOk (by omega) (I1.hok.fresh (by omega))
    · have z : b = s1.heap.objs.size := by simpa using hb
      subst z
      exact I1.fpOk (Nat.le_refl _) (I1.hok.fresh (Nat.le_refl _))
theorem for_enum {K : PySem.W.Frag} {a : Addr} {xs : List V} {g : TG} {tb : TS} {D : Ends} {σ : St} {H : Hp} (Pv : Nat → St → Hp → Prop) (h0 : Pv 0 σ H) (hl : ∀ i σ H, i ≤ xs.length → Pv i σ H → SqL K H a xs)
    (hs : ∀ i x p σ H, xs[i]? = some x → Pv i σ H → H p = none → g (.ref p) σ (upd H p (.tup [.int (i : Nat), x])) fun σ2 H2 => tb { D with nx := Pv (i + 1), ct := Pv (i + 1), bk := D.nx } σ2 H2) (hd : ∀ σ H, Pv xs.length σ H → D.nx σ H) :
    ∃ W : Nat → Nat → St → Hp → Prop, (∃ m, W 0 m σ H) ∧ ∀ i m σ H, W i m σ H →
      ((Ite K a).stop i H ∧ D.nx σ H) ∨ ((Ite K a).go i H ∧ ∃ N : St → Hp → Prop, (∀ σ' H', N σ' H' → ∃ m', m' < m ∧ W (i + 1) m' σ' H') ∧ ∀ x H', (Ite K a).yld i H x H' → g x σ H' fun σ2 H2 => tb { D with nx := N, ct := N, bk := D.nx } σ2 H2) := by
  refine ⟨fun i m σ H => m = xs.length - i ∧ i ≤ xs.length ∧ Pv i σ H, ⟨xs.length, by simp, Nat.zero_le _, h0⟩, ?_⟩
  rintro i m σ H ⟨rfl, hi, p⟩
  have q := hl i σ H hi p
  by_cases hlt : i < xs.length
  · refine .inr ⟨⟨xs, xs[i], q, by simp [hlt]⟩, Pv (i + 1), fun σ' H' p' => ⟨xs.length - (i + 1), by omega, rfl, hlt, p'⟩, fun v H' y => ?_⟩
    obtain ⟨b, x, rfl, hb, rfl, hx⟩ := y
    exact hs i x b σ H (hx xs q) p hb
  · have z : i = xs.length := by omega
    subst z
    exact .inl ⟨⟨xs, q, Nat.le_refl _⟩, hd σ H p⟩
end
end L2
namespace L2
open PySem PySem.Spec PyProof.Rows
def del (H : Hp) (d : Addr) : Hp := fun b => if b = d then none else H b
theorem del_same {H : Hp} {d : Addr} : del H d d = none := by unfold del; rw [if_pos rfl]
theorem del_ne {H : Hp} {d b : Addr} (h : b ≠ d) : del H d b = H b := by unfold del; rw [if_neg h]
theorem Same.back {H G : Hp} {d : Addr} {u : HO} (s : Same (del H d) G) (e : H d = some u) : Same H (L2.upd G d u) := fun b o q => by
  by_cases hb : b = d
  · subst hb; rw [upd_same, ← e]; exact q
  · rw [upd_ne hb]; exact s b o (by rw [del_ne hb]; exact q)
theorem del_of {H : Hp} {d b : Addr} {u o : HO} (e : H d = some u) (q : H b = some o) (n : o ≠ u) : del H d b = some o := by
  have hb : b ≠ d := ne_of q e n
  rw [del_ne hb]; exact q
theorem Inv.forget {X : Cx} {pins : List (Addr × Obj)} {σ : St} {H : Hp} {s : Shared} {d : Addr} {kvs : List (Key × V)} (I : Inv X pins σ H s) (e : H d = some (.dK kvs)) :
    ∃ (o : Obj) (vs : List (Key × Value)) (ep : Nat), s.heap.get? d = some o ∧ (d == sysModules) = false ∧ KV kvs vs ∧ (∀ h : Heap, h.get? d = some o → h.DictAt (mixKind X.prog X.w) d vs ep) ∧ Inv X (pins ++ [(d, o)]) σ (del H d) s ∧
      ∀ (σ' : St) (G : Hp) (s' : Shared), Inv X (pins ++ [(d, o)]) σ' G s' → Inv X pins σ' (upd G d (.dK kvs)) s' := by
  obtain ⟨z, hS, vs, rel, o, es, ep, ho, r⟩ := dk_of I.hok e
  have nL : d ≠ X.env.locals := ne_of_none e I.free
  have nfs : d ∉ X.fs := fun hb => by
    obtain ⟨_, o', ho', _⟩ := I.ok.funs.mem hb
    have q := I.base.free d o' ho' (I.ok.frf d hb) fun z => I.ok.exfs d z hb
    rw [e] at q; cases q
  have ncell : ∀ v, o.data ≠ .cell v := fun v q => by
    obtain ⟨_, r2, _⟩ := id r
    rw [r2] at q; cases q
  have nbase : ∀ o', X.s₀.heap.get? d = some o' → X.H₀ d = none → d ∉ X.ex → False := fun o' a b c => by
    have q := I.base.free d o' a b c
    rw [e] at q; cases q
  have npin : ∀ p ∈ X.pn ++ pins, p.1 ≠ d := fun p hp q => by
    have := (I.pin p hp).2.1
    rw [q, e] at this; cases this
  have ncl : ∀ x c, X.env.cells.lookup x = some c → c ≠ d := fun x c h q => by
    have := I.freeC x c h
    rw [q, e] at this; cases this
  have hpin : (d, o) ∈ X.pn ++ (pins ++ [(d, o)]) := List.mem_append_right _ (List.mem_append_right _ (List.mem_singleton.mpr rfl))
  refine ⟨o, vs, ep, ho, hS, rel, fun h q => ⟨o, es, q, r⟩, ⟨I.ok, I.os, I.bare, ⟨I.base.keep, I.base.slot, fun b o' a b' c => ?_, I.base.there, fun b xs q => ?_, fun b o' u q => ?_, fun b ps q => ?_⟩, I.loc, I.cell, ?_, fun x c h => ?_, fun p hp => ?_, fun a u q => ?_, I.len⟩, fun σ' G s' J => ?_⟩
  · by_cases hb : b = d
    · rw [hb]; exact del_same
    · rw [del_ne hb]; exact I.base.free b o' a b' c
  · exact del_of e (I.base.tups b xs q) (fun z => nomatch z)
  · exact del_of e (I.base.frzs b o' u q) (fun z => nomatch z)
  · obtain ⟨m, q⟩ := I.base.tbls b ps q
    exact ⟨m, del_of e q (fun z => nomatch z)⟩
  · rw [del_ne (Ne.symm nL)]; exact I.free
  · rw [del_ne (ncl x c h)]; exact I.freeC x c h
  · rcases List.mem_append.mp hp with hp | hp
    · obtain ⟨a, b, c⟩ := I.pin p (List.mem_append_left _ hp)
      exact ⟨a, by rw [del_ne (npin p (List.mem_append_left _ hp))]; exact b, c⟩
    · rcases List.mem_append.mp hp with hp | hp
      · obtain ⟨a, b, c⟩ := I.pin p (List.mem_append_right _ hp)
        exact ⟨a, by rw [del_ne (npin p (List.mem_append_right _ hp))]; exact b, c⟩
      · rw [List.mem_singleton.mp hp]
        exact ⟨ho, del_same, nL, nfs, ncell⟩
  · have ha : a ≠ d := fun z => by rw [z, del_same] at q; cases q
    rw [del_ne ha] at q
    exact (I.hok a u q).stay (fun _ _ _ z => z) (fun b z => del_of e z (fun z => nomatch z)) fun b xs z => del_of e z (fun z => nomatch z)
  · obtain ⟨gd, fd, _⟩ := J.pin (d, o) hpin
    have nd : ∀ {b : Addr} {u : HO}, G b = some u → b ≠ d := fun q => ne_of_none q fd
    refine ⟨J.ok, J.os, J.bare, ⟨J.base.keep, J.base.slot, fun b o' a b' c => ?_, J.base.there, fun b xs q => ?_, fun b o' u q => ?_, fun b ps q => ?_⟩, J.loc, J.cell, ?_, fun x c h => ?_, fun p hp => ?_, fun a u q => ?_, J.len⟩
    · by_cases hb : b = d
      · subst hb; exact (nbase o' a b' c).elim
      · rw [upd_ne hb]; exact J.base.free b o' a b' c
    · have q := J.base.tups b xs q
      rw [upd_ne (nd q)]; exact q
    · have q := J.base.frzs b o' u q
      rw [upd_ne (nd q)]; exact q
    · obtain ⟨m, q⟩ := J.base.tbls b ps q
      exact ⟨m, by rw [upd_ne (nd q)]; exact q⟩
    · rw [upd_ne (Ne.symm nL)]; exact J.free
    · rw [upd_ne (ncl x c h)]; exact J.freeC x c h
    · have hp' : p ∈ X.pn ++ (pins ++ [(d, o)]) := (List.mem_append.mp hp).elim (fun z => List.mem_append_left _ z) fun z => List.mem_append_right _ (List.mem_append_left _ z)
      obtain ⟨a, b, c⟩ := J.pin p hp'
      exact ⟨a, by rw [upd_ne (npin p hp)]; exact b, c⟩
    · by_cases ha : a = d
      · subst ha
        rw [upd_same] at q
        cases q
        exact ⟨z, hS, vs, rel, o, es, ep, gd, r⟩
      · rw [upd_ne ha] at q
        exact (J.hok a u q).stay (fun _ _ _ z => z) (fun b z => by rw [upd_ne (nd z)]; exact z) fun b xs z => by rw [upd_ne (nd z)]; exact z
structure TurnP (P : Program) (w : World) (K : PySem.W.Frag) (tg : Expr) (J : It) (fp : List Addr) (it : Addr) (tn : Nat → Heap → Prop) (pd : List (Addr × Obj)) : Prop where
  mem : it ∈ fp
  obj : ∀ i h, tn i h → ∀ b ∈ fp, ∃ o, h.get? b = some o ∧ ∀ v, o.data ≠ .cell v
  keep : ∀ i h h', tn i h → (∀ b ∈ fp, ∀ o, h.get? b = some o → h'.get? b = some o) → tn i h'
  item : ∀ (X : Cx), X.prog = P → X.w = w → X.K = K → X.calm = true → ∀ (i : Nat) (pins : List (Addr × Obj)) (s : Shared) (σ : St) (H : Hp) (E : Value → Shared → Prop), Inv X pins σ H s → (∀ p ∈ pd, p ∈ X.pn ++ pins) → (∀ b ∈ fp, FpOk X pins H b) → tn i s.heap → J.go i H →
    wpAny (model P w) X.A (pyNext (.ref it)) (fun r s1 => ∃ u, r = some u ∧
      wpAny (model P w) X.A (letOwnedTupleGo tg (.ref it) u) (fun _ s2 => ∃ x H', Inv X pins σ H' s2 ∧ RelV x u ∧ J.yld i H x H' ∧ tn (i + 1) s2.heap ∧ ∀ b ∈ fp, H' b = none) E s1) E s
  done : ∀ (X : Cx), X.prog = P → X.w = w → X.K = K → X.calm = true → ∀ (i : Nat) (pins : List (Addr × Obj)) (s : Shared) (σ : St) (H : Hp) (E : Value → Shared → Prop), Inv X pins σ H s → (∀ p ∈ pd, p ∈ X.pn ++ pins) → (∀ b ∈ fp, FpOk X pins H b) → tn i s.heap → J.stop i H →
    wpAny (model P w) X.A (pyNext (.ref it)) (fun r s1 => r = none ∧ Inv X pins σ H s1) E s
  self : ∀ (A : Around) (i : Nat) (s : Shared) (Q : Value → Shared → Prop) (E : Value → Shared → Prop), tn i s.heap → Q (.ref it) s → wpAny (model P w) A (pyIter (.ref it)) Q E s
theorem KV.at {kvs : List (Key × V)} {vs : List (Key × Value)} {i : Nat} {kv : Key × V} (r : KV kvs vs) (h : kvs[i]? = some kv) : ∃ u, vs[i]? = some (kv.1, u) ∧ RelV kv.2 u := by
  have go : ∀ (l₁ : List (Key × V)) (l₂ : List (Key × Value)), Paired (fun (p : Key × V) (q : Key × Value) => p.1 = q.1 ∧ RelV p.2 q.2) l₁ l₂ → ∀ (i : Nat) (kv : Key × V), l₁[i]? = some kv → ∃ u, l₂[i]? = some (kv.1, u) ∧ RelV kv.2 u := by
    intro l₁ l₂ r
    induction r with
    | nil => intro i kv h; simp at h
    | @cons a b _ _ r t ih =>
      intro i kv h
      cases i with
      | zero =>
        simp at h
        subst h
        obtain ⟨e, q⟩ := r
        refine ⟨b.2, ?_, q⟩
        rw [List.getElem?_cons_zero, e]
      | succ i =>
        rw [List.getElem?_cons_succ] at h ⊢
        exact ih i kv h
  exact go kvs vs r i kv h
theorem relV_key {P : Program} {w : World} {k : Key} {v : Value} (h : (mixKind P w).is k v = true) : RelV (kV k) v := by
  rw [mixKind_is] at h
  rcases keyIs_shape h with ⟨i, t, rfl, rfl⟩ | ⟨x, t, rfl, rfl⟩
  · exact ⟨t, rfl⟩
  · exact ⟨t, rfl⟩
def Iti (kvs : List (Key × V)) : It := ⟨fun i _ => i < kvs.length, fun i H v H' => ∃ p kv, v = .ref p ∧ H p = none ∧ H' = upd H p (.tup [kV kv.1, kv.2]) ∧ kvs[i]? = some kv, fun i _ => kvs.length ≤ i⟩
theorem turn_items {P : Program} {w : World} {K : PySem.W.Frag} {es : List Expr} {x1} {pos : Pos} (d it : Addr) (o : Obj) (kvs : List (Key × V)) (vs : List (Key × Value)) (ep : Nat) (hne : d ≠ it) (rel : KV kvs vs)
    (hat : ∀ h : Heap, h.get? d = some o → h.DictAt (mixKind P w) d vs ep) : TurnP P w K (.Tuple es x1 pos) (Iti kvs) [it] it (fun i h => ∃ ok ov, IsItemIter h it d i vs.length ep ok ov) [(d, o)] where
  mem := by simp
  obj := fun i h st b hb => by
    obtain ⟨ok, ov, he⟩ := st
    have z : b = it := by simpa using hb
    subst z
    exact ⟨_, he, fun v z => by
      have z' : Data.fields _ = Data.cell v := z
      cases z'⟩
  keep := fun i h h' st k => by
    obtain ⟨ok, ov, he⟩ := st
    exact ⟨ok, ov, k it (by simp) _ he⟩
  item := by
    intro X hP hw hK hc i pins s σ H E I hpd hf st hg
    subst hP hw hK
    obtain ⟨ok, ov, he⟩ := st
    have hd := (I.pin (d, o) (hpd _ (by simp))).1
    have hm := hat _ hd
    have hlt : i < kvs.length := hg
    have hx : kvs[i]? = some kvs[i] := List.getElem?_eq_getElem hlt
    obtain ⟨u, hu, ru⟩ := rel.at hx
    have fi := hf it (by simp)
    have hilt : it < s.heap.objs.size := Heap.lt_size he
    refine wpAny_pyNext_items_item he hm hu fun key h' hkey ho hT hsz hk => ?_
    refine ⟨_, rfl, wpAny_letOwnedTupleGo_items ho fun h'' he'' hs'' => ?_⟩
    have hfr : H s.heap.objs.size = none := I.hok.fresh (Nat.le_refl _)
    have rk : RelV (kV kvs[i].1) key := relV_key hkey
    have I1 : Inv X pins σ (upd H s.heap.objs.size (.tup [kV kvs[i].1, kvs[i].2])) { s with heap := s.heap.push { cls := .type "tuple", data := .seq #[key, u] }, toks := s.toks } :=
      I.laid (t' := s.toks) (fun b v q => Heap.get?_push_of_some _ q) (Nat.le_refl _) ⟨show 2 ≤ sizeLine by decide, [key, u], .cons rk (.cons ru .nil), ⟨_, Heap.get?_push_size _ rfl, rfl, _, rfl⟩⟩
    have nit : it ≠ s.heap.objs.size := Nat.ne_of_lt hilt
    have I2 : Inv X pins σ (upd H s.heap.objs.size (.tup [kV kvs[i].1, kvs[i].2])) { s with heap := h'', toks := s.toks } :=
      Inv.turned (s := { s with heap := s.heap.push { cls := .type "tuple", data := .seq #[key, u] }, toks := s.toks }) (h' := h'') (t' := s.toks) (it := it) I1 (fun b o b1 q => by
        rw [hs''.2 b b1]
        by_cases hb : b = s.heap.objs.size
        · subst hb
          rw [Heap.get?_push_size _ rfl] at q
          cases q
          exact hT
        · refine hk b o b1 ?_
          rw [← q]
          exact (Heap.get?_push_ne _ _ _ hb).symm) (by rw [upd_ne nit]; exact fi.1) fi.2.1 fi.2.2.2.1 fi.2.2.2.2.1 fi.2.2.2.2.2
    refine ⟨.ref s.heap.objs.size, _, I2, rfl, ⟨_, kvs[i], rfl, hfr, rfl, hx⟩, ⟨_, _, he''⟩, fun b hb => ?_⟩
    have z : b = it := by simpa using hb
    subst z
    rw [upd_ne nit]; exact fi.1
  done := by
    intro X hP hw hK hc i pins s σ H E I hpd hf st hg
    subst hP hw hK
    obtain ⟨ok, ov, he⟩ := st
    have hd := (I.pin (d, o) (hpd _ (by simp))).1
    have hm := hat _ hd
    have fi := hf it (by simp)
    have hl := rel.length
    have hge : kvs.length ≤ i := hg
    exact wpAny_pyNext_items_end (I.ok.hd hc) he hm (List.getElem?_eq_none (by omega)) fun h' eb => ⟨rfl, Inv.turned (t' := s.toks) I (fun b o hb q => eb b o hb q) fi.1 fi.2.1 fi.2.2.2.1 fi.2.2.2.2.1 fi.2.2.2.2.2⟩
  self := fun _ _ _ _ _ st h => by
    obtain ⟨ok, ov, he⟩ := st
    exact PySem.W.kcp_self he h
section
variable {X : Cx} {pins : List (Addr × Obj)} {σ : St} {H : Hp} {s : Shared}
theorem lc_blockP {elt tg iter : Expr} {ifs : List Expr} {scope : Scope} {pos : Pos} {N' : List Str} {sel : List (Option Nat)} {g : TG} {tt : TT} {te : TE} {it : Addr} {fp : List Addr} {tn : Nat → Heap → Prop} {J : It}
    {W : Nat → Nat → List V → Hp → Prop} {Qe : List V → Hp → Prop} {RR : Value → Addr → Result → Shared → Prop} {E : Value → Shared → Prop} {m0 : Nat}
    (hc : X.calm = true) (hk : scope.kind = .function) (k : ChkOk X scope N' sel) (I : Inv X pins σ H s) {pd : List (Addr × Obj)} (hpd : ∀ p ∈ pd, p ∈ X.pn ++ pins) (T : TurnP X.prog X.w X.K tg J fp it tn pd) (st : tn 0 s.heap) (f2 : ∀ b ∈ fp, FpOk X pins H b)
    (hb : ∀ (C : Addr) (s : Shared) (H : Hp) (fp : List Addr) (pn : List (Addr × Obj)), PG (cxComp X N' scope C s H fp pn) tg g ∧ PTs (cxComp X N' scope C s H fp pn) ifs tt ∧ PE (cxComp X N' scope C s H fp pn) elt te)
    (hgk : GKeeps sel g) (w0 : W 0 m0 [] H) (turn : lcTurn sel g tt te σ J W Qe)
    (hRR : ∀ (D C : Addr) (s' : Shared) (H' : Hp) (ys : List V) (m : Str → Option Value), H' D = none → Inv X pins σ (upd H' D (.lst ys)) s' → s'.heap.Ns C m → FpOk X pins (upd H' D (.lst ys)) C → Qe ys H' → RR (.ref D) C (.ok .next) s') :
    wpAny (model X.prog X.w) X.A (newList []) (fun acc s₃ => wpAny (model X.prog X.w) X.A (newFunctionEnv scope X.env.globals (closL X.env.cells scope.names []) [] X.env.qual none .none (some X.env)) (fun cenv s₄ =>
      codeAny (model X.prog X.w) X.A (.compStart (.ListComp elt [⟨tg, iter, ifs, 0⟩] scope pos) 0 (.ref it) acc { cenv with scope := relabel scope X.env }) (RR acc cenv.locals) s₄) E s₃) E s := by
  refine wpAny_newObj_type (wpAny_newFunctionEnv k.nc (by intro y hy; simp at hy) (fun h₁ hns₁ hsb₁ => ?_) hk)
  dsimp only at hns₁ hsb₁ ⊢
  generalize hH2 : s.heap.push { cls := .type "list", dict := none, data := .seq ([] : List Value).toArray } = H2 at hns₁ hsb₁ ⊢
  have hC : H2.objs.size = s.heap.objs.size + 1 := by rw [← hH2, Heap.size_push]
  have hDC : s.heap.objs.size ≠ H2.objs.size := by rw [hC]; exact Nat.ne_of_lt (Nat.lt_succ_self _)
  have hCle : s.heap.objs.size ≤ H2.objs.size := by rw [hC]; exact Nat.le_succ _
  have below : ∀ b, b < s.heap.objs.size → b ≠ H2.objs.size ∧ b ≠ s.heap.objs.size := fun b hb => ⟨by rw [hC]; exact Nat.ne_of_lt (Nat.lt_succ_of_lt hb), Nat.ne_of_lt hb⟩
  have old : ∀ b o, s.heap.get? b = some o → h₁.get? b = some o := fun b o e => hsb₁.extBut b o (below b (Heap.lt_size e)).1 (Heap.get?_push_of_some _ (hH2 ▸ Heap.get?_push_of_some _ e))
  have hacc : h₁.get? s.heap.objs.size = some { cls := .type "list", data := .seq ([] : List Value).toArray } := hsb₁.extBut _ _ hDC (Heap.get?_push_of_some _ (hH2 ▸ Heap.get?_push_size _ rfl))
  have hfl : ∀ b ∈ fp, b < s.heap.objs.size := fun b hb => let ⟨_, e, _⟩ := T.obj 0 _ st b hb; Heap.lt_size e
  have hst₁ : tn 0 h₁ := T.keep _ _ _ st fun b _ o e => old b o e
  generalize hDe : s.heap.objs.size = D at hDC hCle below hacc hfl ⊢
  generalize hCe : H2.objs.size = C at hns₁ hsb₁ hC hDC hCle below ⊢
  have fD : ∀ {H' : Hp}, H' D = none → FpOk X pins H' D := fun hn => I.fpOk (by rw [hDe]; exact Nat.le_refl _) hn
  have fC : ∀ {H' : Hp}, H' C = none → FpOk X pins H' C := fun hn => I.fpOk (by rw [hDe]; exact hCle) hn
  have HD : H D = none := I.hok.fresh (by rw [hDe]; exact Nat.le_refl _)
  -- the pin of the new list, in the block
  have pinD : ∀ {o : Obj} {σ' : St} {H' : Hp} {s' : Shared} {ps : List (Addr × Obj)}, Inv (cxComp X N' scope C s H fp (X.pn ++ pins)) ps σ' H' s' → s'.heap.get? D = some o → H' D = none → (∀ v, o.data ≠ .cell v) →
      Inv (cxComp X N' scope C s H fp (X.pn ++ pins)) (ps ++ [(D, o)]) σ' H' s' := fun {o σ' H' s' ps} J1 e n d => by
    refine J1.pins_of fun p hp => ?_
    rcases List.mem_append.mp hp with hp | hp
    · exact J1.pin p (List.mem_append_right _ hp)
    · rw [List.mem_singleton.mp hp]
      refine ⟨e, n, hDC, fun z => ?_, d⟩
      rcases List.mem_cons.mp (I.stkSub D z) with z | z
      · exact (fD HD).2.1 z
      · exact (fD HD).2.2.1 z
  have loop : ∀ s₃ : Shared, s₃ = { s with heap := h₁, toks := s.toks + ([] : List (Str × Value)).length } →
      codeAny (model X.prog X.w) X.A (.compLoop (.ListComp elt [⟨tg, iter, ifs, 0⟩] scope pos) 0 (.ref it) (.ref D) (compEnvC scope (closL X.env.cells scope.names []) C X.env)) (RR (.ref D) C) s₃ := by
    rintro s₃ rfl
    have I4 : Inv (cxComp X N' scope C s H fp (X.pn ++ pins)) [] (selS sel σ) H { s with heap := h₁, toks := s.toks + ([] : List (Str × Value)).length } :=
      inv_block I hk k (by rw [hDe]; exact hCle) f2 (fun b hb => by rw [hDe]; exact hfl b hb) hns₁ old
    refine compLoop_any (fun n s' => ∃ i H' ys its nn, Inv (cxComp X N' scope C s H fp (X.pn ++ pins)) [] (selS sel σ) H' s' ∧ tn i s'.heap ∧ (∀ b ∈ fp, H' b = none) ∧ H' D = none ∧
      s'.heap.get? D = some { cls := .type "list", data := .seq (List.toArray its) nn } ∧ Vals ys its ∧ ys.length ≤ sizeLine ∧ W i n ys H') ?_ m0 ⟨0, H, [], [], 0, I4, hst₁, fun b hb => (f2 b hb).1, HD, hacc, .nil, Nat.zero_le _, w0⟩
    rintro n s3 ⟨i, H3, ys, its, nn, I3, st3, fr3, hD3, o3, v3, z3, w3⟩
    have I3' := pinD I3 o3 hD3 (fun v z => by cases z)
    have stat : ∀ {ps : List (Addr × Obj)} {H' : Hp}, (∀ p ∈ ps, p.1 = D) → (∀ b ∈ fp, H' b = none) → ∀ b ∈ fp, FpOk (cxComp X N' scope C s H fp (X.pn ++ pins)) ps H' b := fun {ps H'} hps hn b hb => by
      obtain ⟨a0, a1, a2, a3, a4, a5⟩ := f2 b hb
      refine ⟨hn b hb, Nat.ne_of_lt (Nat.lt_of_lt_of_le (hfl b hb) hCle), fun z => ?_, .inl hb, fun x c h => a4 x c ((clos_cells I k).2 x c h).1, fun p hp => ?_⟩
      · rcases List.mem_cons.mp (I.stkSub b z) with z | z
        · exact a1 z
        · exact a2 z
      · rcases List.mem_append.mp hp with hp | hp
        · exact a5 p hp
        · rw [hps p hp]
          exact (Nat.ne_of_lt (hfl b hb)).symm
    rcases turn i n ys H3 w3 with ⟨stop, qe⟩ | ⟨go, hz, Nn, hNn, step⟩
    · refine noE (thn (T.done (cxComp X N' scope C s H fp (X.pn ++ pins)) rfl rfl rfl hc i _ s3 _ H3 _ I3' (fun p hp => List.mem_append_left _ (hpd p hp)) (stat (fun p hp => by have : p ∈ [] ++ [(D, _)] := hp; rw [List.nil_append] at this; rw [List.mem_singleton.mp this]) fr3) st3 stop) fun r s4 ⟨hr, J4⟩ => ?_)
      subst hr
      obtain ⟨m4, n4, _⟩ := id J4.loc
      have o4 := (J4.pin (D, _) (List.mem_append_right _ (List.mem_append_right _ (List.mem_singleton.mpr rfl)))).1
      have hC4 : H3 C = none := J4.free
      have hDC' : C ≠ D := Ne.symm hDC
      refine hRR D C s4 H3 ys m4 hD3 (I.call' (ch := fp) J4.os ?_ ?_ J4.bare (fun b hb => ?_)) n4 (fC (by rw [upd_ne hDC']; exact hC4)) qe
      · have u := J4.base
        have nD : ∀ b o, s.heap.get? b = some o → b ≠ D := fun b o e => by rw [← hDe]; exact Nat.ne_of_lt (Heap.lt_size e)
        have nD2 : ∀ b o, H b = some o → b ≠ D := fun b o e => ne_of_none e HD
        exact ⟨u.keep, u.slot, fun b o e n hx => by rw [upd_ne (nD b o e)]; exact u.free b o e n hx, u.there, fun b xs e => by rw [upd_ne (nD2 b _ e)]; exact u.tups b xs e,
          fun b o w e => by rw [upd_ne (nD2 b _ e)]; exact u.frzs b o w e, fun b ps e => by rw [upd_ne (nD2 b _ e)]; exact u.tbls b ps e⟩
      · intro b o e
        by_cases hbD : b = D
        · subst hbD
          rw [upd_same] at e
          cases e
          exact ⟨z3, its, nn, v3, o4⟩
        · rw [upd_ne hbD] at e
          exact (J4.hok b o e).stay (fun c u _ q => q) (fun c q => by rw [upd_ne (ne_of_none q hD3)]; exact q) fun c xs q => by rw [upd_ne (ne_of_none q hD3)]; exact q
      · obtain ⟨a0, a1, a2, a3, a4, a5⟩ := f2 b hb
        exact ⟨a3, a1, a4, a5⟩
    · refine noE (thn (T.item (cxComp X N' scope C s H fp (X.pn ++ pins)) rfl rfl rfl hc i _ s3 _ H3 _ I3' (fun p hp => List.mem_append_left _ (hpd p hp)) (stat (fun p hp => by have : p ∈ [] ++ [(D, _)] := hp; rw [List.nil_append] at this; rw [List.mem_singleton.mp this]) fr3) st3 go) fun r s4 ⟨u, hr, h4⟩ => ?_)
      subst hr
      refine noE (thn h4 fun _ s5 ⟨x, H5, I5, r5, y5, st5, fr5⟩ => ?_)
      obtain ⟨hb1, hb2, hb3⟩ := hb C s H fp (X.pn ++ pins)
      have I5' := I5.pinned (stat (fun p hp => by have : p ∈ [] ++ [(D, _)] := hp; rw [List.nil_append] at this; rw [List.mem_singleton.mp this]) fr5) (T.obj _ _ st5)
      refine noE (thn (hb1 _ s5 _ H5 x u _ I5' r5 (hgk _ _ _ _ (step x H5 y5))) fun _ s6 ⟨σ6, H6, I6, hw6, q6⟩ => ?_)
      refine noE (thn (hb2 _ s6 σ6 H6 _ I6 q6) fun ok s7 ⟨H7, I7, q7⟩ => ?_)
      -- what stands behind the turn
      have back : ∀ {σ8 : St} {H8 : Hp} {s8 : Shared}, Inv (cxComp X N' scope C s H fp (X.pn ++ pins)) (([] ++ [(D, { cls := .type "list", data := .seq (List.toArray its) nn })]) ++ pinsAt fp s5.heap) σ8 H8 s8 →
          tn (i + 1) s8.heap ∧ (∀ b ∈ fp, H8 b = none) ∧ H8 D = none ∧ s8.heap.get? D = some { cls := .type "list", data := .seq (List.toArray its) nn } := fun {σ8 H8 s8} J8 => by
        refine ⟨T.keep _ _ _ st5 fun b hb o e => (J8.pin (b, o) (List.mem_append_right _ (List.mem_append_right _ (mem_pinsAt hb e)))).1, fun b hb => ?_, ?_, ?_⟩
        · obtain ⟨o, e, d⟩ := T.obj _ _ st5 b hb
          exact (J8.pin (b, o) (List.mem_append_right _ (List.mem_append_right _ (mem_pinsAt hb e)))).2.1
        · exact (J8.pin (D, _) (List.mem_append_right _ (List.mem_append_left _ (List.mem_append_right _ (List.mem_singleton.mpr rfl))))).2.1
        · exact (J8.pin (D, _) (List.mem_append_right _ (List.mem_append_left _ (List.mem_append_right _ (List.mem_singleton.mpr rfl))))).1
      have weak : ∀ {H8 : Hp} {s8 : Shared} {ps : List (Addr × Obj)}, Inv (cxComp X N' scope C s H fp (X.pn ++ pins)) ps σ6 H8 s8 → Inv (cxComp X N' scope C s H fp (X.pn ++ pins)) [] (selS sel σ) H8 s8 := fun {H8 s8 ps} J8 =>
        (J8.pins_of (pins' := []) fun p hp => by simp at hp).weak (by rw [J8.len]; exact I4.len) hw6
      cases ok with
      | false =>
        obtain ⟨st8, fr8, hD8, o8⟩ := back I7
        obtain ⟨m', hm, w8⟩ := hNn ys H7 q7
        exact ⟨m', hm, i + 1, H7, ys, its, nn, weak I7, st8, fr8, hD8, o8, v3, z3, w8⟩
      | true =>
        refine noE (thn (hb3 _ s7 σ6 H7 _ I7 q7) fun y s8 ⟨yv, H8, I8, ry, q8⟩ => ?_)
        obtain ⟨st8, fr8, hD8, o8⟩ := back I8
        obtain ⟨m', hm, w8⟩ := hNn _ _ q8
        have hl := v3.length
        refine call_meets F.slot_list_append ⟨_, o8, rfl⟩ F.entry_list_append (F.args_list_append_2 _ _) (PySem.list_append D (List.toArray its) nn y (by rw [List.size_toArray]; omega)) ⟨o8, ?_⟩
        have q := PySem.IsL.update o8 (fun z => z.push y)
        rw [show (List.toArray its).push y = (its ++ [y]).toArray by simp] at q
        have kp : ∀ b o, b ≠ D → s8.heap.get? b = some o → (s8.heap.update D (Obj.mapSeq fun z => z.push y)).get? b = some o := fun b o hb e => (Heap.get?_update_other s8.heap (Obj.mapSeq fun z => z.push y) (Ne.symm hb)).trans e
        refine ⟨m', hm, i + 1, H8, ys ++ [yv], its ++ [y], _, (weak I8).turned (t' := s8.toks) kp hD8 hDC (.inr (by show s.heap.objs.size ≤ D; rw [hDe]; exact Nat.le_refl _)) (fun x c h => (fD HD).2.2.2.2.1 x c ((clos_cells I k).2 x c h).1) (fun p hp => (fD HD).2.2.2.2.2 p (by have : p ∈ (X.pn ++ pins) ++ [] := hp; rwa [List.append_nil] at this)),
          T.keep _ _ _ st8 (fun b hb o e => kp b o (Nat.ne_of_lt (hfl b hb)) e), fr8, hD8, q, v3.append (.cons ry .nil), ?_, w8⟩
        rw [List.length_append, List.length_singleton]
        omega
  exact codeAny_compStart_list (loop _ rfl) (T.self _ 0 _ _ _ hst₁ (loop _ rfl))

def tLcI (sel : List (Option Nat)) (td : TE) (g : TG) (tt : TT) (te : TE) : TE := fun σ H Q => td σ H fun x H1 => ∃ d kvs, x = .ref d ∧ H1 d = some (.dK kvs) ∧ ∃ W : Nat → Nat → List V → Hp → Prop, (∃ m, W 0 m [] (del H1 d)) ∧
  lcTurn sel g tt te σ (Iti kvs) W fun ys G => ∀ D, G D = none → D ≠ d → Q (.ref D) (upd (upd G D (.lst ys)) d (.dK kvs))
theorem pe_lcI {elt o : Expr} {es : List Expr} {x1} {tpos apos cpos : Pos} {ifs : List Expr} {scope : Scope} {pos : Pos} {td : TE} {N' : List Str} {sel : List (Option Nat)} {g : TG} {tt : TT} {te : TE}
    (hc : X.calm = true) (hk : scope.kind = .function) (chk : compChk scope X.env.scope X.N N' sel = true) (ho : PE X o td) (hgk : GKeeps sel g)
    (hb : ∀ (C : Addr) (s : Shared) (H : Hp) (fp : List Addr) (pn : List (Addr × Obj)), PG (cxComp X N' scope C s H fp pn) (.Tuple es x1 tpos) g ∧ PTs (cxComp X N' scope C s H fp pn) ifs tt ∧ PE (cxComp X N' scope C s H fp pn) elt te)
    (hbase : attributeBase o "items" X.env (eval o X.env) = eval o X.env := by rfl) (hline : (apos.endLine == cpos.line) = true := by rfl)
    (hs : ∀ x, foldedSetIterable (.Call (.Attribute o "items" apos) [] [] cpos) X.env x = pure x := by intro _; rfl) : PE X (.ListComp elt [⟨.Tuple es x1 tpos, .Call (.Attribute o "items" apos) [] [] cpos, ifs, 0⟩] scope pos) (tLcI sel td g tt te) := by
  intro pins s σ H Q I h
  have k := chk_ok chk
  rw [eval_ListComp]
  refine wpAny_comprehension_free (use := none) rfl hs (closureFor_free (clos_cells I k).1) hk k.lo ?_
  refine wpAny_Call_method0_late hbase hline (thn (ho pins s σ H _ I h) fun v s1 ⟨x, H1, I1, rx, d, kvs, ex, ed, W, ⟨m0, w0⟩, turn⟩ => ?_)
  subst ex
  obtain rfl : v = Value.ref d := rx
  obtain ⟨ob, vs, ep, hob, hS, rel, hat, IF, back⟩ := I1.forget ed
  have dt := hat _ hob
  have dof : s1.heap.DictOf (mixKind X.prog X.w) d vs := by obtain ⟨o', es', q⟩ := dt; exact ⟨o', es', ep, q⟩
  have t2 : ∀ b, Value.ref d = .ref b → ∃ ob, s1.heap.get? b = some ob ∧ ob.dict = none := by
    intro b hb
    cases hb
    obtain ⟨o', es', ep', h1, h2, _⟩ := dof
    exact ⟨o', h1, h2.2.1⟩
  refine ⟨"dict", _, PySem.F.plainAttrs_dict, PySem.F.slot_dict_items, PySem.F.type_dict_items, dof.typeIs, t2, Calls.callWith_builtin rfl (PySem.evalArgs_none ?_)⟩
  refine call_meetsIn PySem.F.slot_dict_items dof.typeIs PySem.F.entry_dict_items (PySem.F.args_dict_items_1 _) (meets_dict_items (mixKind X.prog X.w) d hS) ⟨⟨_, dof⟩, ?_⟩
  have hd1 : d < s1.heap.objs.size := Heap.lt_size hob
  have keep1 : ∀ b u, s1.heap.get? b = some u → (s1.heap.push { cls := .type "dict_items", data := .fields #[.ref d] }).get? b = some u := fun b u q => Heap.get?_push_of_some _ q
  refine wpAny_pyIter_items (knd := mixKind X.prog X.w) (d := d) ⟨_, Heap.get?_push_size _ rfl, rfl, rfl⟩ (hat _ (keep1 _ _ hob)) ?_
  have sz : (s1.heap.push { cls := .type "dict_items", data := .fields #[.ref d] }).objs.size = s1.heap.objs.size + 1 := by rw [Heap.size_push]
  have I2 := IF.kept (t' := s1.toks) (h' := (s1.heap.push { cls := .type "dict_items", data := .fields #[.ref d] }).push { cls := .type "dict_itemiterator", data := .fields #[.none, .bool false, .ref d, .int 0 0, .int vs.length 0, .int ep 0, .none, .none] }) fun b u q => Heap.get?_push_of_some _ (keep1 b u q)
  refine lc_blockP (pd := [(d, ob)]) (fp := [(s1.heap.push { cls := .type "dict_items", data := .fields #[.ref d] }).objs.size]) (RR := fun acc C => compPost (model X.prog X.w) X.A X.xe none (EP X pins σ Q) acc C) hc hk k I2 (fun p hp => List.mem_append_right _ (List.mem_append_right _ hp))
    (turn_items d _ ob kvs vs ep (by rw [sz]; exact Nat.ne_of_lt (Nat.lt_succ_of_lt hd1)) rel hat) ⟨_, _, Heap.get?_push_size _ rfl⟩ (fun b hb => ?_) hb hgk w0 turn ?_
  · have z : b = (s1.heap.push { cls := .type "dict_items", data := .fields #[.ref d] }).objs.size := by simpa using hb
    subst z
    exact IF.fpOk (by rw [sz]; omega) (IF.hok.fresh (by rw [sz]; omega))
  · intro D C s' H' ys m hD I' hns fC q
    have hDd : D ≠ d := fun z => by
      have := (I'.pin (d, ob) (List.mem_append_right _ (List.mem_append_right _ (List.mem_singleton.mpr rfl)))).2.1
      rw [z, upd_same] at this
      cases this
    refine ⟨m, hns, fun h' hs' => ?_⟩
    have I3 := I'.turned (t' := s'.toks) (fun b o hb e => (hs'.2 b hb).trans e) fC.1 fC.2.1 fC.2.2.2.1 fC.2.2.2.2.1 fC.2.2.2.2.2
    exact ⟨.ref D, _, back _ _ _ I3, rfl, q D hD hDd⟩
theorem lc_items {kvs : List (Key × V)} {sel : List (Option Nat)} {g : TG} {tt : TT} {te : TE} {σ : St} {H : Hp} {Qe : List V → Hp → Prop} (Pv : Nat → List V → Hp → Prop) (h0 : Pv 0 [] H)
    (hl : ∀ i ys H, i ≤ kvs.length → Pv i ys H → ys.length ≤ i) (hz : kvs.length ≤ sizeLine)
    (hs : ∀ i kv ys H p, kvs[i]? = some kv → Pv i ys H → H p = none → g (.ref p) (selS sel σ) (upd H p (.tup [kV kv.1, kv.2])) fun σ2 H2 => tt σ2 H2 fun b H3 => if b = true then te σ2 H3 fun y H4 => Pv (i + 1) (ys ++ [y]) H4 else Pv (i + 1) ys H3)
    (hd : ∀ ys H, Pv kvs.length ys H → Qe ys H) : ∃ W : Nat → Nat → List V → Hp → Prop, (∃ m, W 0 m [] H) ∧ lcTurn sel g tt te σ (Iti kvs) W Qe := by
  refine ⟨fun i m ys H => m = kvs.length - i ∧ i ≤ kvs.length ∧ Pv i ys H, ⟨_, rfl, Nat.zero_le _, h0⟩, ?_⟩
  rintro i m ys H ⟨rfl, hi, p⟩
  have hy := hl i ys H hi p
  by_cases e : i = kvs.length
  · subst e
    exact .inl ⟨Nat.le_refl _, hd _ _ p⟩
  · have hlt : i < kvs.length := Nat.lt_of_le_of_ne hi e
    refine .inr ⟨hlt, by omega, Pv (i + 1), fun ys' H' p' => ⟨kvs.length - (i + 1), by omega, rfl, hlt, p'⟩, ?_⟩
    rintro x H' ⟨q, kv, rfl, hq, rfl, hx⟩
    exact hs i kv ys H q hx p hq
end
end L2
namespace L2
open PySem PySem.Spec PyProof.Rows
def Slots (l : List Addr) (h h' : Heap) : Prop := ∀ b o, h.get? b = some o → b ∈ l → ∃ sl, h'.get? b = some { o with slots := sl }
structure UnB (fs : List Addr) (H H' : Hp) (h h' : Heap) : Prop where
  keep : ∀ b o, h.get? b = some o → H b = none → b ∉ fs → h'.get? b = some o
  free : ∀ b o, h.get? b = some o → H b = none → H' b = none
  there : ∀ b o, h.get? b = some o → b ∉ fs → ∃ o', h'.get? b = some o'
  tups : ∀ b xs, H b = some (.tup xs) → H' b = some (.tup xs)
  frzs : ∀ b o u, H b = some (.frz o u) → H' b = some (.frz o u)
  tbls : ∀ b ps, H b = some (.tbl ps) → ∃ more, H' b = some (.tbl (ps ++ more))
theorem UnB.un {fs : List Addr} {H H' : Hp} {h h' : Heap} (u : UnB fs H H' h h') (sl : Slots fs h h') : Un fs [] H H' h h' :=
  ⟨fun b o e n hb _ => u.keep b o e n hb, fun b o e _ hb _ => sl b o e hb, fun b o e n _ => u.free b o e n, fun b o e _ => by
    by_cases hb : b ∈ fs
    · obtain ⟨z, q⟩ := sl b o e hb
      exact ⟨_, q⟩
    · exact u.there b o e hb, u.tups, u.frzs, u.tbls⟩
def CXX (P : Program) (w : World) : CXT := fun outer H s E e s' => ∃ (a : Addr) (C a0 : Value) (B : Heap) (H' : Hp), e = .ref a ∧ s'.os = s.os ∧ AllBare s'.gens ∧ Heap.FlyingW B outer a C a0 s'.heap ∧ Slots (frs outer) s.heap s'.heap ∧
  (∀ h' : Heap, B.StaysIn h' → UnB (frs outer) H H' s.heap h' ∧ HOk P w H' h') ∧ E C none H'
theorem Slots.up {l : List Env} {base h h1 h2 : Heap} (f : h.FunFrames base l) (a : Slots (frs l) h h1) (u : h1.UpToSlots h2) : Slots (frs l) h h2 := fun b o e hb => by
  obtain ⟨_, o', e', hnf⟩ := f.mem hb
  rw [e] at e'
  cases e'
  obtain ⟨sl, q⟩ := a b o e hb
  obtain ⟨sl', q'⟩ := u b _ q hnf
  exact ⟨sl', q'⟩
theorem Inv.oldB {X : Cx} {pins : List (Addr × Obj)} {σ : St} {H : Hp} {s : Shared} (I : Inv X pins σ H s) {b : Addr} {o : Obj} (e : X.s₀.heap.get? b = some o) (hb : b ∉ frs X.outer) : b ∉ frs X.stack := fun hs => by
  rcases List.mem_cons.mp (I.stkSub b hs) with z | z
  · have := Heap.lt_size e
    rw [z] at this
    exact absurd this (Nat.not_lt.mpr I.ok.above)
  · exact hb z
theorem Inv.onB {X : Cx} {pins : List (Addr × Obj)} {σ : St} {H H' : Hp} {s : Shared} {h' : Heap} (I : Inv X pins σ H s) (hex : X.ex = []) (u : UnB (frs X.stack) H H' s.heap h') : UnB (frs X.outer) X.H₀ H' X.s₀.heap h' := by
  have nx : ∀ b, b ∉ X.ex := fun b z => by rw [hex] at z; cases z
  refine ⟨fun b o e n hb => ?_, fun b o e n => ?_, fun b o e hb => ?_, fun b xs e => u.tups b xs (I.base.tups b xs e), fun b o v e => u.frzs b o v (I.base.frzs b o v e), fun b ps e => ?_⟩
  · exact u.keep b o (I.base.keep b o e n hb (nx b)) (I.base.free b o e n (nx b)) (I.oldB e hb)
  · obtain ⟨sl, q⟩ := I.base.any e n (nx b)
    exact u.free b _ q (I.base.free b o e n (nx b))
  · obtain ⟨o', q⟩ := I.base.there b o e (nx b)
    exact u.there b o' q (I.oldB e hb)
  · obtain ⟨m1, q1⟩ := I.base.tbls b ps e
    obtain ⟨m2, q2⟩ := u.tbls b _ q1
    exact ⟨m1 ++ m2, by rw [q2, Array.append_assoc]⟩
theorem Inv.raisedB {X : Cx} {pins : List (Addr × Obj)} {σ : St} {H : Hp} {s : Shared} (I : Inv X pins σ H s) (hex : X.ex = []) :
    ∀ h' : Heap, (PySem.W.hideAll s.heap (frs X.stack)).StaysIn h' → UnB (frs X.outer) X.H₀ H X.s₀.heap h' ∧ HOk X.prog X.w H h' := by
  intro h' st
  have kp : ∀ b u, s.heap.get? b = some u → b ∉ frs X.stack → h'.get? b = some u := fun b u e hb => st b u (PySem.W.hideAll_get _ e hb)
  refine ⟨I.onB hex ⟨fun b o e _ hb => kp b o e hb, fun _ _ _ n => n, fun b o e hb => ⟨o, kp b o e hb⟩, fun _ _ e => e, fun _ _ _ e => e, fun b ps e => ⟨#[], by rw [e]; simp⟩⟩, fun a u e => ?_⟩
  refine (I.hok a u e).stay (fun b v hb q => kp b v q fun hs => ?_) (fun _ z => z) (fun _ _ z => z)
  have hn := I.stkFree b hs
  rcases hb with z | z
  · rw [z, e] at hn; cases hn
  · rw [z] at hn; cases hn
theorem exc_of_in {K : PySem.W.Frag} {h : Heap} {C : Addr} {bmB : List Value} {newId : String} (X : K.In h) (q : PySem.W.excIn K C bmB newId = true) :
    ∃ bm N nm qn bs hdct sn sub ab col dd k0 k1 k2 k3 k5 mN, h.get? C = some (excClassObj nm qn C N bs bm hdct sn sub ab col dd k0 k1 k2 k3 k5 newId) ∧ h.Ns N mN ∧ mN "__init__" = none ∧ OwnTail h bmB bm := by
  unfold PySem.W.excIn at q
  split at q
  · rename_i dd cd sl ho
    split at q
    · rename_i C' bm k0 k1 k2 k3 n k5 hm hs
      simp only [Bool.and_eq_true, beq_iff_eq, Bool.not_eq_true'] at q
      obtain ⟨⟨⟨⟨⟨rfl, rfl⟩, hdel⟩, ht⟩, hok⟩, hni⟩ := q
      obtain ⟨nm, bs, mro, ns, qn, hd, sn, sub, ab, col, del⟩ := cd
      dsimp only at hm hdel hok hni
      subst hm hdel
      obtain ⟨l⟩ := sl
      dsimp only at hs
      subst hs
      exact ⟨bm, ns, nm, qn, bs, hd, sn, sub, ab, col, dd, k0, k1, k2, k3, k5, _, X _ _ ho, .of_isNs (PySem.W.isNs_of_in X hok), PySem.W.nsMap_none_of_in X hok hni, PySem.W.tail_of_in X ht⟩
    · cases q
  · cases q
structure XCls (K : PySem.W.Frag) (mg : Str → Option Value) (x : Str) (C : Addr) : Prop where
  at_ : mg x = some (.ref C)
  ex : PySem.W.excIn K C [.type "ValueError", .type "Exception", .type "BaseException", .type "object"] "ValueError.__new__" = true
section
variable {X : Cx}
def LeavesX (X : Cx) (E : XK) : Prop := X.stack = X.env :: X.outer ∧ X.env.frame = some X.env.locals ∧ X.ex = [] ∧
  X.xe = fun e s' => wpAny (model X.prog X.w) X.A (leaving X.env e) (fun _ s'' => CXX X.prog X.w X.outer X.H₀ X.s₀ E e s'') (fun e' s'' => CXX X.prog X.w X.outer X.H₀ X.s₀ E e' s'') s'
def tRaise (C : Addr) (E : XK) : TS := fun _ _ H => E (.ref C) none H
theorem ps_raise {E : XK} {x z : Str} {C : Addr} {np cpos pos p : Pos} {j} (L : LeavesX X E) (hc : X.calm = true) (hg : Gl X x) (O : XCls X.K X.mg x C) (hd : (x == ("__debug__" : Str)) = false := by decide)
    (hs : starEach [.Constant (.str z) j p] X.env = [(false, eval (.Constant (.str z) j p) X.env)] := by rfl) :
    PS X (.Raise (some (.Call (.Name x np) [.Constant (.str z) j p] [] cpos)) none pos) (tRaise C E) := by
  intro pins s σ H D I h
  obtain ⟨hst, hfr, hex, hxe⟩ := L
  rw [hxe]
  obtain ⟨tl, N, nm, q, bs, hdct, sn, sub, ab, col, dd, k0, k1, k2, k3, k5, mN, hC, hN, hni, T⟩ := exc_of_in I.kIn O.ex
  refine wpAny_Raise_call_subT (C := C) (nm := nm) (q := q) (N := N) (bs := bs) (bm := tl) (hdct := hdct) (sn := sn) (sub := sub) (ab := ab) (col := col) (dd := dd) (k0 := k0) (k1 := k1) (k2 := k2) (k3 := k3) (k5 := k5)
    PySem.F.excBase_ValueError (mN := mN) (T.hasType PySem.F.excBase_ValueError.hasBase) (I.ok.hd hc) (by rw [hs]; rfl) hni (ld_glob I hg O.at_ ⟨rfl, ?_⟩ hd)
  rw [hs]
  refine Calls.evalArgs_plain (Calls.spliced_cons (Calls.Constant_str (pos := p) (k := j) (Calls.spliced_nil ⟨rfl, (show 1 ≤ sizeLine by decide), hC, hN, T, fun h' e hm => ?_⟩)))
  have I1 : Inv X pins σ H { s with toks := s.toks + 1 } := I.tok _
  have fr : X.A.frames = some (X.env :: X.outer) := by rw [I.ok.frames, hst]
  have ff : s.heap.FunFrames X.base (X.env :: X.outer) := by rw [← hst]; exact I.stack
  refine wpAny_leaves_madeW (base := PySem.W.hideAll s.heap (frs X.stack)) (h := s.heap) fr hfr (fun b o z => PySem.W.of_hideAll _ z) (PySem.W.funFrames_hide ff fun env he a ha => ?_) hm fun h2 t fl tup _ us => ?_
  · rw [hst]
    exact List.mem_filterMap.mpr ⟨env, he, ha⟩
  · have f0 : X.s₀.heap.FunFrames X.base X.outer := I.ok.funs
    have s0 : Slots (frs X.outer) X.s₀.heap s.heap := fun b o e hb => I.base.slot b o e (I.ok.frf b hb) hb (by rw [hex]; simp)
    have s1 : Slots (frs X.outer) X.s₀.heap h' := fun b o e hb => by
      obtain ⟨sl, q⟩ := s0 b o e hb
      exact ⟨sl, hm.keeps b _ q⟩
    exact ⟨e, .ref C, .ref t, _, H, rfl, I.os, I.bare, fl, s1.up f0 us, I.raisedB hex, h⟩
end
section
variable {P : Program} {w : World} {K : PySem.W.Frag} {mg : Str → Option Value} {base : Heap}
theorem Fun.okX {x qual : Str} {st : Stmt} {f : Addr} {fd : FuncData} {N ps : List Str} {k : Nat} {sp : Sp} (F : Fun K x qual st f fd) (S : FnScope N ps (defScope st)) (len : ∀ vs H Q E, sp vs H Q E → vs.length = ps.length)
    (hbody : ∀ (cdv : Value) (A : Around) (outer : List Env) (s : Shared) (H : Hp) (vs : List V) (Q : VK) (E : XK), Room k (A.deeper (envOfC qual (defScope st) s.heap.objs.size f cdv)) → sp vs H Q E →
      ∃ t, PSs (cxOf (CXX P w) P w K mg base N qual (defScope st) f cdv A outer s H E) (defBody st) t ∧ t { nx := fun _ H' => Q .non H', rt := Q } (start N vs) H) : FnOk P w K mg base (CXX P w) (k + 1) f fd ps sp := by
  obtain ⟨oc, od, kV, doc, pm, an, cdv, ct, osl, rfl, lk, hcd⟩ := F.ex
  exact fn_of lk hcd S len fun A outer s H vs Q E hr hsp => hbody cdv A outer s H vs Q E hr hsp
theorem leavesX {N : List Str} {qual : Str} {scope : Scope} {f : Addr} {cd : Value} {A : Around} {outer : List Env} {s : Shared} {H : Hp} {E : XK} : LeavesX (cxOf (CXX P w) P w K mg base N qual scope f cd A outer s H E) E := ⟨rfl, rfl, rfl, rfl⟩
theorem passX {X : Cx} {E E' : XK} (L : LeavesX X E') (h : ∀ c d H, E c d H → E' c d H) : Passes (CXX X.prog X.w) X E := by
  intro pins σ H s e s' I q
  obtain ⟨hst, hfr, hex, hxe⟩ := L
  obtain ⟨a, c, a0, B, H2, rfl, os, bare, fly, sl, kp, hq⟩ := q
  rw [hxe]
  have fr : X.A.frames = some (X.env :: X.outer) := by rw [I.ok.frames, hst]
  rw [hst] at fly
  have f0 : X.s₀.heap.FunFrames X.base X.outer := I.ok.funs
  have s0 : Slots (frs X.outer) X.s₀.heap s'.heap := fun b o e hb => by
    obtain ⟨z, q⟩ := I.base.slot b o e (I.ok.frf b hb) hb (by rw [hex]; simp)
    obtain ⟨z', q'⟩ := sl b _ q (by rw [hst]; exact List.mem_filterMap.mpr (by
      obtain ⟨env, he, hf⟩ := List.mem_filterMap.mp hb
      exact ⟨env, List.mem_cons_of_mem _ he, hf⟩))
    exact ⟨z', q'⟩
  refine wpAny_leaves_onW fr hfr fly fun h2 fly2 u2 => ?_
  exact ⟨a, c, a0, B, H2, rfl, os.trans I.os, bare, fly2, s0.up f0 u2, fun h' b' => ⟨I.onB hex (kp h' b').1, (kp h' b').2⟩, h _ _ _ hq⟩
def takes (C : Addr) (z : Str) (Q : VK) : XK := fun c _ H' => c = .ref C ∧ Q (.str z) H'
def TakesX (X : Cx) (C : Addr) (z : Str) (Q : VK) (e : Value) (s' : Shared) : Prop := ∃ σ H s, Inv X [] σ H s ∧ CXX X.prog X.w X.stack H s (takes C z Q) e s'
theorem passT {X : Cx} {C : Addr} {z : Str} {Q : VK} : Passes (CXX X.prog X.w) (X.wish (TakesX X C z Q)) (takes C z Q) := fun _ σ H s _ _ I h => ⟨σ, H, s, I.unwish.pins_of (fun p hp => by cases hp), h⟩
theorem try_takes {X : Cx} {tb : List Stmt} {x z : Str} {C : Addr} {np p1 p2 hp pos : Pos} {j} {t : TS} {Q : VK} {σ : St} {H : Hp} {s : Shared} (hst : X.stack = X.env :: X.outer) (hfr : X.env.frame = some X.env.locals) (hg : Gl X x) (O : XCls X.K X.mg x C)
    (hb : PSs (X.wish (TakesX X C z Q)) tb t) (ht : t { nx := fun _ H' => Q .non H', rt := Q } σ H) (I : Inv X [] σ H s) (hd : (x == ("__debug__" : Str)) = false := by decide) :
    wpAny (model X.prog X.w) X.A (exec (.Try tb [.ExceptHandler (some (.Name x np)) none [.Return (some (.Constant (.str z) j p1)) p2] hp] [] [] pos) X.env) (SP X [] { nx := fun _ H' => Q .non H', rt := Q }) X.xe s := by
  refine wpAny_Try_except (wpAny_mono (hb [] s σ H _ (I.wish _) ht) (fun f s1 q => ?_) fun e s1 q => ?_)
  · have q' := SP.unwish q
    cases f with
    | next => exact wpAny_execs_nil q'
    | brk => exact q'
    | cont => exact q'
    | ret u => exact q'
  · obtain ⟨σ1, H1, s0, I0, a, c, a0, B, H2, rfl, os, bare, fly, sl, kp, rfl, hq⟩ := q
    have fr : X.A.frames = some (X.env :: X.outer) := by rw [I0.ok.frames, hst]
    have ff : s0.heap.FunFrames X.base X.stack := I0.stack
    rw [hst] at fly
    refine wpAny_looks_onW fr hfr fly fun h4 held4 u4 => wpAny_landsW held4 fun h5 fly5 u5 => ?_
    have inv : ∀ h6 : Heap, B.StaysIn h6 → Slots (frs X.stack) s0.heap h6 → Inv X [] σ1 H2 { s1 with heap := h6 } := fun h6 b6 s6 => by
      obtain ⟨un, hok⟩ := kp h6 b6
      exact I0.call' (s' := { s1 with heap := h6 }) (ch := []) os (un.un s6) hok bare (fun b hb => by cases hb)
    have sl5 : Slots (frs X.stack) s0.heap h5 := (sl.up ff u4).up ff u5
    have I5 := inv h5 fly5.1 sl5
    obtain ⟨ob, hob, hobc⟩ := fly5.there
    have nm : ∀ {A : Around} {E : Value → Shared → Prop} {R : Value → Shared → Prop}, R (.ref C) { s1 with heap := h5 } → wpAny (model X.prog X.w) A (eval (.Name x np) X.env) R E { s1 with heap := h5 } := fun r =>
      Calls.Name_function_global I5.ok.kind hg (Calls.loadGlobal_global (by rw [I5.ok.glob]; exact I5.mod.glob.keeps I5.bk) O.at_ r) hd
    refine wpAny_handleBy_cons (codeAny_handlers_test (nm ?_)) (by intro q; cases q)
    obtain ⟨bm, N, nm, qn, bs, hdct, sn, sub, ab, col, dd, k0, k1, k2, k3, k5, mN, hC, hN, hni, TL⟩ := exc_of_in I5.kIn O.ex
    refine wpAny_excMatches_sub_self hC hob hobc (TL.hasType PySem.F.excBase_ValueError.hasBase) (codeAny_handlers_suite ?_)
    refine lands_againW fly5 fun h6 fly6 u6 => ?_
    have I6 := inv h6 fly6.1 (sl5.up ff u6)
    exact wpAny_execs_cons (wpAny_Return_some (Calls.Constant_str (pos := p1) (k := j) ⟨.str z, σ1, H2, I6.tok _, ⟨_, rfl⟩, hq⟩))
end
theorem fn_ofW {CX : CXT} {P : Program} {w : World} {K : PySem.W.Frag} {mg : Str → Option Value} {base : Heap} {k : Nat} {f : Addr} {name qual : Str} {params : Arguments} {body : List Stmt} {scope : Scope} {dV kV doc pm cdv ct oc : Value} {an od : Option Addr}
    {osl : Array (Option Value)} {N ps : List Str} {sp : Sp} (lk : K.lookup f = some ⟨oc, od, .func (PySem.W.fnOf name qual params body scope dV kV doc pm an cdv ct), osl⟩) (hcd : PySem.W.codeIn K cdv qual = true) (S : FnScope N ps scope)
    (len : ∀ vs H Q E, sp vs H Q E → vs.length = ps.length)
    (hbody : ∀ (A : Around) (outer : List Env) (s : Shared) (H : Hp) (vs : List V) (Q : VK) (E : XK), Room k (A.deeper (envOfC qual scope s.heap.objs.size f cdv)) → sp vs H Q E →
      ∀ s1, Inv (cxOf CX P w K mg base N qual scope f cdv A outer s H E) [] (start N vs) H s1 → wpAny (model P w) (A.deeper (envOfC qual scope s.heap.objs.size f cdv)) (execs body (envOfC qual scope s.heap.objs.size f cdv)) (SP (cxOf CX P w K mg base N qual scope f cdv A outer s H E) [] { nx := fun _ H' => Q .non H', rt := Q }) (cxOf CX P w K mg base N qual scope f cdv A outer s H E).xe s1) :
    FnOk P w K mg base CX (k + 1) f (PySem.W.fnOf name qual params body scope dV kV doc pm an cdv ct) ps sp := by
  refine ⟨len, fun A outer s H args us vs Q E hr e0 hb r hsp => ?_⟩
  have hl := len _ _ _ _ hsp
  have KX : K.In s.heap := e0.mod.kin.keeps fun b o e => (e0.bs b o e).1
  have lim : s.heap.NoLimit := e0.mod.nolimit.keeps fun b o e => (e0.bs b o e).1
  have hkind : ∀ y ∈ ps.zip us, scope.names.lookup y.1 = some .local ∨ (scope.names.lookup y.1 = some .cell ∧ ((cellsFrom (s.heap.objs.size + 1) scope.names []).lookup y.1).isSome = true) := fun ⟨n, v⟩ hy => by
    rcases S.par n (List.of_mem_zip hy).1 with q | q
    · exact .inl q
    · exact .inr ⟨q, PySem.W.cellsFrom_some _ _ _ (.inl q)⟩
  refine codeAny_call_function hr.depth (KX _ _ lk) rfl S.co S.gen rfl (PySem.W.codeRec_of KX hcd) (hb _ _ _ _ ?_)
  refine wpAny_newFunctionEnv_cells S.kind hkind fun env he s1 x => ?_
  subst he
  refine ⟨lim.keeps x.toInCall.keep, codeAny_func ?_⟩
  have hq := hbody A outer s H vs Q E (hr.deeper _) hsp
  have I : Inv (cxOf CX P w K mg base N qual scope f cdv A outer s H E) [] (start N vs) H s1 := inv_start S hr.hd e0 hl r x
  refine wpAny_mono (hq s1 I) (fun fl s' hs => ?_) fun e s' hs => hs
  have fin : ∀ {σ' : St} {H' : Hp} {v : V} {u : Value}, Inv (cxOf CX P w K mg base N qual scope f cdv A outer s H E) [] σ' H' s' → RelV v u → Q v H' → CE outer P w H s Q u s' :=
    fun {σ' H' v u} J rv q => ⟨v, H', J.os, J.bare, J.base, J.hok, rv, q⟩
  cases fl with
  | ret u =>
    obtain ⟨v, σ', H', J, rv, q⟩ := hs
    exact fin J rv q
  | next =>
    obtain ⟨σ', H', J, q⟩ := hs
    exact fin (v := V.non) (u := Value.none) J rfl q
  | brk =>
    obtain ⟨_, _, _, q⟩ := hs
    exact False.elim q
  | cont =>
    obtain ⟨_, _, _, q⟩ := hs
    exact False.elim q
section
variable {P : Program} {w : World} {K : PySem.W.Frag} {mg : Str → Option Value} {base : Heap}
theorem Fun.okT {x qual : Str} {st : Stmt} {f : Addr} {fd : FuncData} {N ps : List Str} {k : Nat} {sp : Sp} {tb : List Stmt} {hx z : Str} {C : Addr} {np p1 p2 hp pos : Pos} {j} (F : Fun K x qual st f fd) (S : FnScope N ps (defScope st)) (O : XCls K mg hx C)
    (hb : defBody st = [.Try tb [.ExceptHandler (some (.Name hx np)) none [.Return (some (.Constant (.str z) j p1)) p2] hp] [] [] pos]) (len : ∀ vs H Q E, sp vs H Q E → vs.length = ps.length)
    (hgl : ∀ (cdv : Value) (n : Nat), (envOfC qual (defScope st) n f cdv).kindOf hx = some .globalImplicit) (hd : (hx == ("__debug__" : Str)) = false)
    (hbody : ∀ (cdv : Value) (A : Around) (outer : List Env) (s : Shared) (H : Hp) (vs : List V) (Q : VK) (E : XK), Room k (A.deeper (envOfC qual (defScope st) s.heap.objs.size f cdv)) → sp vs H Q E →
      ∃ t, PSs ((cxOf CX0 P w K mg base N qual (defScope st) f cdv A outer s H E).wish (TakesX (cxOf CX0 P w K mg base N qual (defScope st) f cdv A outer s H E) C z Q)) tb t ∧ t { nx := fun _ H' => Q .non H', rt := Q } (start N vs) H) : FnOk P w K mg base CX0 (k + 1) f fd ps sp := by
  obtain ⟨oc, od, kV, doc, pm, an, cdv, ct, osl, rfl, lk, hcd⟩ := F.ex
  refine fn_ofW lk hcd S len fun A outer s H vs Q E hr hsp s1 I => ?_
  obtain ⟨t, h, q⟩ := hbody cdv A outer s H vs Q E hr hsp
  rw [hb]
  refine wpAny_execs_cons (thn (try_takes (X := cxOf CX0 P w K mg base N qual (defScope st) f cdv A outer s H E) rfl rfl (hgl cdv _) O h q I hd) fun fl s2 z => ?_)
  cases fl with
  | next => exact wpAny_execs_nil z
  | ret v => exact z
  | brk => exact z
  | cont => exact z
end
end L2
namespace L2
open PySem PySem.Spec PyProof.Rows
def tEither (t u : TE) : TE := fun σ H Q => t σ H Q ∨ u σ H Q
theorem pe_either {X : Cx} {e : Expr} {t u : TE} (h1 : PE X e t) (h2 : PE X e u) : PE X e (tEither t u) := fun pins s σ H Q I h => h.elim (h1 pins s σ H Q I) (h2 pins s σ H Q I)
def rNeFL (K : PySem.W.Frag) : R2 := fun x y H Q => rNe x y H Q ∨ rEqL K true x y H Q
theorem op_neFL {X : Cx} (hu : X.A.units + 100 < cLine) : OpR X (compareOp .NotEq) (rNeFL X.K) := fun pins s σ H x y v u Q I rx ry h => h.elim (op_ne pins s σ H x y v u Q I rx ry) (op_neL hu pins s σ H x y v u Q I rx ry)
theorem bt_sorted' : bootBuiltins "sorted" = some (.builtin "sorted") := by decide +kernel
theorem passN {X : Cx} {P : Program} {w : World} {E : XK} (h : ∀ c d H, E c d H → False) : Passes (CXX P w) X E := fun _ _ _ _ _ _ _ q => by
  obtain ⟨a, c, a0, B, H2, _, _, _, _, _, _, hq⟩ := q
  exact (h _ _ _ hq).elim
end L2
namespace L2
open PySem PySem.Spec PyProof.Rows
structure InC (K : PySem.W.Frag) (x : Str) (C : Addr) : Prop where
  a : PySem.W.nsIn K mainGlobals x = some (some (.ref C))
  pg : PySem.W.plainGet K C Str.empty = true
  hd : PySem.W.hasDictIn K C = true
  po : PySem.W.plainOver K C = true
  sa : PySem.W.findIn K (.ref C) "__setattr__" = some (some (.builtin "object.__setattr__"))
  mak : PySem.W.makesIn K C = true
  kp : PySem.W.keepIn K (.ref C) = true
theorem InC.cls {K : PySem.W.Frag} {x : Str} {C : Addr} (i : InC K x C) : Cls K C := ⟨i.pg, i.hd, i.po, i.sa⟩
structure InM (K : PySem.W.Frag) (C : Addr) (m q : Str) (st : Stmt) : Prop where
  ex : ∃ (f : Addr) (oc : Value) (od : Option Addr) (kV doc pm : Value) (an : Option Addr) (cdv ct : Value) (osl : Array (Option Value)),
    PySem.W.findIn K (.ref C) m = some (some (.ref f)) ∧ PySem.W.isFn K (.ref f) = true ∧ K.lookup f = some ⟨oc, od, .func (PySem.W.fnOf m q (defArgs st) (defBody st) (defScope st) .none kV doc pm an cdv ct), osl⟩ ∧ PySem.W.codeIn K cdv q = true ∧ PySem.W.keepIn K (.ref f) = true
theorem InM.of {K : PySem.W.Frag} {C : Addr} {m q : Str} {st : Stmt} {f : Addr} {oc : Value} {od : Option Addr} {kV doc pm : Value} {an : Option Addr} {cdv ct : Value} {osl : Array (Option Value)}
    (a : PySem.W.findIn K (.ref C) m = some (some (.ref f))) (i : PySem.W.isFn K (.ref f) = true) (l : K.lookup f = some ⟨oc, od, .func (PySem.W.fnOf m q (defArgs st) (defBody st) (defScope st) .none kV doc pm an cdv ct), osl⟩) (c : PySem.W.codeIn K cdv q = true) (k : PySem.W.keepIn K (.ref f) = true) : InM K C m q st :=
  ⟨⟨f, oc, od, kV, doc, pm, an, cdv, ct, osl, a, i, l, c, k⟩⟩
set_option genInjectivity false in
structure MDef (K : PySem.W.Frag) (C : Addr) (m q : Str) (st : Stmt) (ps : List Str) where
  f : Addr
  fd : FuncData
  F : Fun K m q st f fd
  me : Meth K C m f
  b : Binds K fd ps []
theorem InM.def {K : PySem.W.Frag} {C : Addr} {m q : Str} {st : Stmt} {ps : List Str} (i : InM K C m q st)
    (hb : ∀ (kV doc pm : Value) (an : Option Addr) (cdv ct : Value) (us : List Value), us.length = ps.length → bindArgs (PySem.W.fnOf m q (defArgs st) (defBody st) (defScope st) .none kV doc pm an cdv ct) ⟨us, []⟩ = pure (ps.zip us)) : Nonempty (MDef K C m q st ps) := by
  obtain ⟨f, oc, od, kV, doc, pm, an, cdv, ct, osl, a, i, l, c, k⟩ := i.ex
  have F := fun_mk (x := m) (qual := q) (st := st) l c k
  exact ⟨⟨f, _, F, ⟨a, i, k⟩, F.binds hb⟩⟩
theorem InC.mkOf {K : PySem.W.Frag} {x : Str} {C : Addr} {q : Str} {st : Stmt} {ps : List Str} (i : InC K x C) (d : MDef K C "__init__" q st ps) : Mk K C d.f := ⟨i.mak, d.me.at_, d.me.fn, i.kp⟩

def unV (u : Value) : V := (absV u).getD .non
theorem unV_of {x : V} {u : Value} (r : RelV x u) : unV u = x := by
  cases x with
  | non => cases (show u = Value.none from r); rfl
  | bl b => cases (show u = Value.bool b from r); rfl
  | int i => obtain ⟨t, q⟩ := (show ∃ t, u = Value.int i t from r); cases q; rfl
  | str z => obtain ⟨t, q⟩ := (show ∃ t, u = Value.str z t from r); cases q; rfl
  | byt b => obtain ⟨t, q⟩ := (show ∃ t, u = Value.bytes b t from r); cases q; rfl
  | flt b => obtain ⟨t, q⟩ := (show ∃ t, u = Value.float b t from r); cases q; rfl
  | ref a => cases (show u = Value.ref a from r); rfl
  | ty n => cases (show u = Value.type n from r); rfl
theorem any_abs {e : V → Bool} : ∀ {xs : List V} {us : List Value}, Vals xs us → us.any (fun u => e (unV u)) = xs.any e
  | _, _, .nil => rfl
  | _, _, .cons r t => by rw [List.any_cons, List.any_cons, unV_of r, any_abs t]
theorem mem_vals : ∀ {xs : List V} {us : List Value} {u : Value}, Vals xs us → u ∈ us → ∃ x ∈ xs, RelV x u
  | _, _, _, .nil, h => by cases h
  | _, _, _, .cons r t, h => by
    rcases List.mem_cons.mp h with rfl | h
    · exact ⟨_, List.mem_cons_self, r⟩
    · obtain ⟨x, hx, rx⟩ := mem_vals t h
      exact ⟨x, List.mem_cons_of_mem _ hx, rx⟩
section
variable {X : Cx}
def rInD (K : PySem.W.Frag) (neg : Bool) : R2 := fun x y H Q => ∃ p xs n, ∃ e : V → Bool, y = .ref p ∧ SqL K H p xs ∧ n ≤ 90 ∧ (∀ z ∈ xs, EqD K H n z x (e z)) ∧ Q (.bl (neg ^^ xs.any e)) H
theorem op_inD (hu : X.A.units + 100 < cLine) : OpR X (compareOp .In) (rInD X.K false) := by
  intro pins s σ H x y v u Q I rx ry h
  obtain ⟨p, xs, n, e, rfl, hq, hn, he, q⟩ := h
  cases ry
  obtain ⟨its, r, pl, hz⟩ := I.list hq
  refine SeqAt.in_listAt (fun u => e (unV u)) pl.isList (fun w hw => ?_) ⟨.bl _, H, I, rfl, ?_⟩
  · obtain ⟨z, hz, rz⟩ := mem_vals r (by simpa using hw)
    rw [unV_of rz]
    exact (he z hz).at rfl I rz rx (by show X.A.units + 1 + n < cLine; omega)
  · rw [show its.toArray.any (fun u => e (unV u)) = its.any (fun u => e (unV u)) by simp, any_abs r]
    rw [Bool.false_xor] at q
    exact q
theorem op_notInD (hu : X.A.units + 100 < cLine) : OpR X (compareOp .NotIn) (rInD X.K true) := by
  intro pins s σ H x y v u Q I rx ry h
  obtain ⟨p, xs, n, e, rfl, hq, hn, he, q⟩ := h
  cases ry
  obtain ⟨its, r, pl, hz⟩ := I.list hq
  refine SeqAt.notIn_listAt (fun u => e (unV u)) pl.isList (fun w hw => ?_) ⟨.bl _, H, I, rfl, ?_⟩
  · obtain ⟨z, hz, rz⟩ := mem_vals r (by simpa using hw)
    rw [unV_of rz]
    exact (he z hz).at rfl I rz rx (by show X.A.units + 1 + n < cLine; omega)
  · rw [show its.toArray.any (fun u => e (unV u)) = its.any (fun u => e (unV u)) by simp, any_abs r]
    rw [Bool.true_xor] at q
    exact q
end
end L2
namespace HT
open PySem PySem.Spec PyProof.Rows
section
variable {prog : Program} {w : World} {A : Around} {E : Value → Shared → Prop} {s : Shared}
theorem getItem_tuple_whole {t sl : Addr} {items : Array Value} {vl vu : Value} {lo hi : Option Int} {Q : Value → Shared → Prop} (ht : IsTup s.heap t items) (hs : s.heap.IsSliceOf sl vl vu .none) (pl : IsPart vl lo) (pu : IsPart vu hi)
    (hw : sIx items.size 0 lo = 0 ∧ sIx items.size items.size hi = items.size) (h : Q (.ref t) s) : wpAny (model prog w) A (getItem (.ref t) (.ref sl)) Q E s := by
  obtain ⟨os, hos, hcs, hds⟩ := id hs
  have hTs : s.TypeIs (.ref sl) "slice" := ⟨os, hos, hcs⟩
  unfold getItem
  try with_reducible refine wpAny_holding ?_
  first | refine wpAny_bind (wpAny_pure ?_) | skip
  refine wpAny_bind (wpAny_sequenceKey ht.typeIs (by decide) ?_)
  refine wpAny_bind (wpAny_callSpecial?_slot (name := Str.ofString "__getitem__") ht.typeIs PyProof.Rows.slot_tuple_getitem
    (wpAny_call_entry PyProof.Rows.slot_tuple_getitem ht.typeIs entry_tuple_getitem ?_ (args_tuple_getitem _ _)))
  show wpAny _ _ (Builtin.Tuple.tupleItemsOf (.ref t) >>= _) _ _ s
  refine wpAny_bind (tupleItemsOf_ ht ?_)
  refine wpAny_bind (wpAny_typeOf hTs ?_)
  rw [if_pos (by decide)]
  refine wpAny_bind (sliceApplied_gen hs pl pu ?_)
  dsimp only
  rw [if_pos (by rw [hw.1, hw.2]; simp)]
  unfold Builtin.Tuple.tupleIsExact
  refine wpAny_bind (wpAny_bind (wpAny_typeOf ht.typeIs (wpAny_pure ?_)))
  rw [if_pos (by decide)]
  refine wpAny_bind (wpAny_rule (wpAny_pure ?_))
  exact ⟨_, rfl, wpAny_pure h⟩
end
end HT
namespace L2
open PySem PySem.Spec PyProof.Rows
section
variable {X : Cx}
def rSlTW (K : PySem.W.Frag) : V → Option Int → Option Int → Hp → VK → Prop := fun x lo hi H Q => ∃ a xs, x = .ref a ∧ SqT K H a xs ∧
  ((HT.sIx xs.length 0 lo = 0 ∧ HT.sIx xs.length xs.length hi = xs.length) → Q x H) ∧ (¬ (HT.sIx xs.length 0 lo = 0 ∧ HT.sIx xs.length xs.length hi = xs.length) → ∀ p, H p = none → Q (.ref p) (upd H p (.tup (cutV xs lo hi))))
theorem sl_tupW : SlR X (rSlTW X.K) := by
  intro pins s σ H x v vl vu lo hi sl Q I rx hs pl pu h
  obtain ⟨a, xs, e, hx, q1, q2⟩ := h
  by_cases hw : HT.sIx xs.length 0 lo = 0 ∧ HT.sIx xs.length xs.length hi = xs.length
  · subst e
    cases rx
    obtain ⟨its, r, ht, hz⟩ := I.tuple hx
    have hlen : its.toArray.size = xs.length := by rw [List.size_toArray]; exact r.length.symm
    refine ⟨"tuple", _, PyProof.Rows.slot_tuple_getitem.lookup, ht.typeIs, ?_⟩
    exact HT.getItem_tuple_whole ht hs pl pu (by rw [hlen]; exact hw) ⟨.ref a, H, I, rfl, q1 hw⟩
  · exact sl_tup pins s σ H x v vl vu lo hi sl Q I rx hs pl pu ⟨a, xs, e, hx, hw, q2 hw⟩
end
end L2
namespace L2
open PySem PySem.Spec PyProof.Rows
structure FunD (K : PySem.W.Frag) (x qual : Str) (st : Stmt) (dV : Value) (f : Addr) (fd : FuncData) : Prop where
  ex : ∃ (oc : Value) (od : Option Addr) (kV doc pm : Value) (an : Option Addr) (cdv ct : Value) (osl : Array (Option Value)),
    fd = PySem.W.fnOf x qual (defArgs st) (defBody st) (defScope st) dV kV doc pm an cdv ct ∧ K.lookup f = some ⟨oc, od, .func fd, osl⟩ ∧ PySem.W.codeIn K cdv qual = true
  kp : PySem.W.keepIn K (.ref f) = true
theorem FunD.ok {P : Program} {w : World} {K : PySem.W.Frag} {mg : Str → Option Value} {base : Heap} {x qual : Str} {st : Stmt} {dV : Value} {f : Addr} {fd : FuncData} {N ps : List Str} {k : Nat} {sp : Sp} (F : FunD K x qual st dV f fd) (S : FnScope N ps (defScope st)) (len : ∀ vs H Q E, sp vs H Q E → vs.length = ps.length)
    (hbody : ∀ (cdv : Value) (A : Around) (outer : List Env) (s : Shared) (H : Hp) (vs : List V) (Q : VK) (E : XK), Room k (A.deeper (envOfC qual (defScope st) s.heap.objs.size f cdv)) → sp vs H Q E →
      ∃ t, PSs (cxOf CX0 P w K mg base N qual (defScope st) f cdv A outer s H E).nox (defBody st) t ∧ t { nx := fun _ H' => Q .non H', rt := Q } (start N vs) H) : FnOk P w K mg base CX0 (k + 1) f fd ps sp := by
  obtain ⟨oc, od, kV, doc, pm, an, cdv, ct, osl, rfl, lk, hcd⟩ := F.ex
  refine fn_of lk hcd S len fun A outer s H vs Q E hr hsp => ?_
  obtain ⟨t, h, q⟩ := hbody cdv A outer s H vs Q E hr hsp
  exact ⟨t, h.nox, q⟩
structure CMeth (K : PySem.W.Frag) (C : Addr) (m : Str) (f : Addr) : Prop where
  ga : PySem.W.specialIn K (.ref C) "__getattribute__" = some (some (.builtin "type.__getattribute__"))
  rd : PySem.W.readsIn K C (.type "type") = true
  fi : PySem.W.findCls K (.ref C) (.type "type") m = some (.val (.ref f))
  kp : PySem.W.keepIn K (.ref f) = true
structure InMD (K : PySem.W.Frag) (C : Addr) (m q : Str) (st : Stmt) : Prop where
  ex : ∃ (f T : Addr) (oc : Value) (od : Option Addr) (kV doc pm : Value) (an : Option Addr) (cdv ct : Value) (osl : Array (Option Value)) (dd : Option Addr) (n : Nat) (sl : Array (Option Value)),
    PySem.W.findIn K (.ref C) m = some (some (.ref f)) ∧ PySem.W.isFn K (.ref f) = true ∧ K.lookup f = some ⟨oc, od, .func (PySem.W.fnOf m q (defArgs st) (defBody st) (defScope st) (.ref T) kV doc pm an cdv ct), osl⟩ ∧ PySem.W.codeIn K cdv q = true ∧ PySem.W.keepIn K (.ref f) = true ∧
      K.lookup T = some ⟨.type "tuple", dd, .seq #[.none] n, sl⟩ ∧ CMeth K C m f
theorem InMD.of {K : PySem.W.Frag} {C : Addr} {m q : Str} {st : Stmt} {f T : Addr} {oc : Value} {od : Option Addr} {kV doc pm : Value} {an : Option Addr} {cdv ct : Value} {osl : Array (Option Value)} {dd : Option Addr} {n : Nat} {sl : Array (Option Value)}
    (a : PySem.W.findIn K (.ref C) m = some (some (.ref f))) (i : PySem.W.isFn K (.ref f) = true) (l : K.lookup f = some ⟨oc, od, .func (PySem.W.fnOf m q (defArgs st) (defBody st) (defScope st) (.ref T) kV doc pm an cdv ct), osl⟩) (c : PySem.W.codeIn K cdv q = true) (k : PySem.W.keepIn K (.ref f) = true)
    (d : K.lookup T = some ⟨.type "tuple", dd, .seq #[.none] n, sl⟩) (ga : PySem.W.specialIn K (.ref C) "__getattribute__" = some (some (.builtin "type.__getattribute__"))) (rd : PySem.W.readsIn K C (.type "type") = true) (fi : PySem.W.findCls K (.ref C) (.type "type") m = some (.val (.ref f))) : InMD K C m q st :=
  ⟨⟨f, T, oc, od, kV, doc, pm, an, cdv, ct, osl, dd, n, sl, a, i, l, c, k, d, ga, rd, fi, k⟩⟩
set_option genInjectivity false in
structure MDefD (K : PySem.W.Frag) (C : Addr) (m q : Str) (st : Stmt) (ps : List Str) where
  f : Addr
  fd : FuncData
  dV : Value
  F : FunD K m q st dV f fd
  me : Meth K C m f
  b : Binds K fd ps []
  b1 : Binds K fd ps [.none]
  cm : CMeth K C m f
theorem InMD.def {K : PySem.W.Frag} {C : Addr} {m q : Str} {st : Stmt} {ps : List Str} (i : InMD K C m q st)
    (h0 : ∀ (T : Addr) (kV doc pm : Value) (an : Option Addr) (cdv ct : Value) (us : List Value), us.length = ps.length → ∃ k, bindArgs (PySem.W.fnOf m q (defArgs st) (defBody st) (defScope st) (.ref T) kV doc pm an cdv ct) ⟨us, []⟩ = seqItems? (.ref T) >>= k ∧ k (some #[.none]) = pure (ps.zip us))
    (h1 : ∀ (T : Addr) (kV doc pm : Value) (an : Option Addr) (cdv ct : Value) (us : List Value), us.length + 1 = ps.length → ∃ k, bindArgs (PySem.W.fnOf m q (defArgs st) (defBody st) (defScope st) (.ref T) kV doc pm an cdv ct) ⟨us, []⟩ = seqItems? (.ref T) >>= k ∧ k (some #[.none]) = pure (ps.zip (us ++ [Value.none]))) : Nonempty (MDefD K C m q st ps) := by
  obtain ⟨f, T, oc, od, kV, doc, pm, an, cdv, ct, osl, dd, n, sl, a, i, l, c, k, d, cm⟩ := i.ex
  refine ⟨⟨f, PySem.W.fnOf m q (defArgs st) (defBody st) (defScope st) (.ref T) kV doc pm an cdv ct, .ref T, ⟨⟨oc, od, kV, doc, pm, an, cdv, ct, osl, rfl, l, c⟩, k⟩, ⟨a, i, k⟩, fun s us X hl => ?_, fun s us X hl => ?_, cm⟩⟩
  · rw [List.append_nil] at hl ⊢
    obtain ⟨kk, e1, e2⟩ := h0 T kV doc pm an cdv ct us hl
    exact BindsTo.of_defaults (T := T) (items := #[.none]) rfl (X T _ d) rfl e1 e2
  · obtain ⟨kk, e1, e2⟩ := h1 T kV doc pm an cdv ct us (by rw [List.length_append] at hl; exact hl)
    exact BindsTo.of_defaults (T := T) (items := #[.none]) rfl (X T _ d) rfl e1 e2
section
variable {X : Cx} {CX : CXT} {k : Nat} {f C : Addr} {fd : FuncData} {ps : List Str} {sp : Sp} {dvs : List V} {ds : List Value} {E : XK} {x m : Str} {p pos apos : Pos} {e o : Expr} {es : List Expr} {ta : TE} {t : TA}
def tCMeth (C : Addr) (sp : Sp) (dvs : List V) (E : XK) (ta : TE) (t : TA) : TE := fun σ H Q => ta σ H fun x H1 => x = .ref C ∧ t σ H1 fun vs H2 => sp (vs ++ dvs) H2 Q E
theorem pe_cmeth {pl : Sem Bool} (he : PE X o ta) (hm : CMeth X.K C m f) (F : FnOk X.prog X.w X.K X.mg X.base CX k f fd ps sp) (hr : Room k X.A) (hb : Binds X.K fd ps ds) (hd : Vals dvs ds) (hx : Passes CX X E) (ha : PA X (e :: es) t)
    (hst : starEach (e :: es) X.env = (false, eval e X.env) :: starEach es X.env := by rfl) (hpl : (backTo pos (starEach es X.env)).any (·.1) = false := by rfl)
    (ht : eval (.Call (.Attribute o m apos) (e :: es) [] pos) X.env = (do
      let ov ← eval o X.env
      standAt apos.atName
      let (f, first) ← holding [ov] (getMethod ov m pl)
      callWith pos f first (backTo pos (starEach (e :: es) X.env)) (backToKw pos (keywordEach [] X.env))) := by rfl) :
    PE X (.Call (.Attribute o m apos) (e :: es) [] pos) (tCMeth C sp dvs E ta t) := by
  intro pins s σ H Q I h
  refine PySem.W.methodCall_KW (pl := pl) (thn (he pins s σ H _ I h) fun u s1 ⟨x, H1, I1, rx, ex, q⟩ => ?_) ht
  subst ex
  obtain rfl : u = Value.ref C := rx
  refine PySem.W.method_cls I1.kIn hm.ga (PySem.W.cls_value I1.kIn hm.rd hm.fi rfl ?_)
  have I1' := I1.tok (s1.toks + 1)
  refine PySem.W.callWith_K (first := []) (h₀ := X.base) I.ok.mod.kin hm.kp (thn (ha pos pins _ σ H1 _ I1' q) fun us s2 ⟨vs, H2, I2, r, q2⟩ => ⟨I2.kIn, ?_⟩) hst hpl
  exact run_fn (us := us) (vs := vs) F hr hb hd hx I2 r q2
theorem bt_min : bootBuiltins "min" = some (.builtin "min") := by decide +kernel
theorem op_eqM (hu : X.A.units + 100 < cLine) : OpR X (compareOp .Eq) (fun x y H Q => rEq x y H Q ∨ rEqT X.K false x y H Q) := by
  intro pins s σ H x y v u Q I rx ry h
  rcases h with h | h
  · exact op_eq pins s σ H x y v u Q I rx ry h
  · exact op_eqT hu pins s σ H x y v u Q I rx ry h
theorem op_neM (hu : X.A.units + 100 < cLine) : OpR X (compareOp .NotEq) (fun x y H Q => rNe x y H Q ∨ rEqT X.K true x y H Q) := by
  intro pins s σ H x y v u Q I rx ry h
  rcases h with h | h
  · exact op_ne pins s σ H x y v u Q I rx ry h
  · exact op_neT hu pins s σ H x y v u Q I rx ry h
end
end L2
namespace L2
open PySem PySem.Spec PyProof.Rows
theorem first_at : ∀ {ns : List Int} {w : Int}, w ∈ ns → ∃ j, ns[j]? = some w ∧ (∀ m, m < j → ∀ x, ns[m]? = some x → x ≠ w) ∧ ns.eraseIdx j = ns.erase w
  | [], _, h => by cases h
  | n :: r, w, h => by
    by_cases e : n = w
    · subst e
      exact ⟨0, rfl, fun m hm => absurd hm (Nat.not_lt_zero _), by simp⟩
    · have h' : w ∈ r := by
        rcases List.mem_cons.mp h with q | q
        · exact absurd q.symm e
        · exact q
      obtain ⟨j, h1, h2, h3⟩ := first_at h'
      refine ⟨j + 1, h1, fun m hm x hx => ?_, ?_⟩
      · cases m with
        | zero =>
          have : n = x := by simpa using hx
          rw [← this]; exact e
        | succ m => exact h2 m (by omega) x (by simpa using hx)
      · rw [List.eraseIdx_cons_succ, h3, List.erase_cons_tail (by simpa using e)]
theorem map_erase {α β : Type} (f : α → β) : ∀ (xs : List α) (j : Nat), (xs.map f).eraseIdx j = (xs.eraseIdx j).map f
  | [], _ => rfl
  | x :: r, 0 => rfl
  | x :: r, j + 1 => by
    show f x :: (r.map f).eraseIdx j = f x :: (r.eraseIdx j).map f
    rw [map_erase f r j]
section
variable {X : Cx}
def rRemove : V → List V → Hp → VK → Prop := fun x vs H Q => ∃ (l : Addr) (ns : List Int) (w : Int), x = .ref l ∧ vs = [.int w] ∧ H l = some (.lst (ns.map V.int)) ∧ w ∈ ns ∧ Q .non (upd H l (.lst ((ns.erase w).map V.int)))
theorem mt_remove : MtM X "list.remove" rRemove := by
  intro pins s σ H x vs v us Q I rx rv h
  obtain ⟨l, ns, w, rfl, rfl, hH, hw, q⟩ := h
  cases rx
  obtain ⟨u, rfl, ru⟩ := rv.one
  obtain ⟨t, rfl⟩ := ru
  obtain ⟨z, its, n, r, hl, e⟩ := I.lstM hH
  obtain ⟨j, h1, h2, h3⟩ := first_at hw
  have g1 : (ns.map V.int)[j]? = some (.int w) := by rw [List.getElem?_map, h1]; rfl
  obtain ⟨y, hy, ry⟩ := r.get g1
  obtain ⟨t', ey⟩ := (show ∃ t, y = Value.int w t from ry)
  subst ey
  have hj : j < its.toArray.size := by rw [List.size_toArray]; exact (List.getElem?_eq_some_iff.mp hy).1
  refine call_meets F.slot_list_remove ⟨_, e, rfl⟩ F.entry_list_remove (F.args_list_remove_2 _ _)
    (MeetsSeq.list_remove l its.toArray n _ (fun u => match u with | .int a _ => a == w | _ => false) (fun y hy => ?_) j hj ?_ (fun m hm hmj => ?_) (by rw [List.size_toArray]; omega)) ⟨e, ?_⟩
  · obtain ⟨x, hx, rx⟩ := mem_vals r (by simpa using hy)
    obtain ⟨a, _, rfl⟩ := List.mem_map.mp hx
    obtain ⟨ta, rfl⟩ := (show ∃ t, y = Value.int a t from rx)
    exact MeetsSeq.EqGives.int a w ta t
  · have : its.toArray[j] = Value.int w t' := by
      have := (List.getElem?_eq_some_iff.mp hy).2
      simpa using this
    rw [this]
    simp
  · have hm' : m < its.length := by simpa using hm
    have hm2 : m < ns.length := by rw [List.length_map] at hl; omega
    have g2 : (ns.map V.int)[m]? = some (.int ns[m]) := by rw [List.getElem?_map, List.getElem?_eq_getElem hm2]; rfl
    obtain ⟨y, hy2, ry2⟩ := r.get g2
    obtain ⟨t2, ey2⟩ := (show ∃ t, y = Value.int ns[m] t from ry2)
    subst ey2
    have : its.toArray[m] = Value.int ns[m] t2 := by
      have := (List.getElem?_eq_some_iff.mp hy2).2
      simpa using this
    rw [this]
    have := h2 m hmj ns[m] (List.getElem?_eq_getElem hm2)
    simpa using this
  · have hv := r.eraseIdx j
    rw [map_erase, h3] at hv
    refine ⟨.non, _, I.lset (its' := its.eraseIdx j) hH e ?_ hv ?_, rfl, q⟩
    · show its.toArray.eraseIdxIfInBounds j = (its.eraseIdx j).toArray
      rw [List.eraseIdxIfInBounds_toArray]
    · rw [List.length_map] at z ⊢
      have := List.length_erase_le (a := w) (l := ns)
      omega
end
section
variable {X : Cx} {pins : List (Addr × Obj)} {σ : St} {H : Hp} {s : Shared} {a : Addr} {kvs : List (Key × V)} {k : Key} {u r : Value} {v : V} {A : Around} {E : Value → Shared → Prop}
theorem d_setdef {Q : Value → Shared → Prop} (I : Inv X pins σ H s) (e : H a = some (.dK kvs)) (ry : RelV (kV k) u) (rv : RelV v r) (l : kvs.length < sizeLine)
    (h1 : ∀ x, valV kvs k = some x → ∀ u' s', RelV x u' → Inv X pins σ H s' → Q u' s') (h2 : valV kvs k = none → ∀ s', Inv X pins σ (upd H a (.dK (putK kvs k v))) s' → Q r s') :
    wpAny (model X.prog X.w) A (call (.builtin "dict.setdefault") [.ref a, u, r]) Q E s := by
  obtain ⟨z, hd, vs, rel, dd⟩ := dk_of I.hok e
  have hz : vs.length ≤ sizeLine := by rw [← rel.length]; exact z
  refine call_meetsIn PySem.F.slot_dict_setdefault dd.typeIs PySem.F.entry_dict_setdefault (PySem.F.args_dict_setdefault_3 _ _ _) (kt_meets_setdefault (mixKind X.prog X.w) a (kV_is ry) hd r) ⟨vs, dd, hz, fun w hw => ?_, fun hn h' dd' hs => ?_⟩
  · cases q : valV kvs k with
    | none =>
      have hn : valueAt vs k = none := RelO.none_of (by rw [← q]; exact rel.val k)
      rw [hn] at hw; cases hw
    | some x =>
      obtain ⟨w', hw', rw'⟩ := RelO.some_of (v := x) (o := valueAt vs k) (by rw [← q]; exact rel.val k)
      rw [hw'] at hw
      cases hw
      exact h1 x q _ _ rw' (I.tok _)
  · cases q : valV kvs k with
    | some x =>
      obtain ⟨w', hw', _⟩ := RelO.some_of (v := x) (o := valueAt vs k) (by rw [← q]; exact rel.val k)
      rw [hw'] at hn; cases hn
    | none =>
      have he : ∃ q, h'.get? a = some q := let ⟨q, _, _, hq, _⟩ := dd'; ⟨q, hq⟩
      have hl : (putK kvs k v).length ≤ sizeLine := by have := length_putK kvs k v; omega
      exact h2 q _ (d_write I (by rw [e]; exact True.intro) hs he (dk_new hl hd (rel.put k rv) dd'))
end
def tDSetd (td ty tx : TE) : TE := fun σ H Q => td σ H fun x H1 => ∃ a, x = .ref a ∧ IsD H1 a ∧ ty σ H1 fun y H2 => tx σ H2 fun z H3 => ∃ kvs k, H3 a = some (.dK kvs) ∧ y = kV k ∧ kvs.length < sizeLine ∧
  (∀ v, valV kvs k = some v → Q v H3) ∧ (valV kvs k = none → Q z (upd H3 a (.dK (putK kvs k z))))
theorem pe_dsetd {X : Cx} {o e f : Expr} {apos cpos : Pos} {td ty tx : TE} (ho : PE X o td) (he : PE X e ty) (hf : PE X f tx) (m : M2 X o "setdefault" apos e f cpos) : PE X (.Call (.Attribute o "setdefault" apos) [e, f] [] cpos) (tDSetd td ty tx) := by
  intro pins s σ H Q I h
  refine wpAny_Call_method m.base m.few m.line PySem.F.plainAttrs_dict PySem.F.slot_dict_setdefault PySem.F.type_dict_setdefault (thn (ho pins s σ H _ I h) fun u s1 ⟨x, H1, I1, rx, a, ex, d, q1⟩ => ?_)
  subst ex
  obtain rfl : u = Value.ref a := rx
  obtain ⟨t1, t2, _⟩ := isD_at I1 d
  refine ⟨t1, t2, ?_⟩
  rw [m.trees]
  refine Calls.callWith_builtin rfl (Calls.evalArgs_plain (Calls.spliced_cons (thn (he pins s1 σ H1 _ I1 q1) fun iv s2 ⟨y, H2, I2, ry, q2⟩ =>
    Calls.spliced_cons (thn (hf pins s2 σ H2 _ I2 q2) fun fv s3 ⟨z, H3, I3, rz, kvs, k, ea, ey, hz, q3, q4⟩ => Calls.spliced_nil ?_))))
  subst ey
  exact d_setdef I3 ea ry rz hz (fun x hx u' s' ru I' => ⟨x, H3, I', ru, q3 x hx⟩) fun hn s' I' => ⟨z, _, I', rz, q4 hn⟩
theorem sl_tupWK {X : Cx} {K : PySem.W.Frag} (h : X.K = K) : SlR X (rSlTW K) := by subst h; exact sl_tupW
theorem op_eqTK {X : Cx} {K : PySem.W.Frag} (h : X.K = K) (hu : X.A.units + 100 < cLine) : OpR X (compareOp .Eq) (rEqT K false) := by subst h; exact op_eqT hu
theorem op_neTK {X : Cx} {K : PySem.W.Frag} (h : X.K = K) (hu : X.A.units + 100 < cLine) : OpR X (compareOp .NotEq) (rEqT K true) := by subst h; exact op_neT hu
end L2
set_option maxRecDepth 100000
namespace L2
open PySem PySem.Spec PyProof.Rows
section
variable {X : Cx}
def rInsert : V → List V → Hp → VK → Prop := fun x vs H Q => ∃ (l : Addr) (xs : List V) (k : Nat) (y : V), x = .ref l ∧ vs = [.int k, y] ∧ H l = some (.lst xs) ∧ k ≤ xs.length ∧ xs.length < sizeLine ∧ Q .non (upd H l (.lst (xs.take k ++ y :: xs.drop k)))
theorem mt_insert : MtM X "list.insert" rInsert := by
  intro pins s σ H x vs v us Q I rx rv h
  obtain ⟨l, xs, k, y, rfl, rfl, at_, hk, hz, q⟩ := h
  cases rx
  obtain ⟨u, u', rfl, ru, ru'⟩ := vals2 rv
  obtain ⟨t, rfl⟩ := ru
  obtain ⟨z, its, n, r, len, e⟩ := I.lstM at_
  have small : (k : Int) < 2 ^ 63 := by
    have := sizeLine_eq
    omega
  have fits : ¬ (!Builtin.List.listFitsIndex (k : Int)) = true := by rw [fitsIndex_both (by omega) small]; decide
  have room : its.toArray.size ≤ sizeLine := by rw [List.size_toArray]; omega
  generalize hj : (k : Int) = j at fits
  have m := AutoSeq1.list_insert_list_int_val_1 l its.toArray n j t u'
  have m1 := m fits
  have m2 := m1 room
  refine call_meets F.slot_list_insert ⟨_, e, rfl⟩ F.entry_list_insert (F.args_list_insert_3 (.ref l) (.int k t) u') m2 ⟨e, ?_⟩
  refine ⟨.non, _, I.lset (its' := its.take k ++ u' :: its.drop k) at_ e ?_ ((r.take k).append (.cons ru' (r.drop k))) ?_, rfl, q⟩
  · have pos : ¬ j < 0 := by omega
    have mn : min j.toNat its.toArray.size = k := by rw [List.size_toArray, ← hj, Int.toNat_natCast]; omega
    show (its.toArray.extract 0 (if j < 0 then _ else _)).push u' ++ its.toArray.extract (if j < 0 then _ else _) = _
    rw [if_neg pos, mn]
    apply Array.ext'
    simp [List.take_of_length_le]
  · simp
    omega
end
end L2
namespace L2
open PySem PySem.W PyProof.Rows
def ansd {α : Type} (lt : Nat → Nat → Bool) : KasT α → α
  | .ret a => a
  | .ask i j k => ansd lt (k (lt i j))
theorem ansd_bind {α β : Type} (lt : Nat → Nat → Bool) (f : α → KasT β) : ∀ t : KasT α, ansd lt (t.bind f) = ansd lt (f (ansd lt t))
  | .ret _ => rfl
  | .ask i j k => ansd_bind lt f (k (lt i j))
theorem ansd_wp {α : Type} {lt : Nat → Nat → Bool} {cmp : Nat → Nat → (Bool → Shared → Prop) → Shared → Prop} {Q : α → Shared → Prop} {s : Shared} (hc : ∀ i j C, C (lt i j) s → cmp i j C s) : ∀ t : KasT α, Q (ansd lt t) s → t.kasWp cmp Q s
  | .ret _, h => h
  | .ask i j k, h => hc i j _ (ansd_wp hc (k (lt i j)) h)
section
variable {n : Nat} {k : Nat → Int}
def ltK (k : Nat → Int) (i j : Nat) : Bool := decide (k i < k j)
theorem rng_at {i : Nat} (h : i < n) : (List.toArray (List.range n)).getD i 0 = i := by simp [Array.getD, h]
theorem stb_asc (up : ∀ i j, i < j → j < n - 1 → k i ≤ k j) : ∀ f m, 1 ≤ m → m + (f + 1) = n → ansd (ltK k) (kas_asc (List.toArray (List.range n)) (f + 1) m) = if k (n - 1) < k (n - 2) then n - 1 else n
  | 0, m, h1, h2 => by
    obtain rfl : m = n - 1 := by omega
    simp only [kas_asc, ansd]
    rw [rng_at (by omega), rng_at (by omega)]
    have e : n - 1 - 1 = n - 2 := by omega
    rw [e]
    by_cases c : k (n - 1) < k (n - 2)
    · simp [ltK, c, ansd]
    · simp only [ltK, c, decide_false, Bool.false_eq_true, if_false, ansd]
      omega
  | f + 1, m, h1, h2 => by
    rw [kas_asc]
    simp only [ansd]
    rw [rng_at (by omega), rng_at (by omega)]
    have c : ¬ k m < k (m - 1) := Int.not_lt.mpr (up _ _ (by omega) (by omega))
    simp only [ltK, c, decide_false, Bool.false_eq_true, if_false]
    exact stb_asc up f (m + 1) (by omega) (by omega)
theorem stb_place (K : Int) (hK : k (n - 1) = K) (up : ∀ i j, i < j → j < n - 1 → k i ≤ k j) : ∀ f l r, l ≤ r → r ≤ n - 1 → r - l ≤ f → (∀ i, i < l → k i ≤ K) → (∀ i, r ≤ i → i < n - 1 → K < k i) →
    ∃ L, ansd (ltK k) (kas_place (List.toArray (List.range n)) (n - 1) f l r) = L ∧ L ≤ n - 1 ∧ (∀ i, i < L → k i ≤ K) ∧ ∀ i, L ≤ i → i < n - 1 → K < k i
  | 0, l, r, h1, h2, h3, a, b => by
    obtain rfl : l = r := by omega
    exact ⟨l, rfl, h2, a, b⟩
  | f + 1, l, r, h1, h2, h3, a, b => by
    rw [kas_place]
    by_cases c : l ≥ r
    · rw [if_pos c]
      obtain rfl : l = r := by omega
      exact ⟨l, rfl, h2, a, b⟩
    · rw [if_neg c]
      simp only [ansd]
      rw [rng_at (by omega), rng_at (by omega)]
      by_cases d : k (n - 1) < k ((l + r) / 2)
      · simp only [ltK, d, decide_true, if_true]
        refine stb_place K hK up f l _ (by omega) (by omega) (by omega) a fun i h4 h5 => ?_
        rw [← hK]
        rcases Nat.lt_or_ge ((l + r) / 2) i with z | z
        · exact Int.lt_of_lt_of_le d (up _ _ z h5)
        · obtain rfl : i = (l + r) / 2 := by omega
          exact d
      · simp only [ltK, d, decide_false, Bool.false_eq_true, if_false]
        refine stb_place K hK up f _ r (by omega) h2 (by omega) (fun i h4 => ?_) b
        rw [← hK]
        rcases Nat.lt_or_ge i ((l + r) / 2) with z | z
        · exact Int.le_trans (up _ _ z (by omega)) (Int.not_lt.mp d)
        · obtain rfl : i = (l + r) / 2 := by omega
          exact Int.not_lt.mp d
def LastAt (n L : Nat) (p : Array Nat) : Prop := ∀ t, p[t]? = if t < L then some t else if t = L then some (n - 1) else if t < n then some (t - 1) else none
theorem rng_get (t : Nat) : (List.toArray (List.range n))[t]? = if t < n then some t else none := by
  by_cases h : t < n
  · simp [h]
  · simp [h]
theorem LastAt.list {L : Nat} {p : Array Nat} (hn : 1 ≤ n) (hL : L ≤ n - 1) (h : LastAt n L p) : p.toList = List.range L ++ (n - 1) :: List.range' L (n - 1 - L) := by
  apply List.ext_getElem?
  intro t
  rw [Array.getElem?_toList, h t]
  by_cases a : t < L
  · rw [if_pos a, List.getElem?_append_left (by simpa using a)]
    simp [a]
  · rw [if_neg a, List.getElem?_append_right (by simpa using Nat.not_lt.mp a), List.length_range]
    by_cases b : t = L
    · subst b
      simp
    · rw [if_neg b]
      obtain ⟨d, hd⟩ : ∃ d, t - L = d + 1 := ⟨t - L - 1, by omega⟩
      rw [hd, List.getElem?_cons_succ]
      by_cases c : t < n
      · rw [if_pos c, List.getElem?_range' (by omega)]
        congr 1
        omega
      · rw [if_neg c, List.getElem?_eq_none (by simp; omega)]
theorem stb_sort (h2 : 2 ≤ n) (up : ∀ i j, i < j → j < n - 1 → k i ≤ k j) :
    ∃ L, L ≤ n - 1 ∧ (∀ i, i < L → k i ≤ k (n - 1)) ∧ (∀ i, L ≤ i → i < n - 1 → k (n - 1) < k i) ∧ LastAt n L (ansd (ltK k) (kas_sort n)) := by
  have asc := stb_asc up (n - 2) 1 (Nat.le_refl _) (by omega)
  have e1 : n - 2 + 1 = n - 1 := by omega
  rw [e1] at asc
  have sz : (List.toArray (List.range n)).size = n := by simp
  unfold kas_sort kas_count
  simp only [ansd_bind]
  rw [asc]
  by_cases c : k (n - 1) < k (n - 2)
  · rw [if_pos c]
    have ne : ((n - 1) == n) = false := beq_eq_false_iff_ne.mpr (by omega)
    rw [ne]
    simp only [if_false, Bool.false_eq_true]
    have dp : ∀ p : Array Nat, ansd (ltK k) (kas_descPart (n - 1) n p) = (n, kas_rev p 0 n) := fun p => by
      have f0 : n - (n - 1 + 1) = 0 := by omega
      have f1 : n - 1 + 1 = n := by omega
      unfold kas_descPart
      rw [f0, f1]
      simp [kas_desc, ansd_bind, ansd, kas_tail3, kas_asc]
    by_cases d : n - 1 > 1
    · rw [if_pos d]
      simp only [ansd]
      rw [rng_at (by omega), rng_at (by omega)]
      have e2 : n - 1 - 1 = n - 2 := by omega
      rw [e2]
      by_cases e : k 0 < k (n - 2)
      · simp only [ltK, e, decide_true, if_true, ansd]
        obtain ⟨L, q, hL, a, b⟩ := stb_place (n := n) (k := k) _ rfl up (n - 1) 0 (n - 1) (by omega) (by omega) (by omega) (fun i h => by omega) (fun i h h' => by omega)
        refine ⟨L, hL, a, b, ?_⟩
        have mx : max (n - 1) 1 = n - 1 := by omega
        have one : n - (n - 1) = 1 := by omega
        rw [if_pos (by omega), mx, one]
        simp only [kas_bin, ansd_bind, ansd]
        have q' : ansd (fun i j => decide (k i < k j)) (kas_place (List.toArray (List.range n)) (n - 1) (n - 1) 0 (n - 1)) = L := q
        first | rw [q] | rw [q'] | skip
        intro t
        rw [getElem?_bubble (by rw [sz]; omega) _ (by omega)]
        simp only [rng_get]
        repeat' split
        all_goals first | rfl | (exfalso; omega) | (congr 1 <;> omega)
      · simp only [ltK, e, decide_false, Bool.false_eq_true, if_false]
        have dp' := dp (kas_rev (List.toArray (List.range n)) 0 (n - 1))
        refine ⟨0, by omega, fun i h => by omega, fun i _ h => ?_, ?_⟩
        · have z : k 0 ≤ k i := by
            rcases Nat.eq_zero_or_pos i with z | z
            · rw [z]; exact Int.le_refl _
            · exact up 0 i z h
          omega
        · have dp2 : ansd (fun i j => decide (k i < k j)) (kas_descPart (n - 1) n (kas_rev (List.toArray (List.range n)) 0 (n - 1))) = (n, kas_rev (kas_rev (List.toArray (List.range n)) 0 (n - 1)) 0 n) := dp'
          first | rw [dp'] | rw [dp2] | skip
          simp only [Nat.lt_irrefl, if_false, ansd]
          intro t
          unfold kas_rev
          rw [getElem?_mirror_all (by rw [mirror_size, sz]; omega), getElem?_mirror_all (by rw [sz]; omega), getElem?_mirror_all (by rw [sz]; omega)]
          simp only [rng_get]
          repeat' split
          all_goals first | rfl | (exfalso; omega) | (congr 1 <;> omega)
    · rw [if_neg d, dp]
      obtain rfl : n = 2 := by omega
      refine ⟨0, by omega, fun i h => by omega, fun i _ h => ?_, ?_⟩
      · obtain rfl : i = 0 := by omega
        exact c
      · simp only [Nat.lt_irrefl, if_false, ansd]
        intro t
        unfold kas_rev
        rw [getElem?_mirror_all (by rw [sz]; omega)]
        simp only [rng_get]
        repeat' split
        all_goals first | rfl | (exfalso; omega) | (congr 1 <;> omega)
  · rw [if_neg c]
    have yes : (n == n) = true := beq_self_eq_true n
    rw [yes]
    simp only [if_true, ansd, Nat.lt_irrefl, if_false]
    refine ⟨n - 1, Nat.le_refl _, fun i h => ?_, fun i h h' => by omega, fun t => ?_⟩
    · rcases Nat.lt_or_ge i (n - 2) with z | z
      · exact Int.le_trans (up i (n - 2) z (by omega)) (Int.not_lt.mp c)
      · obtain rfl : i = n - 2 := by omega
        exact Int.not_lt.mp c
    · rw [rng_get]
      repeat' split
      all_goals first | rfl | (exfalso; omega) | (congr 1 <;> omega)
end
def RngP {α : Type} (n : Nat) (P : α → Prop) : KasT α → Prop
  | .ret a => P a
  | .ask i j k => i < n ∧ j < n ∧ ∀ b, RngP n P (k b)
theorem RngP.bind {α β : Type} {n : Nat} {P : α → Prop} {P' : β → Prop} {f : α → KasT β} (hf : ∀ a, P a → RngP n P' (f a)) : ∀ {t : KasT α}, RngP n P t → RngP n P' (t.bind f)
  | .ret a, h => hf a h
  | .ask _ _ _, h => ⟨h.1, h.2.1, fun b => RngP.bind hf (h.2.2 b)⟩
def AllLt (n : Nat) (p : Array Nat) : Prop := ∀ x, x ∈ p → x < n
theorem AllLt.at {n : Nat} {p : Array Nat} (hn : 0 < n) (h : AllLt n p) (i : Nat) : p.getD i 0 < n := by
  by_cases hi : i < p.size
  · have e : p.getD i 0 = p[i] := by simp [Array.getD, hi]
    rw [e]
    exact h _ (Array.getElem_mem hi)
  · have e : p.getD i 0 = 0 := by simp [Array.getD, hi]
    rw [e]
    exact hn
theorem AllLt.swap {n : Nat} {p : Array Nat} (h : AllLt n p) (i j : Nat) : AllLt n (p.swapIfInBounds i j) := by
  intro x hx
  rw [Array.swapIfInBounds_def] at hx
  split at hx
  · split at hx
    · exact h x ((Array.Perm.mem_iff (Array.swap_perm _ _)).mp hx)
    · exact h x hx
  · exact h x hx
theorem AllLt.swaps {n : Nat} (u v : Nat → Nat) : ∀ (l : List Nat) {p : Array Nat}, AllLt n p → AllLt n (l.foldl (fun a k => a.swapIfInBounds (u k) (v k)) p)
  | [], _, h => h
  | k :: l, _, h => AllLt.swaps u v l (h.swap (u k) (v k))
theorem AllLt.rev {n : Nat} {p : Array Nat} (h : AllLt n p) (i j : Nat) : AllLt n (kas_rev p i j) := AllLt.swaps (fun k => i + k) (fun k => j - 1 - k) _ h
theorem AllLt.bub {n : Nat} {p : Array Nat} (h : AllLt n p) (k m : Nat) : AllLt n (bubble p k m) := AllLt.swaps (fun i => k - i) (fun i => k - i - 1) _ h
section
variable {n : Nat} (hn : 0 < n)
include hn
theorem rng_asc {p : Array Nat} (h : AllLt n p) : ∀ f m, RngP n (fun _ => True) (kas_asc p f m)
  | 0, _ => trivial
  | f + 1, m => ⟨h.at hn _, h.at hn _, fun b => by
    cases b
    · exact rng_asc h f (m + 1)
    · trivial⟩
theorem rng_desc : ∀ f {p : Array Nat} (m q : Nat), AllLt n p → RngP n (fun r => AllLt n r.1) (kas_desc f p m q)
  | 0, _, _, _, h => h
  | f + 1, p, m, q, h => ⟨h.at hn _, h.at hn _, fun b => by
    cases b
    · refine ⟨h.at hn _, h.at hn _, fun d => ?_⟩
      cases d
      · exact rng_desc f _ _ h
      · exact h
    · show RngP n _ (if q > 0 then _ else _)
      split
      · exact rng_desc f _ _ (h.rev _ _)
      · exact rng_desc f _ _ h⟩
theorem rng_tail3 {p : Array Nat} (h : AllLt n p) (m nr : Nat) : RngP n (fun r => AllLt n r.2) (kas_tail3 m nr p) := by
  refine (rng_asc hn (h.rev 0 m) _ _).bind fun _ _ => ?_
  exact h.rev 0 m
theorem rng_descPart {p : Array Nat} (h : AllLt n p) (m nr : Nat) : RngP n (fun r => AllLt n r.2) (kas_descPart m nr p) := by
  refine (rng_desc hn _ _ _ h).bind fun r hr => ?_
  split
  · exact rng_tail3 hn (hr.rev _ _) _ _
  · exact rng_tail3 hn hr _ _
theorem rng_count {p : Array Nat} (h : AllLt n p) (nr : Nat) : RngP n (fun r => AllLt n r.2) (kas_count nr p) := by
  refine (rng_asc hn h _ _).bind fun m _ => ?_
  split
  · exact h
  · split
    · refine ⟨h.at hn _, h.at hn _, fun b => ?_⟩
      cases b
      · exact rng_descPart hn (h.rev _ _) _ _
      · exact h
    · exact rng_descPart hn h _ _
theorem rng_place {p : Array Nat} (h : AllLt n p) (k : Nat) : ∀ f l r, RngP n (fun _ => True) (kas_place p k f l r)
  | 0, _, _ => trivial
  | f + 1, l, r => by
    rw [kas_place]
    split
    · trivial
    · refine ⟨h.at hn _, h.at hn _, fun b => ?_⟩
      cases b
      · exact rng_place h k f _ _
      · exact rng_place h k f _ _
theorem rng_bin : ∀ f {p : Array Nat} (k : Nat), AllLt n p → RngP n (fun _ => True) (kas_bin f p k)
  | 0, _, _, _ => trivial
  | f + 1, p, k, h => (rng_place hn h k _ _ _).bind fun l _ => rng_bin f _ (h.bub _ _)
theorem rng_sort : RngP n (fun _ => True) (kas_sort n) := by
  have h0 : AllLt n (List.toArray (List.range n)) := fun x hx => by simpa using hx
  refine (rng_count hn h0 n).bind fun r hr => ?_
  split
  · exact rng_bin hn _ _ hr
  · trivial
end
theorem ansd_wpR {α : Type} {n : Nat} {P : α → Prop} {lt : Nat → Nat → Bool} {cmp : Nat → Nat → (Bool → Shared → Prop) → Shared → Prop} {Q : α → Shared → Prop} {s : Shared} (hc : ∀ i j C, i < n → j < n → C (lt i j) s → cmp i j C s) :
    ∀ t : KasT α, RngP n P t → Q (ansd lt t) s → t.kasWp cmp Q s
  | .ret _, _, h => h
  | .ask i j k, r, h => hc i j _ r.1 r.2.1 (ansd_wpR hc (k (lt i j)) (r.2.2 _) h)
end L2
namespace L2
open PySem PySem.Spec PyProof.Rows
structure LamAt (mg : Str → Option Value) (base : Heap) (c P : Addr) : Prop where
  code : PySem.W.CodeHd base c P
  bltn : base.BuiltinsAt mg P
  gP : mainGlobals ≠ P
def codeHO (q : Str) (c : Addr) : HO := .ext fun h => h.CodeRec (.ref c) q
def TabOk (q : Str) (pos : Pos) (P : Addr) (H : Hp) : Prop := ∃ ps : Array Value, H P = some (.tbl ps) ∧ (ps = #[] ∨ ∃ c, ps = #[rawInt pos.line, rawInt pos.col, .ref c] ∧ H c = some (codeHO q c))
def SameT (H H' : Hp) : Prop := ∀ b o, H b = some o → (∀ ps, o ≠ .tbl ps) → H' b = some o
theorem SameT.refl (H : Hp) : SameT H H := fun _ _ e _ => e
theorem SameT.trans {H1 H2 H3 : Hp} (a : SameT H1 H2) (b : SameT H2 H3) : SameT H1 H3 := fun x o e n => b x o (a x o e n) n
theorem codeRec_stay {q : Str} {c : Addr} {h1 h2 : Heap} (x : h1.CodeRec (.ref c) q) (k : ∀ o, h1.get? c = some o → h2.get? c = some o) : h2.CodeRec (.ref c) q := by
  obtain ⟨c', o, vs, t, e, ho, r⟩ := x
  cases e
  exact ⟨c, o, vs, t, rfl, k o ho, r⟩
section
variable {X : Cx} {pins : List (Addr × Obj)} {σ : St} {H : Hp} {s : Shared}
theorem lam_make {c P : Addr} {q : Str} {params : Arguments} {body : Expr} {lsc : Scope} {lpos : Pos} {R : Value → Shared → Prop} (I : Inv X pins σ H s) (L : LamAt X.mg X.base c P) (hcode : X.env.code = .ref c) (hq : X.env.qual ++ "<lambda>" = q)
    (hdef : defaultsOf params X.env = ([], [])) (hcl : closureFor lsc X.env = pure []) (T : TabOk q lpos P H)
    (h : ∀ f c' ctv pm H' s', Inv X pins σ H' s' → s'.heap.get? f = some (PySem.W.kla_obj "<lambda>" q params body lsc [] pm c' ctv) → s'.heap.CodeRec (.ref c') q → TabOk q lpos P H' → SameT H H' → R (.ref f) s') :
    wpAny (model X.prog X.w) X.A (eval (.Lambda params body lsc lpos) X.env) R X.xe s := by
  refine PySem.W.kla_eval hdef ?_
  rw [hq]
  obtain ⟨ps, hP, hps⟩ := T
  have oP : s.heap.get? P = some (PySem.W.tabObj ps) := I.hok P _ hP
  have C := L.code.keeps I.bk
  have G : s.heap.Ns mainGlobals X.mg := I.mod.glob.keeps I.bk
  have B : s.heap.BuiltinsAt X.mg P := by
    obtain ⟨bm, o, a1, a2, a3, a4, a5, r⟩ := L.bltn
    exact ⟨bm, o, a1, a2, a3, a4, I.bk _ _ a5, r⟩
  rcases hps with rfl | ⟨c1, rfl, hc1⟩
  · refine PySem.W.kla_makeFunction (mg := X.mg) hcl I.ok.glob G hcode C oP trivial rfl L.gP B fun c' ctv h' tk hx hge hlt hrec htb => ?_
    have hP' : H c' = none := I.hok.fresh hge
    have ncP : c' ≠ P := fun z => by rw [z, hP] at hP'; cases hP'
    have old : ∀ b o, b ≠ P → s.heap.get? b = some o → (h'.push (PySem.W.kla_obj "<lambda>" q params body lsc [] ((X.mg "__name__").getD .none) c' ctv)).get? b = some o := fun b o hb e => Heap.get?_push_of_some _ (hx b o hb e)
    have nP : ∀ b, H b = none → b ≠ P := fun b n z => by rw [z, hP] at n; cases n
    have nc : ∀ b o, s.heap.get? b = some o → b ≠ c' := fun b o e => Nat.ne_of_lt (Nat.lt_of_lt_of_le (Heap.lt_size e) hge)
    have at_ : ∀ b, b ≠ P → b ≠ c' → upd (upd H P (.tbl #[rawInt lpos.line, rawInt lpos.col, .ref c'])) c' (codeHO q c') b = H b := fun b h1 h2 => by rw [upd_ne h2, upd_ne h1]
    have hrec2 : (h'.push (PySem.W.kla_obj "<lambda>" q params body lsc [] ((X.mg "__name__").getD .none) c' ctv)).CodeRec (.ref c') q := hrec.push _
    have tP : (h'.push (PySem.W.kla_obj "<lambda>" q params body lsc [] ((X.mg "__name__").getD .none) c' ctv)).get? P = some (PySem.W.tabObj #[rawInt lpos.line, rawInt lpos.col, .ref c']) := Heap.get?_push_of_some _ htb
    have some_ne : ∀ b o, H b = some o → b ≠ c' := fun b o e z => by rw [z, hP'] at e; cases e
    have un : Un X.fs [] H (upd (upd H P (.tbl #[rawInt lpos.line, rawInt lpos.col, .ref c'])) c' (codeHO q c')) s.heap (h'.push (PySem.W.kla_obj "<lambda>" q params body lsc [] ((X.mg "__name__").getD .none) c' ctv)) := by
      refine ⟨fun b o e n _ _ => old b o (nP b n) e, fun b o e n _ _ => ⟨o.slots, old b o (nP b n) e⟩, fun b o e n _ => ?_, fun b o e _ => ?_, fun b xs e => ?_, fun b o u e => ?_, fun b zs e => ?_⟩
      · rw [at_ b (nP b n) (nc b o e)]; exact n
      · by_cases z : b = P
        · exact ⟨_, z ▸ tP⟩
        · exact ⟨o, old b o z e⟩
      · rw [at_ b (fun z => by rw [z, hP] at e; cases e) (some_ne b _ e)]; exact e
      · rw [at_ b (fun z => by rw [z, hP] at e; cases e) (some_ne b _ e)]; exact e
      · by_cases z : b = P
        · subst z
          rw [hP] at e; cases e
          exact ⟨#[rawInt lpos.line, rawInt lpos.col, .ref c'], by rw [upd_ne ncP.symm, upd_same]; simp⟩
        · exact ⟨#[], by rw [at_ b z (some_ne b _ e), e]; simp⟩
    have hok : HOk X.prog X.w (upd (upd H P (.tbl #[rawInt lpos.line, rawInt lpos.col, .ref c'])) c' (codeHO q c')) (h'.push (PySem.W.kla_obj "<lambda>" q params body lsc [] ((X.mg "__name__").getD .none) c' ctv)) := fun b u e => by
      by_cases z : b = c'
      · subst z
        rw [upd_same] at e; cases e
        refine ⟨hrec2, ?_, fun h1 h2 p k => codeRec_stay p k⟩
        obtain ⟨_, o, _, _, e1, e2, _⟩ := hrec2
        cases e1
        exact ⟨o, e2⟩
      · rw [upd_ne z] at e
        by_cases z2 : b = P
        · subst z2
          rw [upd_same] at e; cases e
          exact tP
        · rw [upd_ne z2] at e
          refine (I.hok b u e).stay (fun d v hd qq => old d v (fun y => ?_) qq) (fun d y => ?_) fun d xs y => ?_
          · rcases hd with w | w
            · exact z2 (w ▸ y)
            · rw [y, hP] at w; cases w
          · rw [at_ d (fun w => by rw [w, hP] at y; cases y) (some_ne d _ y)]; exact y
          · rw [at_ d (fun w => by rw [w, hP] at y; cases y) (some_ne d _ y)]; exact y
    refine h _ c' ctv _ _ _ (I.un (t' := tk) un hok) (Heap.get?_push_size _ rfl) hrec2 ⟨_, by rw [upd_ne ncP.symm, upd_same], .inr ⟨c', rfl, upd_same⟩⟩ fun b o e n => ?_
    rw [at_ b (fun z => by rw [z, hP] at e; cases e; exact n _ rfl) (some_ne b _ e)]; exact e
  · refine PySem.W.kla_makeFunctionHit (mg := X.mg) (cv := .ref c1) hcl I.ok.glob G hcode C oP (by simp [TriplesOk, rawInt]) (by simp [codeAmong, rawInt]) B fun ctv h' tk hk hsz => ?_
    have rec1 : s.heap.CodeRec (.ref c1) q := (I.hok c1 _ hc1).1
    refine h _ c1 ctv _ H _ (I.kept (t' := tk) fun b u e => Heap.get?_push_of_some _ (hk b u e)) (Heap.get?_push_size _ rfl) ((rec1.keeps hk).push _) ⟨_, hP, .inr ⟨c1, rfl, hc1⟩⟩ (SameT.refl _)
end
section
variable {prog : Program} {w : World} {A : Around} {E : Value → Shared → Prop} {s : Shared}
theorem lam_call {f c' t : Addr} {q v : Str} {params : Arguments} {lsc : Scope} {pm ctv : Value} {np p1 p2 : Pos} {j} {its : List Value} {k : Int} {tk0 : Tok} {r : List Value} {Q : Value → Shared → Prop}
    (hf : s.heap.get? f = some (PySem.W.kla_obj "<lambda>" q params (.Subscript (.Name v np) (.Constant (.int 0) j p1) p2) lsc [] pm c' ctv)) (hc : s.heap.CodeRec (.ref c') q) (hlim : s.heap.NoLimit) (hroom : A.depth < recursionLimit)
    (ht : IsTup s.heap t its.toArray) (hi : its = .int k tk0 :: r)
    (hb : ∀ x : Value, bindArgs (PySem.W.kla_fn "<lambda>" q params (.Subscript (.Name v np) (.Constant (.int 0) j p1) p2) lsc [] pm (.ref c') ctv) ⟨[x], []⟩ = pure [(v, x)]) (hsc : lsc.names = [(v, .local)]) (hkd : lsc.kind = .function) (hco : lsc.isCoroutine = false) (hgen : lsc.isGenerator = false)
    (hd : (v == ("__debug__" : Str)) = false)
    (h : ∀ h' tk, (∀ b o, s.heap.get? b = some o → h'.get? b = some o) → Q (.int k tk0) { s with heap := h', toks := tk }) : wpAny (model prog w) A (call (.ref f) [.ref t]) Q E s := by
  refine wpAny_call (PySem.W.kla_callFunE hroom hf rfl hco hgen rfl hc ?_)
  rw [hb]
  refine wpAny_pure (wpAny_newFunctionEnv (by rw [hsc]; simp) (by rw [hsc]; simp) (fun h₁ hns hsb => ?_) hkd)
  have hk₁ : ∀ b o, s.heap.get? b = some o → h₁.get? b = some o := fun b o e => hsb.extBut b o (Nat.ne_of_lt (Heap.lt_size e)) (Heap.get?_push_of_some _ e)
  refine ⟨hlim.keeps hk₁, PySem.W.kla_codeExpr ?_⟩
  refine Subscript_ (wpAny_Name (wpAny_loadName_local (m := fun x => [(v, Value.ref t)].reverse.lookup x) (v := .ref t) hkd (by show lsc.names.lookup v = _; rw [hsc]; simp) hns (by simp) ?_) hd)
  refine wpAny_Constant_int ?_
  have ht1 := ht.keeps hk₁
  subst hi
  refine subscriptTail_builtinR (x := .int k tk0) (ht1.typeIs) slot_tuple_getitem.lookup (getItem_tuple (j := 0) (Q := fun r s' => r = .int k tk0 ∧ _) ht1 (by decide) (by decide) ?_ rfl ⟨rfl, h _ _ hk₁⟩) ?_
  · simp [seqIndex?]
  · with_unfolding_all rfl
end
def LastTo (kz : List Int) (L : Nat) : Prop := L ≤ kz.length - 1 ∧ (∀ i, i < L → kz.getD i 0 ≤ kz.getD (kz.length - 1) 0) ∧ ∀ i, L ≤ i → i < kz.length - 1 → kz.getD (kz.length - 1) 0 < kz.getD i 0
def moved {α : Type} (d : α) (vs : List α) (L : Nat) : List α := vs.take L ++ vs.getD (vs.length - 1) d :: (vs.drop L).take (vs.length - 1 - L)
theorem moved_map {α : Type} {d : α} {vs : List α} {L : Nat} (h : 1 ≤ vs.length) (hL : L ≤ vs.length - 1) : (List.range L ++ (vs.length - 1) :: List.range' L (vs.length - 1 - L)).map (fun i => vs.getD i d) = moved d vs L := by
  unfold moved
  rw [List.map_append, List.map_cons]
  congr 1
  · apply List.ext_getElem?
    intro i
    rw [List.getElem?_map]
    by_cases c : i < L
    · rw [List.getElem?_range c, List.getElem?_take_of_lt c]
      have : i < vs.length := by omega
      simp [this]
    · rw [List.getElem?_eq_none (by simp; omega), List.getElem?_eq_none (by simp; omega)]; rfl
  · congr 1
    apply List.ext_getElem?
    intro i
    rw [List.getElem?_map]
    by_cases c : i < vs.length - 1 - L
    · rw [List.getElem?_range' c, List.getElem?_take_of_lt c, List.getElem?_drop]
      have : L + i < vs.length := by omega
      simp [this]
    · rw [List.getElem?_eq_none (by simp; omega), List.getElem?_eq_none (by simp; omega)]; rfl
theorem ints_at : ∀ {us : List Value} {ns : List Int} {i : Nat}, IntsAre us ns → i < ns.length → ∃ t, us.getD i Value.none = .int (ns.getD i 0) t
  | _, _, _, .nil, h => by simp at h
  | _, _, 0, .cons n t r, _ => ⟨t, by simp⟩
  | _, _, i + 1, .cons n t r, h => by
    obtain ⟨t', e⟩ := ints_at (i := i) r (by simpa using h)
    exact ⟨t', by simpa using e⟩
section
variable {prog : Program} {w : World} {A : Around} {E : Value → Shared → Prop} {s : Shared}
theorem keyed_tail {a kS : Addr} {vs : List Value} {kz : List Int} {keys : List Value} {e e1 L : Nat} {st : SortSt} {P : PySem.Fin → Shared → Prop} (oa : s.heap.get? a = some (seqObj "list" #[] e1)) (ok : s.heap.get? kS = some (seqObj "list" (List.toArray keys) e)) (ne : kS ≠ a)
    (hk : keys.length ≤ 64) (hv : (moved Value.none vs L).length ≤ 64) (hs : (arrOf st).map (·.2) = List.toArray (moved Value.none vs L)) (hf : failedOf st = none) (hL : LastTo kz L)
    (done : ∀ L e h2 tk, LastTo kz L → (∀ b o, b ≠ a → b ≠ kS → s.heap.get? b = some o → h2.get? b = some o) → h2.get? a = some (seqObj "list" (List.toArray (moved Value.none vs L)) e) → P (.done (.ret .none)) { s with heap := h2, toks := tk }) :
    wpAny (model prog w) A (ksk_tail a false e1 (.ref kS) st) P E s := by
  have b1 := Heap.SameBut.update s.heap kS (Obj.mapSeq fun _ => (#[] : Array Value))
  have oa1 := (b1.2 a ne.symm).trans oa
  have b2 := Heap.SameBut.update (s.heap.update kS (Obj.mapSeq fun _ => (#[] : Array Value))) a (Obj.mapSeq fun _ => List.toArray (moved Value.none vs L))
  unfold ksk_tail
  dsimp only
  rw [hs]; refine wpAny_bind (listUpdate_at ok rfl ?_ (by rw [List.size_toArray, sizeLine_eq]; omega) (Nat.zero_le _)); refine wpAny_bind (wpAny_letGo ?_); refine wpAny_bind (seqEpoch_at oa1 rfl ?_)
  refine wpAny_bind (listUpdate_at oa1 rfl ?_ (Nat.zero_le _) (by show (List.toArray _).size ≤ _; rw [List.size_toArray, sizeLine_eq]; omega))
  rw [hf]; simp only [bne_self_eq_false, Bool.false_eq_true, if_false]
  refine wpAny_pure (done L _ _ s.toks hL (fun b o n1 n2 q => (b2.2 b n1).trans ((b1.2 b n2).trans q)) (get?_update_seq oa1 fun _ => List.toArray (moved Value.none vs L)))
theorem keyed_end {a kS : Addr} {vs : List Value} {kz : List Int} {keys : List Value} {e e1 : Nat} {P : PySem.Fin → Shared → Prop} (oa : s.heap.get? a = some (seqObj "list" #[] e1)) (ok : s.heap.get? kS = some (seqObj "list" (List.toArray keys) e)) (ne : kS ≠ a)
    (hI : IntsAre keys kz) (hlen : kz.length = vs.length) (h1 : 1 ≤ vs.length) (h64 : vs.length < 64) (up : ∀ i j, i < j → j < kz.length - 1 → kz.getD i 0 ≤ kz.getD j 0)
    (done : ∀ L e h2 tk, LastTo kz L → (∀ b o, b ≠ a → b ≠ kS → s.heap.get? b = some o → h2.get? b = some o) → h2.get? a = some (seqObj "list" (List.toArray (moved Value.none vs L)) e) → P (.done (.ret .none)) { s with heap := h2, toks := tk }) :
    wpAny (model prog w) A (ksk_end a false vs.toArray e1 (.ref kS) (List.toArray keys)) P E s := by
  have lk : keys.length = vs.length := by rw [hI.length, hlen]
  unfold ksk_end
  simp only [Bool.false_eq_true, if_false]
  by_cases one : vs.toArray.size < 2
  · rw [if_pos one, if_pos one]
    refine wpAny_bind (wpAny_pure ?_)
    refine wpAny_bind (wpAny_pure ?_)
    have n1 : vs.length = 1 := by rw [List.size_toArray] at one; omega
    obtain ⟨v, rfl⟩ := List.length_eq_one_iff.mp n1
    obtain ⟨u, rfl⟩ := List.length_eq_one_iff.mp (lk.trans n1)
    refine keyed_tail (L := 0) (vs := [v]) oa ok ne (by simp) (by simp [moved]) (by simp [arrOf, SortSt.mk', moved]) rfl ⟨Nat.zero_le _, fun i h => by omega, fun i _ h => by omega⟩ done
  · rw [if_neg one, if_neg one]
    have n2 : 2 ≤ vs.length := by rw [List.size_toArray] at one; omega
    rw [ksk_kind (by simpa using hI) (by rw [List.size_toArray]; omega)]
    refine wpAny_bind (wpAny_pure ?_)
    obtain ⟨L, hL, lo, hi, at_⟩ := stb_sort (n := vs.length) (k := fun i => kz.getD i 0) n2 (by rw [← hlen]; exact up)
    refine wpAny_bind (wpAny_mono (PySem.W.kat_run (ks := keys) (vs := vs) (κ := oneType') (Q := fun st' s' => s' = s ∧ failedOf st' = none ∧ (arrOf st').map (·.2) = List.toArray (moved Value.none vs L)) (G := fun p s' => s' = s ∧ p.toList = List.range L ++ (vs.length - 1) :: List.range' L (vs.length - 1 - L)) lk n2 h64 (fun p st' s' _ ha hf ⟨es, ep⟩ => ⟨es, hf, ?_⟩) ?_) ?_ fun _ _ x => x)
    · rw [PySem.W.kat_snds lk ha, ep, moved_map h1 hL]
    · refine ansd_wpR (n := vs.length) (P := fun _ => True) (lt := ltK fun i => kz.getD i 0) (fun i j C hi hj hC => ?_) _ (rng_sort (by omega)) ⟨rfl, at_.list h1 hL⟩
      obtain ⟨t1, q1⟩ := ints_at hI (i := i) (by omega)
      obtain ⟨t2, q2⟩ := ints_at hI (i := j) (by omega)
      unfold PySem.W.kas_ask
      rw [q1, q2]
      exact PySem.W.kat_lt_int hC
    · rintro ⟨⟨⟩, st'⟩ s' ⟨rfl, hf, hm⟩
      exact keyed_tail oa ok ne (by omega) (by simp [moved]; omega) hm hf ⟨by omega, by rw [hlen]; exact lo, by rw [hlen]; exact hi⟩ done
theorem keyed_run {a f : Addr} {vs : List Value} {kz : List Int} {n0 : Nat} {P : PySem.Fin → Shared → Prop} (ho : s.heap.get? a = some (seqObj "list" vs.toArray n0)) (hlen : kz.length = vs.length) (h1 : 1 ≤ vs.length) (h64 : vs.length < 64)
    (up : ∀ i j, i < j → j < kz.length - 1 → kz.getD i 0 ≤ kz.getD j 0)
    (hcall : ∀ i v h1 tk (Q : Value → Shared → Prop), vs[i]? = some v → (∀ b o, b ≠ a → s.heap.get? b = some o → h1.get? b = some o) → (∀ h2 tk2 t, (∀ b o, h1.get? b = some o → h2.get? b = some o) → Q (.int (kz.getD i 0) t) { s with heap := h2, toks := tk2 }) →
      wpAny (model prog w) A (call (.ref f) [v]) Q (fun _ _ => False) { s with heap := h1, toks := tk })
    (done : ∀ L e h2 tk, LastTo kz L → (∀ b o, b ≠ a → s.heap.get? b = some o → h2.get? b = some o) → h2.get? a = some (seqObj "list" (List.toArray (moved Value.none vs L)) e) → P (.done (.ret .none)) { s with heap := h2, toks := tk }) :
    wpAny (model prog w) A (ksk_tree a (.ref f) false) P E s := by
  have la : a < s.heap.objs.size := Heap.lt_size ho
  have b1 := Heap.SameBut.update s.heap a (Obj.mapSeq fun _ => (#[] : Array Value))
  obtain ⟨e1, o1⟩ : ∃ e1, (s.heap.update a (Obj.mapSeq fun _ => (#[] : Array Value))).get? a = some (seqObj "list" #[] e1) := ⟨_, get?_update_seq ho fun _ => #[]⟩
  unfold ksk_tree
  refine wpAny_bind (listItems_at ho rfl ?_); refine wpAny_bind (listUpdate_at ho rfl ?_ (by rw [List.size_toArray, sizeLine_eq]; omega) (Nat.zero_le _)); refine wpAny_bind (seqEpoch_at o1 rfl ?_)
  refine wpAny_bind (wpAny_newTuple ?_ (by show vs.length ≤ _; rw [sizeLine_eq]; omega)); refine wpAny_bind (wpAny_newList ?_ (Nat.zero_le _)); refine wpAny_holding ?_
  have sz : ((s.heap.update a (Obj.mapSeq fun _ => (#[] : Array Value))).push (seqObj "tuple" vs.toArray 0)).objs.size = s.heap.objs.size + 1 := by rw [size_push', Heap.size_update]
  have kp0 : ∀ b o, b ≠ a → s.heap.get? b = some o → (((s.heap.update a (Obj.mapSeq fun _ => (#[] : Array Value))).push (seqObj "tuple" vs.toArray 0)).push (seqObj "list" #[] 0)).get? b = some o := fun b o n q => Heap.get?_push_of_some _ (Heap.get?_push_of_some _ ((b1.2 b n).trans q))
  have oa0 : (((s.heap.update a (Obj.mapSeq fun _ => (#[] : Array Value))).push (seqObj "tuple" vs.toArray 0)).push (seqObj "list" #[] 0)).get? a = some (seqObj "list" #[] e1) := Heap.get?_push_of_some _ (Heap.get?_push_of_some _ o1)
  have ok0 : (((s.heap.update a (Obj.mapSeq fun _ => (#[] : Array Value))).push (seqObj "tuple" vs.toArray 0)).push (seqObj "list" #[] 0)).get? (s.heap.objs.size + 1) = some (seqObj "list" #[] 0) := by rw [← sz]; exact Heap.get?_push_size _ rfl
  show wpAny _ _ (ksk_rest a (.ref f) false vs.toArray e1 (.ref ((s.heap.update a (Obj.mapSeq fun _ => (#[] : Array Value))).push (seqObj "tuple" vs.toArray 0)).objs.size)) P E { s with heap := ((s.heap.update a (Obj.mapSeq fun _ => (#[] : Array Value))).push (seqObj "tuple" vs.toArray 0)).push (seqObj "list" #[] 0) }
  rw [sz]
  generalize ((s.heap.update a (Obj.mapSeq fun _ => (#[] : Array Value))).push (seqObj "tuple" vs.toArray 0)).push (seqObj "list" #[] 0) = h0 at kp0 oa0 ok0 ⊢
  have ne : s.heap.objs.size + 1 ≠ a := Nat.ne_of_gt (Nat.lt_succ_of_lt la)
  have old : ∀ b o, s.heap.get? b = some o → b ≠ s.heap.objs.size + 1 := fun b o q => Nat.ne_of_lt (Nat.lt_succ_of_lt (Heap.lt_size q))
  generalize s.heap.objs.size + 1 = kS at ok0 ne old ⊢
  unfold ksk_rest
  refine wpAny_bind (wpAny_rule ?_); rw [List.forIn_toArray]
  refine wpAny_bind (ksk_fold (fun i s' => ∃ h' tk ks e, s' = { s with heap := h', toks := tk } ∧ (∀ b o, b ≠ kS → h0.get? b = some o → h'.get? b = some o) ∧ h'.get? kS = some (seqObj "list" (List.toArray ks) e) ∧ IntsAre ks (kz.take i)) vs 0 _ ⟨h0, s.toks, [], 0, rfl, fun _ _ _ q => q, ok0, by simpa using IntsAre.nil⟩ (fun j x s' hx ⟨h', tk, ks, e, es, kp, ok, hI⟩ => ?_) fun s' ⟨h', tk, ks, e, es, kp, ok, hI⟩ => ?_)
  · subst es
    rw [Nat.zero_add] at hI ⊢
    have hj : j < vs.length := (List.getElem?_eq_some_iff.mp hx).1
    refine wpAny_bind (wpAny_attempt (wpAny_mono (hcall j x h' tk (fun u s'' => ∃ h2 tk2 t, u = .int (kz.getD j 0) t ∧ s'' = { s with heap := h2, toks := tk2 } ∧ ∀ b o, h'.get? b = some o → h2.get? b = some o) hx (fun b o n q => kp b o (old b o q) (kp0 b o n q)) fun h2 tk2 t k2 => ⟨h2, tk2, t, rfl, rfl, k2⟩) (fun u s'' hu => ?_) fun _ _ z => z.elim))
    obtain ⟨h2, tk2, t, rfl, rfl, k2⟩ := hu
    have ok2 := k2 _ _ ok
    have lks : ks.length ≤ j := by
      have := hI.length
      rw [List.length_take] at this; omega
    dsimp only
    refine wpAny_bind (listUpdate_at ok2 rfl ?_ (by rw [List.size_toArray, sizeLine_eq]; omega) (Nat.le_trans (Nat.le_of_eq (Array.size_push ..)) (by rw [List.size_toArray, sizeLine_eq]; omega)))
    have b2 := Heap.SameBut.update h2 kS (Obj.mapSeq (·.push (Value.int (kz.getD j 0) t)))
    refine wpAny_pure ⟨rfl, _, tk2, ks ++ [.int (kz.getD j 0) t], _, rfl, fun b o n q => (b2.2 b n).trans (k2 b o (kp b o n q)), (get?_update_seq ok2 (·.push (Value.int (kz.getD j 0) t))).trans (by simp; rfl), ?_⟩
    rw [List.take_succ, show kz[j]? = some (kz.getD j 0) by simp [hlen, hj]]
    exact ksk_snoc hI
  · subst es
    rw [Nat.zero_add, ← hlen, List.take_length] at hI
    refine wpAny_bind (listItems_at ok rfl ?_)
    refine keyed_end (kz := kz) (e := e) (kp a _ ne.symm oa0) ok ne hI hlen h1 h64 up fun L e2 h2 tk2 hL k2 o2 => ?_
    exact done L e2 h2 tk2 hL (fun b o n q => k2 b o n (old b o q) (kp b o (old b o q) (kp0 b o n q))) o2
theorem sorted_key {l f : Addr} {vs : List Value} {kz : List Int} {Q : Value → Shared → Prop} (hl : s.heap.IsList l vs.toArray) (hlen : kz.length = vs.length) (h1 : 1 ≤ vs.length) (h64 : vs.length < 64)
    (up : ∀ i j, i < j → j < kz.length - 1 → kz.getD i 0 ≤ kz.getD j 0)
    (hcall : ∀ i v h1 tk (Q : Value → Shared → Prop), vs[i]? = some v → (∀ b o, s.heap.get? b = some o → h1.get? b = some o) → (∀ h2 tk2 t, (∀ b o, h1.get? b = some o → h2.get? b = some o) → Q (.int (kz.getD i 0) t) { s with heap := h2, toks := tk2 }) →
      wpAny (model prog w) A.in1.in1 (call (.ref f) [v]) Q (fun _ _ => False) { s with heap := h1, toks := tk })
    (done : ∀ D L e h2 tk, s.heap.objs.size ≤ D → LastTo kz L → (∀ b o, s.heap.get? b = some o → h2.get? b = some o) → h2.get? D = some (seqObj "list" (List.toArray (moved Value.none vs L)) e) → Q (.ref D) { s with heap := h2, toks := tk }) :
    wpAny (model prog w) A (call (.builtin "sorted") [.ref l] [(Str.ofString "key", .ref f)]) Q E s := by
  refine call_function_entry_kw kind_sorted plain_sorted entry_sorted (ksk_s1 _ _) ?_
  unfold Builtin.«sorted»
  refine wpAny_bind (m := checkCount "sorted" 1 1 _) (wpAny_pure ?_); refine wpAny_bind (collect_list hl ?_ (by rw [sizeLine_eq]; omega)); refine wpAny_bind (wpAny_newList ?_ (by rw [sizeLine_eq]; omega))
  have sz : ((s.heap.push (seqObj "list" #[] 0)).update s.heap.objs.size (Obj.mapSeq (· ++ vs.toArray))).objs.size = s.heap.objs.size + 1 := by rw [Heap.size_update, size_push']
  have oD : (((s.heap.push (seqObj "list" #[] 0)).update s.heap.objs.size (Obj.mapSeq (· ++ vs.toArray))).push (seqObj "list" vs.toArray 0)).get? (s.heap.objs.size + 1) = some (seqObj "list" vs.toArray 0) := by rw [← sz]; exact Heap.get?_push_size _ rfl
  have kp : ∀ b o, s.heap.get? b = some o → (((s.heap.push (seqObj "list" #[] 0)).update s.heap.objs.size (Obj.mapSeq (· ++ vs.toArray))).push (seqObj "list" vs.toArray 0)).get? b = some o := fun b o q => by
    have lt : b < s.heap.objs.size := Heap.lt_size q
    refine Heap.get?_push_of_some _ ?_
    rw [Heap.get?_update_ne _ _ _ _ (Nat.ne_of_lt lt)]
    exact Heap.get?_push_of_some _ q
  have old : ∀ b o, s.heap.get? b = some o → b ≠ s.heap.objs.size + 1 := fun b o q => Nat.ne_of_lt (Nat.lt_succ_of_lt (Heap.lt_size q))
  show wpAny _ _ _ _ _ { s with heap := ((s.heap.push (seqObj "list" #[] 0)).update s.heap.objs.size (Obj.mapSeq (· ++ vs.toArray))).push (seqObj "list" vs.toArray 0) }
  rw [sz]
  have hD : s.heap.objs.size ≤ s.heap.objs.size + 1 := Nat.le_succ _
  generalize s.heap.objs.size + 1 = D at oD old hD ⊢
  generalize ((s.heap.push (seqObj "list" #[] 0)).update s.heap.objs.size (Obj.mapSeq (· ++ vs.toArray))).push (seqObj "list" vs.toArray 0) = h0 at oD kp ⊢
  refine wpAny_bind (wpAny_holding (wpAny_call_entry_kw slot_list_sort ⟨_, oD, rfl⟩ entry_list_sort ?_ (ksk_l1 _ _)))
  rw [ksk_t1]
  refine keyed_run (s := { s with heap := h0 }) oD hlen h1 h64 up (fun i v h' tk Q' hv k hq => hcall i v h' tk Q' hv (fun b o q => k b o (old b o q) (kp b o q)) hq) fun L e h2 tk hL k o2 => ?_
  exact ⟨_, rfl, wpAny_pure ⟨_, rfl, done D L e h2 tk hD hL (fun b o q => k b o (old b o q) (kp b o q)) o2⟩⟩
end
end L2
namespace L2
open PySem PySem.Spec PyProof.Rows
section
variable {X : Cx}
def tSortK (q : Str) (lpos : Pos) (P : Addr) (te : TE) : TE := fun σ H Q => te σ H fun x H1 => ∃ (l : Addr) (ts : List (Addr × Int)), x = .ref l ∧ H1 l = some (.lst (ts.map fun t => V.ref t.1)) ∧ (∀ t ∈ ts, ∃ r, H1 t.1 = some (.tup (.int t.2 :: r))) ∧ 1 ≤ ts.length ∧ ts.length < 64 ∧
  (∀ i j, i < j → j < ts.length - 1 → (ts.map (·.2)).getD i 0 ≤ (ts.map (·.2)).getD j 0) ∧ TabOk q lpos P H1 ∧
  ∀ D L H2, (∀ o, H1 D = some o → ∃ ps, o = .tbl ps) → SameT H1 H2 → TabOk q lpos P H2 → H2 D = some (.lst (moved V.non (ts.map fun t => V.ref t.1) L)) → LastTo (ts.map (·.2)) L → Q (.ref D) H2
theorem vals_moved {xs : List V} {us : List Value} {L : Nat} (r : Vals xs us) (h : 1 ≤ xs.length) : Vals (moved V.non xs L) (moved Value.none us L) := by
  unfold moved
  refine Vals.append (r.take L) ?_
  have hl := r.length
  rw [← hl]
  refine .cons ?_ ((r.drop L).take _)
  have lt : xs.length - 1 < xs.length := by omega
  have e : xs[xs.length - 1]? = some (xs.getD (xs.length - 1) V.non) := by simp [lt]
  obtain ⟨u, hu, ru⟩ := r.get e
  have e2 : us.getD (xs.length - 1) Value.none = u := by rw [List.getD_eq_getElem?_getD, hu]; rfl
  rw [e2]
  exact ru
theorem pe_sortK {c P : Addr} {k : Nat} {q v : Str} {params : Arguments} {lsc : Scope} {lpos p pos kp np p1 p2 : Pos} {j} {e : Expr} {te : TE} (L : LamAt X.mg X.base c P) (hcode : X.env.code = .ref c) (hq : X.env.qual ++ "<lambda>" = q) (hr : Room k X.A) (hg : Gl X "sorted") (hm : X.mg "sorted" = none) (he : PE X e te)
    (hdef : defaultsOf params X.env = ([], [])) (hcl : closureFor lsc X.env = pure [])
    (hb : ∀ (c' : Addr) (pm ctv x : Value), bindArgs (PySem.W.kla_fn "<lambda>" q params (.Subscript (.Name v np) (.Constant (.int 0) j p1) p2) lsc [] pm (.ref c') ctv) ⟨[x], []⟩ = pure [(v, x)]) (hsc : lsc.names = [(v, .local)]) (hkd : lsc.kind = .function) (hco : lsc.isCoroutine = false) (hgen : lsc.isGenerator = false)
    (hd : (v == ("__debug__" : Str)) = false) (hst : starEach [e] X.env = [(false, eval e X.env)] := by rfl) :
    PE X (.Call (.Name "sorted" p) [e] [⟨some "key", .Lambda params (.Subscript (.Name v np) (.Constant (.int 0) j p1) p2) lsc lpos, kp⟩] pos) (tSortK q lpos P te) := by
  intro pins s σ H Q I h
  refine wpAny_Call_Name_kw (ld_blt I hg hm boot_sorted ?_ (by decide) (by decide))
  refine callWith_kw ?_ (by rw [hst]; rfl) (by rw [hst]; rfl)
  rw [hst]
  show wpAny _ _ (spliced ((false, eval e X.env) :: backTo pos [])) _ _ s
  refine Calls.spliced_cons (thn (he pins s σ H _ I h) fun u s1 ⟨x, H1, I1, rx, l, ts, ex, hl, ht, h1, h64, up, T, q1⟩ => Calls.spliced_nil ?_)
  subst ex
  cases rx
  refine kws_cons (lam_make I1 L hcode hq hdef hcl T fun f c' ctv pm H2 s2 I2 of oc T2 sm => kws_nil ?_)
  have hl2 := sm l _ hl (fun _ z => nomatch z)
  obtain ⟨z, its, n, rv, len, el⟩ := I2.lstM hl2
  have kl : (ts.map (·.2)).length = its.length := by rw [← len, List.length_map, List.length_map]
  have tl : ts.length = its.length := by rw [← len, List.length_map]
  refine sorted_key (vs := its) (kz := ts.map (·.2)) ⟨_, el, rfl, _, rfl⟩ kl (by omega) (by omega) (by rw [List.length_map]; exact up) (fun i u h' tk Q' hu k hq => ?_) fun D M e2 h2 tk hD hM k o2 => ?_
  · have hi : i < ts.length := by rw [tl]; exact (List.getElem?_eq_some_iff.mp hu).1
    have et : ts[i]? = some ts[i] := by simp [hi]
    obtain ⟨u', hu', ru⟩ := rv.get (i := i) (x := V.ref ts[i].1) (by rw [List.getElem?_map, et]; rfl)
    rw [hu] at hu'; cases hu'
    cases ru
    obtain ⟨r, hr1⟩ := ht ts[i] (List.getElem_mem hi)
    obtain ⟨_, is, ri, it⟩ := I2.hok _ _ (sm _ _ hr1 (fun _ z => nomatch z))
    have ek : (ts.map (·.2)).getD i 0 = ts[i].2 := by rw [List.getD_eq_getElem?_getD, List.getElem?_map, et]; rfl
    rw [ek] at hq
    cases ri with
    | cons r0 rr =>
      obtain ⟨t0, e0⟩ := r0
      subst e0
      refine lam_call (s := { s2 with heap := h', toks := tk }) (k _ _ of) (oc.keeps k) (I2.nolimit.keeps k) hr.depth (it.keeps k) rfl (hb c' pm ctv) hsc hkd hco hgen hd fun h3 tk3 k3 => hq h3 tk3 t0 k3
  · have n1 : H2 D = none := I2.hok.fresh hD
    have zz : (moved V.non (ts.map fun t => V.ref t.1) M).length ≤ sizeLine := by
      have e : (moved V.non (ts.map fun t => V.ref t.1) M).length ≤ ts.length + 1 := by simp [moved]; omega
      rw [sizeLine_eq]; omega
    refine ⟨.ref D, upd H2 D (.lst (moved V.non (ts.map fun t => V.ref t.1) M)), I2.laid (t' := tk) k hD ⟨zz, _, e2, vals_moved rv (by rw [List.length_map]; exact h1), o2⟩, rfl, q1 D M _ (fun o ho => ?_) (fun b o hb nt => ?_) ?_ upd_same hM⟩
    · cases o with
      | tbl ps => exact ⟨ps, rfl⟩
      | _ => have z2 := sm D _ ho (fun _ z => nomatch z); rw [n1] at z2; cases z2
    · have hb2 := sm b o hb nt
      rw [upd_ne (ne_of_none hb2 n1)]
      exact hb2
    · obtain ⟨ps, hP, hps⟩ := T2
      refine ⟨ps, by rw [upd_ne (ne_of_none hP n1)]; exact hP, hps.imp id fun ⟨c1, e1, hc1⟩ => ⟨c1, e1, by rw [upd_ne (ne_of_none hc1 n1)]; exact hc1⟩⟩
end
end L2
namespace L2
open PySem PySem.Spec PyProof.Rows
theorem op_neLK {X : Cx} {K : PySem.W.Frag} (h : X.K = K) (hu : X.A.units + 100 < cLine) : OpR X (compareOp .NotEq) (rEqL K true) := by subst h; exact op_neL hu
theorem bt_max : bootBuiltins "max" = some (.builtin "max") := by decide +kernel
end L2
namespace L2
open PySem PySem.Spec PyProof.Rows
theorem code_of {K : PySem.W.Frag} {mg : Str → Option Value} {h : Heap} {x : Str} {st : Stmt} {ps : List Str} {c P : Addr} (X : K.In h) (G : h.Ns mainGlobals mg) (d : Def K mg x st ps) (t : PySem.W.tabIn K x = some (c, P)) : d.fd.code = .ref c := by
  obtain ⟨oc, od, kV, doc, pm, an, cdv, ct, osl, e, lk, hcd⟩ := d.F.ex
  exact PySem.W.law_code X G t d.hm (X _ _ lk) rfl
section
variable {P : Program} {w : World} {K : PySem.W.Frag} {mg : Str → Option Value} {base : Heap}
theorem Fun.okC {x qual : Str} {st : Stmt} {f c : Addr} {fd : FuncData} {N ps : List Str} {k : Nat} {sp : Sp} (F : Fun K x qual st f fd) (S : FnScope N ps (defScope st)) (hc : fd.code = .ref c) (len : ∀ vs H Q E, sp vs H Q E → vs.length = ps.length)
    (hbody : ∀ (A : Around) (outer : List Env) (s : Shared) (H : Hp) (vs : List V) (Q : VK) (E : XK), Room k (A.deeper (envOfC qual (defScope st) s.heap.objs.size f (.ref c))) → sp vs H Q E →
      ∃ t, PSs (cxOf CX0 P w K mg base N qual (defScope st) f (.ref c) A outer s H E).nox (defBody st) t ∧ t { nx := fun _ H' => Q .non H', rt := Q } (start N vs) H) : FnOk P w K mg base CX0 (k + 1) f fd ps sp := by
  obtain ⟨oc, od, kV, doc, pm, an, cdv, ct, osl, rfl, lk, hcd⟩ := F.ex
  have e : cdv = .ref c := hc
  subst e
  refine fn_of lk hcd S len fun A outer s H vs Q E hr hsp => ?_
  obtain ⟨t, h, q⟩ := hbody A outer s H vs Q E hr hsp
  exact ⟨t, h.nox, q⟩
end
theorem law_callT {P : Program} {w : World} {K : PySem.W.Frag} {mg mb : Str → Option Value} {CX : CXT} {k : Nat} {fa a c T : Addr} {fd : FuncData} {x : Str} {sp : Sp} {s₁ : Shared} {vs : List Value} {ns : List Int}
    (KX : K.In s₁.heap) (nt : PySem.W.noTabs K = true) (hns : s₁.heap.Ns mainGlobals mg) (hb : s₁.heap.Ns builtinsNs mb) (hbb : ∀ x : Str, x ≠ "__name__" → mb x = bootBuiltins x) (hlim : s₁.heap.NoLimit) (hg : s₁.gens = #[])
    (bm : ∃ bm ob, mg "__builtins__" = some (.ref bm) ∧ bm ≠ builtinsNs ∧ s₁.heap.get? bm = some ob ∧ ob.cls = .type "module" ∧ ob.dict = some builtinsNs ∧ ob.data = .plain) (hT : PySem.W.CodeHd s₁.heap c T) (oT : s₁.heap.get? T = some (PySem.W.tabObj #[]))
    (ha : s₁.heap.get? a = some { cls := .type "list", data := .seq vs.toArray }) (hi : IntsAre vs ns) (hl : ns.length ≤ sizeLine) (hr : Room k callerA)
    (F : ∀ base : Heap, K.In base → base.Ns mainGlobals mg → LamAt mg base c T → FnOk P w K mg base CX k fa fd [x] sp) (hbind : ∀ (s : Shared) (u : Value), BindsTo s fd ⟨[u], []⟩ [(x, u)])
    (hsp : ∀ H : Hp, H T = some (.tbl #[]) → SqL K H a (ns.map V.int) → sp [.ref a] H (fun v _ => v = .bl true) fun _ _ _ => False)
    (hCX : ∀ H e s', CX [] H s₁ (fun _ _ _ => False) e s' → False) :
    codeAny (model P w) callerA (.call (.ref fa) ⟨[.ref a], []⟩) (fun r s' => r = .ok (.ret (.bool true)) ∧ OldK s₁.heap s'.heap ∧ s'.os = s₁.os ∧ AllBare s'.gens) s₁ := by
  have rv := vals_ints hi
  have lenV := hi.length
  have naT : a ≠ T := fun z => by rw [z, oT] at ha; cases ha
  -- the script may be tracked, and the table is
  have core : ∀ H : Hp, H T = some (.tbl #[]) → (∀ b, b ≠ T → H b = none ∨ ∃ o xs, H b = some (.frz o (.lst xs))) → SqL K H a (ns.map V.int) → HOk P w H s₁.heap → (∀ b, H b ≠ none → b = a ∨ b = T) → (H a ≠ none → K.lookup a = none) →
      codeAny (model P w) callerA (.call (.ref fa) ⟨[.ref a], []⟩) (fun r s' => r = .ok (.ret (.bool true)) ∧ OldK s₁.heap s'.heap ∧ s'.os = s₁.os ∧ AllBare s'.gens) s₁ := by
    intro H hHT hO hS hok hA hK
    have in_base : ∀ {b : Addr} {o : Obj}, s₁.heap.get? b = some o → H b = none → (hidT s₁.heap H).get? b = some o := fun e n => hidT_get e n
    have untr : ∀ {b : Addr} {o : Obj}, s₁.heap.get? b = some o → o.cls ≠ .none → (∀ xs n, o.data ≠ .seq xs n) → H b = none := fun {b o} e h1 h2 => by
      cases q : H b with
      | none => rfl
      | some u =>
        rcases hA b (by rw [q]; simp) with e' | e'
        · subst e'
          rw [ha] at e; cases e
          exact absurd rfl (h2 _ _)
        · subst e'
          rw [oT] at e; cases e
          exact absurd rfl h1
    have dct : ∀ {b : Addr} {o : Obj} {es : Array DictEntry} {ep : Nat}, s₁.heap.get? b = some o → o.data = .dict es ep → H b = none := fun {b o es ep} e d => by
      cases q : H b with
      | none => rfl
      | some u =>
        rcases hA b (by rw [q]; simp) with e' | e'
        · subst e'
          rw [ha] at e; cases e
          cases (show Data.seq vs.toArray _ = Data.dict es ep from d)
        · subst e'
          rw [oT] at e; cases e
          cases (show Data.fields _ = Data.dict es ep from d)
    have nsB : ∀ {b : Addr} {m : Str → Option Value}, s₁.heap.Ns b m → (hidT s₁.heap H).Ns b m := fun {b m} ⟨o, es, ep, e, d, r⟩ => ⟨o, es, ep, in_base e (dct e d), d, r⟩
    have KB : K.In (hidT s₁.heap H) := fun b o e => in_base (KX b o e) (by
      cases q : H b with
      | none => rfl
      | some u =>
        rcases hA b (by rw [q]; simp) with e' | e'
        · subst e'
          rw [hK (by rw [q]; simp)] at e; cases e
        · subst e'
          have e2 := KX _ _ e
          rw [oT] at e2
          have h2 := List.all_eq_true.mp nt (b, o) (PySem.W.mem_of_lookupK e)
          cases e2
          cases (show false = true from h2))
    have MB : Mod K mg (hidT s₁.heap H) := ⟨KB, nsB hns, ⟨mb, nsB hb, hbb⟩, let ⟨mc, h1, h2⟩ := hlim; ⟨mc, nsB h1, h2⟩⟩
    have LB : LamAt mg (hidT s₁.heap H) c T := by
      refine ⟨?_, ?_, fun z => ?_⟩
      · obtain ⟨o, vs', file, tf, flags, tg, inF, text, tt, e1, e2, e3, r⟩ := hT
        exact ⟨o, vs', file, tf, flags, tg, inF, text, tt, in_base e1 (untr e1 (by rw [e2]; exact fun z => nomatch z) (by rw [e3]; exact fun _ _ z => nomatch z)), e2, e3, r⟩
      · obtain ⟨b, ob, a1, a2, a3, a4, a5, a6⟩ := bm
        refine ⟨b, ob, a1, a2, fun z => ?_, fun z => ?_, in_base a3 (untr a3 (by rw [a4]; exact fun z => nomatch z) (by rw [a6]; exact fun _ _ z => nomatch z)), a4, a5, a6⟩
        · obtain ⟨o, es, ep, e, d, _⟩ := hns
          rw [z, e] at a3; cases a3
          rw [d] at a6; cases a6
        · rw [z, oT] at a3; cases a3
          cases a4
      · obtain ⟨o, es, ep, e, d, _⟩ := hns
        rw [z, oT] at e; cases e
        cases d
    have e0 : Env0 P w K mg (hidT s₁.heap H) callerA [] s₁ H := ⟨rfl, MB, fun b o e => of_hidT e, Nat.le_of_eq (hidT_size _ _), trivial, fun b hb => absurd (show b ∈ ([] : List Addr) from hb) (by simp), hok, .of_eq hg⟩
    refine codeAny_mono ((F _ KB (nsB hns) LB).run callerA [] s₁ H ⟨[.ref a], []⟩ [.ref a] [.ref a] _ _ hr e0 (hbind s₁ (.ref a)) (.cons rfl .nil) (hsp H hHT hS)) fun r s' h => ?_
    cases r with
    | error e => exact (hCX H e s' h).elim
    | ok fl =>
      cases fl with
      | next => exact False.elim h
      | brk => exact False.elim h
      | cont => exact False.elim h
      | ret u =>
        obtain ⟨v, H', os, bare, un, hok', r', q⟩ := h
        have q' : v = .bl true := q
        subst q'
        obtain rfl : u = Value.bool true := r'
        obtain ⟨more, hT'⟩ := un.tbls T _ hHT
        have oT' : s'.heap.get? T = some (PySem.W.tabObj (#[] ++ more)) := hok' T _ hT'
        have kept : ∀ b o, b ≠ T → s₁.heap.get? b = some o → s'.heap.get? b = some o := fun b o hb e => by
          rcases hO b hb with z | ⟨ob, xs, z⟩
          · exact un.keep b o e z (by intro z; exact absurd (show b ∈ ([] : List Addr) from z) (by simp)) (by simp)
          · have z2 := un.frzs b ob _ z
            obtain ⟨e1, _⟩ := hok b _ z
            obtain ⟨e2, _⟩ := hok' b _ z2
            rw [e] at e1; cases e1
            exact e2
        refine ⟨rfl, ⟨fun b o e => ?_, fun b o e => ?_⟩, os, bare⟩
        · by_cases z : b = T
          · subst z
            rw [oT] at e; cases e
            exact .inr (.inl ⟨(hT.tab oT).isCodeTable, rfl, #[], more, rfl, oT'⟩)
          · exact .inl (kept b o z e)
        · by_cases z : b = T
          · exact ⟨_, z ▸ oT'⟩
          · exact ⟨o, kept b o z e⟩
  cases hk : K.lookup a with
  | some o =>
    have e := KX a o hk
    rw [ha] at e
    cases e
    refine core (fun b => if b = T then some (.tbl #[]) else none) (if_pos rfl) (fun b hb => .inl (if_neg hb)) (.inr ⟨_, vs.toArray, _, hk, rfl, rfl, rfl, by rw [List.size_toArray, lenV]; exact hl, by simpa using rv⟩) (fun b u z => ?_) (fun b z => ?_) fun z => absurd (if_neg naT) z
    · by_cases hb : b = T
      · have z' := (if_pos hb).symm.trans z
        cases z'
        exact hb ▸ oT
      · have z' := (if_neg hb).symm.trans z
        cases z'
    · by_cases hb : b = T
      · exact .inr hb
      · exact absurd (if_neg hb) z
  | none =>
    refine core (fun b => if b = T then some (.tbl #[]) else if b = a then some (.frz { cls := .type "list", data := .seq vs.toArray } (.lst (ns.map V.int))) else none) (if_pos rfl) (fun b hb => ?_) (.inl (.inr ⟨{ cls := .type "list", data := .seq vs.toArray }, (if_neg naT).trans (if_pos rfl)⟩)) (fun b u z => ?_) (fun b z => ?_) fun _ => hk
    · by_cases ha' : b = a
      · exact .inr ⟨_, _, (if_neg hb).trans (if_pos ha')⟩
      · exact .inl ((if_neg hb).trans (if_neg ha'))
    · by_cases hb : b = T
      · have z' := (if_pos hb).symm.trans z
        cases z'
        exact hb ▸ oT
      · by_cases ha' : b = a
        · have z' := ((if_neg hb).trans (if_pos ha')).symm.trans z
          cases z'
          subst ha'
          exact ⟨ha, by rw [List.length_map]; exact hl, vs, _, rv, ha⟩
        · have z' := ((if_neg hb).trans (if_neg ha')).symm.trans z
          cases z'
    · by_cases hb : b = T
      · exact .inr hb
      · by_cases ha' : b = a
        · exact .inl ha'
        · exact absurd ((if_neg hb).trans (if_neg ha')) z
theorem walk_ofT {l : PySem.W.OpenLaw} {n k : Nat} {q : Program} {loose : List Str} {XP : (Str → Option Value) → Heap → Prop} {YP : World → Heap → Prop} {d : DefRec} {K : Params → PySem.W.Frag} {CX : CXT} {sp : PySem.W.Frag → Addr → Sp} {x : Str} {c T : Addr}
    (hn : l.most = some n) (hn2 : n ≤ sizeLine) (hdf : d.params.defaults = []) (hr : Room k callerA)
    (hY : ∀ (w : World) (h : Heap), YP w h → (K w.params).In h ∧ h.get? T = some (PySem.W.tabObj #[])) (nt : ∀ w : World, PySem.W.noTabs (K w.params) = true) (htab : ∀ w : World, PySem.W.codeHdIn (K w.params) c T = true)
    (F : ∀ (w : World) (mg : Str → Option Value) (fa : Addr) (h : Heap), (K w.params).In h → h.Ns mainGlobals mg → mg d.name = some (.ref fa) →
      ∃ fd : FuncData, (∀ (s : Shared) (u : Value), BindsTo s fd ⟨[u], []⟩ [(x, u)]) ∧
        ∀ base : Heap, (K w.params).In base → base.Ns mainGlobals mg → LamAt mg base c T → FnOk l.prog w (K w.params) mg base CX k fa fd [x] (sp (K w.params) T))
    (hsp : ∀ (K : PySem.W.Frag) (H : Hp) (a : Addr) (ns : List Int), ns.length ≤ n → H T = some (.tbl #[]) → SqL K H a (ns.map V.int) → sp K T [.ref a] H (fun v _ => v = .bl true) fun _ _ _ => False)
    (hCX : ∀ (H : Hp) (s : Shared) (e : Value) (s' : Shared), CX [] H s (fun _ _ _ => False) e s' → False) :
    PySem.W.WalkO q loose XP YP l.row.toRowW d [] (fun f vs => PySem.call f vs) := by
  refine Att.attach_call hn hdf fun w s₀ s₁ mg mb fa o pm cd doc a vs ns G Y ho hd hcd hmg hobj hints hlen hg => ?_
  obtain ⟨KX, oT⟩ := hY w _ Y
  obtain ⟨fd, hb, hF⟩ := F w mg fa _ KX G.T.g hmg
  have hT := PySem.W.codeHd_of_K KX (htab w)
  exact law_callT KX (nt w) G.T.g G.T.b G.T.builtins G.T.nolimit hg G.T.bmain hT oT hobj hints (Nat.le_trans hlen hn2) hr hF hb (fun H hO hS => hsp (K w.params) H a ns hlen hO hS) fun H e s' => hCX H s₁ e s'
end L2
namespace K30
open PySem L2
theorem ifT {c A B : Prop} [Decidable c] (hc : c) (h : A) : if decide c = true then A else B := by
  rw [if_pos (decide_eq_true hc)]; exact h
theorem ifF {c A B : Prop} [Decidable c] (hc : ¬ c) (h : B) : if decide c = true then A else B := by
  rw [if_neg (by rw [decide_eq_false hc]; exact Bool.false_ne_true)]; exact h
theorem bT {c : Bool} {A B : Prop} (hc : c = true) (h : A) : if c = true then A else B := by rw [if_pos hc]; exact h
theorem bF {c : Bool} {A B : Prop} (hc : c = false) (h : B) : if c = true then A else B := by rw [if_neg (by rw [hc]; exact Bool.false_ne_true)]; exact h
set_option genInjectivity false in
structure En where
  t : Int
  w : Int
  z : Str
def En.vs (e : En) : List V := [.int e.t, .int e.w, .str e.z]
def keepF (w : Int) (z : Str) (e : En) : Bool := decide (¬ (e.w = w ∧ e.z = z))
def cnt (es : List En) (t : Int) : Nat := (es.filter fun x => decide (x.t ≤ t)).length
def insF (es : List En) (e : En) : List En := es.take (cnt es e.t) ++ e :: es.drop (cnt es e.t)
def Srt (es : List En) : Prop := es.Pairwise fun a b => a.t ≤ b.t
inductive Deed where
  | at (t w : Int) (z : Str)
  | take
  | drop (w : Int) (z : Str)
  | drop1 (w : Int)
  | goTo (t : Int)
def Deed.vs : Deed → List V
  | .at t w z => [.str "at", .int t, .int w, .str z]
  | .take => [.str "take"]
  | .drop w z => [.str "drop", .int w, .str z]
  | .drop1 w => [.str "drop", .int w]
  | .goTo t => [.str "go_to", .int t]
def Deed.nm : Deed → Str
  | .at _ _ _ => "at"
  | .take => "take"
  | .drop _ _ => "drop"
  | .drop1 _ => "drop"
  | .goTo _ => "go_to"
inductive Ans where
  | non | bad | num (n : Int) | due (e : En)
def isDue (n : Int) : List En → Option En
  | [] => none
  | e :: _ => if e.t = n then some e else none
def late (es : List En) (t : Int) : Prop := ∃ e ∈ es, e.t < t
instance (es : List En) (t : Int) : Decidable (late es t) := inferInstanceAs (Decidable (∃ e ∈ es, e.t < t))
def stepE (n : Int) (es : List En) : Deed → List En
  | .at t w z => if t < n then es else insF (es.filter (keepF w z)) ⟨t, w, z⟩
  | .take => match isDue n es with
    | some _ => es.tail
    | none => es
  | .drop w z => es.filter (keepF w z)
  | .drop1 w => es.filter fun e => decide (e.w ≠ w)
  | .goTo _ => es
def stepT (n : Int) (es : List En) : Deed → Int
  | .goTo t => if t < n ∨ late es t then n else t
  | _ => n
def ansF (n : Int) (es : List En) : Deed → Ans
  | .at t _ _ => if t < n then .bad else .non
  | .take => match isDue n es with
    | some e => .due e
    | none => .bad
  | .drop w z => .num ((es.length : Int) - ((es.filter (keepF w z)).length : Int))
  | .drop1 w => .num ((es.length : Int) - ((es.filter fun e => decide (e.w ≠ w)).length : Int))
  | .goTo t => if t < n ∨ late es t then .bad else .non
theorem cnt_at {es : List En} {t : Int} {L : Nat} (h1 : ∀ e ∈ es.take L, e.t ≤ t) (h2 : ∀ e ∈ es.drop L, t < e.t) : cnt es t = (es.take L).length := by
  unfold cnt
  conv => lhs; rw [← List.take_append_drop L es]
  rw [List.filter_append, List.filter_eq_self.mpr fun e he => decide_eq_true (h1 e he), List.filter_eq_nil_iff.mpr fun e he => by have := h2 e he; simp; omega, List.append_nil]
theorem srt_cnt : ∀ {es : List En} (t : Int), Srt es → (∀ e ∈ es.take (cnt es t), e.t ≤ t) ∧ ∀ e ∈ es.drop (cnt es t), t < e.t
  | [], t, _ => ⟨fun e h => by simp at h, fun e h => by simp at h⟩
  | x :: r, t, h => by
    obtain ⟨hx, hr⟩ := List.pairwise_cons.mp h
    by_cases c : x.t ≤ t
    · have e : cnt (x :: r) t = cnt r t + 1 := by unfold cnt; rw [List.filter_cons_of_pos (by simpa using c)]; rfl
      obtain ⟨a, b⟩ := srt_cnt t hr
      rw [e]
      refine ⟨fun y hy => ?_, fun y hy => b y hy⟩
      rcases List.mem_cons.mp hy with rfl | hy
      · exact c
      · exact a y hy
    · have e : cnt (x :: r) t = 0 := by
        unfold cnt
        rw [List.filter_eq_nil_iff.mpr fun y hy => ?_]
        · rfl
        · rcases List.mem_cons.mp hy with rfl | hy
          · simpa using c
          · have := hx y hy
            simp; omega
      rw [e]
      refine ⟨fun y hy => by simp at hy, fun y hy => ?_⟩
      rcases List.mem_cons.mp hy with rfl | hy
      · omega
      · have := hx y hy
        omega
theorem Srt.filter {es : List En} (h : Srt es) (q : En → Bool) : Srt (es.filter q) := List.Pairwise.sublist List.filter_sublist h
theorem Srt.ins {es : List En} (h : Srt es) (e : En) : Srt (insF es e) := by
  obtain ⟨a, b⟩ := srt_cnt e.t h
  unfold insF
  refine List.pairwise_append.mpr ⟨List.Pairwise.sublist (List.take_sublist _ _) h, List.pairwise_cons.mpr ⟨fun y hy => Int.le_of_lt (b y hy), List.Pairwise.sublist (List.drop_sublist _ _) h⟩, fun x hx y hy => ?_⟩
  rcases List.mem_cons.mp hy with rfl | hy
  · exact a x hx
  · exact Int.le_trans (a x hx) (Int.le_of_lt (b y hy))
theorem ins_len (es : List En) (e : En) : (insF es e).length = es.length + 1 := by
  unfold insF
  rw [List.length_append, List.length_cons, List.length_take, List.length_drop]
  omega
theorem Srt.step {n : Int} {es : List En} (h : Srt es) (D : Deed) : Srt (stepE n es D) := by
  cases D with
  | «at» t w z =>
    show Srt (if t < n then es else _)
    split
    · exact h
    · exact (h.filter _).ins _
  | take =>
    show Srt (match isDue n es with | some _ => es.tail | none => es)
    cases isDue n es with
    | some _ => exact List.Pairwise.sublist (List.tail_sublist _) h
    | none => exact h
  | drop w z => exact h.filter _
  | drop1 w => exact h.filter _
  | goTo t => exact h
theorem step_len (n : Int) (es : List En) (D : Deed) : (stepE n es D).length ≤ es.length + 1 := by
  cases D with
  | «at» t w z =>
    show (if t < n then es else _).length ≤ _
    split
    · omega
    · rw [ins_len]
      have := List.length_filter_le (keepF w z) es
      omega
  | take =>
    show (match isDue n es with | some _ => es.tail | none => es).length ≤ _
    cases isDue n es with
    | some _ => show es.tail.length ≤ _; rw [List.length_tail]; omega
    | none => exact Nat.le_succ _
  | drop w z => exact Nat.le_succ_of_le (List.length_filter_le _ _)
  | drop1 w => exact Nat.le_succ_of_le (List.length_filter_le _ _)
  | goTo t => exact Nat.le_succ _
theorem late_head {e : En} {r : List En} {t : Int} (h : Srt (e :: r)) : late (e :: r) t ↔ e.t < t := by
  constructor
  · rintro ⟨x, hx, lt⟩
    rcases List.mem_cons.mp hx with rfl | hx
    · exact lt
    · have := (List.pairwise_cons.mp h).1 x hx
      omega
  · exact fun lt => ⟨e, List.mem_cons_self, lt⟩
abbrev Ds := List (Addr × En)
def vsD (ds : Ds) : List V := ds.map fun d => V.ref d.1
def esD (ds : Ds) : List En := ds.map (·.2)
def insD (ds : Ds) (d : Addr × En) : Ds := ds.take (cnt (esD ds) d.2.t) ++ d :: ds.drop (cnt (esD ds) d.2.t)
theorem ins_es (ds : Ds) (d : Addr × En) : esD (insD ds d) = insF (esD ds) d.2 := by
  unfold esD insD insF
  rw [List.map_append, List.map_cons, List.map_take, List.map_drop]; rfl
theorem flt_es (ds : Ds) (q : En → Bool) : esD (ds.filter fun d => q d.2) = (esD ds).filter q := by
  unfold esD
  rw [List.filter_map]; rfl
theorem len_es (ds : Ds) : (esD ds).length = ds.length := List.length_map _
theorem len_vs (ds : Ds) : (vsD ds).length = ds.length := List.length_map _
theorem mov_snoc {α β : Type} (f : α → β) (z : β) (ds : List α) (d : α) {L : Nat} (h : L ≤ ds.length) : moved z ((ds ++ [d]).map f) L = (ds.take L ++ d :: ds.drop L).map f := by
  unfold moved
  have l : ((ds ++ [d]).map f).length - 1 = ds.length := by simp
  rw [l, List.map_append, List.map_append, List.map_cons, List.map_cons, List.map_nil]
  have e1 : (ds.map f ++ [f d]).take L = (ds.take L).map f := by rw [List.take_append_of_le_length (by simpa using h), List.map_take]
  have e2 : (ds.map f ++ [f d]).getD ds.length z = f d := by simp
  have e3 : ((ds.map f ++ [f d]).drop L).take (ds.length - L) = (ds.drop L).map f := by
    rw [List.drop_append_of_le_length (by simpa using h), List.take_append_of_le_length (by simp), ← List.map_drop, List.take_of_length_le (by simp)]
  rw [e1, e2, e3]
theorem last_cnt {ds : Ds} {d : Addr × En} {L : Nat} (h : LastTo (((ds ++ [d]).map fun x => (x.1, x.2.t)).map (·.2)) L) : L ≤ ds.length ∧ cnt (esD ds) d.2.t = L := by
  obtain ⟨h1, h2, h3⟩ := h
  rw [List.map_map] at h1 h2 h3
  have l : ((ds ++ [d]).map ((fun x => x.2) ∘ fun x : Addr × En => (x.1, x.2.t))).length - 1 = ds.length := by simp
  rw [l] at h1 h2 h3
  have at_ : ∀ i (hi : i < ds.length), ((ds ++ [d]).map ((fun x => x.2) ∘ fun x : Addr × En => (x.1, x.2.t))).getD i 0 = ds[i].2.t := fun i hi => by
    rw [List.getD_eq_getElem?_getD, List.getElem?_map, List.getElem?_append_left hi, List.getElem?_eq_getElem hi]; rfl
  have la : ((ds ++ [d]).map ((fun x => x.2) ∘ fun x : Addr × En => (x.1, x.2.t))).getD ds.length 0 = d.2.t := by simp
  rw [la] at h2 h3
  refine ⟨h1, ?_⟩
  rw [cnt_at (L := L)]
  · rw [List.length_take, len_es]; omega
  · intro e he
    obtain ⟨i, hi, rfl⟩ := List.mem_iff_getElem.mp he
    have hi2 : i < L ∧ i < ds.length := by rw [List.length_take, len_es] at hi; omega
    have := h2 i hi2.1
    rw [at_ i hi2.2] at this
    simpa [esD] using this
  · intro e he
    obtain ⟨i, hi, rfl⟩ := List.mem_iff_getElem.mp he
    have hi2 : L + i < ds.length := by rw [List.length_drop, len_es] at hi; omega
    have := h3 (L + i) (by omega) hi2
    rw [at_ _ hi2] at this
    simpa [esD] using this
def lamQ : Str := (("_law_told" : Str) ++ ".<locals>.") ++ "<lambda>"

def top (i : Nat) : Stmt := PySem.Challenge.pw_nightwatch_k30_a_clock.main.body.getD i (.Pass ⟨0, 0, 0, 0⟩)

set_option genInjectivity false in
structure Tx (K : PySem.W.Frag) (mg : Str → Option Value) (c_tab p_tab : Addr) where
  d_l_mixed : Def K mg "_law_mixed" (top 6) ["_law_cell", "_law_k"]
  d_l_due : Def K mg "_law_due" (top 7) ["_law_model"]
  d_l_drawn : Def K mg "_law_drawn" (top 8) ["_law_model", "_law_x"]
  d_l_told : Def K mg "_law_told" (top 9) ["_law_model", "_law_deed"]
  d_l_done : Def K mg "_law_done" (top 10) ["_law_clock", "_law_deed"]
  d_l_whole : Def K mg "_law_whole" (top 11) ["_law_found"]
  d_l_same : Def K mg "_law_same" (top 12) ["_law_clock", "_law_model", "_law_x", "_law_many"]
  C_Clock : Addr
  k_Clock : Cls K C_Clock
  h_Clock : mg "Clock" = some (.ref C_Clock)
  n_Clock_tick : NoAttr K C_Clock "tick"
  n_Clock_standing : NoAttr K C_Clock "standing"
  m_Clock___init__ : MDef K C_Clock "__init__" "Clock.__init__" (inClass (top 4) 0) ["self"]
  m_Clock_now : MDef K C_Clock "now" "Clock.now" (inClass (top 4) 1) ["self"]
  m_Clock_at : MDef K C_Clock "at" "Clock.at" (inClass (top 4) 2) ["self", "time", "who", "what"]
  m_Clock_due : MDef K C_Clock "due" "Clock.due" (inClass (top 4) 3) ["self"]
  m_Clock_take : MDef K C_Clock "take" "Clock.take" (inClass (top 4) 4) ["self"]
  m_Clock_next_time : MDef K C_Clock "next_time" "Clock.next_time" (inClass (top 4) 5) ["self"]
  m_Clock_dues : MDef K C_Clock "dues" "Clock.dues" (inClass (top 4) 6) ["self"]
  m_Clock_drop : MDefD K C_Clock "drop" "Clock.drop" (inClass (top 4) 7) ["self", "who", "what"]
  m_Clock_go_to : MDef K C_Clock "go_to" "Clock.go_to" (inClass (top 4) 8) ["self", "time"]
  M_Clock : Mk K C_Clock m_Clock___init__.f
  C_BadClock : Addr
  x_BadClock : XCls K mg "BadClock" C_BadClock
  code_told : d_l_told.fd.code = .ref c_tab
  n_len : mg "len" = none
  n_sorted : mg "sorted" = none
  n_list : mg "list" = none
  n_range : mg "range" = none
  n_enumerate : mg "enumerate" = none
  n_isinstance : mg "isinstance" = none
  n_int : mg "int" = none
  n_bool : mg "bool" = none
  n_min : mg "min" = none
  n_max : mg "max" = none
section
variable {P : Program} {w : World} {K : PySem.W.Frag} {mg : Str → Option Value} {base : Heap} {c_tab p_tab : Addr}
seal PE PT PW PA PS PSs PG PGs PI PC PTs PO
def LsAt (H : Hp) (a : Addr) (ds : Ds) : Prop := H a = some (.lst (vsD ds)) ∧ ∀ d ∈ ds, H d.1 = some (.tup d.2.vs)
theorem LsAt.same {H H' : Hp} {a : Addr} {ds : Ds} (h : LsAt H a ds) (s : Same H H') : LsAt H' a ds := ⟨s _ _ h.1, fun d hd => s _ _ (h.2 d hd)⟩
theorem LsAt.kept {H H' : Hp} {a : Addr} {ds : Ds} (h : LsAt H a ds) (h1 : ∀ l, H a = some (.lst l) → H' a = some (.lst l)) (h2 : ∀ c l, H c = some (.tup l) → H' c = some (.tup l)) : LsAt H' a ds := ⟨h1 _ h.1, fun d hd => h2 _ _ (h.2 d hd)⟩
def flC (n : Int) (p : Addr) : List (Str × V) := [("tick", .int n), ("standing", .ref p)]
structure CkAt (C : Addr) (H : Hp) (x p : Addr) (n : Int) (ds : Ds) : Prop where
  ob : ∃ dx, H x = some (.ins C dx (flC n p))
  ls : LsAt H p ds
theorem CkAt.same {C : Addr} {H H' : Hp} {x p : Addr} {n : Int} {ds : Ds} (h : CkAt C H x p n ds) (s : Same H H') : CkAt C H' x p n ds := by
  obtain ⟨⟨dx, h1⟩, h2⟩ := h
  exact ⟨⟨dx, s _ _ h1⟩, h2.same s⟩
theorem flC_t (n : Int) (p : Addr) : (flC n p).lookup ("tick" : Str) = some (.int n) := by rfl
theorem flC_s (n : Int) (p : Addr) : (flC n p).lookup ("standing" : Str) = some (.ref p) := by rfl
def But (d : Addr) (H H' : Hp) : Prop := ∀ c o, c ≠ d → H c = some o → H' c = some o
theorem But.refl (d : Addr) (H : Hp) : But d H H := fun _ _ _ h => h
theorem But.trans {d : Addr} {H H1 H2 : Hp} (a : But d H H1) (b : But d H1 H2) : But d H H2 := fun c o n h => b c o n (a c o n h)
theorem But.of {d : Addr} {H H' : Hp} (s : Same H H') : But d H H' := fun c o _ h => s c o h
theorem But.upd {d : Addr} {H : Hp} {u : HO} : But d H (L2.upd H d u) := fun c o n h => by rw [upd_ne n]; exact h
def Frm (x p : Addr) (H H' : Hp) : Prop := ∀ c o, c ≠ x → c ≠ p → H c = some o → H' c = some o
theorem Frm.of {x p : Addr} {H H' : Hp} (s : Same H H') : Frm x p H H' := fun c o _ _ h => s c o h
theorem Frm.x {x p : Addr} {H H' : Hp} (s : But x H H') : Frm x p H H' := fun c o n _ h => s c o n h
theorem Frm.p {x p : Addr} {H H' : Hp} (s : But p H H') : Frm x p H H' := fun c o _ n h => s c o n h
def mdK (n : Int) (q : Addr) : List (Key × V) := [(Sum.inr "tick", .int n), (Sum.inr "dues", .ref q)]
structure MdAt (H : Hp) (m q : Addr) (n : Int) (ds : Ds) : Prop where
  dc : H m = some (.dK (mdK n q))
  ls : LsAt H q ds
theorem MdAt.same {H H' : Hp} {m q : Addr} {n : Int} {ds : Ds} (h : MdAt H m q n ds) (s : Same H H') : MdAt H' m q n ds := ⟨s _ _ h.dc, h.ls.same s⟩
theorem mdK_t (n : Int) (q : Addr) : valV (mdK n q) (Sum.inr "tick" : Key) = some (.int n) := by rfl
theorem mdK_d (n : Int) (q : Addr) : valV (mdK n q) (Sum.inr "dues" : Key) = some (.ref q) := by rfl
theorem MdAt.getT {H : Hp} {m q : Addr} {n : Int} {ds : Ds} (h : MdAt H m q n ds) : DGet H m (.str "tick") (some (.int n)) := by
  have := DGet.k (k := Sum.inr "tick") h.dc
  rw [mdK_t] at this
  exact this
theorem MdAt.getD {H : Hp} {m q : Addr} {n : Int} {ds : Ds} (h : MdAt H m q n ds) : DGet H m (.str "dues") (some (.ref q)) := by
  have := DGet.k (k := Sum.inr "dues") h.dc
  rw [mdK_d] at this
  exact this
def nextV : Ds → V
  | [] => .non
  | d :: _ => .int d.2.t
def dueV (n : Int) : Ds → V
  | [] => .non
  | d :: _ => if d.2.t = n then .ref d.1 else .non
def gone (v : V) (e : En) : Prop := v = .non ∨ v = .str e.z
instance (v : V) (e : En) : Decidable (gone v e) := inferInstanceAs (Decidable (_ ∨ _))
def dropD (w : Int) (v : V) (ds : Ds) : Ds := ds.filter fun d => decide (d.2.w ≠ w ∨ ¬ gone v d.2)
def AnsV (H : Hp) : Ans → V → Prop
  | .non, v => v = .non
  | .bad, v => v = .str "BadClock"
  | .num n, v => v = .int n
  | .due e, v => ∃ t, v = .ref t ∧ H t = some (.tup e.vs)
def spInit (C : Addr) : Sp := fun vs H Q _ => ∃ (x dx : Addr), vs = [.ref x] ∧ H x = some (.ins C dx []) ∧ ∀ p H', But x H H' → H p = none → CkAt C H' x p 0 [] → Q .non H'
def spNow (C : Addr) : Sp := fun vs H Q _ => ∃ (x p : Addr) (n : Int) (ds : Ds), vs = [.ref x] ∧ CkAt C H x p n ds ∧ Q (.int n) H
def spNext (C : Addr) : Sp := fun vs H Q _ => ∃ (x p : Addr) (n : Int) (ds : Ds), vs = [.ref x] ∧ CkAt C H x p n ds ∧ ∀ H', Same H H' → Q (nextV ds) H'
def spDue (C : Addr) : Sp := fun vs H Q _ => ∃ (x p : Addr) (n : Int) (ds : Ds), vs = [.ref x] ∧ CkAt C H x p n ds ∧ ∀ H', Same H H' → Q (dueV n ds) H'
def spDues (C : Addr) : Sp := fun vs H Q _ => ∃ (x p : Addr) (n : Int) (ds : Ds), vs = [.ref x] ∧ CkAt C H x p n ds ∧ ∀ l H', H l = none → Same H H' → H' l = some (.lst (vsD ds)) → Q (.ref l) H'
def spDrop (C : Addr) : Sp := fun vs H Q _ => ∃ (x p : Addr) (n : Int) (ds : Ds) (w : Int) (v : V), vs = [.ref x, .int w, v] ∧ CkAt C H x p n ds ∧ ds.length ≤ 100 ∧ (v = .non ∨ ∃ z, v = .str z) ∧
  ∀ p' H', But x H H' → H p' = none → CkAt C H' x p' n (dropD w v ds) → Q (.int ((ds.length : Int) - ((dropD w v ds).length : Int))) H'
def spAt (C X : Addr) : Sp := fun vs H Q E => ∃ (x p : Addr) (n : Int) (ds : Ds) (t w : Int) (z : Str), vs = [.ref x, .int t, .int w, .str z] ∧ CkAt C H x p n ds ∧ ds.length ≤ 100 ∧ (t < n → E (.ref X) none H) ∧
  (¬ t < n → ∀ p' ds' H', But x H H' → H p' = none → CkAt C H' x p' n ds' → esD ds' = insF ((esD ds).filter (keepF w z)) ⟨t, w, z⟩ → Q .non H')
def spTake (C X : Addr) : Sp := fun vs H Q E => ∃ (x p : Addr) (n : Int) (ds : Ds), vs = [.ref x] ∧ CkAt C H x p n ds ∧ (isDue n (esD ds) = none → ∀ H', Same H H' → E (.ref X) none H') ∧
  (∀ d r, ds = d :: r → d.2.t = n → ∀ H', But p H H' → CkAt C H' x p n r → Q (.ref d.1) H')
def spGoTo (C X : Addr) : Sp := fun vs H Q E => ∃ (x p : Addr) (n : Int) (ds : Ds) (t : Int), vs = [.ref x, .int t] ∧ CkAt C H x p n ds ∧ Srt (esD ds) ∧ (t < n ∨ late (esD ds) t → ∀ H', Same H H' → E (.ref X) none H') ∧
  (¬ (t < n ∨ late (esD ds) t) → ∀ H', But x H H' → CkAt C H' x p t ds → Q .non H')
def spMixed : Sp := fun vs H Q _ => ∃ (a k : Int), vs = [.int a, .int k] ∧ ∀ n : Int, 0 ≤ n → Q (.int n) H
def spLDue (K : PySem.W.Frag) : Sp := fun vs H Q _ => ∃ (m q : Addr) (n : Int) (ds : Ds), vs = [.ref m] ∧ MdAt H m q n ds ∧ ∀ H', Same H H' → Q (dueV n ds) H'
def spDrawn (K : PySem.W.Frag) : Sp := fun vs H Q _ => ∃ (m q : Addr) (n : Int) (ds : Ds) (x : Int), vs = [.ref m, .int x] ∧ MdAt H m q n ds ∧ ds.length ≤ 100 ∧ ∀ (D : Deed) (p : Addr) (H' : Hp), H p = none → Same H H' → H' p = some (.tup D.vs) → Q (.ref p) H'
def ButT (m : Addr) (H H' : Hp) : Prop := ∀ c o, c ≠ m → (∀ ps, o ≠ .tbl ps) → H c = some o → H' c = some o
theorem ButT.of {m : Addr} {H H' : Hp} (s : Same H H') : ButT m H H' := fun c o _ _ h => s c o h
theorem ButT.ofT {m : Addr} {H H' : Hp} (s : SameT H H') : ButT m H H' := fun c o _ n h => s c o h n
theorem ButT.trans {m : Addr} {H H1 H2 : Hp} (a : ButT m H H1) (b : ButT m H1 H2) : ButT m H H2 := fun c o n t h => b c o n t (a c o n t h)
theorem ButT.upd {m : Addr} {H : Hp} {u : HO} : ButT m H (L2.upd H m u) := fun c o n _ h => by rw [upd_ne n]; exact h
abbrev lpos : Pos := ⟨82, 129, 82, 157⟩
def spTold (K : PySem.W.Frag) (P : Addr) : Sp := fun vs H Q _ => ∃ (m q d : Addr) (n : Int) (ds : Ds) (D : Deed), vs = [.ref m, .ref d] ∧ MdAt H m q n ds ∧ ds.length ≤ 50 ∧ Srt (esD ds) ∧ H d = some (.tup D.vs) ∧ TabOk lamQ lpos P H ∧
  ∀ v H' q' ds', ButT m H H' → TabOk lamQ lpos P H' → (q' = q ∨ ∀ xs, H q' ≠ some (.lst xs)) → MdAt H' m q' (stepT n (esD ds) D) ds' → esD ds' = stepE n (esD ds) D → AnsV H' (ansF n (esD ds) D) v → Q v H'
def spDone (C : Addr) : Sp := fun vs H Q _ => ∃ (x p d : Addr) (n : Int) (ds : Ds) (D : Deed), vs = [.ref x, .ref d] ∧ CkAt C H x p n ds ∧ ds.length ≤ 50 ∧ Srt (esD ds) ∧ H d = some (.tup D.vs) ∧
  ∀ v H' p' ds', Frm x p H H' → (p' = p ∨ H p' = none) → CkAt C H' x p' (stepT n (esD ds) D) ds' → esD ds' = stepE n (esD ds) D → AnsV H' (ansF n (esD ds) D) v → Q v H'
def spWhole : Sp := fun vs H Q _ => ∃ n : Int, vs = [.int n] ∧ Q (.bl true) H
def spSame (C : Addr) : Sp := fun vs H Q _ => ∃ (x p m q : Addr) (n : Int) (ds es : Ds) (z k : Int), vs = [.ref x, .ref m, .int z, .int k] ∧ CkAt C H x p n ds ∧ MdAt H m q n es ∧ esD ds = esD es ∧ ds.length ≤ 100 ∧ 0 ≤ k ∧ k ≤ 4 ∧ ∀ H', Same H H' → Q (.bl true) H'
def spLaw (K : PySem.W.Frag) (P : Addr) : Sp := fun vs H Q _ => ∃ (a : Addr) (ns : List Int), vs = [.ref a] ∧ SqL K H a (ns.map V.int) ∧ ns.length ≤ 63 ∧ TabOk lamQ lpos P H ∧ ∀ H', Q (.bl true) H'
theorem small1000 {n : Nat} (h : n ≤ 1000) : n < sizeLine := by
  rw [PySem.sizeLine_eq]; omega
theorem nilD {K : PySem.W.Frag} {neg : Bool} {G : Hp} {a : Addr} {ds : Ds} {R : VK} (h : G a = some (.lst (vsD ds))) (k : ∀ G', Same G G' → R (.bl (neg ^^ decide (ds = []))) G') : 0 ≤ sizeLine ∧ ∀ p, G p = none → rEqL K neg (.ref a) (.ref p) (upd G p (.lst [])) R := by
  refine ⟨by decide, fun p hp => ⟨a, p, _, _, 0, fun _ => true, rfl, rfl, SqL.of ((Same.upd hp) _ _ h), SqL.of upd_same, by decide, (fun i x y _ ey => by simp at ey), ?_⟩⟩
  have := k _ (Same.upd (o := .lst []) hp)
  cases ds with
  | nil => exact this
  | cons x r => exact this
theorem eqd_flat {K : PySem.W.Frag} {H : Hp} {n : Nat} {x : V} (h : flatV x = true) (e : eqV x x = true) : EqD K H n x x true := by
  have := EqD.flat (K := K) (H := H) (n := n) h h
  rw [e] at this
  exact this
theorem eqV_int (i : Int) : eqV (.int i) (.int i) = true := by show (i == i) = true; simp
theorem eqV_str (z : Str) : eqV (.str z) (.str z) = true := by show (z == z) = true; simp
theorem en_eq {K : PySem.W.Frag} {H : Hp} {n : Nat} (e : En) : ∀ (i : Nat) (x y : V), e.vs[i]? = some x → e.vs[i]? = some y → EqD K H n x y true := fun i x y ex ey => by
  rw [ex] at ey
  cases ey
  have m : x ∈ e.vs := List.mem_of_getElem? ex
  rcases List.mem_cons.mp m with rfl | m
  · exact eqd_flat rfl (eqV_int _)
  · rcases List.mem_cons.mp m with rfl | m
    · exact eqd_flat rfl (eqV_int _)
    · rw [List.mem_singleton.mp m]
      exact eqd_flat rfl (eqV_str _)
theorem eqd_tup {K : PySem.W.Frag} {H : Hp} {n : Nat} {a b : Addr} {e : En} (ha : H a = some (.tup e.vs)) (hb : H b = some (.tup e.vs)) : EqD K H (n + 1) (.ref a) (.ref b) true := by
  by_cases q : a = b
  · subst q; exact .same
  · have := EqD.tup (n := n) (e := fun _ => true) (SqT.of (K := K) ha) (SqT.of hb) q (en_eq e)
    have z : ((List.range (min e.vs.length e.vs.length)).all (fun _ => true) && e.vs.length == e.vs.length) = true := by simp
    rw [z] at this
    exact this
theorem eqDs {K : PySem.W.Frag} {neg : Bool} {H : Hp} {a b : Addr} {ds es : Ds} {R : VK} (ha : LsAt H a ds) (hb : LsAt H b es) (h : esD ds = esD es) (k : R (.bl (neg ^^ true)) H) : rEqL K neg (.ref a) (.ref b) H R := by
  have hl : ds.length = es.length := by rw [← len_es, h, len_es]
  refine ⟨a, b, _, _, 1, fun _ => true, rfl, rfl, SqL.of ha.1, SqL.of hb.1, by decide, fun i x y ex ey => ?_, ?_⟩
  · unfold vsD at ex ey
    rw [List.getElem?_map] at ex ey
    cases e1 : ds[i]? with
    | none => rw [e1] at ex; cases ex
    | some d =>
      cases e2 : es[i]? with
      | none => rw [e2] at ey; cases ey
      | some e =>
        rw [e1] at ex; rw [e2] at ey
        cases ex; cases ey
        have q : (esD ds)[i]? = some d.2 := by unfold esD; rw [List.getElem?_map, e1]; rfl
        have q2 : (esD es)[i]? = some e.2 := by unfold esD; rw [List.getElem?_map, e2]; rfl
        rw [h, q2] at q
        have q3 : e.2 = d.2 := Option.some.inj q
        have h2 := hb.2 e (List.mem_of_getElem? e2)
        rw [q3] at h2
        exact eqd_tup (ha.2 d (List.mem_of_getElem? e1)) h2
  · have e : (decide ((vsD ds).length = (vsD es).length) && (List.range (vsD ds).length).all fun _ => true) = true := by rw [len_vs, len_vs, hl]; simp
    rw [e]
    exact k
theorem eqIt_flat {K : PySem.W.Frag} {H : Hp} {n : Nat} {xs ys : List V} (hx : xs.all flatV = true) (hy : ys.all flatV = true) : EqIt K H n xs ys (fun i => eqV ((xs[i]?).getD .non) ((ys[i]?).getD .non)) := fun i x y ex ey => by
  show EqD K H n x y (eqV ((xs[i]?).getD .non) ((ys[i]?).getD .non))
  rw [ex, ey]
  exact .flat (List.all_eq_true.mp hx x (List.mem_of_getElem? ex)) (List.all_eq_true.mp hy y (List.mem_of_getElem? ey))
theorem neT2 {K : PySem.W.Frag} {H : Hp} {a b : Addr} {w w' : Int} {z z' : Str} {R : VK} (ha : H a = some (.tup [.int w, .str z])) (hb : H b = some (.tup [.int w', .str z'])) (k : R (.bl (decide (¬ (w = w' ∧ z = z')))) H) : rEqT K true (.ref a) (.ref b) H R := by
  refine ⟨a, b, _, _, 0, _, rfl, rfl, SqT.of ha, SqT.of hb, by decide, eqIt_flat rfl rfl, ?_⟩
  have e : (true ^^ ((List.range (min [V.int w, V.str z].length [V.int w', V.str z'].length)).all (fun i => eqV (([V.int w, V.str z][i]?).getD .non) (([V.int w', V.str z'][i]?).getD .non)) && [V.int w, V.str z].length == [V.int w', V.str z'].length)) = decide (¬ (w = w' ∧ z = z')) := by
    show (true ^^ ((List.range 2).all _ && true)) = _
    show (true ^^ ((eqV (.int w) (.int w') && (eqV (.str z) (.str z') && true)) && true)) = _
    show (true ^^ (((w == w') && ((z == z') && true)) && true)) = _
    by_cases c : w = w' <;> by_cases d : z = z' <;> simp [c, d]
  rw [e]
  exact k
theorem neT1 {K : PySem.W.Frag} {H : Hp} {a b : Addr} {w w' : Int} {R : VK} (ha : H a = some (.tup [.int w])) (hb : H b = some (.tup [.int w'])) (k : R (.bl (decide (w ≠ w'))) H) : rEqT K true (.ref a) (.ref b) H R := by
  refine ⟨a, b, _, _, 0, _, rfl, rfl, SqT.of ha, SqT.of hb, by decide, eqIt_flat rfl rfl, ?_⟩
  have e : (true ^^ ((List.range (min [V.int w].length [V.int w'].length)).all (fun i => eqV (([V.int w][i]?).getD .non) (([V.int w'][i]?).getD .non)) && [V.int w].length == [V.int w'].length)) = decide (w ≠ w') := by
    show (true ^^ ((eqV (.int w) (.int w') && true) && true)) = _
    show (true ^^ (((w == w') && true) && true)) = _
    by_cases c : w = w' <;> simp [c]
  rw [e]
  exact k
theorem lc_filt {α : Type} {K : PySem.W.Frag} {a : Addr} {xs : List α} {f : α → V} (q : α → Bool) {sel : List (Option Nat)} {g : TG} {tt : TT} {te : TE} {σ : St} {H : Hp} {Qe : List V → Hp → Prop} (ha : H a = some (.lst (xs.map f))) (hz : xs.length ≤ sizeLine)
    (hs : ∀ x ys G, x ∈ xs → Same H G → g (f x) (selS sel σ) G fun σ2 H2 => tt σ2 H2 fun b H3 => if b = true then te σ2 H3 fun y H4 => Same H H4 ∧ ys ++ [y] = ys ++ (if q x = true then [f x] else []) else Same H H3 ∧ ys = ys ++ (if q x = true then [f x] else []))
    (hd : ∀ G, Same H G → Qe ((xs.filter q).map f) G) : ∃ W : Nat → Nat → List V → Hp → Prop, (∃ m, W 0 m [] H) ∧ lcTurn sel g tt te σ (Itl K a) W Qe := by
  refine lc_list (K := K) (a := a) (xs := xs.map f) (fun i ys G => Same H G ∧ ys = ((xs.take i).filter q).map f) ⟨Same.refl _, rfl⟩ ?_ (by rw [List.length_map]; exact hz) ?_ ?_
  · rintro i ys G hi ⟨s, rfl⟩
    refine ⟨SqL.of (s _ _ ha), ?_⟩
    rw [List.length_map]
    exact Nat.le_trans (List.length_filter_le _ _) (by rw [List.length_take]; omega)
  · rintro i y ys G hi ⟨s, rfl⟩
    rw [List.getElem?_map] at hi
    cases ex : xs[i]? with
    | none => rw [ex] at hi; cases hi
    | some x =>
      rw [ex] at hi
      cases hi
      have e : ((xs.take (i + 1)).filter q).map f = ((xs.take i).filter q).map f ++ (if q x = true then [f x] else []) := by
        rw [List.take_succ, ex, List.filter_append, List.map_append]
        congr 1
        by_cases h : q x = true
        · rw [if_pos h, Option.toList_some, List.filter_cons_of_pos h]; rfl
        · rw [if_neg h, Option.toList_some, List.filter_cons_of_neg h]; rfl
      rw [e]
      exact hs x _ G (List.mem_of_getElem? ex) s
  · rintro ys G ⟨s, rfl⟩
    rw [List.length_map, List.take_length]
    exact hd G s
theorem _root_.L2.Same.over {H G : Hp} {p : Addr} {o : HO} (s : Same H G) (hp : H p = none) : Same H (L2.upd G p o) := fun b u e => by rw [upd_ne (ne_of_none e hp)]; exact s b u e
theorem cut_ints (ns : List Int) (lo hi : Option Int) : ∃ ms : List Int, cutV (ns.map V.int) lo hi = ms.map V.int ∧ ms.length ≤ ns.length := by
  unfold cutV
  refine ⟨(ns.drop (HT.sIx (ns.map V.int).length 0 lo)).take (HT.sIx (ns.map V.int).length (ns.map V.int).length hi - HT.sIx (ns.map V.int).length 0 lo), by rw [List.map_take, List.map_drop], ?_⟩
  rw [List.length_take, List.length_drop]
  omega
theorem inV_gone {v : V} {e : En} (hv : v = .non ∨ ∃ z, v = .str z) : inV v [.non, .str e.z] = decide (gone v e) := by
  unfold gone
  rcases hv with rfl | ⟨z, rfl⟩
  · show (eqV .non .non || (eqV (.str e.z) .non || false)) = _
    simp [eqV]
  · show (eqV .non (.str z) || (eqV (.str e.z) (.str z) || false)) = _
    have h1 : eqV .non (.str z) = false := rfl
    have h2 : eqV (.str e.z) (.str z) = (e.z == z) := rfl
    rw [h1, h2]
    by_cases c : e.z = z
    · simp [c]
    · have c' : ¬ z = e.z := fun q => c q.symm
      simp [c, c']
theorem notIn_gone {K : PySem.W.Frag} {H : Hp} {p : Addr} {v : V} {e : En} {R : VK} (hv : v = .non ∨ ∃ z, v = .str z) (hp : H p = some (.tup [.non, .str e.z])) (k : R (.bl (!decide (gone v e))) H) : rIn K true v (.ref p) H R := by
  have fv : flatV v = true := by rcases hv with rfl | ⟨z, rfl⟩ <;> rfl
  refine ⟨p, _, rfl, .inr (SqT.of hp), fv, rfl, ?_⟩
  rw [inV_gone hv]
  exact k
theorem due_none {n : Int} {ds : Ds} : isDue n (esD ds) = none ↔ dueV n ds = .non := by
  cases ds with
  | nil => exact ⟨fun _ => rfl, fun _ => rfl⟩
  | cons d r =>
    show (if d.2.t = n then some d.2 else none) = none ↔ (if d.2.t = n then V.ref d.1 else .non) = .non
    by_cases c : d.2.t = n
    · rw [if_pos c, if_pos c]
      constructor
      · intro z; cases z
      · intro z; cases z
    · rw [if_neg c, if_neg c]; exact ⟨fun _ => rfl, fun _ => rfl⟩
theorem dropD_str (w : Int) (z : Str) (ds : Ds) : esD (dropD w (.str z) ds) = (esD ds).filter (keepF w z) := by
  unfold dropD
  rw [← flt_es]
  congr 1
  apply List.filter_congr
  intro d _
  have e : gone (.str z) d.2 ↔ d.2.z = z := ⟨fun h => h.elim (fun q => nomatch q) (fun q => (V.str.inj q).symm), fun h => .inr (by rw [h])⟩
  unfold keepF
  rw [decide_eq_decide]
  rw [e]
  by_cases c1 : d.2.w = w <;> by_cases c2 : d.2.z = z <;> simp [c1, c2]
theorem dropD_non (w : Int) (ds : Ds) : esD (dropD w .non ds) = (esD ds).filter fun e => decide (e.w ≠ w) := by
  unfold dropD
  rw [← flt_es]
  congr 1
  apply List.filter_congr
  intro d _
  simp [gone]
theorem cnt_ds (ds : Ds) (t : Int) : ((ds.filter fun d => decide (d.2.t ≤ t)).map fun d => V.ref d.1).length = cnt (esD ds) t := by
  unfold cnt
  rw [List.length_map, ← flt_es ds (fun e => decide (e.t ≤ t)), len_es]
theorem ins_vs (ds : Ds) (d : Addr × En) : (vsD ds).take (cnt (esD ds) d.2.t) ++ V.ref d.1 :: (vsD ds).drop (cnt (esD ds) d.2.t) = vsD (insD ds d) := by
  unfold vsD insD
  rw [List.map_append, List.map_cons, List.map_take, List.map_drop]
theorem cnt_le (es : List En) (t : Int) : cnt es t ≤ es.length := List.length_filter_le _ _
theorem mem_insD {ds : Ds} {d x : Addr × En} (h : x ∈ insD ds d) : x = d ∨ x ∈ ds := by
  unfold insD at h
  rcases List.mem_append.mp h with h | h
  · exact .inr (List.mem_of_mem_take h)
  · rcases List.mem_cons.mp h with h | h
    · exact .inl h
    · exact .inr (List.mem_of_mem_drop h)
theorem ixT {K : PySem.W.Frag} {H : Hp} {d : Addr} {xs : List V} {i : Int} {v : V} {R : VK} (hd : H d = some (.tup xs)) (e : atI xs i = some v) (k : R v H) : rIxT K (.ref d) (.int i) H R := ⟨d, xs, i, v, rfl, rfl, SqT.of hd, e, k⟩
theorem ixL {K : PySem.W.Frag} {H : Hp} {d : Addr} {xs : List V} {i : Int} {v : V} {R : VK} (hd : H d = some (.lst xs)) (e : atI xs i = some v) (k : R v H) : rIxL K (.ref d) (.int i) H R := ⟨d, xs, i, v, rfl, rfl, SqL.of hd, e, k⟩
theorem at_bad {n t w : Int} {z : Str} {es : List En} (c : t < n) : stepE n es (.at t w z) = es ∧ ansF n es (.at t w z) = .bad := ⟨if_pos c, if_pos c⟩
theorem at_ok {n t w : Int} {z : Str} {es : List En} (c : ¬ t < n) : stepE n es (.at t w z) = insF (es.filter (keepF w z)) ⟨t, w, z⟩ ∧ ansF n es (.at t w z) = .non := ⟨if_neg c, if_neg c⟩
theorem take_bad {n : Int} {es : List En} (c : isDue n es = none) : stepE n es .take = es ∧ ansF n es .take = .bad := by
  unfold stepE ansF
  rw [c]
  exact ⟨rfl, rfl⟩
theorem take_ok {n : Int} {e : En} {r : List En} (c : e.t = n) : stepE n (e :: r) .take = r ∧ ansF n (e :: r) .take = .due e := by
  have h : isDue n (e :: r) = some e := if_pos c
  unfold stepE ansF
  rw [h]
  exact ⟨rfl, rfl⟩
theorem go_bad {n t : Int} {es : List En} (c : t < n ∨ late es t) : stepT n es (.goTo t) = n ∧ ansF n es (.goTo t) = .bad := ⟨if_pos c, if_pos c⟩
theorem go_ok {n t : Int} {es : List En} (c : ¬ (t < n ∨ late es t)) : stepT n es (.goTo t) = t ∧ ansF n es (.goTo t) = .non := ⟨if_neg c, if_neg c⟩
theorem drop_len {ds : Ds} {w : Int} {v : V} {es : List En} (h : esD (dropD w v ds) = es) : ((ds.length : Int) - ((dropD w v ds).length : Int)) = (((esD ds).length : Int) - (es.length : Int)) := by rw [← h, len_es, len_es]
theorem slT {K : PySem.W.Frag} {H : Hp} {d : Addr} {xs : List V} (ys : List V) {lo hi : Option Int} {R : VK} (hd : H d = some (.tup xs)) (e : cutV xs lo hi = ys) (hn : HT.sIx xs.length 0 lo ≠ 0) (k : ∀ p G, H p = none → Same H G → G p = some (.tup ys) → R (.ref p) G) : rSlTW K (.ref d) lo hi H R :=
  ⟨d, xs, rfl, SqT.of hd, fun z => absurd z.1 hn, fun _ p hp => by rw [e]; exact k p _ hp (Same.upd hp) upd_same⟩
theorem slE {K : PySem.W.Frag} {H : Hp} {d : Addr} {e : En} {R : VK} (hd : H d = some (.tup e.vs)) (k : ∀ p G, H p = none → Same H G → G p = some (.tup [.int e.w, .str e.z]) → R (.ref p) G) : rSlTW K (.ref d) (some 1) none H R := slT _ hd rfl (show HT.sIx 3 0 (some 1) ≠ 0 by decide) k
theorem slE2 {K : PySem.W.Frag} {H : Hp} {d : Addr} {e : En} {R : VK} (hd : H d = some (.tup e.vs)) (k : ∀ p G, H p = none → Same H G → G p = some (.tup [.int e.w]) → R (.ref p) G) : rSlTW K (.ref d) (some 1) (some 2) H R := slT _ hd rfl (show HT.sIx 3 0 (some 1) ≠ 0 by decide) k
theorem slE3 {K : PySem.W.Frag} {H : Hp} {d : Addr} {e : En} {R : VK} (hd : H d = some (.tup e.vs)) (k : ∀ p G, H p = none → Same H G → G p = some (.tup [.int e.w, .str e.z]) → R (.ref p) G) : rSlTW K (.ref d) (some 1) (some 3) H R := slT _ hd rfl (show HT.sIx 3 0 (some 1) ≠ 0 by decide) k
theorem slA2 {K : PySem.W.Frag} {H : Hp} {d : Addr} {t w : Int} {z : Str} {R : VK} (hd : H d = some (.tup (Deed.vs (.at t w z)))) (k : ∀ p G, H p = none → Same H G → G p = some (.tup [.int w, .str z]) → R (.ref p) G) : rSlTW K (.ref d) (some 2) none H R := slT _ hd rfl (show HT.sIx 4 0 (some 2) ≠ 0 by decide) k
theorem slA1 {K : PySem.W.Frag} {H : Hp} {d : Addr} {t w : Int} {z : Str} {R : VK} (hd : H d = some (.tup (Deed.vs (.at t w z)))) (k : ∀ p G, H p = none → Same H G → G p = some (.tup (En.vs ⟨t, w, z⟩)) → R (.ref p) G) : rSlTW K (.ref d) (some 1) none H R := slT _ hd rfl (show HT.sIx 4 0 (some 1) ≠ 0 by decide) k
theorem slD {K : PySem.W.Frag} {H : Hp} {d : Addr} {w : Int} {z : Str} {R : VK} (hd : H d = some (.tup (Deed.vs (.drop w z)))) (k : ∀ p G, H p = none → Same H G → G p = some (.tup [.int w, .str z]) → R (.ref p) G) : rSlTW K (.ref d) (some 1) none H R := slT _ hd rfl (show HT.sIx 3 0 (some 1) ≠ 0 by decide) k
theorem slD1 {K : PySem.W.Frag} {H : Hp} {d : Addr} {w : Int} {R : VK} (hd : H d = some (.tup (Deed.vs (.drop1 w)))) (k : ∀ p G, H p = none → Same H G → G p = some (.tup [.int w]) → R (.ref p) G) : rSlTW K (.ref d) (some 1) none H R := slT _ hd rfl (show HT.sIx 2 0 (some 1) ≠ 0 by decide) k
def kyD (d : Addr × En) : Addr × Int := (d.1, d.2.t)
theorem up_of {ds : Ds} {d : Addr × En} (so : Srt (esD ds)) : ∀ i j, i < j → j < ((ds ++ [d]).map kyD).length - 1 → (((ds ++ [d]).map kyD).map (·.2)).getD i 0 ≤ (((ds ++ [d]).map kyD).map (·.2)).getD j 0 := by
  intro i j hij hj
  have hj' : j < ds.length := by simpa using hj
  have hi' : i < ds.length := by omega
  have at_ : ∀ i (hi : i < ds.length), (((ds ++ [d]).map kyD).map (·.2)).getD i 0 = ds[i].2.t := fun i hi => by
    rw [List.getD_eq_getElem?_getD, List.getElem?_map, List.getElem?_map, List.getElem?_append_left hi, List.getElem?_eq_getElem hi]; rfl
  rw [at_ i hi', at_ j hj']
  have h := List.pairwise_iff_getElem.mp so i j (by rw [len_es]; exact hi') (by rw [len_es]; exact hj') hij
  simpa [esD] using h
theorem cut1 (x : V) (r : List V) : cutV (x :: r) (some 1) none = r := by
  unfold cutV
  have h1 : HT.sIx (x :: r).length 0 (some ((1 : Nat) : Int)) = 1 := by
    rw [HT.sIx_nat, List.length_cons]; omega
  have h1 : HT.sIx (x :: r).length 0 (some 1) = 1 := h1
  have h2 : HT.sIx (x :: r).length (x :: r).length none = r.length + 1 := rfl
  rw [h1, h2]
  show r.take (r.length + 1 - 1) = r
  exact List.take_of_length_le (by omega)
theorem put_d (n : Int) (q q' : Addr) : putK (mdK n q) (Sum.inr "dues") (.ref q') = mdK n q' := rfl
theorem put_t (n n' : Int) (q : Addr) : putK (mdK n q) (Sum.inr "tick") (.int n') = mdK n' q := rfl
theorem MdAt.putD {H : Hp} {m q q' : Addr} {n : Int} {ds : Ds} (M : MdAt H m q n ds) : DPut H m (.str "dues") (.ref q') (upd H m (.dK (mdK n q'))) := by
  have := DPut.k (k := Sum.inr "dues") (v := .ref q') M.dc (small1000 (show 2 ≤ 1000 by decide))
  rw [put_d] at this
  exact this
theorem MdAt.putT {H : Hp} {m q : Addr} {n n' : Int} {ds : Ds} (M : MdAt H m q n ds) : DPut H m (.str "tick") (.int n') (upd H m (.dK (mdK n' q))) := by
  have := DPut.k (k := Sum.inr "tick") (v := .int n') M.dc (small1000 (show 2 ≤ 1000 by decide))
  rw [put_t] at this
  exact this
theorem MdAt.setD {H : Hp} {m q q' : Addr} {n : Int} {ds ds' : Ds} (M : MdAt H m q n ds) (h : LsAt H q' ds') : MdAt (upd H m (.dK (mdK n q'))) m q' n ds' :=
  ⟨upd_same, h.kept (fun l e => by rw [upd_ne (ne_of e M.dc (fun z => nomatch z))]; exact e) (fun c l e => by rw [upd_ne (ne_of e M.dc (fun z => nomatch z))]; exact e)⟩
theorem MdAt.setT {H : Hp} {m q : Addr} {n n' : Int} {ds : Ds} (M : MdAt H m q n ds) : MdAt (upd H m (.dK (mdK n' q))) m q n' ds :=
  ⟨upd_same, M.ls.kept (fun l e => by rw [upd_ne (ne_of e M.dc (fun z => nomatch z))]; exact e) (fun c l e => by rw [upd_ne (ne_of e M.dc (fun z => nomatch z))]; exact e)⟩
theorem _root_.L2.TabOk.same {q : Str} {pos : Pos} {P : Addr} {H H' : Hp} (h : TabOk q pos P H) (s : Same H H') : TabOk q pos P H' := by
  obtain ⟨ps, h1, h2⟩ := h
  exact ⟨ps, s _ _ h1, h2.imp id fun ⟨c, e, hc⟩ => ⟨c, e, s _ _ hc⟩⟩
theorem _root_.L2.TabOk.but {q : Str} {pos : Pos} {P x : Addr} {H H' : Hp} {o : HO} (h : TabOk q pos P H) (b : But x H H') (hx : H x = some o) (h1 : ∀ ps, o ≠ .tbl ps) (h2 : ∀ φ, o ≠ .ext φ) : TabOk q pos P H' := by
  obtain ⟨ps, e1, e2⟩ := h
  refine ⟨ps, b _ _ (fun z => ?_) e1, e2.imp id fun ⟨c, e, hc⟩ => ⟨c, e, b _ _ (fun z => ?_) hc⟩⟩
  · rw [z, hx] at e1; cases e1; exact h1 _ rfl
  · rw [z, hx] at hc; cases hc; exact h2 _ rfl
theorem lc_map {α : Type} {K : PySem.W.Frag} {a : Addr} {xs : List α} {f g' : α → V} {sel : List (Option Nat)} {g : TG} {tt : TT} {te : TE} {σ : St} {H : Hp} {Qe : List V → Hp → Prop} (ha : H a = some (.lst (xs.map f))) (hz : xs.length ≤ sizeLine)
    (hs : ∀ x ys G, x ∈ xs → Same H G → g (f x) (selS sel σ) G fun σ2 H2 => tt σ2 H2 fun b H3 => if b = true then te σ2 H3 fun y H4 => Same H H4 ∧ ys ++ [y] = ys ++ [g' x] else Same H H3 ∧ ys = ys ++ [g' x])
    (hd : ∀ G, Same H G → Qe (xs.map g') G) : ∃ W : Nat → Nat → List V → Hp → Prop, (∃ m, W 0 m [] H) ∧ lcTurn sel g tt te σ (Itl K a) W Qe := by
  refine lc_list (K := K) (a := a) (xs := xs.map f) (fun i ys G => Same H G ∧ ys = (xs.take i).map g') ⟨Same.refl _, rfl⟩ ?_ (by rw [List.length_map]; exact hz) ?_ ?_
  · rintro i ys G hi ⟨s, rfl⟩
    refine ⟨SqL.of (s _ _ ha), ?_⟩
    rw [List.length_map, List.length_take]; omega
  · rintro i y ys G hi ⟨s, rfl⟩
    rw [List.getElem?_map] at hi
    cases ex : xs[i]? with
    | none => rw [ex] at hi; cases hi
    | some x =>
      rw [ex] at hi
      cases hi
      have e : (xs.take (i + 1)).map g' = (xs.take i).map g' ++ [g' x] := by
        rw [List.take_succ, ex, List.map_append]; rfl
      rw [e]
      exact hs x _ G (List.mem_of_getElem? ex) s
  · rintro ys G ⟨s, rfl⟩
    rw [List.length_map, List.take_length]
    exact hd G s
theorem cut_1 (l : List V) : cutV l none (some 1) = l.take 1 := by
  unfold cutV
  have h1 : HT.sIx l.length 0 none = 0 := rfl
  have h2 : HT.sIx l.length l.length (some ((1 : Nat) : Int)) = min 1 l.length := by rw [HT.sIx_nat]
  have h2 : HT.sIx l.length l.length (some 1) = min 1 l.length := h2
  rw [h1, h2]
  cases l with
  | nil => rfl
  | cons x r => rw [List.length_cons, Nat.min_eq_left (by omega)]; rfl
theorem nextV_es {ds es : Ds} (h : esD ds = esD es) : nextV ds = nextV es := by
  cases ds with
  | nil =>
    cases es with
    | nil => rfl
    | cons e r => cases h
  | cons d r =>
    cases es with
    | nil => cases h
    | cons e r' =>
      have h' : d.2 :: esD r = e.2 :: esD r' := h
      injection h' with h1 _
      show V.int d.2.t = V.int e.2.t
      rw [h1]
theorem eqT {K : PySem.W.Frag} {neg : Bool} {H : Hp} {a b : Addr} {e : En} {R : VK} (ha : H a = some (.tup e.vs)) (hb : H b = some (.tup e.vs)) (k : R (.bl (neg ^^ true)) H) : rEqT K neg (.ref a) (.ref b) H R := by
  refine ⟨a, b, _, _, 0, fun _ => true, rfl, rfl, SqT.of ha, SqT.of hb, by decide, en_eq e, ?_⟩
  have q : ((List.range (min e.vs.length e.vs.length)).all (fun _ => true) && e.vs.length == e.vs.length) = true := by simp
  rw [q]
  exact k
theorem due_eq {K : PySem.W.Frag} {H : Hp} {p q : Addr} {n : Int} {ds es : Ds} {R : VK} (hp : LsAt H p ds) (hq : LsAt H q es) (h : esD ds = esD es) (k : R (.bl false) H) : (scal (dueV n ds) (dueV n es) = true ∧ R (.bl (!decide (dueV n ds = dueV n es))) H) ∨ rEqT K true (dueV n ds) (dueV n es) H R := by
  cases ds with
  | nil =>
    cases es with
    | nil => exact .inl ⟨rfl, k⟩
    | cons e r => cases h
  | cons d r =>
    cases es with
    | nil => cases h
    | cons e r' =>
      have h' : d.2 :: esD r = e.2 :: esD r' := h
      injection h' with h1 _
      by_cases c : d.2.t = n
      · have e1 : dueV n (d :: r) = .ref d.1 := if_pos c
        have e2 : dueV n (e :: r') = .ref e.1 := if_pos (by rw [← h1]; exact c)
        rw [e1, e2]
        have g := hq.2 e List.mem_cons_self
        rw [← h1] at g
        exact .inr (eqT (hp.2 d List.mem_cons_self) g k)
      · have e1 : dueV n (d :: r) = .non := if_neg c
        have e2 : dueV n (e :: r') = .non := if_neg (by rw [← h1]; exact c)
        rw [e1, e2]
        exact .inl ⟨rfl, k⟩
theorem next_scal (ds : Ds) : scal (nextV ds) (nextV ds) = true := by
  cases ds with
  | nil => rfl
  | cons d r => rfl
theorem due_eq2 {K : PySem.W.Frag} {H : Hp} {p q : Addr} {n : Int} {ds es : Ds} {A B : Hp → Prop} (hp : LsAt H p ds) (hq : LsAt H q es) (h : esD ds = esD es) (k : B H) : (scal (dueV n ds) (dueV n es) = true ∧ if (!decide (dueV n ds = dueV n es)) = true then A H else B H) ∨ rEqT K true (dueV n ds) (dueV n es) H (fun x H' => ∃ c, x = .bl c ∧ if c = true then A H' else B H') := by
  rcases due_eq (K := K) (n := n) (R := fun x H' => ∃ c, x = .bl c ∧ if c = true then A H' else B H') hp hq h ⟨false, rfl, bF rfl k⟩ with ⟨h1, c, h2, h3⟩ | h
  · cases h2
    exact .inl ⟨h1, h3⟩
  · exact .inr h
theorem disp_md {σ : St} {H : Hp} {R : VK} (k : ∀ m q G, H m = none → H q = none → Same H G → MdAt G m q 0 [] → R (.ref m) G) : tDisp [(tC (.str "tick"), tC (.int 0)), (tC (.str "dues"), tLst tNil)] σ H R := by
  intro m hm
  simp only [tPairs, tC, tLst, tNil, List.length_nil]
  refine ⟨by decide, fun q hq => ⟨?_, [(Sum.inr "tick", .int 0), (Sum.inr "dues", .ref q)], rfl, (show (2 : Nat) ≤ 15 by decide), ?_⟩⟩
  · rw [upd_ne (fun z => by rw [← z, upd_same] at hq; cases hq), upd_same]
  · have nqm : q ≠ m := fun z => by rw [z, upd_same] at hq; cases hq
    have hq' : H q = none := by rw [upd_ne nqm] at hq; exact hq
    refine k m q _ hm hq' (fun c o e => ?_) ⟨upd_same, by rw [upd_ne nqm, upd_same]; rfl, fun d hd => by cases hd⟩
    rw [upd_ne (ne_of_none e hm), upd_ne (ne_of_none e hq'), upd_ne (ne_of_none e hm)]
    exact e
def pick {α : Type} (a b : α) : Nat → α
  | 0 => a
  | _ => b
theorem at2 {x : Nat → Addr} {j : Nat} (h : j < 2) : [V.ref (x 0), V.ref (x 1)][j]? = some (.ref (x j)) := by
  match j, h with
  | 0, _ => rfl
  | 1, _ => rfl
def setN {α : Type} (P : Nat → α) (i : Nat) (Z : α) : Nat → α := fun j => if j = i then Z else P j
theorem setN_at {α : Type} (P : Nat → α) (i : Nat) (Z : α) : setN P i Z i = Z := if_pos rfl
theorem setN_ne {α : Type} (P : Nat → α) {i j : Nat} (Z : α) (h : j ≠ i) : setN P i Z j = P j := if_neg h
def Pb (he : Addr) (p : Nat → Addr) (c : Addr) : Prop := c ≠ he ∧ ∀ i < 2, c ≠ p i
def PairAt (H : Hp) (B : Addr → Prop) (t : Addr) : Prop := ∃ (a b : Addr) (da db : Ds), H t = some (.tup [.ref a, .ref b]) ∧ B a ∧ B b ∧ LsAt H a da ∧ LsAt H b db ∧ esD da = esD db
theorem PairAt.kept {H H' : Hp} {B B' : Addr → Prop} {u : Addr} (p : PairAt H B u) (h1 : ∀ c l, H c = some (.tup l) → H' c = some (.tup l)) (h2 : ∀ c l, B c → H c = some (.lst l) → H' c = some (.lst l) ∧ B' c) : PairAt H' B' u := by
  obtain ⟨a, b, da, db, g1, g2, g3, g4, g5, g6⟩ := p
  exact ⟨a, b, da, db, h1 _ _ g1, (h2 _ _ g2 g4.1).2, (h2 _ _ g3 g5.1).2, g4.kept (fun l e => (h2 _ _ g2 e).1) h1, g5.kept (fun l e => (h2 _ _ g3 e).1) h1, g6⟩
def Lk (o : HO) : Prop := ∃ xs, o = .lst xs ∨ ∃ ob, o = .frz ob (.lst xs)
structure LwAt (C T : Addr) (H : Hp) (e mo he : Addr) (x p m q : Nat → Addr) (n l : Nat → Int) (ds qs : Nat → Ds) (N : Nat) : Prop where
  ev : H e = some (.lst [.ref (x 0), .ref (x 1)])
  mv : H mo = some (.lst [.ref (m 0), .ref (m 1)])
  pe : Pb he p e
  pmo : Pb he p mo
  ck : ∀ i < 2, CkAt C H (x i) (p i) (n i) (ds i)
  md : ∀ i < 2, MdAt H (m i) (q i) (l i) (qs i)
  pq : ∀ i < 2, Pb he p (q i)
  nx : ∀ i j, i < 2 → j < 2 → i ≠ j → x i ≠ x j
  nm : ∀ i j, i < 2 → j < 2 → i ≠ j → m i ≠ m j
  np : ∀ i j, i < 2 → j < 2 → i ≠ j → p i ≠ p j
  ph : ∀ i < 2, he ≠ p i
  hd : ∃ ts : List Addr, H he = some (.lst (ts.map V.ref)) ∧ ts.length ≤ N ∧ ∀ t ∈ ts, PairAt H (Pb he p) t
  tb : TabOk lamQ lpos T H
section
variable {C T e mo he : Addr} {H H' : Hp} {x p m q : Nat → Addr} {n l : Nat → Int} {ds qs : Nat → Ds} {N : Nat}
theorem LwAt.same (L : LwAt C T H e mo he x p m q n l ds qs N) (s : Same H H') : LwAt C T H' e mo he x p m q n l ds qs N := by
  obtain ⟨ts, h1, h2, h3⟩ := L.hd
  exact ⟨s _ _ L.ev, s _ _ L.mv, L.pe, L.pmo, fun i hi => (L.ck i hi).same s, fun i hi => (L.md i hi).same s, L.pq, L.nx, L.nm, L.np, L.ph, ⟨ts, s _ _ h1, h2, fun u hu => (h3 u hu).kept (fun _ _ h => s _ _ h) (fun c o b h => ⟨s _ _ h, b⟩)⟩, L.tb.same s⟩
theorem LwAt.fre (L : LwAt C T H e mo he x p m q n l ds qs N) {c : Addr} (h : ∀ xs, H c ≠ some (.lst xs)) : Pb he p c := by
  obtain ⟨ts, h1, _⟩ := L.hd
  exact ⟨fun z => h _ (z ▸ h1), fun i hi z => h _ (z ▸ (L.ck i hi).ls.1)⟩
theorem LwAt.told {i : Nat} {q' : Addr} {n' : Int} {ds' : Ds} (L : LwAt C T H e mo he x p m q n l ds qs N) (hi : i < 2) (bt : ButT (m i) H H') (tb : TabOk lamQ lpos T H') (fr : q' = q i ∨ ∀ xs, H q' ≠ some (.lst xs)) (M : MdAt H' (m i) q' n' ds') : LwAt C T H' e mo he x p m (setN q i q') n (setN l i n') ds (setN qs i ds') N := by
  obtain ⟨ts, h1, h2, h3⟩ := L.hd
  have dm := (L.md i hi).dc
  have nl : ∀ {c : Addr} {xs : List V}, H c = some (.lst xs) → H' c = some (.lst xs) := fun {c xs} h => bt c _ (ne_of h dm (fun z => nomatch z)) (fun _ z => nomatch z) h
  have nt : ∀ {c : Addr} {xs : List V}, H c = some (.tup xs) → H' c = some (.tup xs) := fun {c xs} h => bt c _ (ne_of h dm (fun z => nomatch z)) (fun _ z => nomatch z) h
  refine ⟨nl L.ev, nl L.mv, L.pe, L.pmo, fun j hj => ?_, fun j hj => ?_, fun j hj => ?_, L.nx, L.nm, L.np, L.ph, ⟨ts, nl h1, h2, fun u hu => (h3 u hu).kept (fun _ _ h => nt h) (fun c o b h => ⟨nl h, b⟩)⟩, tb⟩
  · obtain ⟨⟨dx, g1⟩, g2⟩ := L.ck j hj
    exact ⟨⟨dx, bt _ _ (ne_of g1 dm (fun z => nomatch z)) (fun _ z => nomatch z) g1⟩, g2.kept (fun _ h => nl h) (fun _ _ h => nt h)⟩
  · by_cases c : j = i
    · subst c
      rw [setN_at, setN_at, setN_at]
      exact M
    · rw [setN_ne _ _ c, setN_ne _ _ c, setN_ne _ _ c]
      obtain ⟨g1, g2⟩ := L.md j hj
      exact ⟨bt _ _ (L.nm j i hj hi c) (fun _ z => nomatch z) g1, g2.kept (fun _ h => nl h) (fun _ _ h => nt h)⟩
  · by_cases c : j = i
    · subst c
      rw [setN_at]
      rcases fr with z | z
      · rw [z]; exact L.pq j hj
      · exact L.fre z
    · rw [setN_ne _ _ c]; exact L.pq j hj
theorem LwAt.done {i : Nat} {p' : Addr} {n' : Int} {ds' : Ds} (L : LwAt C T H e mo he x p m q n l ds qs N) (hi : i < 2) (fm : Frm (x i) (p i) H H') (fr : p' = p i ∨ H p' = none) (B : CkAt C H' (x i) p' n' ds') :
    LwAt C T H' e mo he x (setN p i p') m q (setN n i n') l (setN ds i ds') qs N ∧ (∀ c o, Lk o → Pb he p c → H c = some o → H' c = some o ∧ Pb he (setN p i p') c) ∧ ∀ c xs, H c = some (.tup xs) → H' c = some (.tup xs) := by
  obtain ⟨ts, h1, h2, h3⟩ := L.hd
  obtain ⟨⟨dx, ox⟩, ol⟩ := id (L.ck i hi)
  have nn : ∀ {c : Addr} {o : HO}, H c = some o → c ≠ p i → c ≠ p' := fun {c o} h ne z => by
    rcases fr with w | w
    · exact ne (z.trans w)
    · rw [z, w] at h; cases h
  have pb : ∀ {c : Addr} {o : HO}, H c = some o → Pb he p c → Pb he (setN p i p') c := fun {c o} h b => ⟨b.1, fun j hj => by
    by_cases z : j = i
    · subst z; rw [setN_at]; exact nn h (b.2 j hj)
    · rw [setN_ne _ _ z]; exact b.2 j hj⟩
  have pk : ∀ c xs, Pb he p c → H c = some (.lst xs) → H' c = some (.lst xs) ∧ Pb he (setN p i p') c := fun c xs b h => ⟨fm _ _ (ne_of h ox (fun z => nomatch z)) (b.2 i hi) h, pb h b⟩
  have pL : ∀ c o, Lk o → Pb he p c → H c = some o → H' c = some o ∧ Pb he (setN p i p') c := fun c o lk b h => by
    refine ⟨fm _ _ (ne_of h ox ?_) (b.2 i hi) h, pb h b⟩
    obtain ⟨xs, rfl | ⟨ob, rfl⟩⟩ := lk <;> exact fun z => nomatch z
  have tu : ∀ c xs, H c = some (.tup xs) → H' c = some (.tup xs) := fun c xs h => fm _ _ (ne_of h ox (fun z => nomatch z)) (ne_of h ol.1 (fun z => nomatch z)) h
  refine ⟨⟨(pk _ _ L.pe L.ev).1, (pk _ _ L.pmo L.mv).1, (pk _ _ L.pe L.ev).2, (pk _ _ L.pmo L.mv).2, fun j hj => ?_, fun j hj => ?_, fun j hj => ?_, L.nx, L.nm, fun a b ha hb ne => ?_, fun j hj => ?_, ⟨ts, ?_, h2, fun u hu => (h3 u hu).kept tu (fun c o b h => pk c _ b h)⟩, ?_⟩, pL, tu⟩
  · by_cases c : j = i
    · subst c
      rw [setN_at, setN_at, setN_at]
      exact B
    · rw [setN_ne _ _ c, setN_ne _ _ c, setN_ne _ _ c]
      obtain ⟨⟨dy, g1⟩, g2⟩ := L.ck j hj
      exact ⟨⟨dy, fm _ _ (L.nx j i hj hi c) (ne_of g1 ol.1 (fun z => nomatch z)) g1⟩, g2.kept (fun _ h => fm _ _ (ne_of h ox (fun z => nomatch z)) (L.np j i hj hi c) h) tu⟩
  · obtain ⟨g1, g2⟩ := L.md j hj
    exact ⟨fm _ _ (ne_of g1 ox (fun z => nomatch z)) (ne_of g1 ol.1 (fun z => nomatch z)) g1, g2.kept (fun _ h => (pk _ _ (L.pq j hj) h).1) tu⟩
  · exact (pk _ _ (L.pq j hj) (L.md j hj).ls.1).2
  · by_cases ca : a = i
    · subst ca
      rw [setN_at, setN_ne _ _ (Ne.symm ne)]
      exact fun z => nn (L.ck b hb).ls.1 (L.np b a hb ha (Ne.symm ne)) z.symm
    · rw [setN_ne _ _ ca]
      by_cases cb : b = i
      · subst cb
        rw [setN_at]
        exact nn (L.ck a ha).ls.1 (L.np a b ha hb ne)
      · rw [setN_ne _ _ cb]
        exact L.np a b ha hb ne
  · by_cases c : j = i
    · subst c; rw [setN_at]; exact nn h1 (L.ph j hj)
    · rw [setN_ne _ _ c]; exact L.ph j hj
  · exact fm _ _ (ne_of h1 ox (fun z => nomatch z)) (L.ph i hi) h1
  · obtain ⟨ps, e1, e2⟩ := L.tb
    exact ⟨ps, fm _ _ (ne_of e1 ox (fun z => nomatch z)) (ne_of e1 ol.1 (fun z => nomatch z)) e1, e2.imp id fun ⟨c, ec, hc⟩ => ⟨c, ec, fm _ _ (ne_of hc ox (fun z => nomatch z)) (ne_of hc ol.1 (fun z => nomatch z)) hc⟩⟩
theorem LwAt.up {N' : Nat} (L : LwAt C T H e mo he x p m q n l ds qs N) (h : N ≤ N') : LwAt C T H e mo he x p m q n l ds qs N' := by
  obtain ⟨ts, h1, h2, h3⟩ := L.hd
  exact ⟨L.ev, L.mv, L.pe, L.pmo, L.ck, L.md, L.pq, L.nx, L.nm, L.np, L.ph, ⟨ts, h1, Nat.le_trans h2 h, h3⟩, L.tb⟩
theorem LwAt.push {u : Addr} {Q : VK} (L : LwAt C T H e mo he x p m q n l ds qs N) (hN : N < 1000) (pt : PairAt H (Pb he p) u) (k : ∀ o, LwAt C T (upd H he o) e mo he x p m q n l ds qs (N + 1) → Q .non (upd H he o)) : rAppend (.ref he) [.ref u] H Q := by
  obtain ⟨ts, h1, h2, h3⟩ := L.hd
  refine ⟨he, _, _, rfl, rfl, h1, by rw [List.length_map]; exact small1000 (by omega), k _ ?_⟩
  have bt : But he H (upd H he (.lst (ts.map V.ref ++ [V.ref u]))) := But.upd
  have pk : ∀ c xs, Pb he p c → H c = some (.lst xs) → (upd H he (.lst (ts.map V.ref ++ [V.ref u]))) c = some (.lst xs) ∧ Pb he p c := fun c xs b h => ⟨bt c _ b.1 h, b⟩
  have tu : ∀ c xs, H c = some (.tup xs) → (upd H he (.lst (ts.map V.ref ++ [V.ref u]))) c = some (.tup xs) := fun c xs h => bt c _ (ne_of h h1 (fun z => nomatch z)) h
  refine ⟨bt _ _ L.pe.1 L.ev, bt _ _ L.pmo.1 L.mv, L.pe, L.pmo, fun j hj => ?_, fun j hj => ?_, L.pq, L.nx, L.nm, L.np, L.ph, ⟨ts ++ [u], by rw [upd_same, List.map_append]; rfl, by rw [List.length_append]; exact Nat.succ_le_succ h2, fun u' hu' => ?_⟩, L.tb.but bt h1 (fun _ z => nomatch z) (fun _ z => nomatch z)⟩
  · obtain ⟨⟨dx, g1⟩, g2⟩ := L.ck j hj
    exact ⟨⟨dx, bt _ _ (ne_of g1 h1 (fun z => nomatch z)) g1⟩, g2.kept (fun _ h => bt _ _ (Ne.symm (L.ph j hj)) h) tu⟩
  · obtain ⟨g1, g2⟩ := L.md j hj
    exact ⟨bt _ _ (ne_of g1 h1 (fun z => nomatch z)) g1, g2.kept (fun _ h => bt _ _ (L.pq j hj).1 h) tu⟩
  · rcases List.mem_append.mp hu' with z | z
    · exact (h3 u' z).kept tu pk
    · rw [List.mem_singleton.mp z]; exact pt.kept tu pk
theorem LwAt.heL {K : PySem.W.Frag} (L : LwAt C T H e mo he x p m q n l ds qs N) : ∃ xs, SqL K H he xs := by
  obtain ⟨ts, h1, _⟩ := L.hd
  exact ⟨_, SqL.of h1⟩
end
theorem ans_eq {K : PySem.W.Frag} {H : Hp} {a : Ans} {v u : V} {A B : Hp → Prop} (hv : AnsV H a v) (hu : AnsV H a u) (k : B H) : (scal v u = true ∧ if (!decide (v = u)) = true then A H else B H) ∨ rEqT K true v u H (fun x H' => ∃ c, x = .bl c ∧ if c = true then A H' else B H') := by
  cases a with
  | non => cases hv; cases hu; exact .inl ⟨rfl, bF (by simp) k⟩
  | bad => cases hv; cases hu; exact .inl ⟨rfl, bF (by simp) k⟩
  | num n => cases hv; cases hu; exact .inl ⟨rfl, bF (by simp) k⟩
  | due e =>
    obtain ⟨t, rfl, ht⟩ := hv
    obtain ⟨t', rfl, ht'⟩ := hu
    exact .inr (eqT ht ht' ⟨false, rfl, bF rfl k⟩)
theorem AnsV.kept {H H' : Hp} {a : Ans} {v : V} (h : AnsV H a v) (t : ∀ c xs, H c = some (.tup xs) → H' c = some (.tup xs)) : AnsV H' a v := by
  cases a with
  | non => exact h
  | bad => exact h
  | num n => exact h
  | due e =>
    obtain ⟨y, rfl, hy⟩ := h
    exact ⟨y, rfl, t _ _ hy⟩
def Scr (K : PySem.W.Frag) (G : Hp) (a : Addr) (B : Addr → Prop) (xs : List V) : Prop := ((G a = some (.lst xs) ∨ ∃ o, G a = some (.frz o (.lst xs))) ∧ B a) ∨ ∀ G', SqL K G' a xs
theorem Scr.sq {K : PySem.W.Frag} {G : Hp} {a : Addr} {B : Addr → Prop} {xs : List V} (h : Scr K G a B xs) : SqL K G a xs := by
  rcases h with ⟨h | ⟨o, h⟩, _⟩ | h
  · exact .inl (.inl h)
  · exact .inl (.inr ⟨o, h⟩)
  · exact h G
theorem Scr.kept {K : PySem.W.Frag} {G G' : Hp} {a : Addr} {B B' : Addr → Prop} {xs : List V} (h : Scr K G a B xs) (k : ∀ c o, Lk o → B c → G c = some o → G' c = some o ∧ B' c) : Scr K G' a B' xs := by
  rcases h with ⟨h | ⟨o, h⟩, b⟩ | h
  · have := k a (.lst xs) ⟨xs, .inl rfl⟩ b h
    exact .inl ⟨.inl this.1, this.2⟩
  · have := k a (.frz o (.lst xs)) ⟨xs, .inr ⟨o, rfl⟩⟩ b h
    exact .inl ⟨.inr ⟨o, this.1⟩, this.2⟩
  · exact .inr h
theorem Scr.same {K : PySem.W.Frag} {G G' : Hp} {a : Addr} {B : Addr → Prop} {xs : List V} (h : Scr K G a B xs) (s : Same G G') : Scr K G' a B xs := h.kept fun c o _ b e => ⟨s c o e, b⟩
structure OkN (n l : Int) (ds qs : Ds) (N : Nat) : Prop where
  tm : n = l
  es : esD ds = esD qs
  so : Srt (esD ds)
  ln : ds.length ≤ N
theorem OkN.lq {n l : Int} {ds qs : Ds} {N : Nat} (O : OkN n l ds qs N) : qs.length ≤ N := by
  have := O.ln
  rw [← len_es, O.es, len_es] at this
  exact this
theorem OkN.up {n l : Int} {ds qs : Ds} {N N' : Nat} (O : OkN n l ds qs N) (h : N ≤ N') : OkN n l ds qs N' := ⟨O.tm, O.es, O.so, Nat.le_trans O.ln h⟩
theorem initS {C x dx p : Addr} {H H' : Hp} (nx : H x = none) (ndx : H dx = none) (ne : dx ≠ x) (b : But x (upd (upd H dx (.own x)) x (.ins C dx [])) H') (hp : (upd (upd H dx (.own x)) x (.ins C dx [])) p = none) : Same H H' ∧ H p = none := by
  have s0 : Same H (upd (upd H dx (.own x)) x (.ins C dx [])) := (Same.upd ndx).trans (Same.upd (by rw [upd_ne (Ne.symm ne)]; exact nx))
  exact ⟨fun c u e => b c u (ne_of_none e nx) (s0 _ _ e), s0.free hp⟩
theorem OkN.step {n l : Int} {ds qs ds' qs' : Ds} {N : Nat} {D : Deed} (O : OkN n l ds qs N) (h1 : esD ds' = stepE n (esD ds) D) (h2 : esD qs' = stepE l (esD qs) D) : OkN (stepT n (esD ds) D) (stepT l (esD qs) D) ds' qs' (N + 1) := by
  obtain ⟨rfl, es, so, ln⟩ := O
  refine ⟨by rw [es], by rw [h1, h2, es], by rw [h1]; exact so.step D, ?_⟩
  rw [← len_es, h1]
  exact Nat.le_trans (step_len _ _ _) (by rw [len_es]; omega)


theorem sc_Clock___init__ : FnScope ["self"] ["self"] (defScope (inClass (top 4) 0)) := ⟨rfl, rfl, rfl, by decide +kernel, rfl, by decide +kernel, by decide +kernel⟩
theorem ok_Clock___init__ (T : Tx K mg c_tab p_tab) : FnOk P w K mg base CX0 1 T.m_Clock___init__.f T.m_Clock___init__.fd ["self"] (spInit T.C_Clock) := by
  refine T.m_Clock___init__.F.ok sc_Clock___init__ (fun vs H Q E h => ?_) (fun cdv A outer s H vs Q E hr h => ?_)
  · obtain ⟨x, dx, rfl, _⟩ := h
    rfl
  · obtain ⟨x, dx, rfl, hx, k⟩ := h
    refine ⟨_, (pss_cons (ps_fld (pv 0) pe_int rfl)
    (pss_one (ps_fld (pv 0) (pe_lst pa_nil) rfl))), ?_⟩
    (simp only [tLst, tTup, tDNewK, _root_.L2.start, cxOf_K, cxComp_K, tSeq, tAsg, gName, tRet, tRetN, tDrop, tIfS, tTest, tB, tNot, tAnd, tOr, tAndV, tOrV, tNotV, tOp, tUn, tVar, tC, tCons, tNil, tStrs, tCB, tCall, tChain, tBM, tBM0, tPart, tNoPart, tSl, tIf, tNext, tTrue, selS, Option.bind_none, Option.bind_some, Option.join_some, if_true, rI, rI0, rU, rEq, rNe, rStarts, rSlS, lenV_str, tyV, List.map_cons, List.map_nil, List.length_cons, List.length_nil, List.replicate, List.cons_append, List.nil_append, List.append_nil, Nat.reduceAdd, Nat.reduceSub, Nat.zero_add, Nat.add_zero, Nat.sub_self, List.getElem?_cons_zero, List.getElem?_cons_succ, List.set_cons_zero, List.set_cons_succ, Option.some.injEq, V.int.injEq, V.str.injEq, V.ref.injEq, V.bl.injEq, V.ty.injEq, List.cons.injEq, exists_eq_left, exists_eq_left', exists_eq_right, exists_and_left, exists_eq, and_true, true_and, and_self, and_assoc, tFld, sFld, tMeth, tMake, tDIn, tDNotIn, sDPut, tNever, tDGet, tDGet1, tDGet2, tSortK, tSetLc, iList, tLc])
    refine ⟨_, _, _, hx, T.k_Clock, T.n_Clock_tick, by decide, by decide, fun p hp => ?_⟩
    have ne : p ≠ x := fun z => by rw [z, upd_same] at hp; cases hp
    have hp' : H p = none := by rw [upd_ne ne] at hp; exact hp
    refine ⟨_, _, _, by rw [upd_ne (Ne.symm ne), upd_same], T.k_Clock, T.n_Clock_standing, by show 1 < 1000; decide, k p _ (fun c o hc e => ?_) hp' ⟨⟨dx, upd_same⟩, ?_, fun d hd => by cases hd⟩⟩
    · rw [upd_ne hc, upd_ne (ne_of_none e hp'), upd_ne hc]
      exact e
    · rw [upd_ne ne, upd_same]; rfl
theorem sc_Clock_now : FnScope ["self"] ["self"] (defScope (inClass (top 4) 1)) := ⟨rfl, rfl, rfl, by decide +kernel, rfl, by decide +kernel, by decide +kernel⟩
theorem ok_Clock_now (T : Tx K mg c_tab p_tab) : FnOk P w K mg base CX0 1 T.m_Clock_now.f T.m_Clock_now.fd ["self"] (spNow T.C_Clock) := by
  refine T.m_Clock_now.F.ok sc_Clock_now (fun vs H Q E h => ?_) (fun cdv A outer s H vs Q E hr h => ?_)
  · obtain ⟨x, p, n, ds, rfl, _⟩ := h
    rfl
  · obtain ⟨x, p, n, ds, rfl, Ck, k⟩ := h
    obtain ⟨⟨dx, h1⟩, hl⟩ := id Ck
    refine ⟨_, (pss_one (ps_ret (pe_fld (pv 0) rfl))), ?_⟩
    (simp only [tLst, tTup, tDNewK, _root_.L2.start, cxOf_K, cxComp_K, tSeq, tAsg, gName, tRet, tRetN, tDrop, tIfS, tTest, tB, tNot, tAnd, tOr, tAndV, tOrV, tNotV, tOp, tUn, tVar, tC, tCons, tNil, tStrs, tCB, tCall, tChain, tBM, tBM0, tPart, tNoPart, tSl, tIf, tNext, tTrue, selS, Option.bind_none, Option.bind_some, Option.join_some, if_true, rI, rI0, rU, rEq, rNe, rStarts, rSlS, lenV_str, tyV, List.map_cons, List.map_nil, List.length_cons, List.length_nil, List.replicate, List.cons_append, List.nil_append, List.append_nil, Nat.reduceAdd, Nat.reduceSub, Nat.zero_add, Nat.add_zero, Nat.sub_self, List.getElem?_cons_zero, List.getElem?_cons_succ, List.set_cons_zero, List.set_cons_succ, Option.some.injEq, V.int.injEq, V.str.injEq, V.ref.injEq, V.bl.injEq, V.ty.injEq, List.cons.injEq, exists_eq_left, exists_eq_left', exists_eq_right, exists_and_left, exists_eq, and_true, true_and, and_self, and_assoc, tFld, sFld, tMeth, tMake, tDIn, tDNotIn, sDPut, tNever, tDGet, tDGet1, tDGet2, tSortK, tSetLc, iList, tLc])
    exact ⟨_, _, _, h1, T.k_Clock, T.n_Clock_tick, _, flC_t n p, k⟩
theorem sc_Clock_next_time : FnScope ["self"] ["self"] (defScope (inClass (top 4) 5)) := ⟨rfl, rfl, rfl, by decide +kernel, rfl, by decide +kernel, by decide +kernel⟩
theorem ok_Clock_next_time (T : Tx K mg c_tab p_tab) : FnOk P w K mg base CX0 1 T.m_Clock_next_time.f T.m_Clock_next_time.fd ["self"] (spNext T.C_Clock) := by
  refine T.m_Clock_next_time.F.ok sc_Clock_next_time (fun vs H Q E h => ?_) (fun cdv A outer s H vs Q E hr h => ?_)
  · obtain ⟨x, p, n, ds, rfl, _⟩ := h
    rfl
  · obtain ⟨x, p, n, ds, rfl, Ck, k⟩ := h
    have hu := hu100 hr
    obtain ⟨⟨dx, h1⟩, hl⟩ := id Ck
    refine ⟨_, (pss_one (ps_ret (pe_ifExp (pt_cmpR (op_eqL hu) (pe_fld (pv 0) rfl) (pe_lst pa_nil) (nomark _)) pe_non (pe_ix ix_tup (pe_ix ix_list (pe_fld (pv 0) rfl) pe_int (fun _ _ => rfl)) pe_int (fun _ _ => rfl))))), ?_⟩
    (simp only [tLst, tTup, tDNewK, _root_.L2.start, cxOf_K, cxComp_K, tSeq, tAsg, gName, tRet, tRetN, tDrop, tIfS, tTest, tB, tNot, tAnd, tOr, tAndV, tOrV, tNotV, tOp, tUn, tVar, tC, tCons, tNil, tStrs, tCB, tCall, tChain, tBM, tBM0, tPart, tNoPart, tSl, tIf, tNext, tTrue, selS, Option.bind_none, Option.bind_some, Option.join_some, if_true, rI, rI0, rU, rEq, rNe, rStarts, rSlS, lenV_str, tyV, List.map_cons, List.map_nil, List.length_cons, List.length_nil, List.replicate, List.cons_append, List.nil_append, List.append_nil, Nat.reduceAdd, Nat.reduceSub, Nat.zero_add, Nat.add_zero, Nat.sub_self, List.getElem?_cons_zero, List.getElem?_cons_succ, List.set_cons_zero, List.set_cons_succ, Option.some.injEq, V.int.injEq, V.str.injEq, V.ref.injEq, V.bl.injEq, V.ty.injEq, List.cons.injEq, exists_eq_left, exists_eq_left', exists_eq_right, exists_and_left, exists_eq, and_true, true_and, and_self, and_assoc, tFld, sFld, tMeth, tMake, tDIn, tDNotIn, sDPut, tNever, tDGet, tDGet1, tDGet2, tSortK, tSetLc, iList, tLc])
    refine ⟨_, _, _, h1, T.k_Clock, T.n_Clock_standing, _, flC_s n p, nilD hl.1 fun G s => ⟨_, rfl, ?_⟩⟩
    cases ds with
    | nil => exact bT rfl (k G s)
    | cons d r => exact bF rfl ⟨_, _, _, s _ _ h1, T.k_Clock, T.n_Clock_standing, _, flC_s n p, p, _, _, .ref d.1, rfl, rfl, SqL.of (s _ _ hl.1), atI_nat (j := 0) rfl, d.1, _, _, .int d.2.t, rfl, rfl, SqT.of (s _ _ (hl.2 d List.mem_cons_self)), atI_nat (j := 0) rfl, k G s⟩
theorem sc_Clock_dues : FnScope ["self"] ["self"] (defScope (inClass (top 4) 6)) := ⟨rfl, rfl, rfl, by decide +kernel, rfl, by decide +kernel, by decide +kernel⟩
theorem ok_Clock_dues (T : Tx K mg c_tab p_tab) : FnOk P w K mg base CX0 1 T.m_Clock_dues.f T.m_Clock_dues.fd ["self"] (spDues T.C_Clock) := by
  refine T.m_Clock_dues.F.ok sc_Clock_dues (fun vs H Q E h => ?_) (fun cdv A outer s H vs Q E hr h => ?_)
  · obtain ⟨x, p, n, ds, rfl, _⟩ := h
    rfl
  · obtain ⟨x, p, n, ds, rfl, Ck, k⟩ := h
    obtain ⟨⟨dx, h1⟩, hl⟩ := id Ck
    refine ⟨_, (pss_one (ps_ret (pe_callTy call_list_of (by rfl) T.n_list bt_list (pa_cons (pe_fld (pv 0) rfl) pa_nil)))), ?_⟩
    (simp only [tLst, tTup, tDNewK, _root_.L2.start, cxOf_K, cxComp_K, tSeq, tAsg, gName, tRet, tRetN, tDrop, tIfS, tTest, tB, tNot, tAnd, tOr, tAndV, tOrV, tNotV, tOp, tUn, tVar, tC, tCons, tNil, tStrs, tCB, tCall, tChain, tBM, tBM0, tPart, tNoPart, tSl, tIf, tNext, tTrue, selS, Option.bind_none, Option.bind_some, Option.join_some, if_true, rI, rI0, rU, rEq, rNe, rStarts, rSlS, lenV_str, tyV, List.map_cons, List.map_nil, List.length_cons, List.length_nil, List.replicate, List.cons_append, List.nil_append, List.append_nil, Nat.reduceAdd, Nat.reduceSub, Nat.zero_add, Nat.add_zero, Nat.sub_self, List.getElem?_cons_zero, List.getElem?_cons_succ, List.set_cons_zero, List.set_cons_succ, Option.some.injEq, V.int.injEq, V.str.injEq, V.ref.injEq, V.bl.injEq, V.ty.injEq, List.cons.injEq, exists_eq_left, exists_eq_left', exists_eq_right, exists_and_left, exists_eq, and_true, true_and, and_self, and_assoc, tFld, sFld, tMeth, tMake, tDIn, tDNotIn, sDPut, tNever, tDGet, tDGet1, tDGet2, tSortK, tSetLc, iList, tLc])
    exact ⟨_, _, _, h1, T.k_Clock, T.n_Clock_standing, _, flC_s n p, p, rfl, _, .inl (SqL.of hl.1), fun l hn => k l _ hn (Same.upd hn) upd_same⟩
theorem sc_Clock_drop : FnScope ["self", "who", "what", "kept", "gone"] ["self", "who", "what"] (defScope (inClass (top 4) 7)) := ⟨rfl, rfl, rfl, by decide +kernel, rfl, by decide +kernel, by decide +kernel⟩
theorem ok_Clock_drop (T : Tx K mg c_tab p_tab) : FnOk P w K mg base CX0 1 T.m_Clock_drop.f T.m_Clock_drop.fd ["self", "who", "what"] (spDrop T.C_Clock) := by
  refine T.m_Clock_drop.F.ok sc_Clock_drop (fun vs H Q E h => ?_) (fun cdv A outer s H vs Q E hr h => ?_)
  · obtain ⟨x, p, n, ds, w, v, rfl, _⟩ := h
    rfl
  · obtain ⟨x, p, n, ds, w, v, rfl, Ck, hl100, hv, k⟩ := h
    have hu := hu100 hr
    obtain ⟨⟨dx, h1⟩, hl⟩ := id Ck
    refine ⟨_, (pss_cons (ps_setLc (i := 3) sc_Clock_drop.nd rfl (Or.inl rfl) (N' := ["due", "who", "what"]) (sel := [none, some 1, some 2]) rfl rfl rfl (pi_list (pe_fld (pv 0) rfl)) (gk_name rfl) (fun _ _ _ _ _ => ⟨(pg_name (i := 0) (show (["due", "who", "what"] : List Str).Nodup by decide +kernel) rfl (Or.inl rfl)), (pts_one (PW.pt (pw_or (pt_cmpR op_ne (pe_ix (ix_tupK (K := K) rfl) (pv 0) pe_int (fun _ _ => rfl)) (pv 1) (nomark _)) (pw_or1 (pt_cmpR (op_notIn_seqK (K := K) rfl) (pv 2) (pe_tup (pa_cons pe_non (pa_cons (pe_ix (ix_tupK (K := K) rfl) (pv 0) pe_int (fun _ _ => rfl)) pa_nil))) (by with_unfolding_all rfl)))))), (pv 0)⟩) rfl)
    (pss_cons (ps_set (i := 4) sc_Clock_drop.nd rfl (Or.inl rfl) (pe_op op_sub (pe_callB call_len (by rfl) T.n_len bt_len (pa_cons (pe_fld (pv 0) rfl) pa_nil)) (pe_callB call_len (by rfl) T.n_len bt_len (pa_cons (pv 3) pa_nil))))
    (pss_cons (ps_fld (pv 0) (pv 3) rfl)
    (pss_one (ps_ret (pv 4)))))), ?_⟩
    (simp only [tLst, tTup, tDNewK, _root_.L2.start, cxOf_K, cxComp_K, tSeq, tAsg, gName, tRet, tRetN, tDrop, tIfS, tTest, tB, tNot, tAnd, tOr, tAndV, tOrV, tNotV, tOp, tUn, tVar, tC, tCons, tNil, tStrs, tCB, tCall, tChain, tBM, tBM0, tPart, tNoPart, tSl, tIf, tNext, tTrue, selS, Option.bind_none, Option.bind_some, Option.join_some, if_true, rI, rI0, rU, rEq, rNe, rStarts, rSlS, lenV_str, tyV, List.map_cons, List.map_nil, List.length_cons, List.length_nil, List.replicate, List.cons_append, List.nil_append, List.append_nil, Nat.reduceAdd, Nat.reduceSub, Nat.zero_add, Nat.add_zero, Nat.sub_self, List.getElem?_cons_zero, List.getElem?_cons_succ, List.set_cons_zero, List.set_cons_succ, Option.some.injEq, V.int.injEq, V.str.injEq, V.ref.injEq, V.bl.injEq, V.ty.injEq, List.cons.injEq, exists_eq_left, exists_eq_left', exists_eq_right, exists_and_left, exists_eq, and_true, true_and, and_self, and_assoc, tFld, sFld, tMeth, tMake, tDIn, tDNotIn, sDPut, tNever, tDGet, tDGet1, tDGet2, tSortK, tSetLc, iList, tLc])
    refine ⟨_, _, _, h1, T.k_Clock, T.n_Clock_standing, _, flC_s n p, p, rfl, ⟨_, SqL.of hl.1⟩, lc_filt (K := K) (xs := ds) (f := fun d => V.ref d.1) (fun d => decide (d.2.w ≠ w ∨ ¬ gone v d.2)) hl.1 (Nat.le_of_lt (small1000 (by omega))) ?_ ?_⟩
    · intro d ys G hd s
      (simp only [tLst, tTup, tDNewK, _root_.L2.start, cxOf_K, cxComp_K, tSeq, tAsg, gName, tRet, tRetN, tDrop, tIfS, tTest, tB, tNot, tAnd, tOr, tAndV, tOrV, tNotV, tOp, tUn, tVar, tC, tCons, tNil, tStrs, tCB, tCall, tChain, tBM, tBM0, tPart, tNoPart, tSl, tIf, tNext, tTrue, selS, Option.bind_none, Option.bind_some, Option.join_some, if_true, rI, rI0, rU, rEq, rNe, rStarts, rSlS, lenV_str, tyV, List.map_cons, List.map_nil, List.length_cons, List.length_nil, List.replicate, List.cons_append, List.nil_append, List.append_nil, Nat.reduceAdd, Nat.reduceSub, Nat.zero_add, Nat.add_zero, Nat.sub_self, List.getElem?_cons_zero, List.getElem?_cons_succ, List.set_cons_zero, List.set_cons_succ, Option.some.injEq, V.int.injEq, V.str.injEq, V.ref.injEq, V.bl.injEq, V.ty.injEq, List.cons.injEq, exists_eq_left, exists_eq_left', exists_eq_right, exists_and_left, exists_eq, and_true, true_and, and_self, and_assoc, tFld, sFld, tMeth, tMake, tDIn, tDNotIn, sDPut, tNever, tDGet, tDGet1, tDGet2, tSortK, tSetLc, iList, tLc])
      refine ⟨d.1, _, _, .int d.2.w, rfl, rfl, SqT.of (s _ _ (hl.2 d hd)), atI_nat (j := 1) rfl, ?_⟩
      refine ⟨rfl, ?_⟩
      by_cases cw : d.2.w = w
      · refine bF (by rw [cw]; simp) ⟨d.1, _, _, .str d.2.z, rfl, rfl, SqT.of (s _ _ (hl.2 d hd)), atI_nat (j := 2) rfl, by decide, fun p' hp' => notIn_gone (e := d.2) hv upd_same ⟨_, rfl, ?_⟩⟩
        have s' := s.trans (Same.upd (o := .tup [.non, .str d.2.z]) hp')
        by_cases cg : gone v d.2
        · exact bF (by rw [decide_eq_true cg]; rfl) ⟨s', by rw [if_neg (by simp [cw, cg]), List.append_nil]⟩
        · exact bT (by rw [decide_eq_false cg]; rfl) ⟨s', by rw [if_pos (by simp [cg])]⟩
      · exact bT (by simp [cw]) ⟨s, by rw [if_pos (by simp [cw])]⟩
    · intro G s l hn
      have h1' := (Same.upd (o := .lst ((dropD w v ds).map fun d => V.ref d.1)) hn) _ _ (s _ _ h1)
      refine ⟨_, _, _, h1', T.k_Clock, T.n_Clock_standing, _, flC_s n p, _, .inl ⟨_, SqL.of ((Same.upd hn) _ _ (s _ _ hl.1)), rfl⟩, _, .inl ⟨_, SqL.of upd_same, rfl⟩, _, _, _, h1', T.k_Clock, T.n_Clock_standing, by show 2 < 1000; decide, ?_⟩
      rw [len_vs, List.length_map]
      refine k l _ (fun c o hc e => ?_) (s.free hn) ⟨⟨dx, upd_same⟩, ?_, fun d hd => ?_⟩
      · rw [upd_ne hc]; exact (Same.upd hn) _ _ (s _ _ e)
      · rw [upd_ne (fun z => by rw [← z, upd_same] at h1'; cases h1'), upd_same]; rfl
      · have h2 := (Same.upd (o := .lst ((dropD w v ds).map fun d => V.ref d.1)) hn) _ _ (s _ _ (hl.2 d (List.mem_filter.mp hd).1))
        rw [upd_ne (ne_of h2 h1' (fun z => nomatch z))]
        exact h2
theorem sc_Clock_due : FnScope ["self"] ["self"] (defScope (inClass (top 4) 3)) := ⟨rfl, rfl, rfl, by decide +kernel, rfl, by decide +kernel, by decide +kernel⟩
theorem ok_Clock_due (T : Tx K mg c_tab p_tab)
    (G_Clock_next_time : FnOk P w K mg base CX0 1 T.m_Clock_next_time.f T.m_Clock_next_time.fd ["self"] (spNext T.C_Clock)) : FnOk P w K mg base CX0 2 T.m_Clock_due.f T.m_Clock_due.fd ["self"] (spDue T.C_Clock) := by
  refine T.m_Clock_due.F.ok sc_Clock_due (fun vs H Q E h => ?_) (fun cdv A outer s H vs Q E hr h => ?_)
  · obtain ⟨x, p, n, ds, rfl, _⟩ := h
    rfl
  · obtain ⟨x, p, n, ds, rfl, Ck, k⟩ := h
    have hu := hu100 hr
    obtain ⟨⟨dx, h1⟩, hl⟩ := id Ck
    refine ⟨_, (pss_cons (ps_if (pt_cmpR op_ne (pe_meth0 (pv 0) T.k_Clock T.m_Clock_next_time.me G_Clock_next_time (hr.mono (by omega)) T.m_Clock_next_time.b .nil pass0) (pe_fld (pv 0) rfl) (nomark _))
    (pss_one (ps_ret pe_non))
    pss_nil)
    (pss_one (ps_ret (pe_ix ix_list (pe_fld (pv 0) rfl) pe_int (fun _ _ => rfl))))), ?_⟩
    (simp only [tLst, tTup, tDNewK, _root_.L2.start, cxOf_K, cxComp_K, tSeq, tAsg, gName, tRet, tRetN, tDrop, tIfS, tTest, tB, tNot, tAnd, tOr, tAndV, tOrV, tNotV, tOp, tUn, tVar, tC, tCons, tNil, tStrs, tCB, tCall, tChain, tBM, tBM0, tPart, tNoPart, tSl, tIf, tNext, tTrue, selS, Option.bind_none, Option.bind_some, Option.join_some, if_true, rI, rI0, rU, rEq, rNe, rStarts, rSlS, lenV_str, tyV, List.map_cons, List.map_nil, List.length_cons, List.length_nil, List.replicate, List.cons_append, List.nil_append, List.append_nil, Nat.reduceAdd, Nat.reduceSub, Nat.zero_add, Nat.add_zero, Nat.sub_self, List.getElem?_cons_zero, List.getElem?_cons_succ, List.set_cons_zero, List.set_cons_succ, Option.some.injEq, V.int.injEq, V.str.injEq, V.ref.injEq, V.bl.injEq, V.ty.injEq, List.cons.injEq, exists_eq_left, exists_eq_left', exists_eq_right, exists_and_left, exists_eq, and_true, true_and, and_self, and_assoc, tFld, sFld, tMeth, tMake, tDIn, tDNotIn, sDPut, tNever, tDGet, tDGet1, tDGet2, tSortK, tSetLc, iList, tLc])
    refine ⟨_, _, h1, rfl, x, p, n, ds, rfl, Ck, fun G s => ⟨_, _, _, s _ _ h1, T.k_Clock, T.n_Clock_tick, _, flC_t n p, ?_⟩⟩
    cases ds with
    | nil => exact ⟨rfl, bT rfl (k G s)⟩
    | cons d r =>
      refine ⟨rfl, ?_⟩
      by_cases c : d.2.t = n
      · have k' := k G s
        have e : dueV n (d :: r) = .ref d.1 := if_pos c
        rw [e] at k'
        exact bF (by show (!decide (V.int d.2.t = V.int n)) = false; rw [c]; simp) ⟨_, _, _, s _ _ h1, T.k_Clock, T.n_Clock_standing, _, flC_s n p, p, _, _, .ref d.1, rfl, rfl, SqL.of (s _ _ hl.1), atI_nat (j := 0) rfl, k'⟩
      · have k' := k G s
        have e : dueV n (d :: r) = .non := if_neg c
        rw [e] at k'
        exact bT (by show (!decide (V.int d.2.t = V.int n)) = true; simp [c]) k'
theorem sc_Clock_at : FnScope ["self", "time", "who", "what", "ahead"] ["self", "time", "who", "what"] (defScope (inClass (top 4) 2)) := ⟨rfl, rfl, rfl, by decide +kernel, rfl, by decide +kernel, by decide +kernel⟩
theorem ok_Clock_at (T : Tx K mg c_tab p_tab)
    (G_Clock_drop : FnOk P w K mg base CX0 1 T.m_Clock_drop.f T.m_Clock_drop.fd ["self", "who", "what"] (spDrop T.C_Clock)) : FnOk P w K mg base (CXX P w) 2 T.m_Clock_at.f T.m_Clock_at.fd ["self", "time", "who", "what"] (spAt T.C_Clock T.C_BadClock) := by
  refine T.m_Clock_at.F.okX sc_Clock_at (fun vs H Q E h => ?_) (fun cdv A outer s H vs Q E hr h => ?_)
  · obtain ⟨x, p, n, ds, t, w, z, rfl, _⟩ := h
    rfl
  · obtain ⟨x, p, n, ds, t, w, z, rfl, Ck, hl100, kx, k⟩ := h
    have hu := hu100 hr
    obtain ⟨⟨dx, h1⟩, hl⟩ := id Ck
    refine ⟨_, (pss_cons (ps_if (pt_cmpR op_lt (pv 1) (pe_fld (pv 0) rfl) (nomark _))
    (pss_one (ps_raise leavesX rfl rfl T.x_BadClock))
    pss_nil)
    (pss_cons (ps_expr (pe_meth (pv 0) T.k_Clock T.m_Clock_drop.me G_Clock_drop (hr.mono (by omega)) T.m_Clock_drop.b .nil pass0 (pa_cons (pv 2) (pa_cons (pv 3) pa_nil))))
    (pss_cons (ps_setLc (i := 4) sc_Clock_at.nd rfl (Or.inl rfl) (N' := ["due", "time"]) (sel := [none, some 1]) rfl rfl rfl (pi_list (pe_fld (pv 0) rfl)) (gk_name rfl) (fun _ _ _ _ _ => ⟨(pg_name (i := 0) (show (["due", "time"] : List Str).Nodup by decide +kernel) rfl (Or.inl rfl)), (pts_one (pt_cmpR op_le (pe_ix (ix_tupK (K := K) rfl) (pv 0) pe_int (fun _ _ => rfl)) (pv 1) (nomark _))), (pv 0)⟩) rfl)
    (pss_one (ps_expr (pe_bm PySem.F.plainAttrs_list PySem.F.slot_list_insert PySem.F.type_list_insert mt_insert (pe_fld (pv 0) rfl) (pa_cons (pe_callB call_len (by rfl) T.n_len bt_len (pa_cons (pv 4) pa_nil)) (pa_cons (pe_tup (pa_cons (pv 1) (pa_cons (pv 2) (pa_cons (pv 3) pa_nil)))) pa_nil)))))))), ?_⟩
    (simp only [tLst, tTup, tDNewK, _root_.L2.start, cxOf_K, cxComp_K, tSeq, tAsg, gName, tRet, tRetN, tDrop, tIfS, tTest, tB, tNot, tAnd, tOr, tAndV, tOrV, tNotV, tOp, tUn, tVar, tC, tCons, tNil, tStrs, tCB, tCall, tChain, tBM, tBM0, tPart, tNoPart, tSl, tIf, tNext, tTrue, selS, Option.bind_none, Option.bind_some, Option.join_some, if_true, rI, rI0, rU, rEq, rNe, rStarts, rSlS, lenV_str, tyV, List.map_cons, List.map_nil, List.length_cons, List.length_nil, List.replicate, List.cons_append, List.nil_append, List.append_nil, Nat.reduceAdd, Nat.reduceSub, Nat.zero_add, Nat.add_zero, Nat.sub_self, List.getElem?_cons_zero, List.getElem?_cons_succ, List.set_cons_zero, List.set_cons_succ, Option.some.injEq, V.int.injEq, V.str.injEq, V.ref.injEq, V.bl.injEq, V.ty.injEq, List.cons.injEq, exists_eq_left, exists_eq_left', exists_eq_right, exists_and_left, exists_eq, and_true, true_and, and_self, and_assoc, tFld, sFld, tMeth, tMake, tDIn, tDNotIn, sDPut, tNever, tDGet, tDGet1, tDGet2, tSortK, tSetLc, iList, tLc])
    refine ⟨_, _, _, h1, T.k_Clock, T.n_Clock_tick, _, flC_t n p, _, rfl, ?_⟩
    by_cases c : t < n
    · exact ifT c (kx c)
    refine ifF c ⟨_, _, h1, rfl, x, p, n, ds, w, .str z, rfl, Ck, hl100, .inr ⟨z, rfl⟩, fun p1 G1 b1 hp1 Ck1 => ?_⟩
    have es1 := dropD_str w z ds
    have hl1 : (dropD w (.str z) ds).length ≤ 100 := Nat.le_trans (List.length_filter_le _ _) hl100
    generalize dropD w (.str z) ds = ds1 at Ck1 es1 hl1
    obtain ⟨⟨dx1, g1⟩, gl⟩ := id Ck1
    refine ⟨_, _, _, g1, T.k_Clock, T.n_Clock_standing, _, flC_s n p1, p1, rfl, ⟨_, SqL.of gl.1⟩, lc_filt (K := K) (xs := ds1) (f := fun d => V.ref d.1) (fun d => decide (d.2.t ≤ t)) gl.1 (Nat.le_of_lt (small1000 (by omega))) ?_ ?_⟩
    · intro d ys G hd s
      (simp only [tLst, tTup, tDNewK, _root_.L2.start, cxOf_K, cxComp_K, tSeq, tAsg, gName, tRet, tRetN, tDrop, tIfS, tTest, tB, tNot, tAnd, tOr, tAndV, tOrV, tNotV, tOp, tUn, tVar, tC, tCons, tNil, tStrs, tCB, tCall, tChain, tBM, tBM0, tPart, tNoPart, tSl, tIf, tNext, tTrue, selS, Option.bind_none, Option.bind_some, Option.join_some, if_true, rI, rI0, rU, rEq, rNe, rStarts, rSlS, lenV_str, tyV, List.map_cons, List.map_nil, List.length_cons, List.length_nil, List.replicate, List.cons_append, List.nil_append, List.append_nil, Nat.reduceAdd, Nat.reduceSub, Nat.zero_add, Nat.add_zero, Nat.sub_self, List.getElem?_cons_zero, List.getElem?_cons_succ, List.set_cons_zero, List.set_cons_succ, Option.some.injEq, V.int.injEq, V.str.injEq, V.ref.injEq, V.bl.injEq, V.ty.injEq, List.cons.injEq, exists_eq_left, exists_eq_left', exists_eq_right, exists_and_left, exists_eq, and_true, true_and, and_self, and_assoc, tFld, sFld, tMeth, tMake, tDIn, tDNotIn, sDPut, tNever, tDGet, tDGet1, tDGet2, tSortK, tSetLc, iList, tLc])
      refine ⟨d.1, _, _, .int d.2.t, rfl, rfl, SqT.of (s _ _ (gl.2 d hd)), atI_nat (j := 0) rfl, _, rfl, ?_⟩
      by_cases c2 : d.2.t ≤ t
      · exact ifT c2 ⟨s, by rw [if_pos (decide_eq_true c2)]⟩
      · exact ifF c2 ⟨s, by rw [if_neg (by simpa using c2), List.append_nil]⟩
    · intro G s l hn
      have t1 := Same.upd (o := .lst ((ds1.filter fun d => decide (d.2.t ≤ t)).map fun d => V.ref d.1)) hn
      have sA := s.trans t1
      refine ⟨_, _, _, sA _ _ g1, T.k_Clock, T.n_Clock_standing, _, flC_s n p1, .inl ⟨_, SqL.of (sA _ _ gl.1)⟩, _, .inl ⟨_, SqL.of upd_same, rfl⟩, by decide, fun y hy => ?_⟩
      have t2 := Same.upd (o := .tup (En.vs ⟨t, w, z⟩)) hy
      have sB := sA.trans t2
      have e2 : upd (upd G l (.lst ((ds1.filter fun d => decide (d.2.t ≤ t)).map fun d => V.ref d.1))) y (.tup (En.vs ⟨t, w, z⟩)) y = some (.tup (En.vs ⟨t, w, z⟩)) := upd_same
      rw [cnt_ds]
      refine ⟨p1, _, _, _, rfl, rfl, sB _ _ gl.1, by rw [len_vs, ← len_es]; exact cnt_le _ _, by rw [len_vs]; exact small1000 (by omega), ?_⟩
      rw [ins_vs ds1 (y, ⟨t, w, z⟩)]
      have Ck2 := Ck1.same sB
      clear t1 t2 sA hn hy
      show Q .non (upd (upd (upd G l (.lst ((ds1.filter fun d => decide (d.2.t ≤ t)).map fun d => V.ref d.1))) y (.tup (En.vs ⟨t, w, z⟩))) p1 _)
      generalize upd (upd G l (.lst ((ds1.filter fun d => decide (d.2.t ≤ t)).map fun d => V.ref d.1))) y (.tup (En.vs ⟨t, w, z⟩)) = G2 at sB e2 Ck2 ⊢
      obtain ⟨⟨dx2, f1⟩, fl⟩ := Ck2
      refine k c p1 (insD ds1 (y, ⟨t, w, z⟩)) _ (fun c' o hc e => ?_) hp1 ⟨⟨dx2, ?_⟩, upd_same, fun d hd => ?_⟩ (by rw [ins_es, es1])
      · rw [upd_ne (ne_of_none e hp1)]; exact sB _ _ (b1 _ _ hc e)
      · rw [upd_ne (ne_of f1 fl.1 (fun z => nomatch z))]; exact f1
      · rcases mem_insD hd with rfl | hd
        · rw [upd_ne (ne_of e2 fl.1 (fun z => nomatch z))]; exact e2
        · rw [upd_ne (ne_of (fl.2 d hd) fl.1 (fun z => nomatch z))]; exact fl.2 d hd
theorem sc_Clock_take : FnScope ["self", "first"] ["self"] (defScope (inClass (top 4) 4)) := ⟨rfl, rfl, rfl, by decide +kernel, rfl, by decide +kernel, by decide +kernel⟩
theorem ok_Clock_take (T : Tx K mg c_tab p_tab)
    (G_Clock_due : FnOk P w K mg base CX0 2 T.m_Clock_due.f T.m_Clock_due.fd ["self"] (spDue T.C_Clock)) : FnOk P w K mg base (CXX P w) 3 T.m_Clock_take.f T.m_Clock_take.fd ["self"] (spTake T.C_Clock T.C_BadClock) := by
  refine T.m_Clock_take.F.okX sc_Clock_take (fun vs H Q E h => ?_) (fun cdv A outer s H vs Q E hr h => ?_)
  · obtain ⟨x, p, n, ds, rfl, _⟩ := h
    rfl
  · obtain ⟨x, p, n, ds, rfl, Ck, kx, k⟩ := h
    have hu := hu100 hr
    obtain ⟨⟨dx, h1⟩, hl⟩ := id Ck
    refine ⟨_, (pss_cons (ps_set (i := 1) sc_Clock_take.nd rfl (Or.inl rfl) (pe_meth0 (pv 0) T.k_Clock T.m_Clock_due.me G_Clock_due (hr.mono (by omega)) T.m_Clock_due.b .nil pass0))
    (pss_cons (ps_if (pt_cmpR op_isN (pv 1) pe_non (nomark _))
    (pss_one (ps_raise leavesX rfl rfl T.x_BadClock))
    pss_nil)
    (pss_cons (ps_expr (pe_bm PySem.F.plainAttrs_list PySem.F.slot_list_pop PySem.F.type_list_pop mt_popAt (pe_fld (pv 0) rfl) (pa_cons pe_int pa_nil)))
    (pss_one (ps_ret (pv 1)))))), ?_⟩
    (simp only [tLst, tTup, tDNewK, _root_.L2.start, cxOf_K, cxComp_K, tSeq, tAsg, gName, tRet, tRetN, tDrop, tIfS, tTest, tB, tNot, tAnd, tOr, tAndV, tOrV, tNotV, tOp, tUn, tVar, tC, tCons, tNil, tStrs, tCB, tCall, tChain, tBM, tBM0, tPart, tNoPart, tSl, tIf, tNext, tTrue, selS, Option.bind_none, Option.bind_some, Option.join_some, if_true, rI, rI0, rU, rEq, rNe, rStarts, rSlS, lenV_str, tyV, List.map_cons, List.map_nil, List.length_cons, List.length_nil, List.replicate, List.cons_append, List.nil_append, List.append_nil, Nat.reduceAdd, Nat.reduceSub, Nat.zero_add, Nat.add_zero, Nat.sub_self, List.getElem?_cons_zero, List.getElem?_cons_succ, List.set_cons_zero, List.set_cons_succ, Option.some.injEq, V.int.injEq, V.str.injEq, V.ref.injEq, V.bl.injEq, V.ty.injEq, List.cons.injEq, exists_eq_left, exists_eq_left', exists_eq_right, exists_and_left, exists_eq, and_true, true_and, and_self, and_assoc, tFld, sFld, tMeth, tMake, tDIn, tDNotIn, sDPut, tNever, tDGet, tDGet1, tDGet2, tSortK, tSetLc, iList, tLc])
    refine ⟨_, _, h1, rfl, x, p, n, ds, rfl, Ck, fun G s => ?_⟩
    by_cases c : dueV n ds = .non
    · exact ifT c (kx (due_none.mpr c) G s)
    refine ifF c ⟨_, _, _, s _ _ h1, T.k_Clock, T.n_Clock_standing, _, flC_s n p, .inl ⟨_, SqL.of (s _ _ hl.1)⟩, ?_⟩
    cases ds with
    | nil => exact absurd rfl c
    | cons d r =>
      have ct : d.2.t = n := by
        by_cases q : d.2.t = n
        · exact q
        · exact absurd (if_neg q) c
      have e : dueV n (d :: r) = .ref d.1 := if_pos ct
      rw [e]
      refine ⟨p, _, 0, 0, .ref d.1, rfl, rfl, s _ _ hl.1, by decide, by decide, by simp [seqIndex?, vsD], rfl, k d r rfl ct _ ((But.of s).trans But.upd) ⟨⟨dx, ?_⟩, upd_same, fun y hy => ?_⟩⟩
      · rw [upd_ne (ne_of h1 hl.1 (fun z => nomatch z))]; exact s _ _ h1
      · have h2 := hl.2 y (List.mem_cons_of_mem _ hy)
        rw [upd_ne (ne_of h2 hl.1 (fun z => nomatch z))]; exact s _ _ h2
theorem sc_Clock_go_to : FnScope ["self", "time", "first"] ["self", "time"] (defScope (inClass (top 4) 8)) := ⟨rfl, rfl, rfl, by decide +kernel, rfl, by decide +kernel, by decide +kernel⟩
theorem ok_Clock_go_to (T : Tx K mg c_tab p_tab)
    (G_Clock_next_time : FnOk P w K mg base CX0 1 T.m_Clock_next_time.f T.m_Clock_next_time.fd ["self"] (spNext T.C_Clock)) : FnOk P w K mg base (CXX P w) 2 T.m_Clock_go_to.f T.m_Clock_go_to.fd ["self", "time"] (spGoTo T.C_Clock T.C_BadClock) := by
  refine T.m_Clock_go_to.F.okX sc_Clock_go_to (fun vs H Q E h => ?_) (fun cdv A outer s H vs Q E hr h => ?_)
  · obtain ⟨x, p, n, ds, t, rfl, _⟩ := h
    rfl
  · obtain ⟨x, p, n, ds, t, rfl, Ck, so, kx, k⟩ := h
    have hu := hu100 hr
    obtain ⟨⟨dx, h1⟩, hl⟩ := id Ck
    refine ⟨_, (pss_cons (ps_if (pt_cmpR op_lt (pv 1) (pe_fld (pv 0) rfl) (nomark _))
    (pss_one (ps_raise leavesX rfl rfl T.x_BadClock))
    pss_nil)
    (pss_cons (ps_set (i := 2) sc_Clock_go_to.nd rfl (Or.inl rfl) (pe_meth0 (pv 0) T.k_Clock T.m_Clock_next_time.me G_Clock_next_time (hr.mono (by omega)) T.m_Clock_next_time.b .nil pass0))
    (pss_cons (ps_if (PW.pt (pw_and (pt_cmpR op_notN (pv 2) pe_non (nomark _)) (pw_and1 (pt_cmpR op_lt (pv 2) (pv 1) (nomark _)))))
    (pss_one (ps_raise leavesX rfl rfl T.x_BadClock))
    pss_nil)
    (pss_one (ps_fld (pv 0) (pv 1) rfl))))), ?_⟩
    (simp only [tLst, tTup, tDNewK, _root_.L2.start, cxOf_K, cxComp_K, tSeq, tAsg, gName, tRet, tRetN, tDrop, tIfS, tTest, tB, tNot, tAnd, tOr, tAndV, tOrV, tNotV, tOp, tUn, tVar, tC, tCons, tNil, tStrs, tCB, tCall, tChain, tBM, tBM0, tPart, tNoPart, tSl, tIf, tNext, tTrue, selS, Option.bind_none, Option.bind_some, Option.join_some, if_true, rI, rI0, rU, rEq, rNe, rStarts, rSlS, lenV_str, tyV, List.map_cons, List.map_nil, List.length_cons, List.length_nil, List.replicate, List.cons_append, List.nil_append, List.append_nil, Nat.reduceAdd, Nat.reduceSub, Nat.zero_add, Nat.add_zero, Nat.sub_self, List.getElem?_cons_zero, List.getElem?_cons_succ, List.set_cons_zero, List.set_cons_succ, Option.some.injEq, V.int.injEq, V.str.injEq, V.ref.injEq, V.bl.injEq, V.ty.injEq, List.cons.injEq, exists_eq_left, exists_eq_left', exists_eq_right, exists_and_left, exists_eq, and_true, true_and, and_self, and_assoc, tFld, sFld, tMeth, tMake, tDIn, tDNotIn, sDPut, tNever, tDGet, tDGet1, tDGet2, tSortK, tSetLc, iList, tLc])
    refine ⟨_, _, _, h1, T.k_Clock, T.n_Clock_tick, _, flC_t n p, _, rfl, ?_⟩
    by_cases c : t < n
    · exact ifT c (kx (.inl c) H (Same.refl _))
    refine ifF c ⟨_, _, h1, rfl, x, p, n, ds, rfl, Ck, fun G s => ?_⟩
    have fin : ¬ late (esD ds) t → Q .non (upd G x (.ins T.C_Clock dx (putF "tick" (.int t) (flC n p)))) := fun nl => k (fun z => z.elim c nl) _ ((But.of s).trans But.upd) ⟨⟨dx, upd_same⟩, (hl.same s).kept (fun l e => by rw [upd_ne (ne_of e (s _ _ h1) (fun z => nomatch z))]; exact e) (fun d l e => by rw [upd_ne (ne_of e (s _ _ h1) (fun z => nomatch z))]; exact e)⟩
    cases ds with
    | nil => exact bF rfl (iteF ⟨_, _, _, s _ _ h1, T.k_Clock, T.n_Clock_tick, by show 2 < 1000; decide, fin (fun ⟨e, he, _⟩ => by cases he)⟩)
    | cons d r =>
      refine bT rfl ⟨_, rfl, ?_⟩
      by_cases c2 : d.2.t < t
      · exact ifT c2 (kx (.inr ((late_head so).mpr c2)) G s)
      · exact ifF c2 ⟨_, _, _, s _ _ h1, T.k_Clock, T.n_Clock_tick, by show 2 < 1000; decide, fin (fun z => c2 ((late_head so).mp z))⟩
theorem sc_l_mixed : FnScope ["_law_cell", "_law_k"] ["_law_cell", "_law_k"] (defScope (top 6)) := ⟨rfl, rfl, rfl, by decide +kernel, rfl, by decide +kernel, by decide +kernel⟩
theorem ok_l_mixed (T : Tx K mg c_tab p_tab) : FnOk P w K mg base CX0 1 T.d_l_mixed.f T.d_l_mixed.fd ["_law_cell", "_law_k"] (spMixed) := by
  refine T.d_l_mixed.F.ok sc_l_mixed (fun vs H Q E h => ?_) (fun cdv A outer s H vs Q E hr h => ?_)
  · obtain ⟨a, k, rfl, _⟩ := h
    rfl
  · obtain ⟨a, k, rfl, q⟩ := h
    refine ⟨_, (pss_one (ps_ret (pe_op op_mod (pe_op op_pow (pe_op op_mod (pe_op op_add (pe_op op_mul (pv 0) pe_int) (pe_op op_mul (pe_op op_add (pv 1) pe_int) pe_int)) pe_int) pe_int) pe_int))), ?_⟩
    (simp only [tLst, tTup, tDNewK, _root_.L2.start, cxOf_K, cxComp_K, tSeq, tAsg, gName, tRet, tRetN, tDrop, tIfS, tTest, tB, tNot, tAnd, tOr, tAndV, tOrV, tNotV, tOp, tUn, tVar, tC, tCons, tNil, tStrs, tCB, tCall, tChain, tBM, tBM0, tPart, tNoPart, tSl, tIf, tNext, tTrue, selS, Option.bind_none, Option.bind_some, Option.join_some, if_true, rI, rI0, rU, rEq, rNe, rStarts, rSlS, lenV_str, tyV, List.map_cons, List.map_nil, List.length_cons, List.length_nil, List.replicate, List.cons_append, List.nil_append, List.append_nil, Nat.reduceAdd, Nat.reduceSub, Nat.zero_add, Nat.add_zero, Nat.sub_self, List.getElem?_cons_zero, List.getElem?_cons_succ, List.set_cons_zero, List.set_cons_succ, Option.some.injEq, V.int.injEq, V.str.injEq, V.ref.injEq, V.bl.injEq, V.ty.injEq, List.cons.injEq, exists_eq_left, exists_eq_left', exists_eq_right, exists_and_left, exists_eq, and_true, true_and, and_self, and_assoc, tFld, sFld, tMeth, tMake, tDIn, tDNotIn, sDPut, tNever, tDGet, tDGet1, tDGet2, tSortK, tSetLc, iList, tLc])
    have e1 := Int.emod_nonneg (a * 48271 + (k + 1) * 1299721) (show (2147483647 : Int) ≠ 0 by decide)
    have e2 := Int.emod_lt_of_pos (a * 48271 + (k + 1) * 1299721) (show (0 : Int) < 2147483647 by decide)
    exact ⟨.inr ⟨by decide, by decide⟩, .inr ⟨by decide, by decide⟩, by decide, ⟨by decide, by decide, by omega⟩, by decide, q _ (Int.emod_nonneg _ (by decide))⟩
theorem sc_l_due : FnScope ["_law_model"] ["_law_model"] (defScope (top 7)) := ⟨rfl, rfl, rfl, by decide +kernel, rfl, by decide +kernel, by decide +kernel⟩
theorem ok_l_due (T : Tx K mg c_tab p_tab) : FnOk P w K mg base CX0 1 T.d_l_due.f T.d_l_due.fd ["_law_model"] (spLDue K) := by
  refine T.d_l_due.F.ok sc_l_due (fun vs H Q E h => ?_) (fun cdv A outer s H vs Q E hr h => ?_)
  · obtain ⟨m, q, n, ds, rfl, _⟩ := h
    rfl
  · obtain ⟨m, q, n, ds, rfl, M, k⟩ := h
    have hu := hu100 hr
    have hu1 := hu_of hr
    refine ⟨_, (pss_cons (ps_if (PW.pt (pw_and (pt_cmpR (op_neL hu) (pe_dget hu1 (pv 0) pe_str (fun _ _ => rfl)) (pe_lst pa_nil) (nomark _)) (pw_and1 (pt_cmpR op_eq (pe_ix ix_tup (pe_ix ix_list (pe_dget hu1 (pv 0) pe_str (fun _ _ => rfl)) pe_int (fun _ _ => rfl)) pe_int (fun _ _ => rfl)) (pe_dget hu1 (pv 0) pe_str (fun _ _ => rfl)) (nomark _)))))
    (pss_one (ps_ret (pe_ix ix_list (pe_dget hu1 (pv 0) pe_str (fun _ _ => rfl)) pe_int (fun _ _ => rfl))))
    pss_nil)
    (pss_one (ps_ret pe_non))), ?_⟩
    (simp only [tLst, tTup, tDNewK, _root_.L2.start, cxOf_K, cxComp_K, tSeq, tAsg, gName, tRet, tRetN, tDrop, tIfS, tTest, tB, tNot, tAnd, tOr, tAndV, tOrV, tNotV, tOp, tUn, tVar, tC, tCons, tNil, tStrs, tCB, tCall, tChain, tBM, tBM0, tPart, tNoPart, tSl, tIf, tNext, tTrue, selS, Option.bind_none, Option.bind_some, Option.join_some, if_true, rI, rI0, rU, rEq, rNe, rStarts, rSlS, lenV_str, tyV, List.map_cons, List.map_nil, List.length_cons, List.length_nil, List.replicate, List.cons_append, List.nil_append, List.append_nil, Nat.reduceAdd, Nat.reduceSub, Nat.zero_add, Nat.add_zero, Nat.sub_self, List.getElem?_cons_zero, List.getElem?_cons_succ, List.set_cons_zero, List.set_cons_succ, Option.some.injEq, V.int.injEq, V.str.injEq, V.ref.injEq, V.bl.injEq, V.ty.injEq, List.cons.injEq, exists_eq_left, exists_eq_left', exists_eq_right, exists_and_left, exists_eq, and_true, true_and, and_self, and_assoc, tFld, sFld, tMeth, tMake, tDIn, tDNotIn, sDPut, tNever, tDGet, tDGet1, tDGet2, tSortK, tSetLc, iList, tLc])
    refine ⟨_, M.getD, nilD M.ls.1 fun G s => ⟨_, rfl, ?_⟩⟩
    have M' := M.same s
    cases ds with
    | nil => exact bF rfl (iteF (k G s))
    | cons d r =>
      refine bT rfl ⟨_, M'.getD, ixL M'.ls.1 (atI_nat (j := 0) rfl) (ixT (M'.ls.2 d List.mem_cons_self) (atI_nat (j := 0) rfl) ⟨_, M'.getT, rfl, ?_⟩)⟩
      have k' := k G s
      by_cases c : d.2.t = n
      · have e : dueV n (d :: r) = .ref d.1 := if_pos c
        rw [e] at k'
        exact ifT (by rw [c]) ⟨_, M'.getD, ixL M'.ls.1 (atI_nat (j := 0) rfl) k'⟩
      · have e : dueV n (d :: r) = .non := if_neg c
        rw [e] at k'
        exact ifF (fun z => c (V.int.inj z)) k'
theorem sc_l_drawn : FnScope ["_law_model", "_law_x", "_law_whats", "_law_who", "_law_what", "_law_soon"] ["_law_model", "_law_x"] (defScope (top 8)) := ⟨rfl, rfl, rfl, by decide +kernel, rfl, by decide +kernel, by decide +kernel⟩
theorem ok_l_drawn (T : Tx K mg c_tab p_tab) : FnOk P w K mg base CX0 1 T.d_l_drawn.f T.d_l_drawn.fd ["_law_model", "_law_x"] (spDrawn K) := by
  refine T.d_l_drawn.F.ok sc_l_drawn (fun vs H Q E h => ?_) (fun cdv A outer s H vs Q E hr h => ?_)
  · obtain ⟨m, q, n, ds, x, rfl, _⟩ := h
    rfl
  · obtain ⟨m, q, n, ds, x, rfl, M, hl, k⟩ := h
    have hu := hu100 hr
    have hu1 := hu_of hr
    refine ⟨_, (pss_cons (ps_set (i := 2) sc_l_drawn.nd rfl (Or.inl rfl) (pe_lst (pa_strs (zs := ["wait", "limit1", "limit12", "a"]) (by decide +kernel))))
    (pss_cons (ps_set (i := 3) sc_l_drawn.nd rfl (Or.inl rfl) (pe_ix ix_list (pe_lst (pa_cons pe_int (pa_cons pe_int (pa_cons pe_int (pa_cons pe_int (pa_cons pe_int (pa_cons pe_int pa_nil))))))) (pe_op op_mod (pe_op op_fdiv (pv 1) pe_int) pe_int) (fun _ _ => rfl)))
    (pss_cons (ps_set (i := 4) sc_l_drawn.nd rfl (Or.inl rfl) (pe_ix ix_list (pv 2) (pe_op op_mod (pe_op op_fdiv (pv 1) pe_int) pe_int) (fun _ _ => rfl)))
    (pss_cons (ps_set (i := 5) sc_l_drawn.nd rfl (Or.inl rfl) (pe_lst (pa_cons (pe_dget hu1 (pv 0) pe_str (fun _ _ => rfl)) (pa_cons (pe_op op_add (pe_dget hu1 (pv 0) pe_str (fun _ _ => rfl)) (pe_op op_mod (pe_op op_fdiv (pv 1) pe_int) pe_int)) (pa_cons (pe_op op_mod (pe_op op_fdiv (pv 1) pe_int) pe_int) (pa_cons (pe_op op_sub (pe_op op_sub (pe_dget hu1 (pv 0) pe_str (fun _ _ => rfl)) pe_int) (pe_op op_mod (pe_op op_fdiv (pv 1) pe_int) pe_int)) pa_nil))))))
    (pss_mid (ps_if (PW.pt (pw_and (pt_cmpR (op_neL hu) (pe_dget hu1 (pv 0) pe_str (fun _ _ => rfl)) (pe_lst pa_nil) (nomark _)) (pw_and1 (pt_cmpR op_eq (pe_op op_mod (pe_op op_fdiv (pv 1) pe_int) pe_int) pe_int (nomark _)))))
    (pss_one (ps_asg (pe_slice sl_tupW (pe_ix ix_list (pe_dget hu1 (pv 0) pe_str (fun _ _ => rfl)) (pe_op op_mod (pe_op op_fdiv (pv 1) pe_int) (pe_callB call_len (by rfl) T.n_len bt_len (pa_cons (pe_dget hu1 (pv 0) pe_str (fun _ _ => rfl)) pa_nil))) (fun _ _ => rfl)) (po_some pe_int) po_none) (pg_tup rfl (pgs_cons (pg_name (i := 3) sc_l_drawn.nd rfl (Or.inl rfl)) (pgs_cons (pg_name (i := 4) sc_l_drawn.nd rfl (Or.inl rfl)) pgs_nil)))))
    pss_nil)
    (pss_mid (ps_if (pt_cmpR op_lt (pe_op op_mod (pv 1) pe_int) pe_int (nomark _))
    (pss_one (ps_ret (pe_tup (pa_cons pe_str (pa_cons (pe_callB (call_min2 rfl) (by rfl) T.n_min bt_min (pa_cons pe_int (pa_cons (pe_callB (call_max2 rfl) (by rfl) T.n_max bt_max (pa_cons pe_int (pa_cons (pe_ix ix_list (pv 5) (pe_ix ix_list (pe_lst (pa_cons pe_int (pa_cons pe_int (pa_cons pe_int (pa_cons pe_int (pa_cons pe_int (pa_cons pe_int pa_nil))))))) (pe_op op_mod (pe_op op_fdiv (pv 1) pe_int) pe_int) (fun _ _ => rfl)) (fun _ _ => rfl)) pa_nil))) pa_nil))) (pa_cons (pv 3) (pa_cons (pv 4) pa_nil)))))))
    pss_nil)
    (pss_mid (ps_if (pt_cmpR op_eq (pe_op op_mod (pv 1) pe_int) pe_int (nomark _))
    (pss_one (ps_ret (pe_tup (pa_cons pe_str pa_nil))))
    pss_nil)
    (pss_mid (ps_if (pt_cmpR op_eq (pe_op op_mod (pv 1) pe_int) pe_int (nomark _))
    (pss_one (ps_ret (pe_ix ix_list (pe_lst (pa_cons (pe_tup (pa_cons pe_str (pa_cons (pv 3) (pa_cons (pv 4) pa_nil)))) (pa_cons (pe_tup (pa_cons pe_str (pa_cons (pv 3) pa_nil))) pa_nil))) (pe_op op_mod (pe_op op_fdiv (pv 1) pe_int) pe_int) (fun _ _ => rfl))))
    pss_nil)
    (pss_mid (ps_if (PW.pt (pw_and (pt_cmpR (op_neL hu) (pe_dget hu1 (pv 0) pe_str (fun _ _ => rfl)) (pe_lst pa_nil) (nomark _)) (pw_and1 (pt_cmpR op_gt (pe_op op_mod (pe_op op_fdiv (pv 1) pe_int) pe_int) pe_int (nomark _)))))
    (pss_one (ps_ret (pe_tup (pa_cons pe_str (pa_cons (pe_callB (call_min2 rfl) (by rfl) T.n_min bt_min (pa_cons pe_int (pa_cons (pe_op op_add (pe_ix ix_tup (pe_ix ix_list (pe_dget hu1 (pv 0) pe_str (fun _ _ => rfl)) pe_int (fun _ _ => rfl)) pe_int (fun _ _ => rfl)) (pe_ix ix_list (pe_lst (pa_cons pe_int (pa_cons pe_int (pa_cons pe_int pa_nil)))) (pe_op op_mod (pe_op op_fdiv (pv 1) pe_int) pe_int) (fun _ _ => rfl))) pa_nil))) pa_nil)))))
    pss_nil)
    (pss_one (ps_ret (pe_tup (pa_cons pe_str (pa_cons (pe_callB (call_min2 rfl) (by rfl) T.n_min bt_min (pa_cons pe_int (pa_cons (pe_callB (call_max2 rfl) (by rfl) T.n_max bt_max (pa_cons pe_int (pa_cons (pe_ix ix_list (pv 5) (pe_op op_mod (pe_op op_fdiv (pv 1) pe_int) pe_int) (fun _ _ => rfl)) pa_nil))) pa_nil))) pa_nil)))))))))))))), ?_⟩
    (simp only [tLst, tTup, tDNewK, _root_.L2.start, cxOf_K, cxComp_K, tSeq, tAsg, gName, tRet, tRetN, tDrop, tIfS, tTest, tB, tNot, tAnd, tOr, tAndV, tOrV, tNotV, tOp, tUn, tVar, tC, tCons, tNil, tStrs, tCB, tCall, tChain, tBM, tBM0, tPart, tNoPart, tSl, tIf, tNext, tTrue, selS, Option.bind_none, Option.bind_some, Option.join_some, if_true, rI, rI0, rU, rEq, rNe, rStarts, rSlS, lenV_str, tyV, List.map_cons, List.map_nil, List.length_cons, List.length_nil, List.replicate, List.cons_append, List.nil_append, List.append_nil, Nat.reduceAdd, Nat.reduceSub, Nat.zero_add, Nat.add_zero, Nat.sub_self, List.getElem?_cons_zero, List.getElem?_cons_succ, List.set_cons_zero, List.set_cons_succ, Option.some.injEq, V.int.injEq, V.str.injEq, V.ref.injEq, V.bl.injEq, V.ty.injEq, List.cons.injEq, exists_eq_left, exists_eq_left', exists_eq_right, exists_and_left, exists_eq, and_true, true_and, and_self, and_assoc, tFld, sFld, tMeth, tMake, tDIn, tDNotIn, sDPut, tNever, tDGet, tDGet1, tDGet2, tSortK, tSetLc, iList, tLc])
    refine ⟨by decide, fun p1 h1 => ⟨by decide, fun p2 h2 => ⟨⟨by decide, by decide⟩, by decide, ?_⟩⟩⟩
    have t1 := Same.upd (o := .lst (([("wait" : Str), "limit1", "limit12", "a"]).map V.str)) h1
    have t2 := Same.upd (o := .lst (([0, 1, 9, 10, 42, 99] : List Int).map V.int)) h2
    obtain ⟨j1, hj1, ej1⟩ : ∃ j : Nat, j < 6 ∧ x / 8 % 6 = (j : Nat) := ⟨(x / 8 % 6).toNat, by omega, by omega⟩
    obtain ⟨j2, hj2, ej2⟩ : ∃ j : Nat, j < 4 ∧ x / 48 % 4 = (j : Nat) := ⟨(x / 48 % 4).toNat, by omega, by omega⟩
    have s2 := t1.trans t2
    have g1 := t2 _ _ (show upd H p1 (.lst (([("wait" : Str), "limit1", "limit12", "a"]).map V.str)) p1 = _ from upd_same)
    obtain ⟨w0, hw0⟩ : ∃ w, ([0, 1, 9, 10, 42, 99] : List Int)[j1]? = some w := ⟨_, List.getElem?_eq_getElem (show j1 < 6 from hj1)⟩
    obtain ⟨z0, hz0⟩ : ∃ z, ([("wait" : Str), "limit1", "limit12", "a"])[j2]? = some z := ⟨_, List.getElem?_eq_getElem (show j2 < 4 from hj2)⟩
    refine ixL (xs := ([0, 1, 9, 10, 42, 99] : List Int).map V.int) (v := .int w0) upd_same (by rw [ej1]; exact atI_nat (by rw [List.getElem?_map, hw0]; rfl)) ⟨⟨by decide, by decide⟩, by decide, ixL (v := .str z0) g1 (by rw [ej2]; exact atI_nat (by rw [List.getElem?_map, hz0]; rfl)) ?_⟩
    have M2 := M.same s2
    have s2' : Same H (upd (upd H p1 (.lst [.str "wait", .str "limit1", .str "limit12", .str "a"])) p2 (.lst [.int 0, .int 1, .int 9, .int 10, .int 42, .int 99])) := s2
    have M2' : MdAt (upd (upd H p1 (.lst [.str "wait", .str "limit1", .str "limit12", .str "a"])) p2 (.lst [.int 0, .int 1, .int 9, .int 10, .int 42, .int 99])) m q n ds := M2
    clear s2 M2 g1 t1 t2 hw0 hz0 h2 h1 ej1 ej2 hj1 hj2
    generalize upd (upd H p1 (.lst [.str "wait", .str "limit1", .str "limit12", .str "a"])) p2 (.lst [.int 0, .int 1, .int 9, .int 10, .int 42, .int 99]) = G2 at s2' M2' ⊢
    refine ⟨_, M2'.getT, _, M2'.getT, ⟨by decide, by decide⟩, by decide, _, rfl, ⟨by decide, by decide⟩, by decide, _, M2'.getT, _, rfl, ⟨by decide, by decide⟩, by decide, by decide, fun so hso => ?_⟩
    have hs : ∃ G3, G3 = upd G2 so (.lst (([n, n + x / 192 % 9, x / 192 % 100000, n - 1 - x / 192 % 3] : List Int).map V.int)) := ⟨_, rfl⟩
    obtain ⟨G3, eG⟩ := hs
    have s3 : Same H G3 := by rw [eG]; exact s2'.trans (Same.upd hso)
    have gs : G3 so = some (.lst (([n, n + x / 192 % 9, x / 192 % 100000, n - 1 - x / 192 % 3] : List Int).map V.int)) := by rw [eG]; exact upd_same
    have eG' : upd G2 so (.lst [.int n, .int (n + x / 192 % 9), .int (x / 192 % 100000), .int (n - 1 - x / 192 % 3)]) = G3 := eG.symm
    rw [eG']
    clear eG eG' hso s2' M2'
    have hks : ([n, n + x / 192 % 9, x / 192 % 100000, n - 1 - x / 192 % 3] : List Int).length = 4 := rfl
    generalize ([n, n + x / 192 % 9, x / 192 % 100000, n - 1 - x / 192 % 3] : List Int) = ks at gs hks
    have ksat : ∀ i : Nat, i < 4 → ∃ y, (ks.map V.int)[i]? = some (.int y) := fun i hi => ⟨ks[i]'(by omega), by rw [List.getElem?_map, List.getElem?_eq_getElem (by omega)]; rfl⟩
    have fin : ∀ (D : Deed) (G : Hp) (p : Addr), Same H G → G p = none → Q (.ref p) (upd G p (.tup D.vs)) := fun D G p s hp => k D p _ (s.free hp) (s.trans (Same.upd hp)) upd_same
    refine ⟨fun σ' G' => ∃ (w : Int) (z : Str), σ' = [some (.ref m), some (.int x), some (.ref p1), some (.int w), some (.str z), some (.ref so)] ∧ Same H G' ∧ G' so = some (.lst (ks.map V.int)), ?_, ?_⟩
    · (simp only [tLst, tTup, tDNewK, _root_.L2.start, cxOf_K, cxComp_K, tSeq, tAsg, gName, tRet, tRetN, tDrop, tIfS, tTest, tB, tNot, tAnd, tOr, tAndV, tOrV, tNotV, tOp, tUn, tVar, tC, tCons, tNil, tStrs, tCB, tCall, tChain, tBM, tBM0, tPart, tNoPart, tSl, tIf, tNext, tTrue, selS, Option.bind_none, Option.bind_some, Option.join_some, if_true, rI, rI0, rU, rEq, rNe, rStarts, rSlS, lenV_str, tyV, List.map_cons, List.map_nil, List.length_cons, List.length_nil, List.replicate, List.cons_append, List.nil_append, List.append_nil, Nat.reduceAdd, Nat.reduceSub, Nat.zero_add, Nat.add_zero, Nat.sub_self, List.getElem?_cons_zero, List.getElem?_cons_succ, List.set_cons_zero, List.set_cons_succ, Option.some.injEq, V.int.injEq, V.str.injEq, V.ref.injEq, V.bl.injEq, V.ty.injEq, List.cons.injEq, exists_eq_left, exists_eq_left', exists_eq_right, exists_and_left, exists_eq, and_true, true_and, and_self, and_assoc, tFld, sFld, tMeth, tMake, tDIn, tDNotIn, sDPut, tNever, tDGet, tDGet1, tDGet2, tSortK, tSetLc, iList, tLc])
      have M3 := M.same s3
      refine ⟨_, M3.getD, nilD M3.ls.1 fun G s => ⟨_, rfl, ?_⟩⟩
      have M4 := M3.same s
      have sA := s3.trans s
      cases ds with
      | nil => exact bF rfl (iteF ⟨sA, s _ _ gs⟩)
      | cons d0 r0 =>
        refine bT rfl ⟨⟨by decide, by decide⟩, by decide, rfl, ?_⟩
        by_cases c : x / 1728 % 3 = 0
        · obtain ⟨jj, hjj, ejj⟩ : ∃ j : Nat, j < (d0 :: r0).length ∧ x / 5184 % (((vsD (d0 :: r0)).length : Nat) : Int) = (j : Nat) := by
            rw [len_vs]
            have a := Int.emod_nonneg (x / 5184) (show (((d0 :: r0).length : Nat) : Int) ≠ 0 by rw [List.length_cons]; omega)
            have b := Int.emod_lt_of_pos (x / 5184) (show (0 : Int) < (((d0 :: r0).length : Nat) : Int) by rw [List.length_cons]; omega)
            exact ⟨(x / 5184 % (((d0 :: r0).length : Nat) : Int)).toNat, by omega, by omega⟩
          have hat : (vsD (d0 :: r0))[jj]? = some (.ref ((d0 :: r0)[jj]'hjj).1) := by unfold vsD; rw [List.getElem?_map, List.getElem?_eq_getElem hjj]; rfl
          refine ifT c ⟨_, M4.getD, ⟨by decide, by decide⟩, _, M4.getD, _, .inl ⟨_, SqL.of M4.ls.1, rfl⟩, by rw [len_vs, List.length_cons]; omega, ixL M4.ls.1 (by rw [ejj]; exact atI_nat hat) (slE (M4.ls.2 _ (List.getElem_mem hjj)) fun p3 G4 _ s4 h4 => ⟨p3, _, rfl, SqT.of h4, rfl, _, _, rfl, _, _, rfl, rfl, ?_⟩)⟩
          exact ⟨_, _, rfl, sA.trans s4, s4 _ _ (s _ _ gs)⟩
        · exact ifF c ⟨sA, s _ _ gs⟩
    rintro σ G ⟨w1, z1, rfl, sG, gs⟩
    clear s3
    refine ⟨fun σ' G' => σ' = [some (.ref m), some (.int x), some (.ref p1), some (.int w1), some (.str z1), some (.ref so)] ∧ Same H G' ∧ G' so = some (.lst (ks.map V.int)), ?_, ?_⟩
    · (simp only [tLst, tTup, tDNewK, _root_.L2.start, cxOf_K, cxComp_K, tSeq, tAsg, gName, tRet, tRetN, tDrop, tIfS, tTest, tB, tNot, tAnd, tOr, tAndV, tOrV, tNotV, tOp, tUn, tVar, tC, tCons, tNil, tStrs, tCB, tCall, tChain, tBM, tBM0, tPart, tNoPart, tSl, tIf, tNext, tTrue, selS, Option.bind_none, Option.bind_some, Option.join_some, if_true, rI, rI0, rU, rEq, rNe, rStarts, rSlS, lenV_str, tyV, List.map_cons, List.map_nil, List.length_cons, List.length_nil, List.replicate, List.cons_append, List.nil_append, List.append_nil, Nat.reduceAdd, Nat.reduceSub, Nat.zero_add, Nat.add_zero, Nat.sub_self, List.getElem?_cons_zero, List.getElem?_cons_succ, List.set_cons_zero, List.set_cons_succ, Option.some.injEq, V.int.injEq, V.str.injEq, V.ref.injEq, V.bl.injEq, V.ty.injEq, List.cons.injEq, exists_eq_left, exists_eq_left', exists_eq_right, exists_and_left, exists_eq, and_true, true_and, and_self, and_assoc, tFld, sFld, tMeth, tMake, tDIn, tDNotIn, sDPut, tNever, tDGet, tDGet1, tDGet2, tSortK, tSetLc, iList, tLc])
      refine ⟨by decide, ?_⟩
      by_cases c : x % 8 < 3
      · refine ifT c ⟨by decide, fun p3 hp3 => ⟨⟨by decide, by decide⟩, by decide, ?_⟩⟩
        have t3 := Same.upd (o := .lst (([0, 1, 1, 1, 2, 3] : List Int).map V.int)) hp3
        obtain ⟨j1, hj1, ej1⟩ : ∃ j : Nat, j < 6 ∧ x / 20000 % 6 = (j : Nat) := ⟨(x / 20000 % 6).toNat, by omega, by omega⟩
        obtain ⟨i1, hi1, ei1⟩ : ∃ i : Nat, i < 4 ∧ (([0, 1, 1, 1, 2, 3] : List Int).map V.int)[j1]? = some (.int (i : Nat)) := by
          match j1, hj1 with
          | 0, _ => exact ⟨0, by decide, rfl⟩
          | 1, _ => exact ⟨1, by decide, rfl⟩
          | 2, _ => exact ⟨1, by decide, rfl⟩
          | 3, _ => exact ⟨1, by decide, rfl⟩
          | 4, _ => exact ⟨2, by decide, rfl⟩
          | 5, _ => exact ⟨3, by decide, rfl⟩
        obtain ⟨y, hy⟩ := ksat i1 hi1
        refine ixL (xs := ([0, 1, 1, 1, 2, 3] : List Int).map V.int) upd_same (by rw [ej1]; exact atI_nat ei1) (ixL (t3 _ _ gs) (atI_nat hy) ⟨y, rfl, by decide, fun p4 hp4 => fin (.at _ w1 z1) _ p4 (sG.trans t3) hp4⟩)
      · exact ifF c ⟨sG, gs⟩
    rintro σ G ⟨rfl, sG, gs⟩
    refine ⟨fun σ' G' => σ' = [some (.ref m), some (.int x), some (.ref p1), some (.int w1), some (.str z1), some (.ref so)] ∧ Same H G' ∧ G' so = some (.lst (ks.map V.int)), ?_, ?_⟩
    · (simp only [tLst, tTup, tDNewK, _root_.L2.start, cxOf_K, cxComp_K, tSeq, tAsg, gName, tRet, tRetN, tDrop, tIfS, tTest, tB, tNot, tAnd, tOr, tAndV, tOrV, tNotV, tOp, tUn, tVar, tC, tCons, tNil, tStrs, tCB, tCall, tChain, tBM, tBM0, tPart, tNoPart, tSl, tIf, tNext, tTrue, selS, Option.bind_none, Option.bind_some, Option.join_some, if_true, rI, rI0, rU, rEq, rNe, rStarts, rSlS, lenV_str, tyV, List.map_cons, List.map_nil, List.length_cons, List.length_nil, List.replicate, List.cons_append, List.nil_append, List.append_nil, Nat.reduceAdd, Nat.reduceSub, Nat.zero_add, Nat.add_zero, Nat.sub_self, List.getElem?_cons_zero, List.getElem?_cons_succ, List.set_cons_zero, List.set_cons_succ, Option.some.injEq, V.int.injEq, V.str.injEq, V.ref.injEq, V.bl.injEq, V.ty.injEq, List.cons.injEq, exists_eq_left, exists_eq_left', exists_eq_right, exists_and_left, exists_eq, and_true, true_and, and_self, and_assoc, tFld, sFld, tMeth, tMake, tDIn, tDNotIn, sDPut, tNever, tDGet, tDGet1, tDGet2, tSortK, tSetLc, iList, tLc])
      refine ⟨by decide, rfl, ?_⟩
      by_cases c : x % 8 = 3
      · exact ifT c ⟨by decide, fun p3 hp3 => fin .take _ p3 sG hp3⟩
      · exact ifF c ⟨sG, gs⟩
    rintro σ G ⟨rfl, sG, gs⟩
    refine ⟨fun σ' G' => σ' = [some (.ref m), some (.int x), some (.ref p1), some (.int w1), some (.str z1), some (.ref so)] ∧ Same H G' ∧ G' so = some (.lst (ks.map V.int)), ?_, ?_⟩
    · (simp only [tLst, tTup, tDNewK, _root_.L2.start, cxOf_K, cxComp_K, tSeq, tAsg, gName, tRet, tRetN, tDrop, tIfS, tTest, tB, tNot, tAnd, tOr, tAndV, tOrV, tNotV, tOp, tUn, tVar, tC, tCons, tNil, tStrs, tCB, tCall, tChain, tBM, tBM0, tPart, tNoPart, tSl, tIf, tNext, tTrue, selS, Option.bind_none, Option.bind_some, Option.join_some, if_true, rI, rI0, rU, rEq, rNe, rStarts, rSlS, lenV_str, tyV, List.map_cons, List.map_nil, List.length_cons, List.length_nil, List.replicate, List.cons_append, List.nil_append, List.append_nil, Nat.reduceAdd, Nat.reduceSub, Nat.zero_add, Nat.add_zero, Nat.sub_self, List.getElem?_cons_zero, List.getElem?_cons_succ, List.set_cons_zero, List.set_cons_succ, Option.some.injEq, V.int.injEq, V.str.injEq, V.ref.injEq, V.bl.injEq, V.ty.injEq, List.cons.injEq, exists_eq_left, exists_eq_left', exists_eq_right, exists_and_left, exists_eq, and_true, true_and, and_self, and_assoc, tFld, sFld, tMeth, tMake, tDIn, tDNotIn, sDPut, tNever, tDGet, tDGet1, tDGet2, tSortK, tSetLc, iList, tLc])
      refine ⟨by decide, rfl, ?_⟩
      by_cases c : x % 8 = 4
      · refine ifT c ⟨by decide, fun p3 hp3 => ⟨by decide, fun p4 hp4 => ⟨by decide, fun p5 hp5 => ⟨⟨by decide, by decide⟩, by decide, ?_⟩⟩⟩⟩
        have t3 := Same.upd (o := .tup (Deed.vs (.drop w1 z1))) hp3
        have t4 := Same.upd (o := .tup (Deed.vs (.drop1 w1))) hp4
        have t5 := Same.upd (o := .lst [V.ref p3, .ref p4]) hp5
        have sA := ((sG.trans t3).trans t4).trans t5
        obtain ⟨j1, hj1, ej1⟩ : ∃ j : Nat, j < 2 ∧ x / 20000 % 2 = (j : Nat) := ⟨(x / 20000 % 2).toNat, by omega, by omega⟩
        match j1, hj1, ej1 with
        | 0, _, ej1 => exact ixL upd_same (by rw [ej1]; exact atI_nat (j := 0) rfl) (k (.drop w1 z1) p3 _ (sG.free hp3) sA (t5 _ _ (t4 _ _ upd_same)))
        | 1, _, ej1 => exact ixL upd_same (by rw [ej1]; exact atI_nat (j := 1) rfl) (k (.drop1 w1) p4 _ ((sG.trans t3).free hp4) sA (t5 _ _ upd_same))
      · exact ifF c ⟨sG, gs⟩
    rintro σ G ⟨rfl, sG, gs⟩
    refine ⟨fun σ' G' => σ' = [some (.ref m), some (.int x), some (.ref p1), some (.int w1), some (.str z1), some (.ref so)] ∧ Same H G' ∧ G' so = some (.lst (ks.map V.int)), ?_, ?_⟩
    · (simp only [tLst, tTup, tDNewK, _root_.L2.start, cxOf_K, cxComp_K, tSeq, tAsg, gName, tRet, tRetN, tDrop, tIfS, tTest, tB, tNot, tAnd, tOr, tAndV, tOrV, tNotV, tOp, tUn, tVar, tC, tCons, tNil, tStrs, tCB, tCall, tChain, tBM, tBM0, tPart, tNoPart, tSl, tIf, tNext, tTrue, selS, Option.bind_none, Option.bind_some, Option.join_some, if_true, rI, rI0, rU, rEq, rNe, rStarts, rSlS, lenV_str, tyV, List.map_cons, List.map_nil, List.length_cons, List.length_nil, List.replicate, List.cons_append, List.nil_append, List.append_nil, Nat.reduceAdd, Nat.reduceSub, Nat.zero_add, Nat.add_zero, Nat.sub_self, List.getElem?_cons_zero, List.getElem?_cons_succ, List.set_cons_zero, List.set_cons_succ, Option.some.injEq, V.int.injEq, V.str.injEq, V.ref.injEq, V.bl.injEq, V.ty.injEq, List.cons.injEq, exists_eq_left, exists_eq_left', exists_eq_right, exists_and_left, exists_eq, and_true, true_and, and_self, and_assoc, tFld, sFld, tMeth, tMake, tDIn, tDNotIn, sDPut, tNever, tDGet, tDGet1, tDGet2, tSortK, tSetLc, iList, tLc])
      have M3 := M.same sG
      refine ⟨_, M3.getD, nilD M3.ls.1 fun G s => ⟨_, rfl, ?_⟩⟩
      have M4 := M3.same s
      have sA := sG.trans s
      cases ds with
      | nil => exact bF rfl (iteF ⟨sA, s _ _ gs⟩)
      | cons d0 r0 =>
        refine bT rfl ⟨⟨by decide, by decide⟩, by decide, ?_⟩
        by_cases c : 0 < x / 20000 % 4
        · refine ifT c ⟨_, M4.getD, ixL M4.ls.1 (atI_nat (j := 0) rfl) (ixT (M4.ls.2 d0 List.mem_cons_self) (atI_nat (j := 0) rfl) ⟨by decide, fun p3 hp3 => ⟨⟨by decide, by decide⟩, by decide, ?_⟩⟩)⟩
          have t3 := Same.upd (o := .lst (([0, 0, 1] : List Int).map V.int)) hp3
          obtain ⟨j1, hj1, ej1⟩ : ∃ j : Nat, j < 3 ∧ x / 80000 % 3 = (j : Nat) := ⟨(x / 80000 % 3).toNat, by omega, by omega⟩
          obtain ⟨y, hy⟩ : ∃ y, (([0, 0, 1] : List Int).map V.int)[j1]? = some (.int y) := ⟨([0, 0, 1] : List Int)[j1]'hj1, by rw [List.getElem?_map, List.getElem?_eq_getElem hj1]; rfl⟩
          exact ixL (xs := ([0, 0, 1] : List Int).map V.int) upd_same (by rw [ej1]; exact atI_nat hy) ⟨_, rfl, _, rfl, by decide, fun p4 hp4 => fin (.goTo _) _ p4 (sA.trans t3) hp4⟩
        · exact ifF c ⟨sA, s _ _ gs⟩
    rintro σ G ⟨rfl, sG, gs⟩
    (simp only [tLst, tTup, tDNewK, _root_.L2.start, cxOf_K, cxComp_K, tSeq, tAsg, gName, tRet, tRetN, tDrop, tIfS, tTest, tB, tNot, tAnd, tOr, tAndV, tOrV, tNotV, tOp, tUn, tVar, tC, tCons, tNil, tStrs, tCB, tCall, tChain, tBM, tBM0, tPart, tNoPart, tSl, tIf, tNext, tTrue, selS, Option.bind_none, Option.bind_some, Option.join_some, if_true, rI, rI0, rU, rEq, rNe, rStarts, rSlS, lenV_str, tyV, List.map_cons, List.map_nil, List.length_cons, List.length_nil, List.replicate, List.cons_append, List.nil_append, List.append_nil, Nat.reduceAdd, Nat.reduceSub, Nat.zero_add, Nat.add_zero, Nat.sub_self, List.getElem?_cons_zero, List.getElem?_cons_succ, List.set_cons_zero, List.set_cons_succ, Option.some.injEq, V.int.injEq, V.str.injEq, V.ref.injEq, V.bl.injEq, V.ty.injEq, List.cons.injEq, exists_eq_left, exists_eq_left', exists_eq_right, exists_and_left, exists_eq, and_true, true_and, and_self, and_assoc, tFld, sFld, tMeth, tMake, tDIn, tDNotIn, sDPut, tNever, tDGet, tDGet1, tDGet2, tSortK, tSetLc, iList, tLc])
    obtain ⟨j1, hj1, ej1⟩ : ∃ j : Nat, j < 4 ∧ x / 80000 % 4 = (j : Nat) := ⟨(x / 80000 % 4).toNat, by omega, by omega⟩
    obtain ⟨y, hy⟩ := ksat j1 hj1
    exact ⟨⟨by decide, by decide⟩, by decide, ixL gs (by rw [ej1]; exact atI_nat hy) ⟨y, rfl, by decide, fun p4 hp4 => fin (.goTo _) _ p4 sG hp4⟩⟩
theorem sc_l_told : FnScope ["_law_model", "_law_deed", "_law_dues", "_law_first"] ["_law_model", "_law_deed"] (defScope (top 9)) := ⟨rfl, rfl, rfl, by decide +kernel, rfl, by decide +kernel, by decide +kernel⟩
theorem ok_l_told (T : Tx K mg c_tab p_tab)
    (B : LamAt mg base c_tab p_tab)
    (G_l_due : FnOk P w K mg base CX0 1 T.d_l_due.f T.d_l_due.fd ["_law_model"] (spLDue K)) : FnOk P w K mg base CX0 2 T.d_l_told.f T.d_l_told.fd ["_law_model", "_law_deed"] (spTold K p_tab) := by
  refine T.d_l_told.F.okC sc_l_told T.code_told (fun vs H Q E h => ?_) (fun A outer s H vs Q E hr h => ?_)
  · obtain ⟨m, q, d, n, ds, D, rfl, _⟩ := h
    rfl
  · obtain ⟨m, q, d, n, ds, D, rfl, M, hl, so, hd, tb, k⟩ := h
    have hu := hu100 hr
    have hu1 := hu_of hr
    refine ⟨_, (pss_cons (ps_set (i := 2) sc_l_told.nd rfl (Or.inl rfl) (pe_dget hu1 (pv 0) pe_str (fun _ _ => rfl)))
    (pss_cons (ps_if (pt_cmpR op_eq (pe_ix ix_tup (pv 1) pe_int (fun _ _ => rfl)) pe_str (nomark _))
    (pss_cons (ps_if (pt_cmpR op_lt (pe_ix ix_tup (pv 1) pe_int (fun _ _ => rfl)) (pe_dget hu1 (pv 0) pe_str (fun _ _ => rfl)) (nomark _))
    (pss_one (ps_ret pe_str))
    pss_nil)
    (pss_cons (ps_dput hu1 (pv 0) pe_str (pe_sortK B rfl rfl hr (by rfl) T.n_sorted (pe_op op_cat (pe_lc (N' := ["_law_one", "_law_deed"]) (sel := [none, some 1]) rfl rfl rfl (pi_list (pv 2)) (gk_name rfl) (fun _ _ _ _ _ => ⟨(pg_name (i := 0) (show (["_law_one", "_law_deed"] : List Str).Nodup by decide +kernel) rfl (Or.inl rfl)), (pts_one (pt_cmpR (op_neTK (K := K) rfl hu) (pe_slice (sl_tupWK (K := K) rfl) (pv 0) (po_some pe_int) po_none) (pe_slice (sl_tupWK (K := K) rfl) (pv 1) (po_some pe_int) po_none) (nomark _))), (pv 0)⟩)) (pe_lst (pa_cons (pe_slice sl_tupW (pv 1) (po_some pe_int) po_none) pa_nil))) (by rfl) (by rfl) (fun _ _ _ _ => rfl) (by rfl) rfl rfl rfl (by decide)) rfl)
    (pss_one (ps_ret pe_non))))
    pss_nil)
    (pss_cons (ps_if (pt_cmpR op_eq (pe_ix ix_tup (pv 1) pe_int (fun _ _ => rfl)) pe_str (nomark _))
    (pss_cons (ps_set (i := 3) sc_l_told.nd rfl (Or.inl rfl) (pe_call G_l_due (hr.mono (by omega)) rfl T.d_l_due.hm T.d_l_due.F.kp T.d_l_due.b .nil pass0 (pa_cons (pv 0) pa_nil)))
    (pss_cons (ps_if (pt_cmpR op_isN (pv 3) pe_non (nomark _))
    (pss_one (ps_ret pe_str))
    pss_nil)
    (pss_cons (ps_dput hu1 (pv 0) pe_str (pe_slice sl_list (pv 2) (po_some pe_int) po_none) rfl)
    (pss_one (ps_ret (pv 3))))))
    pss_nil)
    (pss_cons (ps_if (pt_cmpR op_eq (pe_ix ix_tup (pv 1) pe_int (fun _ _ => rfl)) pe_str (nomark _))
    (pss_cons (ps_dput hu1 (pv 0) pe_str (pe_lc (N' := ["_law_one", "_law_deed"]) (sel := [none, some 1]) rfl rfl rfl (pi_list (pv 2)) (gk_name rfl) (fun _ _ _ _ _ => ⟨(pg_name (i := 0) (show (["_law_one", "_law_deed"] : List Str).Nodup by decide +kernel) rfl (Or.inl rfl)), (pts_one (pt_cmpR (op_neTK (K := K) rfl hu) (pe_slice (sl_tupWK (K := K) rfl) (pv 0) (po_some pe_int) (po_some (pe_callB (call_lenK (K := K) rfl) (by rfl) T.n_len bt_len (pa_cons (pv 1) pa_nil)))) (pe_slice (sl_tupWK (K := K) rfl) (pv 1) (po_some pe_int) po_none) (nomark _))), (pv 0)⟩)) rfl)
    (pss_one (ps_ret (pe_op op_sub (pe_callB call_len (by rfl) T.n_len bt_len (pa_cons (pv 2) pa_nil)) (pe_callB call_len (by rfl) T.n_len bt_len (pa_cons (pe_dget hu1 (pv 0) pe_str (fun _ _ => rfl)) pa_nil))))))
    pss_nil)
    (pss_cons (ps_if (PW.pt (pw_or (pt_cmpR op_lt (pe_ix ix_tup (pv 1) pe_int (fun _ _ => rfl)) (pe_dget hu1 (pv 0) pe_str (fun _ _ => rfl)) (nomark _)) (pw_or1 (pt_cmpR (op_neL hu) (pe_lc (N' := ["_law_one", "_law_deed"]) (sel := [none, some 1]) rfl rfl rfl (pi_list (pv 2)) (gk_name rfl) (fun _ _ _ _ _ => ⟨(pg_name (i := 0) (show (["_law_one", "_law_deed"] : List Str).Nodup by decide +kernel) rfl (Or.inl rfl)), (pts_one (pt_cmpR op_lt (pe_ix (ix_tupK (K := K) rfl) (pv 0) pe_int (fun _ _ => rfl)) (pe_ix (ix_tupK (K := K) rfl) (pv 1) pe_int (fun _ _ => rfl)) (nomark _))), (pv 0)⟩)) (pe_lst pa_nil) (nomark _)))))
    (pss_one (ps_ret pe_str))
    pss_nil)
    (pss_cons (ps_dput hu1 (pv 0) pe_str (pe_ix ix_tup (pv 1) pe_int (fun _ _ => rfl)) rfl)
    (pss_one (ps_ret pe_non)))))))), ?_⟩
    (simp only [tLst, tTup, tDNewK, _root_.L2.start, cxOf_K, cxComp_K, tSeq, tAsg, gName, tRet, tRetN, tDrop, tIfS, tTest, tB, tNot, tAnd, tOr, tAndV, tOrV, tNotV, tOp, tUn, tVar, tC, tCons, tNil, tStrs, tCB, tCall, tChain, tBM, tBM0, tPart, tNoPart, tSl, tIf, tNext, tTrue, selS, Option.bind_none, Option.bind_some, Option.join_some, if_true, rI, rI0, rU, rEq, rNe, rStarts, rSlS, lenV_str, tyV, List.map_cons, List.map_nil, List.length_cons, List.length_nil, List.replicate, List.cons_append, List.nil_append, List.append_nil, Nat.reduceAdd, Nat.reduceSub, Nat.zero_add, Nat.add_zero, Nat.sub_self, List.getElem?_cons_zero, List.getElem?_cons_succ, List.set_cons_zero, List.set_cons_succ, Option.some.injEq, V.int.injEq, V.str.injEq, V.ref.injEq, V.bl.injEq, V.ty.injEq, List.cons.injEq, exists_eq_left, exists_eq_left', exists_eq_right, exists_and_left, exists_eq, and_true, true_and, and_self, and_assoc, tFld, sFld, tMeth, tMake, tDIn, tDNotIn, sDPut, tNever, tDGet, tDGet1, tDGet2, tSortK, tSetLc, iList, tLc])
    refine ⟨_, M.getD, ?_⟩
    cases D with
    | «at» t w z =>
      refine ixT hd (atI_nat (j := 0) rfl) ⟨rfl, ifT rfl (ixT hd (atI_nat (j := 1) rfl) ⟨_, M.getT, _, rfl, _, rfl, ?_⟩)⟩
      by_cases c : t < n
      · exact ifT c (k _ H q ds (ButT.of (Same.refl _)) tb (.inl rfl) M (at_bad c).1.symm (by rw [(at_bad c).2]; rfl))
      refine ifF c ⟨q, rfl, ⟨_, SqL.of M.ls.1⟩, lc_filt (K := K) (xs := ds) (f := fun d => V.ref d.1) (fun d => keepF w z d.2) M.ls.1 (Nat.le_of_lt (small1000 (by omega))) ?_ ?_⟩
      · intro e ys G he s
        (simp only [tLst, tTup, tDNewK, _root_.L2.start, cxOf_K, cxComp_K, tSeq, tAsg, gName, tRet, tRetN, tDrop, tIfS, tTest, tB, tNot, tAnd, tOr, tAndV, tOrV, tNotV, tOp, tUn, tVar, tC, tCons, tNil, tStrs, tCB, tCall, tChain, tBM, tBM0, tPart, tNoPart, tSl, tIf, tNext, tTrue, selS, Option.bind_none, Option.bind_some, Option.join_some, if_true, rI, rI0, rU, rEq, rNe, rStarts, rSlS, lenV_str, tyV, List.map_cons, List.map_nil, List.length_cons, List.length_nil, List.replicate, List.cons_append, List.nil_append, List.append_nil, Nat.reduceAdd, Nat.reduceSub, Nat.zero_add, Nat.add_zero, Nat.sub_self, List.getElem?_cons_zero, List.getElem?_cons_succ, List.set_cons_zero, List.set_cons_succ, Option.some.injEq, V.int.injEq, V.str.injEq, V.ref.injEq, V.bl.injEq, V.ty.injEq, List.cons.injEq, exists_eq_left, exists_eq_left', exists_eq_right, exists_and_left, exists_eq, and_true, true_and, and_self, and_assoc, tFld, sFld, tMeth, tMake, tDIn, tDNotIn, sDPut, tNever, tDGet, tDGet1, tDGet2, tSortK, tSetLc, iList, tLc])
        refine slE (s _ _ (M.ls.2 e he)) fun p1 G1 _ s1 h1 => slA2 (s1 _ _ (s _ _ hd)) fun p2 G2 _ s2 h2 => neT2 (s2 _ _ h1) h2 ⟨_, rfl, ?_⟩
        have sA := (s.trans s1).trans s2
        by_cases ck : keepF w z e.2 = true
        · exact bT ck ⟨sA, by rw [if_pos ck]⟩
        · exact bF (by simpa [keepF] using ck) ⟨sA, by rw [if_neg ck, List.append_nil]⟩
      · intro G s D0 hD0
        have es1 := flt_es ds (keepF w z)
        have so1 : Srt (esD (ds.filter fun d => keepF w z d.2)) := by rw [es1]; exact so.filter _
        have hl1 : (ds.filter fun d => keepF w z d.2).length ≤ 50 := Nat.le_trans (List.length_filter_le _ _) hl
        have ht1 : ∀ e ∈ (ds.filter fun d => keepF w z d.2), H e.1 = some (.tup e.2.vs) := fun e he => M.ls.2 e (List.mem_filter.mp he).1
        generalize (ds.filter fun d => keepF w z d.2) = ds1 at es1 so1 hl1 ht1 ⊢
        have t1 := Same.upd (o := .lst (ds1.map fun d => V.ref d.1)) hD0
        refine slA1 (t1 _ _ (s _ _ hd)) fun p0 G1 _ s1 h1 => ⟨by decide, fun p1 hp1 => ?_⟩
        have t2 := Same.upd (o := .lst [V.ref p0]) hp1
        refine ⟨D0, p1, _, _, rfl, rfl, t2 _ _ (s1 _ _ upd_same), upd_same, by rw [List.length_map]; exact Nat.le_of_lt (small1000 (by show _ + 1 ≤ 1000; omega)), fun l hln => ?_⟩
        have t3 := Same.upd (o := .lst ((ds1.map fun d => V.ref d.1) ++ [V.ref p0])) hln
        have sB := ((t1.trans s1).trans t2).trans t3
        have sA := s.trans sB
        have h1 := t3 _ _ (t2 _ _ h1)
        have el : upd (upd G1 p1 (.lst [V.ref p0])) l (.lst ((ds1.map fun d => V.ref d.1) ++ [V.ref p0])) l = some (.lst (((ds1 ++ [(p0, En.mk t w z)]).map kyD).map fun t => V.ref t.1)) := by
          rw [upd_same, List.map_map, List.map_append]; rfl
        generalize upd (upd G1 p1 (.lst [V.ref p0])) l (.lst ((ds1.map fun d => V.ref d.1) ++ [V.ref p0])) = G3 at sA h1 el ⊢
        refine ⟨l, rfl, (ds1 ++ [(p0, En.mk t w z)]).map kyD, el, ?_, by simp, by simp; omega, up_of so1, tb.same sA, fun D1 L G4 nw sT tb4 h4 la => ?_⟩
        · intro y hy
          obtain ⟨e, he, rfl⟩ := List.mem_map.mp hy
          rcases List.mem_append.mp he with he | he
          · exact ⟨_, sA _ _ (ht1 e he)⟩
          · rw [List.mem_singleton.mp he]
            exact ⟨_, h1⟩
        · obtain ⟨hL, hc⟩ := last_cnt la
          have M4 : MdAt G4 m q n ds := ⟨sT _ _ (sA _ _ M.dc) (fun _ z => nomatch z), sT _ _ (sA _ _ M.ls.1) (fun _ z => nomatch z), fun e he => sT _ _ (sA _ _ (M.ls.2 e he)) (fun _ z => nomatch z)⟩
          have L4 : LsAt G4 D1 (insD ds1 (p0, En.mk t w z)) := by
            refine ⟨?_, fun e he => ?_⟩
            · rw [h4, List.map_map, mov_snoc _ _ _ _ hL]
              unfold insD
              rw [hc]; rfl
            · rcases mem_insD he with rfl | he
              · exact sT _ _ h1 (fun _ z => nomatch z)
              · exact sT _ _ (sA _ _ (ht1 e he)) (fun _ z => nomatch z)
          refine ⟨_, M4.putD, k _ _ D1 (insD ds1 (p0, En.mk t w z)) (((ButT.of sA).trans (ButT.ofT sT)).trans ButT.upd) (tb4.but But.upd M4.dc (fun _ z => nomatch z) (fun _ z => nomatch z)) (.inr fun xs z => ?_) (M4.setD L4) (by rw [ins_es, es1, (at_ok c).1]) (by rw [(at_ok c).2]; rfl)⟩
          obtain ⟨ps, z2⟩ := nw _ (sA _ _ z)
          cases z2
    | take =>
      refine ixT hd (atI_nat (j := 0) rfl) ⟨rfl, ifF (by decide +kernel) (ixT hd (atI_nat (j := 0) rfl) ⟨rfl, ifT rfl ⟨m, q, n, ds, rfl, M, fun G s => ?_⟩⟩)⟩
      by_cases c : dueV n ds = .non
      · exact ifT c (k _ G q ds (ButT.of s) (tb.same s) (.inl rfl) (M.same s) (take_bad (due_none.mpr c)).1.symm (by rw [(take_bad (due_none.mpr c)).2]; rfl))
      refine ifF c ⟨q, _, rfl, SqL.of (s _ _ M.ls.1), fun p1 hp1 => ?_⟩
      cases ds with
      | nil => exact absurd rfl c
      | cons e r =>
        have ct : e.2.t = n := by
          by_cases z : e.2.t = n
          · exact z
          · exact absurd (if_neg z) c
        have ev : dueV n (e :: r) = .ref e.1 := if_pos ct
        have t1 := Same.upd (o := .lst (vsD r)) hp1
        have sA := s.trans t1
        have eq1 : cutV (vsD (e :: r)) (some 1) none = vsD r := cut1 _ _
        rw [eq1, ev]
        have M1 := M.same sA
        have L1 : LsAt (upd G p1 (.lst (vsD r))) p1 r := ⟨upd_same, fun y hy => sA _ _ (M.ls.2 y (List.mem_cons_of_mem _ hy))⟩
        refine ⟨_, M1.putD, k _ _ p1 r ((ButT.of sA).trans ButT.upd) ((tb.same sA).but But.upd M1.dc (fun _ z => nomatch z) (fun _ z => nomatch z)) (.inr fun xs z => ?_) (M1.setD L1) ((take_ok (r := esD r) ct).1).symm ?_⟩
        · have := s _ _ z
          rw [hp1] at this; cases this
        · have e2 : ansF n (esD (e :: r)) .take = .due e.2 := (take_ok (r := esD r) ct).2
          rw [e2]
          have h2 := M1.ls.2 e List.mem_cons_self
          exact ⟨e.1, rfl, by rw [upd_ne (ne_of h2 M1.dc (fun z => nomatch z))]; exact h2⟩
    | drop w z =>
      refine ixT hd (atI_nat (j := 0) rfl) ⟨rfl, ifF (by decide +kernel) (ixT hd (atI_nat (j := 0) rfl) ⟨rfl, ifF (by decide +kernel) (ixT hd (atI_nat (j := 0) rfl) ⟨rfl, ifT rfl ⟨q, rfl, ⟨_, SqL.of M.ls.1⟩, lc_filt (K := K) (xs := ds) (f := fun d => V.ref d.1) (fun d => keepF w z d.2) M.ls.1 (Nat.le_of_lt (small1000 (by omega))) ?_ ?_⟩⟩)⟩)⟩
      · intro e ys G he s
        (simp only [tLst, tTup, tDNewK, _root_.L2.start, cxOf_K, cxComp_K, tSeq, tAsg, gName, tRet, tRetN, tDrop, tIfS, tTest, tB, tNot, tAnd, tOr, tAndV, tOrV, tNotV, tOp, tUn, tVar, tC, tCons, tNil, tStrs, tCB, tCall, tChain, tBM, tBM0, tPart, tNoPart, tSl, tIf, tNext, tTrue, selS, Option.bind_none, Option.bind_some, Option.join_some, if_true, rI, rI0, rU, rEq, rNe, rStarts, rSlS, lenV_str, tyV, List.map_cons, List.map_nil, List.length_cons, List.length_nil, List.replicate, List.cons_append, List.nil_append, List.append_nil, Nat.reduceAdd, Nat.reduceSub, Nat.zero_add, Nat.add_zero, Nat.sub_self, List.getElem?_cons_zero, List.getElem?_cons_succ, List.set_cons_zero, List.set_cons_succ, Option.some.injEq, V.int.injEq, V.str.injEq, V.ref.injEq, V.bl.injEq, V.ty.injEq, List.cons.injEq, exists_eq_left, exists_eq_left', exists_eq_right, exists_and_left, exists_eq, and_true, true_and, and_self, and_assoc, tFld, sFld, tMeth, tMake, tDIn, tDNotIn, sDPut, tNever, tDGet, tDGet1, tDGet2, tSortK, tSetLc, iList, tLc])
        refine ⟨_, .inr ⟨_, SqT.of (s _ _ hd), rfl⟩, slE3 (s _ _ (M.ls.2 e he)) fun p1 G1 _ s1 h1 => slD (s1 _ _ (s _ _ hd)) fun p2 G2 _ s2 h2 => neT2 (s2 _ _ h1) h2 ⟨_, rfl, ?_⟩⟩
        have sA := (s.trans s1).trans s2
        by_cases ck : keepF w z e.2 = true
        · exact bT ck ⟨sA, by rw [if_pos ck]⟩
        · exact bF (by simpa [keepF] using ck) ⟨sA, by rw [if_neg ck, List.append_nil]⟩
      · intro G s D0 hD0
        have es1 := flt_es ds (keepF w z)
        have ht1 : ∀ e ∈ (ds.filter fun d => keepF w z d.2), H e.1 = some (.tup e.2.vs) := fun e he => M.ls.2 e (List.mem_filter.mp he).1
        have hlen : (ds.filter fun d => keepF w z d.2).length = ((esD ds).filter (keepF w z)).length := by rw [← es1, len_es]
        generalize (ds.filter fun d => keepF w z d.2) = ds1 at es1 ht1 hlen ⊢
        have t1 := Same.upd (o := .lst (vsD ds1)) hD0
        have sA := s.trans t1
        have M1 := M.same sA
        have L1 : LsAt (upd G D0 (.lst (vsD ds1))) D0 ds1 := ⟨upd_same, fun y hy => sA _ _ (ht1 y hy)⟩
        have M2 := M1.setD L1
        refine ⟨_, M1.putD, _, .inl ⟨_, SqL.of (by rw [upd_ne (ne_of M1.ls.1 M1.dc (fun z => nomatch z))]; exact M1.ls.1), rfl⟩, _, M2.getD, _, .inl ⟨_, SqL.of M2.ls.1, rfl⟩, k _ _ D0 ds1 ((ButT.of sA).trans ButT.upd) ((tb.same sA).but But.upd M1.dc (fun _ z => nomatch z) (fun _ z => nomatch z)) (.inr fun xs z => ?_) M2 es1 ?_⟩
        · have := s _ _ z
          rw [hD0] at this; cases this
        · show V.int _ = V.int _
          rw [len_vs, len_vs, hlen, len_es]
    | drop1 w =>
      refine ixT hd (atI_nat (j := 0) rfl) ⟨rfl, ifF (by decide +kernel) (ixT hd (atI_nat (j := 0) rfl) ⟨rfl, ifF (by decide +kernel) (ixT hd (atI_nat (j := 0) rfl) ⟨rfl, ifT rfl ⟨q, rfl, ⟨_, SqL.of M.ls.1⟩, lc_filt (K := K) (xs := ds) (f := fun d => V.ref d.1) (fun d => decide (d.2.w ≠ w)) M.ls.1 (Nat.le_of_lt (small1000 (by omega))) ?_ ?_⟩⟩)⟩)⟩
      · intro e ys G he s
        (simp only [tLst, tTup, tDNewK, _root_.L2.start, cxOf_K, cxComp_K, tSeq, tAsg, gName, tRet, tRetN, tDrop, tIfS, tTest, tB, tNot, tAnd, tOr, tAndV, tOrV, tNotV, tOp, tUn, tVar, tC, tCons, tNil, tStrs, tCB, tCall, tChain, tBM, tBM0, tPart, tNoPart, tSl, tIf, tNext, tTrue, selS, Option.bind_none, Option.bind_some, Option.join_some, if_true, rI, rI0, rU, rEq, rNe, rStarts, rSlS, lenV_str, tyV, List.map_cons, List.map_nil, List.length_cons, List.length_nil, List.replicate, List.cons_append, List.nil_append, List.append_nil, Nat.reduceAdd, Nat.reduceSub, Nat.zero_add, Nat.add_zero, Nat.sub_self, List.getElem?_cons_zero, List.getElem?_cons_succ, List.set_cons_zero, List.set_cons_succ, Option.some.injEq, V.int.injEq, V.str.injEq, V.ref.injEq, V.bl.injEq, V.ty.injEq, List.cons.injEq, exists_eq_left, exists_eq_left', exists_eq_right, exists_and_left, exists_eq, and_true, true_and, and_self, and_assoc, tFld, sFld, tMeth, tMake, tDIn, tDNotIn, sDPut, tNever, tDGet, tDGet1, tDGet2, tSortK, tSetLc, iList, tLc])
        refine ⟨_, .inr ⟨_, SqT.of (s _ _ hd), rfl⟩, slE2 (s _ _ (M.ls.2 e he)) fun p1 G1 _ s1 h1 => slD1 (s1 _ _ (s _ _ hd)) fun p2 G2 _ s2 h2 => neT1 (s2 _ _ h1) h2 ⟨_, rfl, ?_⟩⟩
        have sA := (s.trans s1).trans s2
        by_cases ck : e.2.w ≠ w
        · exact ifT ck ⟨sA, by rw [if_pos (decide_eq_true ck)]⟩
        · exact ifF ck ⟨sA, by rw [if_neg (by simpa using ck), List.append_nil]⟩
      · intro G s D0 hD0
        have es1 := flt_es ds (fun e => decide (e.w ≠ w))
        have ht1 : ∀ e ∈ (ds.filter fun d => decide (d.2.w ≠ w)), H e.1 = some (.tup e.2.vs) := fun e he => M.ls.2 e (List.mem_filter.mp he).1
        have hlen : (ds.filter fun d => decide (d.2.w ≠ w)).length = ((esD ds).filter fun e => decide (e.w ≠ w)).length := by rw [← es1, len_es]
        generalize (ds.filter fun d => decide (d.2.w ≠ w)) = ds1 at es1 ht1 hlen ⊢
        have t1 := Same.upd (o := .lst (vsD ds1)) hD0
        have sA := s.trans t1
        have M1 := M.same sA
        have L1 : LsAt (upd G D0 (.lst (vsD ds1))) D0 ds1 := ⟨upd_same, fun y hy => sA _ _ (ht1 y hy)⟩
        have M2 := M1.setD L1
        refine ⟨_, M1.putD, _, .inl ⟨_, SqL.of (by rw [upd_ne (ne_of M1.ls.1 M1.dc (fun z => nomatch z))]; exact M1.ls.1), rfl⟩, _, M2.getD, _, .inl ⟨_, SqL.of M2.ls.1, rfl⟩, k _ _ D0 ds1 ((ButT.of sA).trans ButT.upd) ((tb.same sA).but But.upd M1.dc (fun _ z => nomatch z) (fun _ z => nomatch z)) (.inr fun xs z => ?_) M2 es1 ?_⟩
        · have := s _ _ z
          rw [hD0] at this; cases this
        · show V.int _ = V.int _
          rw [len_vs, len_vs, hlen, len_es]
    | goTo t =>
      refine ixT hd (atI_nat (j := 0) rfl) ⟨rfl, ifF (by decide +kernel) (ixT hd (atI_nat (j := 0) rfl) ⟨rfl, ifF (by decide +kernel) (ixT hd (atI_nat (j := 0) rfl) ⟨rfl, ifF (by decide +kernel) (ixT hd (atI_nat (j := 1) rfl) ⟨_, M.getT, _, rfl, _, rfl, ?_⟩)⟩)⟩)⟩
      by_cases c : t < n
      · exact ifT c (k _ H q ds (ButT.of (Same.refl _)) tb (.inl rfl) (by rw [(go_bad (.inl c)).1]; exact M) rfl (by rw [(go_bad (.inl c)).2]; rfl))
      refine ifF c ⟨q, rfl, ⟨_, SqL.of M.ls.1⟩, lc_filt (K := K) (xs := ds) (f := fun d => V.ref d.1) (fun d => decide (d.2.t < t)) M.ls.1 (Nat.le_of_lt (small1000 (by omega))) ?_ ?_⟩
      · intro e ys G he s
        (simp only [tLst, tTup, tDNewK, _root_.L2.start, cxOf_K, cxComp_K, tSeq, tAsg, gName, tRet, tRetN, tDrop, tIfS, tTest, tB, tNot, tAnd, tOr, tAndV, tOrV, tNotV, tOp, tUn, tVar, tC, tCons, tNil, tStrs, tCB, tCall, tChain, tBM, tBM0, tPart, tNoPart, tSl, tIf, tNext, tTrue, selS, Option.bind_none, Option.bind_some, Option.join_some, if_true, rI, rI0, rU, rEq, rNe, rStarts, rSlS, lenV_str, tyV, List.map_cons, List.map_nil, List.length_cons, List.length_nil, List.replicate, List.cons_append, List.nil_append, List.append_nil, Nat.reduceAdd, Nat.reduceSub, Nat.zero_add, Nat.add_zero, Nat.sub_self, List.getElem?_cons_zero, List.getElem?_cons_succ, List.set_cons_zero, List.set_cons_succ, Option.some.injEq, V.int.injEq, V.str.injEq, V.ref.injEq, V.bl.injEq, V.ty.injEq, List.cons.injEq, exists_eq_left, exists_eq_left', exists_eq_right, exists_and_left, exists_eq, and_true, true_and, and_self, and_assoc, tFld, sFld, tMeth, tMake, tDIn, tDNotIn, sDPut, tNever, tDGet, tDGet1, tDGet2, tSortK, tSetLc, iList, tLc])
        refine ixT (s _ _ (M.ls.2 e he)) (atI_nat (j := 0) rfl) (ixT (s _ _ hd) (atI_nat (j := 1) rfl) ⟨_, rfl, _, rfl, ?_⟩)
        by_cases ck : e.2.t < t
        · exact ifT ck ⟨s, by rw [if_pos (decide_eq_true ck)]⟩
        · exact ifF ck ⟨s, by rw [if_neg (by simpa using ck), List.append_nil]⟩
      · intro G s D0 hD0
        have t1 := Same.upd (o := .lst (vsD (ds.filter fun d => decide (d.2.t < t)))) hD0
        refine nilD upd_same fun G2 s2 => ⟨_, rfl, ?_⟩
        have sA := (s.trans t1).trans s2
        have M2 := M.same sA
        by_cases lt : late (esD ds) t
        · refine bT ?_ (k _ G2 q ds (ButT.of sA) (tb.same sA) (.inl rfl) (by rw [(go_bad (.inr lt)).1]; exact M2) rfl (by rw [(go_bad (.inr lt)).2]; rfl))
          obtain ⟨e, he, le⟩ := lt
          obtain ⟨y, hy, rfl⟩ := List.mem_map.mp he
          have : (ds.filter fun d => decide (d.2.t < t)) ≠ [] := fun z => by
            have := (List.mem_filter (p := fun d : Addr × En => decide (d.2.t < t))).mpr ⟨hy, decide_eq_true le⟩
            rw [z] at this; cases this
          rw [decide_eq_false this]; rfl
        · have nb : ¬ (t < n ∨ late (esD ds) t) := fun z => z.elim c lt
          have : (ds.filter fun d => decide (d.2.t < t)) = [] := List.filter_eq_nil_iff.mpr fun y hy z => lt ⟨y.2, List.mem_map.mpr ⟨y, hy, rfl⟩, of_decide_eq_true z⟩
          exact bF (by rw [decide_eq_true this]; rfl) (ixT (sA _ _ hd) (atI_nat (j := 1) rfl) ⟨_, M2.putT, k _ _ q ds ((ButT.of sA).trans ButT.upd) ((tb.same sA).but But.upd M2.dc (fun _ z => nomatch z) (fun _ z => nomatch z)) (.inl rfl) (by rw [(go_ok nb).1]; exact M2.setT) rfl (by rw [(go_ok nb).2]; rfl)⟩)
theorem sc_l_done : FnScope ["_law_clock", "_law_deed"] ["_law_clock", "_law_deed"] (defScope (top 10)) := ⟨rfl, rfl, rfl, by decide +kernel, rfl, by decide +kernel, by decide +kernel⟩
theorem ok_l_done (T : Tx K mg c_tab p_tab)
    (G_Clock_at : FnOk P w K mg base (CXX P w) 2 T.m_Clock_at.f T.m_Clock_at.fd ["self", "time", "who", "what"] (spAt T.C_Clock T.C_BadClock))
    (G_Clock_take : FnOk P w K mg base (CXX P w) 3 T.m_Clock_take.f T.m_Clock_take.fd ["self"] (spTake T.C_Clock T.C_BadClock))
    (G_Clock_drop : FnOk P w K mg base CX0 1 T.m_Clock_drop.f T.m_Clock_drop.fd ["self", "who", "what"] (spDrop T.C_Clock))
    (G_Clock_go_to : FnOk P w K mg base (CXX P w) 2 T.m_Clock_go_to.f T.m_Clock_go_to.fd ["self", "time"] (spGoTo T.C_Clock T.C_BadClock)) : FnOk P w K mg base CX0 4 T.d_l_done.f T.d_l_done.fd ["_law_clock", "_law_deed"] (spDone T.C_Clock) := by
  refine T.d_l_done.F.okT sc_l_done T.x_BadClock rfl (fun vs H Q E h => ?_) (fun _ _ => rfl) (by decide) (fun cdv A outer s H vs Q E hr h => ?_)
  · obtain ⟨x, p, d, n, ds, D, rfl, _⟩ := h
    rfl
  · obtain ⟨x, p, d, n, ds, D, rfl, Ck, hl, so, hd, k⟩ := h
    have hu := hu100 hr
    have hu1 := hu_of hr
    obtain ⟨⟨dx, h1⟩, hls⟩ := id Ck
    refine ⟨_, (pss_cons (ps_if (pt_cmpR op_eq (pe_ix ix_tup (pv 1) pe_int (fun _ _ => rfl)) pe_str (nomark _))
    (pss_one (ps_ret (pe_meth (pv 0) T.k_Clock T.m_Clock_at.me G_Clock_at (hr.mono (by omega)) T.m_Clock_at.b .nil passT (pa_cons (pe_ix ix_tup (pv 1) pe_int (fun _ _ => rfl)) (pa_cons (pe_ix ix_tup (pv 1) pe_int (fun _ _ => rfl)) (pa_cons (pe_ix ix_tup (pv 1) pe_int (fun _ _ => rfl)) pa_nil))))))
    pss_nil)
    (pss_cons (ps_if (pt_cmpR op_eq (pe_ix ix_tup (pv 1) pe_int (fun _ _ => rfl)) pe_str (nomark _))
    (pss_one (ps_ret (pe_meth0 (pv 0) T.k_Clock T.m_Clock_take.me G_Clock_take (hr.mono (by omega)) T.m_Clock_take.b .nil passT)))
    pss_nil)
    (pss_cons (ps_if (PW.pt (pw_and (pt_cmpR op_eq (pe_ix ix_tup (pv 1) pe_int (fun _ _ => rfl)) pe_str (nomark _)) (pw_and (pt_cmpR op_eq (pe_callB call_len (by rfl) T.n_len bt_len (pa_cons (pv 1) pa_nil)) pe_int (nomark _)) (pw_and1 (pt_cmpR op_eq (pe_op op_mod (pe_ix ix_tup (pv 1) pe_int (fun _ _ => rfl)) pe_int) pe_int (nomark _))))))
    (pss_one (ps_ret (pe_meth (pv 0) T.k_Clock T.m_Clock_drop.me G_Clock_drop (hr.mono (by omega)) T.m_Clock_drop.b .nil pass0 (pa_cons (pe_ix ix_tup (pv 1) pe_int (fun _ _ => rfl)) (pa_cons pe_non pa_nil)))))
    pss_nil)
    (pss_cons (ps_if (PW.pt (pw_and (pt_cmpR op_eq (pe_ix ix_tup (pv 1) pe_int (fun _ _ => rfl)) pe_str (nomark _)) (pw_and1 (pt_cmpR op_eq (pe_callB call_len (by rfl) T.n_len bt_len (pa_cons (pv 1) pa_nil)) pe_int (nomark _)))))
    (pss_one (ps_ret (pe_meth (pv 0) T.k_Clock T.m_Clock_drop.me G_Clock_drop (hr.mono (by omega)) T.m_Clock_drop.b1 (show Vals [V.non] [Value.none] from .cons rfl .nil) pass0 (pa_cons (pe_ix ix_tup (pv 1) pe_int (fun _ _ => rfl)) pa_nil))))
    pss_nil)
    (pss_cons (ps_if (pt_cmpR op_eq (pe_ix ix_tup (pv 1) pe_int (fun _ _ => rfl)) pe_str (nomark _))
    (pss_one (ps_ret (pe_meth (pv 0) T.k_Clock T.m_Clock_drop.me G_Clock_drop (hr.mono (by omega)) T.m_Clock_drop.b .nil pass0 (pa_cons (pe_ix ix_tup (pv 1) pe_int (fun _ _ => rfl)) (pa_cons (pe_ix ix_tup (pv 1) pe_int (fun _ _ => rfl)) pa_nil)))))
    pss_nil)
    (pss_one (ps_ret (pe_meth (pv 0) T.k_Clock T.m_Clock_go_to.me G_Clock_go_to (hr.mono (by omega)) T.m_Clock_go_to.b .nil passT (pa_cons (pe_ix ix_tup (pv 1) pe_int (fun _ _ => rfl)) pa_nil))))))))), ?_⟩
    (simp only [tLst, tTup, tDNewK, _root_.L2.start, cxOf_K, cxComp_K, tSeq, tAsg, gName, tRet, tRetN, tDrop, tIfS, tTest, tB, tNot, tAnd, tOr, tAndV, tOrV, tNotV, tOp, tUn, tVar, tC, tCons, tNil, tStrs, tCB, tCall, tChain, tBM, tBM0, tPart, tNoPart, tSl, tIf, tNext, tTrue, selS, Option.bind_none, Option.bind_some, Option.join_some, if_true, rI, rI0, rU, rEq, rNe, rStarts, rSlS, lenV_str, tyV, List.map_cons, List.map_nil, List.length_cons, List.length_nil, List.replicate, List.cons_append, List.nil_append, List.append_nil, Nat.reduceAdd, Nat.reduceSub, Nat.zero_add, Nat.add_zero, Nat.sub_self, List.getElem?_cons_zero, List.getElem?_cons_succ, List.set_cons_zero, List.set_cons_succ, Option.some.injEq, V.int.injEq, V.str.injEq, V.ref.injEq, V.bl.injEq, V.ty.injEq, List.cons.injEq, exists_eq_left, exists_eq_left', exists_eq_right, exists_and_left, exists_eq, and_true, true_and, and_self, and_assoc, tFld, sFld, tMeth, tMake, tDIn, tDNotIn, sDPut, tNever, tDGet, tDGet1, tDGet2, tSortK, tSetLc, iList, tLc])
    cases D with
    | «at» t w z =>
      refine ixT hd (atI_nat (j := 0) rfl) ⟨rfl, ifT rfl ⟨_, _, h1, rfl, ixT hd (atI_nat (j := 1) rfl) (ixT hd (atI_nat (j := 2) rfl) (ixT hd (atI_nat (j := 3) rfl) ⟨x, p, n, ds, t, w, z, rfl, Ck, by omega, fun c => ⟨rfl, ?_⟩, fun c p' ds' G b hp Ck' es => ?_⟩))⟩⟩
      · exact k _ H p ds (Frm.of (Same.refl _)) (.inl rfl) Ck (at_bad c).1.symm (by rw [(at_bad c).2]; rfl)
      · exact k _ G p' ds' (Frm.x b) (.inr hp) Ck' (by rw [(at_ok c).1]; exact es) (by rw [(at_ok c).2]; rfl)
    | take =>
      refine ixT hd (atI_nat (j := 0) rfl) ⟨rfl, ifF (by decide +kernel) (ixT hd (atI_nat (j := 0) rfl) ⟨rfl, ifT rfl ⟨_, _, h1, rfl, x, p, n, ds, rfl, Ck, fun c G s => ⟨rfl, ?_⟩, fun d' r e c G b Ck' => ?_⟩⟩)⟩
      · exact k _ G p ds (Frm.of s) (.inl rfl) (Ck.same s) (take_bad c).1.symm (by rw [(take_bad c).2]; rfl)
      · subst e
        exact k _ G p r (Frm.p b) (.inl rfl) Ck' ((take_ok (r := esD r) c).1).symm (by
          have e2 : ansF n (esD (d' :: r)) .take = .due d'.2 := (take_ok (r := esD r) c).2
          rw [e2]
          have h2 := hls.2 d' List.mem_cons_self
          exact ⟨d'.1, rfl, b _ _ (ne_of h2 hls.1 (fun z => nomatch z)) h2⟩)
    | drop w z =>
      have fin : spDrop T.C_Clock [.ref x, .int w, .str z] H Q E0 := ⟨x, p, n, ds, w, .str z, rfl, Ck, by omega, .inr ⟨z, rfl⟩, fun p' G b hp Ck' => k _ G p' _ (Frm.x b) (.inr hp) Ck' (dropD_str w z ds) (congrArg V.int (drop_len (dropD_str w z ds)))⟩
      refine ixT hd (atI_nat (j := 0) rfl) ⟨rfl, ifF (by decide +kernel) (ixT hd (atI_nat (j := 0) rfl) ⟨rfl, ifF (by decide +kernel) (ixT hd (atI_nat (j := 0) rfl) ⟨rfl, ifT rfl ⟨_, .inr ⟨_, SqT.of hd, rfl⟩, rfl, ifF (show ¬ ((3 : Nat) : Int) = 2 by decide) (iteF (ixT hd (atI_nat (j := 0) rfl) ⟨rfl, ifT rfl ⟨_, .inr ⟨_, SqT.of hd, rfl⟩, rfl, ifF (show ¬ ((3 : Nat) : Int) = 2 by decide) (ixT hd (atI_nat (j := 0) rfl) ⟨rfl, ifT rfl ⟨_, _, h1, rfl, ixT hd (atI_nat (j := 1) rfl) (ixT hd (atI_nat (j := 2) rfl) fin)⟩⟩)⟩⟩))⟩⟩)⟩)⟩
    | drop1 w =>
      have fin : spDrop T.C_Clock [.ref x, .int w, .non] H Q E0 := ⟨x, p, n, ds, w, .non, rfl, Ck, by omega, .inl rfl, fun p' G b hp Ck' => k _ G p' _ (Frm.x b) (.inr hp) Ck' (dropD_non w ds) (congrArg V.int (drop_len (dropD_non w ds)))⟩
      refine ixT hd (atI_nat (j := 0) rfl) ⟨rfl, ifF (by decide +kernel) (ixT hd (atI_nat (j := 0) rfl) ⟨rfl, ifF (by decide +kernel) (ixT hd (atI_nat (j := 0) rfl) ⟨rfl, ifT rfl ⟨_, .inr ⟨_, SqT.of hd, rfl⟩, rfl, ifT (show ((2 : Nat) : Int) = 2 from rfl) (ixT hd (atI_nat (j := 1) rfl) ⟨_, rfl, by decide, rfl, ?_⟩)⟩⟩)⟩)⟩
      by_cases c : w % 2 = 0
      · exact ifT c ⟨_, _, h1, rfl, ixT hd (atI_nat (j := 1) rfl) fin⟩
      · exact ifF c (ixT hd (atI_nat (j := 0) rfl) ⟨rfl, ifT rfl ⟨_, .inr ⟨_, SqT.of hd, rfl⟩, rfl, ifT (show ((2 : Nat) : Int) = 2 from rfl) ⟨_, _, h1, rfl, ixT hd (atI_nat (j := 1) rfl) fin⟩⟩⟩)
    | goTo t =>
      have fin : spGoTo T.C_Clock T.C_BadClock [.ref x, .int t] H Q (takes T.C_BadClock "BadClock" Q) := ⟨x, p, n, ds, t, rfl, Ck, so, fun c G s => ⟨rfl, k _ G p ds (Frm.of s) (.inl rfl) (by rw [(go_bad c).1]; exact Ck.same s) rfl (by rw [(go_bad c).2]; rfl)⟩, fun c G b Ck' => k _ G p ds (Frm.x b) (.inl rfl) (by rw [(go_ok c).1]; exact Ck') rfl (by rw [(go_ok c).2]; rfl)⟩
      refine ixT hd (atI_nat (j := 0) rfl) ⟨rfl, ifF (by decide +kernel) (ixT hd (atI_nat (j := 0) rfl) ⟨rfl, ifF (by decide +kernel) (ixT hd (atI_nat (j := 0) rfl) ⟨rfl, ifF (by decide +kernel) ?_⟩)⟩)⟩
      exact iteF (ixT hd (atI_nat (j := 0) rfl) ⟨rfl, ifF (by decide +kernel) (iteF (ixT hd (atI_nat (j := 0) rfl) ⟨rfl, ifF (by decide +kernel) ⟨_, _, h1, rfl, ixT hd (atI_nat (j := 1) rfl) fin⟩⟩))⟩)
theorem sc_l_whole : FnScope ["_law_found"] ["_law_found"] (defScope (top 11)) := ⟨rfl, rfl, rfl, by decide +kernel, rfl, by decide +kernel, by decide +kernel⟩
theorem ok_l_whole (T : Tx K mg c_tab p_tab) : FnOk P w K mg base CX0 1 T.d_l_whole.f T.d_l_whole.fd ["_law_found"] (spWhole) := by
  refine T.d_l_whole.F.ok sc_l_whole (fun vs H Q E h => ?_) (fun cdv A outer s H vs Q E hr h => ?_)
  · obtain ⟨n, rfl, _⟩ := h
    rfl
  · obtain ⟨n, rfl, k⟩ := h
    refine ⟨_, (pss_one (ps_ret (pe_and (pe_callB call_isinst (by rfl) T.n_isinstance bt_isinstance (pa_cons (pv 0) (pa_cons (pe_bltn (v := .ty "int") rfl T.n_int bt_int rfl) pa_nil))) (pe_one (pe_not (pe_callB call_isinst (by rfl) T.n_isinstance bt_isinstance (pa_cons (pv 0) (pa_cons (pe_bltn (v := .ty "bool") rfl T.n_bool bt_bool rfl) pa_nil)))))))), ?_⟩
    (simp only [tLst, tTup, tDNewK, _root_.L2.start, cxOf_K, cxComp_K, tSeq, tAsg, gName, tRet, tRetN, tDrop, tIfS, tTest, tB, tNot, tAnd, tOr, tAndV, tOrV, tNotV, tOp, tUn, tVar, tC, tCons, tNil, tStrs, tCB, tCall, tChain, tBM, tBM0, tPart, tNoPart, tSl, tIf, tNext, tTrue, selS, Option.bind_none, Option.bind_some, Option.join_some, if_true, rI, rI0, rU, rEq, rNe, rStarts, rSlS, lenV_str, tyV, List.map_cons, List.map_nil, List.length_cons, List.length_nil, List.replicate, List.cons_append, List.nil_append, List.append_nil, Nat.reduceAdd, Nat.reduceSub, Nat.zero_add, Nat.add_zero, Nat.sub_self, List.getElem?_cons_zero, List.getElem?_cons_succ, List.set_cons_zero, List.set_cons_succ, Option.some.injEq, V.int.injEq, V.str.injEq, V.ref.injEq, V.bl.injEq, V.ty.injEq, List.cons.injEq, exists_eq_left, exists_eq_left', exists_eq_right, exists_and_left, exists_eq, and_true, true_and, and_self, and_assoc, tFld, sFld, tMeth, tMake, tDIn, tDNotIn, sDPut, tNever, tDGet, tDGet1, tDGet2, tSortK, tSetLc, iList, tLc])
    exact ⟨_, .int n, true, rfl, iteT ⟨_, .int n, false, rfl, k⟩⟩
theorem sc_l_same : FnScope ["_law_clock", "_law_model", "_law_x", "_law_many", "_law_next_one", "_law_k"] ["_law_clock", "_law_model", "_law_x", "_law_many"] (defScope (top 12)) := ⟨rfl, rfl, rfl, by decide +kernel, rfl, by decide +kernel, by decide +kernel⟩
theorem ok_l_same (T : Tx K mg c_tab p_tab)
    (G_Clock_now : FnOk P w K mg base CX0 1 T.m_Clock_now.f T.m_Clock_now.fd ["self"] (spNow T.C_Clock))
    (G_Clock_dues : FnOk P w K mg base CX0 1 T.m_Clock_dues.f T.m_Clock_dues.fd ["self"] (spDues T.C_Clock))
    (G_Clock_due : FnOk P w K mg base CX0 2 T.m_Clock_due.f T.m_Clock_due.fd ["self"] (spDue T.C_Clock))
    (G_Clock_next_time : FnOk P w K mg base CX0 1 T.m_Clock_next_time.f T.m_Clock_next_time.fd ["self"] (spNext T.C_Clock))
    (G_l_due : FnOk P w K mg base CX0 1 T.d_l_due.f T.d_l_due.fd ["_law_model"] (spLDue K))
    (G_l_whole : FnOk P w K mg base CX0 1 T.d_l_whole.f T.d_l_whole.fd ["_law_found"] (spWhole)) : FnOk P w K mg base CX0 3 T.d_l_same.f T.d_l_same.fd ["_law_clock", "_law_model", "_law_x", "_law_many"] (spSame T.C_Clock) := by
  refine T.d_l_same.F.ok sc_l_same (fun vs H Q E h => ?_) (fun cdv A outer s H vs Q E hr h => ?_)
  · obtain ⟨x, p, m, q, n, ds, es, z, kk, rfl, _⟩ := h
    rfl
  · obtain ⟨x, p, m, q, n, ds, es, z, kk, rfl, Ck, M, ee, hl, k0, k4, k⟩ := h
    have hu := hu100 hr
    have hu1 := hu_of hr
    refine ⟨_, (pss_cons (ps_set (i := 4) sc_l_same.nd rfl (Or.inl rfl) (pe_op op_cat (pe_lc (N' := ["_law_one"]) (sel := [none]) rfl rfl rfl (pi_list (pe_slice sl_list (pe_dget hu1 (pv 1) pe_str (fun _ _ => rfl)) po_none (po_some pe_int))) (gk_name rfl) (fun _ _ _ _ _ => ⟨(pg_name (i := 0) (show (["_law_one"] : List Str).Nodup by decide +kernel) rfl (Or.inl rfl)), pts_nil, (pe_ix (ix_tupK (K := K) rfl) (pv 0) pe_int (fun _ _ => rfl))⟩)) (pe_lst (pa_cons pe_non pa_nil))))
    (pss_cons (ps_for PassesOwn.never rfl (pi_list (pe_slice sl_list (pe_ix ix_list (pe_lst (pa_cons (pe_lst (pa_cons pe_int (pa_cons pe_int (pa_cons pe_int (pa_cons pe_int pa_nil))))) (pa_cons (pe_lst (pa_cons pe_int (pa_cons pe_int (pa_cons pe_int (pa_cons pe_int pa_nil))))) (pa_cons (pe_lst (pa_cons pe_int (pa_cons pe_int (pa_cons pe_int (pa_cons pe_int pa_nil))))) (pa_cons (pe_lst (pa_cons pe_int (pa_cons pe_int (pa_cons pe_int (pa_cons pe_int pa_nil))))) pa_nil))))) (pe_op op_mod (pv 2) pe_int) (fun _ _ => rfl)) po_none (po_some (pv 3)))) (pg_name (i := 5) sc_l_same.nd rfl (Or.inl rfl))
    (pss_mid (ps_if (PW.pt (pw_and (pt_cmpR op_eq (pv 5) pe_int (nomark _)) (pw_and1 (PW.pt (pw_or (pt_cmpR op_ne (pe_meth0 (pv 0) T.k_Clock T.m_Clock_now.me G_Clock_now (hr.mono (by omega)) T.m_Clock_now.b .nil pass0) (pe_dget hu1 (pv 1) pe_str (fun _ _ => rfl)) (nomark _)) (pw_or1 (pt_not (pt_val (pe_call G_l_whole (hr.mono (by omega)) rfl T.d_l_whole.hm T.d_l_whole.F.kp T.d_l_whole.b .nil pass0 (pa_cons (pe_meth0 (pv 0) T.k_Clock T.m_Clock_now.me G_Clock_now (hr.mono (by omega)) T.m_Clock_now.b .nil pass0) pa_nil))))))))))
    (pss_one (ps_ret pe_bl))
    pss_nil)
    (pss_mid (ps_if (PW.pt (pw_and (pt_cmpR op_eq (pv 5) pe_int (nomark _)) (pw_and1 (PW.pt (pw_or (pt_cmpR (op_neL hu) (pe_meth0 (pv 0) T.k_Clock T.m_Clock_dues.me G_Clock_dues (hr.mono (by omega)) T.m_Clock_dues.b .nil pass0) (pe_dget hu1 (pv 1) pe_str (fun _ _ => rfl)) (nomark _)) (pw_or1 (pt_not (pt_val (pe_callB call_isinst (by rfl) T.n_isinstance bt_isinstance (pa_cons (pe_meth0 (pv 0) T.k_Clock T.m_Clock_dues.me G_Clock_dues (hr.mono (by omega)) T.m_Clock_dues.b .nil pass0) (pa_cons (pe_bltn (v := .ty "list") rfl T.n_list bt_list rfl) pa_nil)))))))))))
    (pss_one (ps_ret pe_bl))
    pss_nil)
    (pss_mid (ps_if (PW.pt (pw_and (pt_cmpR op_eq (pv 5) pe_int (nomark _)) (pw_and1 (pt_cmpR (op_neM hu) (pe_meth0 (pv 0) T.k_Clock T.m_Clock_due.me G_Clock_due (hr.mono (by omega)) T.m_Clock_due.b .nil pass0) (pe_call G_l_due (hr.mono (by omega)) rfl T.d_l_due.hm T.d_l_due.F.kp T.d_l_due.b .nil pass0 (pa_cons (pv 1) pa_nil)) (nomark _)))))
    (pss_one (ps_ret pe_bl))
    pss_nil)
    (pss_one (ps_if (PW.pt (pw_and (pt_cmpR op_eq (pv 5) pe_int (nomark _)) (pw_and1 (pt_cmpR op_ne (pe_meth0 (pv 0) T.k_Clock T.m_Clock_next_time.me G_Clock_next_time (hr.mono (by omega)) T.m_Clock_next_time.b .nil pass0) (pe_ix ix_list (pv 4) pe_int (fun _ _ => rfl)) (nomark _)))))
    (pss_one (ps_ret pe_bl))
    pss_nil))))))
    (pss_mid (ps_if (pt_cmpR op_eq (pv 3) pe_int (nomark _))
    (pss_one (ps_expr (pe_bm PySem.F.plainAttrs_list PySem.F.slot_list_append PySem.F.type_list_append mt_append (pe_meth0 (pv 0) T.k_Clock T.m_Clock_dues.me G_Clock_dues (hr.mono (by omega)) T.m_Clock_dues.b .nil pass0) (pa_cons pe_str pa_nil))))
    pss_nil)
    (pss_one (ps_ret (pe_or (pe_cmpR op_lt (pv 3) pe_int (nomark _)) (pe_one (pe_cmpR (op_eqL hu) (pe_meth0 (pv 0) T.k_Clock T.m_Clock_dues.me G_Clock_dues (hr.mono (by omega)) T.m_Clock_dues.b .nil pass0) (pe_dget hu1 (pv 1) pe_str (fun _ _ => rfl)) (nomark _))))))))), ?_⟩
    (simp only [tLst, tTup, tDNewK, _root_.L2.start, cxOf_K, cxComp_K, tSeq, tAsg, gName, tRet, tRetN, tDrop, tIfS, tTest, tB, tNot, tAnd, tOr, tAndV, tOrV, tNotV, tOp, tUn, tVar, tC, tCons, tNil, tStrs, tCB, tCall, tChain, tBM, tBM0, tPart, tNoPart, tSl, tIf, tNext, tTrue, selS, Option.bind_none, Option.bind_some, Option.join_some, if_true, rI, rI0, rU, rEq, rNe, rStarts, rSlS, lenV_str, tyV, List.map_cons, List.map_nil, List.length_cons, List.length_nil, List.replicate, List.cons_append, List.nil_append, List.append_nil, Nat.reduceAdd, Nat.reduceSub, Nat.zero_add, Nat.add_zero, Nat.sub_self, List.getElem?_cons_zero, List.getElem?_cons_succ, List.set_cons_zero, List.set_cons_succ, Option.some.injEq, V.int.injEq, V.str.injEq, V.ref.injEq, V.bl.injEq, V.ty.injEq, List.cons.injEq, exists_eq_left, exists_eq_left', exists_eq_right, exists_and_left, exists_eq, and_true, true_and, and_self, and_assoc, tFld, sFld, tMeth, tMake, tDIn, tDNotIn, sDPut, tNever, tDGet, tDGet1, tDGet2, tSortK, tSetLc, iList, tLc])
    refine ⟨_, M.getD, q, _, rfl, SqL.of M.ls.1, fun a1 ha1 => ?_⟩
    have eq1 : cutV (vsD es) none (some 1) = (es.take 1).map fun d => V.ref d.1 := by rw [cut_1]; unfold vsD; rw [List.map_take]
    rw [eq1]
    have t1 := Same.upd (o := .lst ((es.take 1).map fun d => V.ref d.1)) ha1
    have M1 := M.same t1
    refine ⟨a1, rfl, ⟨_, SqL.of upd_same⟩, lc_map (K := K) (xs := es.take 1) (f := fun d => V.ref d.1) (g' := fun d => V.int d.2.t) upd_same (Nat.le_of_lt (small1000 (by rw [List.length_take]; omega))) ?_ ?_⟩
    · intro e ys G he s
      (simp only [tLst, tTup, tDNewK, _root_.L2.start, cxOf_K, cxComp_K, tSeq, tAsg, gName, tRet, tRetN, tDrop, tIfS, tTest, tB, tNot, tAnd, tOr, tAndV, tOrV, tNotV, tOp, tUn, tVar, tC, tCons, tNil, tStrs, tCB, tCall, tChain, tBM, tBM0, tPart, tNoPart, tSl, tIf, tNext, tTrue, selS, Option.bind_none, Option.bind_some, Option.join_some, if_true, rI, rI0, rU, rEq, rNe, rStarts, rSlS, lenV_str, tyV, List.map_cons, List.map_nil, List.length_cons, List.length_nil, List.replicate, List.cons_append, List.nil_append, List.append_nil, Nat.reduceAdd, Nat.reduceSub, Nat.zero_add, Nat.add_zero, Nat.sub_self, List.getElem?_cons_zero, List.getElem?_cons_succ, List.set_cons_zero, List.set_cons_succ, Option.some.injEq, V.int.injEq, V.str.injEq, V.ref.injEq, V.bl.injEq, V.ty.injEq, List.cons.injEq, exists_eq_left, exists_eq_left', exists_eq_right, exists_and_left, exists_eq, and_true, true_and, and_self, and_assoc, tFld, sFld, tMeth, tMake, tDIn, tDNotIn, sDPut, tNever, tDGet, tDGet1, tDGet2, tSortK, tSetLc, iList, tLc])
      exact ixT (s _ _ (M1.ls.2 e (List.mem_of_mem_take he))) (atI_nat (j := 0) rfl) ⟨s, rfl⟩
    intro G s D hD
    have t2 := Same.upd (o := .lst ((es.take 1).map fun d => V.int d.2.t)) hD
    refine ⟨by decide, fun p2 hp2 => ?_⟩
    have t3 := Same.upd (o := .lst [V.non]) hp2
    refine ⟨D, p2, _, _, rfl, rfl, t3 _ _ upd_same, upd_same, Nat.le_of_lt (small1000 (by rw [List.length_map, List.length_take]; show min 1 _ + 1 ≤ 1000; omega)), fun nx hnx => ?_⟩
    have t4 := Same.upd (o := .lst (((es.take 1).map fun d => V.int d.2.t) ++ [V.non])) hnx
    have s4 := (((t1.trans s).trans t2).trans t3).trans t4
    have gn : ∃ l, upd (upd (upd G D (.lst ((es.take 1).map fun d => V.int d.2.t))) p2 (.lst [V.non])) nx (.lst (((es.take 1).map fun d => V.int d.2.t) ++ [V.non])) nx = some (.lst l) ∧ l[0]? = some (nextV es) := ⟨_, upd_same, by
      cases es with
      | nil => rfl
      | cons e r => rfl⟩
    generalize upd (upd (upd G D (.lst ((es.take 1).map fun d => V.int d.2.t))) p2 (.lst [V.non])) nx (.lst (((es.take 1).map fun d => V.int d.2.t) ++ [V.non])) = H0 at s4 gn ⊢
    clear t1 t2 t3 t4 s M1 eq1 ha1 hD hp2 hnx
    obtain ⟨nl, gn, gn0⟩ := gn
    refine ⟨by decide, fun p1 h1 => ⟨by decide, fun p2 h2 => ⟨by decide, fun p3 h3 => ⟨by decide, fun p4 h4 => ⟨(by show (4 : Nat) ≤ sizeLine; decide), fun p5 h5 => ?_⟩⟩⟩⟩⟩
    have t1 := Same.upd (o := .lst (([0, 1, 2, 3] : List Int).map V.int)) h1
    have t2 := Same.upd (o := .lst (([3, 2, 1, 0] : List Int).map V.int)) h2
    have t3 := Same.upd (o := .lst (([2, 0, 3, 1] : List Int).map V.int)) h3
    have t4 := Same.upd (o := .lst (([1, 3, 0, 2] : List Int).map V.int)) h4
    have t5 := Same.upd (o := .lst [V.ref p1, .ref p2, .ref p3, .ref p4]) h5
    have s5 := (((t1.trans t2).trans t3).trans t4).trans t5
    obtain ⟨j, hj, ej⟩ : ∃ j : Nat, j < 4 ∧ z % 4 = (j : Nat) := ⟨(z % 4).toNat, by omega, by omega⟩
    have hG : ∃ (G : Hp), G = upd (upd (upd (upd (upd H0 p1 (.lst (([0, 1, 2, 3] : List Int).map V.int))) p2 (.lst (([3, 2, 1, 0] : List Int).map V.int))) p3 (.lst (([2, 0, 3, 1] : List Int).map V.int))) p4 (.lst (([1, 3, 0, 2] : List Int).map V.int))) p5 (.lst [V.ref p1, .ref p2, .ref p3, .ref p4]) := ⟨_, rfl⟩
    obtain ⟨G5, eG⟩ := hG
    have e5 : G5 p5 = some (.lst [V.ref p1, .ref p2, .ref p3, .ref p4]) := by rw [eG]; exact upd_same
    have hq : ∃ (r : Addr) (ks : List Int), [V.ref p1, .ref p2, .ref p3, .ref p4][j]? = some (.ref r) ∧ G5 r = some (.lst (ks.map V.int)) := by
      rw [eG]
      match j, hj with
      | 0, _ => exact ⟨p1, [0, 1, 2, 3], rfl, t5 _ _ (t4 _ _ (t3 _ _ (t2 _ _ upd_same)))⟩
      | 1, _ => exact ⟨p2, [3, 2, 1, 0], rfl, t5 _ _ (t4 _ _ (t3 _ _ upd_same))⟩
      | 2, _ => exact ⟨p3, [2, 0, 3, 1], rfl, t5 _ _ (t4 _ _ upd_same)⟩
      | 3, _ => exact ⟨p4, [1, 3, 0, 2], rfl, t5 _ _ upd_same⟩
    obtain ⟨r, ks, hq1, hq2⟩ := hq
    refine ⟨_, rfl, z, 4, rfl, rfl, (by show (0 : Int) < 4; decide), p5, _, _, .ref r, rfl, rfl, SqL.of (eG ▸ e5), by rw [ej]; exact atI_nat hq1, _, rfl, kk, rfl, r, _, rfl, SqL.of (eG ▸ hq2), fun ca hca => ?_⟩
    obtain ⟨ms, hms, hml⟩ := cut_ints ks none (some kk)
    rw [hms]
    have s6 : Same H (upd _ ca (.lst (ms.map V.int))) := (s4.trans s5).trans (Same.upd (o := .lst (ms.map V.int)) hca)
    have e6 : upd (upd (upd (upd (upd (upd H0 p1 (.lst [.int 0, .int 1, .int 2, .int 3])) p2 (.lst [.int 3, .int 2, .int 1, .int 0])) p3 (.lst [.int 2, .int 0, .int 3, .int 1])) p4 (.lst [.int 1, .int 3, .int 0, .int 2])) p5 (.lst [V.ref p1, .ref p2, .ref p3, .ref p4])) ca (.lst (ms.map V.int)) ca = some (.lst (ms.map V.int)) := upd_same
    have gn := (s5.trans (Same.upd (o := .lst (ms.map V.int)) hca)) _ _ gn
    refine ⟨ca, rfl, ⟨_, SqL.of upd_same⟩, ?_⟩
    have gn' : upd (upd (upd (upd (upd (upd H0 p1 (.lst [.int 0, .int 1, .int 2, .int 3])) p2 (.lst [.int 3, .int 2, .int 1, .int 0])) p3 (.lst [.int 2, .int 0, .int 3, .int 1])) p4 (.lst [.int 1, .int 3, .int 0, .int 2])) p5 (.lst [V.ref p1, .ref p2, .ref p3, .ref p4])) ca (.lst (ms.map V.int)) nx = some (.lst nl) := gn
    clear gn
    generalize upd (upd (upd (upd (upd (upd H0 p1 (.lst [.int 0, .int 1, .int 2, .int 3])) p2 (.lst [.int 3, .int 2, .int 1, .int 0])) p3 (.lst [.int 2, .int 0, .int 3, .int 1])) p4 (.lst [.int 1, .int 3, .int 0, .int 2])) p5 (.lst [V.ref p1, .ref p2, .ref p3, .ref p4])) ca (.lst (ms.map V.int)) = G6 at s6 e6 gn' ⊢
    clear hca hq2 hq1 e5 eG s5 t5 t4 t3 t2 t1 h5 h4 h3 h2 h1
    refine for_list (K := K) (a := ca) (xs := ms.map V.int) (fun i σ G => ∃ (v5 : Option V), σ = [some (.ref x), some (.ref m), some (.int z), some (.int kk), some (.ref nx), v5] ∧ Same G6 G) ⟨_, rfl, Same.refl _⟩ (fun i σ G _ ⟨_, _, sG⟩ => SqL.of (sG _ _ e6)) ?_ ?_
    · rintro i y σ G hi ⟨v5, rfl, sG⟩
      rw [List.getElem?_map] at hi
      cases en : ms[i]? with
      | none => rw [en] at hi; cases hi
      | some kj =>
        rw [en] at hi
        cases hi
        refine ⟨fun σ' G' => σ' = [some (.ref x), some (.ref m), some (.int z), some (.int kk), some (.ref nx), some (.int kj)] ∧ Same G6 G', ?_, ?_⟩
        · (simp only [tLst, tTup, tDNewK, _root_.L2.start, cxOf_K, cxComp_K, tSeq, tAsg, gName, tRet, tRetN, tDrop, tIfS, tTest, tB, tNot, tAnd, tOr, tAndV, tOrV, tNotV, tOp, tUn, tVar, tC, tCons, tNil, tStrs, tCB, tCall, tChain, tBM, tBM0, tPart, tNoPart, tSl, tIf, tNext, tTrue, selS, Option.bind_none, Option.bind_some, Option.join_some, if_true, rI, rI0, rU, rEq, rNe, rStarts, rSlS, lenV_str, tyV, List.map_cons, List.map_nil, List.length_cons, List.length_nil, List.replicate, List.cons_append, List.nil_append, List.append_nil, Nat.reduceAdd, Nat.reduceSub, Nat.zero_add, Nat.add_zero, Nat.sub_self, List.getElem?_cons_zero, List.getElem?_cons_succ, List.set_cons_zero, List.set_cons_succ, Option.some.injEq, V.int.injEq, V.str.injEq, V.ref.injEq, V.bl.injEq, V.ty.injEq, List.cons.injEq, exists_eq_left, exists_eq_left', exists_eq_right, exists_and_left, exists_eq, and_true, true_and, and_self, and_assoc, tFld, sFld, tMeth, tMake, tDIn, tDNotIn, sDPut, tNever, tDGet, tDGet1, tDGet2, tSortK, tSetLc, iList, tLc])
          refine ⟨rfl, ?_⟩
          by_cases c : kj = 0
          · have CkG := Ck.same (s6.trans sG)
            have MG := M.same (s6.trans sG)
            obtain ⟨dx, h1⟩ := CkG.ob
            exact ifT c ⟨_, _, h1, rfl, x, p, n, ds, rfl, CkG, _, MG.getT, rfl, bF (by simp) ⟨_, _, h1, rfl, x, p, n, ds, rfl, CkG, n, rfl, _, rfl, bF rfl sG⟩⟩
          · exact ifF c (iteF sG)
        rintro σ G ⟨rfl, sG⟩
        refine ⟨fun σ' G' => σ' = [some (.ref x), some (.ref m), some (.int z), some (.int kk), some (.ref nx), some (.int kj)] ∧ Same G6 G', ?_, ?_⟩
        · (simp only [tLst, tTup, tDNewK, _root_.L2.start, cxOf_K, cxComp_K, tSeq, tAsg, gName, tRet, tRetN, tDrop, tIfS, tTest, tB, tNot, tAnd, tOr, tAndV, tOrV, tNotV, tOp, tUn, tVar, tC, tCons, tNil, tStrs, tCB, tCall, tChain, tBM, tBM0, tPart, tNoPart, tSl, tIf, tNext, tTrue, selS, Option.bind_none, Option.bind_some, Option.join_some, if_true, rI, rI0, rU, rEq, rNe, rStarts, rSlS, lenV_str, tyV, List.map_cons, List.map_nil, List.length_cons, List.length_nil, List.replicate, List.cons_append, List.nil_append, List.append_nil, Nat.reduceAdd, Nat.reduceSub, Nat.zero_add, Nat.add_zero, Nat.sub_self, List.getElem?_cons_zero, List.getElem?_cons_succ, List.set_cons_zero, List.set_cons_succ, Option.some.injEq, V.int.injEq, V.str.injEq, V.ref.injEq, V.bl.injEq, V.ty.injEq, List.cons.injEq, exists_eq_left, exists_eq_left', exists_eq_right, exists_and_left, exists_eq, and_true, true_and, and_self, and_assoc, tFld, sFld, tMeth, tMake, tDIn, tDNotIn, sDPut, tNever, tDGet, tDGet1, tDGet2, tSortK, tSetLc, iList, tLc])
          refine ⟨rfl, ?_⟩
          by_cases c : kj = 1
          · have CkG := Ck.same (s6.trans sG)
            have MG := M.same (s6.trans sG)
            obtain ⟨dx, h1⟩ := CkG.ob
            refine ifT c ⟨_, _, h1, rfl, x, p, n, ds, rfl, CkG, fun l G1 _ s1 hl1 => ⟨_, (MG.same s1).getD, eqDs (ds := ds) ⟨hl1, (CkG.same s1).ls.2⟩ (MG.same s1).ls ee ⟨_, rfl, bF rfl ⟨_, _, s1 _ _ h1, rfl, x, p, n, ds, rfl, CkG.same s1, fun l2 G2 _ s2 hl2 => ⟨_, .lst hl2, true, rfl, bF rfl ((sG.trans s1).trans s2)⟩⟩⟩⟩⟩
          · exact ifF c (iteF sG)
        rintro σ G ⟨rfl, sG⟩
        refine ⟨fun σ' G' => σ' = [some (.ref x), some (.ref m), some (.int z), some (.int kk), some (.ref nx), some (.int kj)] ∧ Same G6 G', ?_, ?_⟩
        · (simp only [tLst, tTup, tDNewK, _root_.L2.start, cxOf_K, cxComp_K, tSeq, tAsg, gName, tRet, tRetN, tDrop, tIfS, tTest, tB, tNot, tAnd, tOr, tAndV, tOrV, tNotV, tOp, tUn, tVar, tC, tCons, tNil, tStrs, tCB, tCall, tChain, tBM, tBM0, tPart, tNoPart, tSl, tIf, tNext, tTrue, selS, Option.bind_none, Option.bind_some, Option.join_some, if_true, rI, rI0, rU, rEq, rNe, rStarts, rSlS, lenV_str, tyV, List.map_cons, List.map_nil, List.length_cons, List.length_nil, List.replicate, List.cons_append, List.nil_append, List.append_nil, Nat.reduceAdd, Nat.reduceSub, Nat.zero_add, Nat.add_zero, Nat.sub_self, List.getElem?_cons_zero, List.getElem?_cons_succ, List.set_cons_zero, List.set_cons_succ, Option.some.injEq, V.int.injEq, V.str.injEq, V.ref.injEq, V.bl.injEq, V.ty.injEq, List.cons.injEq, exists_eq_left, exists_eq_left', exists_eq_right, exists_and_left, exists_eq, and_true, true_and, and_self, and_assoc, tFld, sFld, tMeth, tMake, tDIn, tDNotIn, sDPut, tNever, tDGet, tDGet1, tDGet2, tSortK, tSetLc, iList, tLc])
          refine ⟨rfl, ?_⟩
          by_cases c : kj = 2
          · have CkG := Ck.same (s6.trans sG)
            have MG := M.same (s6.trans sG)
            obtain ⟨dx, h1⟩ := CkG.ob
            exact ifT c ⟨_, _, h1, rfl, x, p, n, ds, rfl, CkG, fun G1 s1 => ⟨m, q, n, es, rfl, MG.same s1, fun G2 s2 => due_eq2 (A := fun H2 => Q (.bl false) H2) (B := fun H2 => Same G6 H2) ((CkG.same s1).same s2).ls ((MG.same s1).same s2).ls ee ((sG.trans s1).trans s2)⟩⟩
          · exact ifF c (iteF sG)
        rintro σ G ⟨rfl, sG⟩
        (simp only [tLst, tTup, tDNewK, _root_.L2.start, cxOf_K, cxComp_K, tSeq, tAsg, gName, tRet, tRetN, tDrop, tIfS, tTest, tB, tNot, tAnd, tOr, tAndV, tOrV, tNotV, tOp, tUn, tVar, tC, tCons, tNil, tStrs, tCB, tCall, tChain, tBM, tBM0, tPart, tNoPart, tSl, tIf, tNext, tTrue, selS, Option.bind_none, Option.bind_some, Option.join_some, if_true, rI, rI0, rU, rEq, rNe, rStarts, rSlS, lenV_str, tyV, List.map_cons, List.map_nil, List.length_cons, List.length_nil, List.replicate, List.cons_append, List.nil_append, List.append_nil, Nat.reduceAdd, Nat.reduceSub, Nat.zero_add, Nat.add_zero, Nat.sub_self, List.getElem?_cons_zero, List.getElem?_cons_succ, List.set_cons_zero, List.set_cons_succ, Option.some.injEq, V.int.injEq, V.str.injEq, V.ref.injEq, V.bl.injEq, V.ty.injEq, List.cons.injEq, exists_eq_left, exists_eq_left', exists_eq_right, exists_and_left, exists_eq, and_true, true_and, and_self, and_assoc, tFld, sFld, tMeth, tMake, tDIn, tDNotIn, sDPut, tNever, tDGet, tDGet1, tDGet2, tSortK, tSetLc, iList, tLc])
        refine ⟨rfl, ?_⟩
        by_cases c : kj = 3
        · have CkG := Ck.same (s6.trans sG)
          obtain ⟨dx, h1⟩ := CkG.ob
          refine ifT c ⟨_, _, h1, rfl, x, p, n, ds, rfl, CkG, fun G1 s1 => ixL (s1 _ _ (sG _ _ gn')) (atI_nat gn0) ?_⟩
          rw [nextV_es ee]
          exact ⟨next_scal es, bF (by simp) (sG.trans s1)⟩
        · exact ifF c (iteF sG)
    · rintro σ G ⟨v5, rfl, sG⟩
      refine ⟨fun σ' G' => σ' = [some (.ref x), some (.ref m), some (.int z), some (.int kk), some (.ref nx), v5] ∧ Same G6 G', ?_, ?_⟩
      · (simp only [tLst, tTup, tDNewK, _root_.L2.start, cxOf_K, cxComp_K, tSeq, tAsg, gName, tRet, tRetN, tDrop, tIfS, tTest, tB, tNot, tAnd, tOr, tAndV, tOrV, tNotV, tOp, tUn, tVar, tC, tCons, tNil, tStrs, tCB, tCall, tChain, tBM, tBM0, tPart, tNoPart, tSl, tIf, tNext, tTrue, selS, Option.bind_none, Option.bind_some, Option.join_some, if_true, rI, rI0, rU, rEq, rNe, rStarts, rSlS, lenV_str, tyV, List.map_cons, List.map_nil, List.length_cons, List.length_nil, List.replicate, List.cons_append, List.nil_append, List.append_nil, Nat.reduceAdd, Nat.reduceSub, Nat.zero_add, Nat.add_zero, Nat.sub_self, List.getElem?_cons_zero, List.getElem?_cons_succ, List.set_cons_zero, List.set_cons_succ, Option.some.injEq, V.int.injEq, V.str.injEq, V.ref.injEq, V.bl.injEq, V.ty.injEq, List.cons.injEq, exists_eq_left, exists_eq_left', exists_eq_right, exists_and_left, exists_eq, and_true, true_and, and_self, and_assoc, tFld, sFld, tMeth, tMake, tDIn, tDNotIn, sDPut, tNever, tDGet, tDGet1, tDGet2, tSortK, tSetLc, iList, tLc])
        refine ⟨rfl, ?_⟩
        by_cases c : kk = 4
        · have CkG := Ck.same (s6.trans sG)
          obtain ⟨dx, h1⟩ := CkG.ob
          exact ifT c ⟨_, _, h1, rfl, x, p, n, ds, rfl, CkG, fun l G1 hl1 s1 e1 => ⟨.inl ⟨_, SqL.of e1⟩, l, _, _, rfl, rfl, e1, by rw [len_vs]; exact small1000 (by omega), (sG.trans s1).over (sG.free hl1)⟩⟩
        · exact ifF c sG
      rintro σ G ⟨rfl, sG⟩
      (simp only [tLst, tTup, tDNewK, _root_.L2.start, cxOf_K, cxComp_K, tSeq, tAsg, gName, tRet, tRetN, tDrop, tIfS, tTest, tB, tNot, tAnd, tOr, tAndV, tOrV, tNotV, tOp, tUn, tVar, tC, tCons, tNil, tStrs, tCB, tCall, tChain, tBM, tBM0, tPart, tNoPart, tSl, tIf, tNext, tTrue, selS, Option.bind_none, Option.bind_some, Option.join_some, if_true, rI, rI0, rU, rEq, rNe, rStarts, rSlS, lenV_str, tyV, List.map_cons, List.map_nil, List.length_cons, List.length_nil, List.replicate, List.cons_append, List.nil_append, List.append_nil, Nat.reduceAdd, Nat.reduceSub, Nat.zero_add, Nat.add_zero, Nat.sub_self, List.getElem?_cons_zero, List.getElem?_cons_succ, List.set_cons_zero, List.set_cons_succ, Option.some.injEq, V.int.injEq, V.str.injEq, V.ref.injEq, V.bl.injEq, V.ty.injEq, List.cons.injEq, exists_eq_left, exists_eq_left', exists_eq_right, exists_and_left, exists_eq, and_true, true_and, and_self, and_assoc, tFld, sFld, tMeth, tMake, tDIn, tDNotIn, sDPut, tNever, tDGet, tDGet1, tDGet2, tSortK, tSetLc, iList, tLc])
      by_cases c : kk < 4
      · exact ifT c (k G (s6.trans sG))
      · have CkG := Ck.same (s6.trans sG)
        have MG := M.same (s6.trans sG)
        obtain ⟨dx, h1⟩ := CkG.ob
        exact ifF c ⟨_, _, h1, rfl, x, p, n, ds, rfl, CkG, fun l G1 _ s1 hl1 => ⟨_, (MG.same s1).getD, eqDs (ds := ds) ⟨hl1, (CkG.same s1).ls.2⟩ (MG.same s1).ls ee (k G1 ((s6.trans sG).trans s1))⟩⟩
theorem sc_law : FnScope ["_law_script", "_law_clocks", "_law_models", "_law_held", "_law_place", "_law_cell", "_law_x", "_law_deed", "_law_due_here", "_law_found", "_law_k"] ["_law_script"] (defScope (top 13)) := ⟨rfl, rfl, rfl, by decide +kernel, rfl, by decide +kernel, by decide +kernel⟩
theorem ok_law (T : Tx K mg c_tab p_tab) {f : Addr} {fd : FuncData} (F : Fun K "law" "law" (top 13) f fd)
    (G_Clock___init__ : FnOk P w K mg base CX0 1 T.m_Clock___init__.f T.m_Clock___init__.fd ["self"] (spInit T.C_Clock))
    (G_Clock_dues : FnOk P w K mg base CX0 1 T.m_Clock_dues.f T.m_Clock_dues.fd ["self"] (spDues T.C_Clock))
    (G_l_mixed : FnOk P w K mg base CX0 1 T.d_l_mixed.f T.d_l_mixed.fd ["_law_cell", "_law_k"] (spMixed))
    (G_l_drawn : FnOk P w K mg base CX0 1 T.d_l_drawn.f T.d_l_drawn.fd ["_law_model", "_law_x"] (spDrawn K))
    (G_l_told : FnOk P w K mg base CX0 2 T.d_l_told.f T.d_l_told.fd ["_law_model", "_law_deed"] (spTold K p_tab))
    (G_l_done : FnOk P w K mg base CX0 4 T.d_l_done.f T.d_l_done.fd ["_law_clock", "_law_deed"] (spDone T.C_Clock))
    (G_l_whole : FnOk P w K mg base CX0 1 T.d_l_whole.f T.d_l_whole.fd ["_law_found"] (spWhole))
    (G_l_same : FnOk P w K mg base CX0 3 T.d_l_same.f T.d_l_same.fd ["_law_clock", "_law_model", "_law_x", "_law_many"] (spSame T.C_Clock)) : FnOk P w K mg base CX0 5 f fd ["_law_script"] (spLaw K p_tab) := by
  refine F.ok sc_law (fun vs H Q E h => ?_) (fun cdv A outer s H vs Q E hr h => ?_)
  · obtain ⟨a, ns, rfl, _⟩ := h
    rfl
  · obtain ⟨a, ns, rfl, ha, hns, tb, k⟩ := h
    have hu := hu100 hr
    have hu1 := hu_of hr
    refine ⟨_, (pss_cons (ps_set (i := 1) sc_law.nd rfl (Or.inl rfl) (pe_lst (pa_cons (pe_make0 T.M_Clock G_Clock___init__ (hr.mono (by omega)) rfl T.h_Clock T.m_Clock___init__.b .nil pass0) (pa_cons (pe_make0 T.M_Clock G_Clock___init__ (hr.mono (by omega)) rfl T.h_Clock T.m_Clock___init__.b .nil pass0) pa_nil))))
    (pss_cons (ps_set (i := 2) sc_law.nd rfl (Or.inl rfl) (pe_lst (pa_cons (pe_disp (pps_cons pe_str pe_int (pps_cons pe_str (pe_lst pa_nil) pps_nil)) rfl rfl (by simp) (by decide)) (pa_cons (pe_disp (pps_cons pe_str pe_int (pps_cons pe_str (pe_lst pa_nil) pps_nil)) rfl rfl (by simp) (by decide)) pa_nil))))
    (pss_cons (ps_set (i := 3) sc_law.nd rfl (Or.inl rfl) (pe_lst pa_nil))
    (pss_cons (ps_for PassesOwn.never rfl (pi_enum rfl T.n_enumerate (pa_cons (pe_slice sl_list (pv 0) po_none (po_some pe_int)) pa_nil)) (pg_tup (n := 2) rfl (pgs_cons (pg_name (i := 4) sc_law.nd rfl (Or.inl rfl)) (pgs_cons (pg_name (i := 5) sc_law.nd rfl (Or.inl rfl)) pgs_nil)))
    (pss_cons (ps_set (i := 6) sc_law.nd rfl (Or.inl rfl) (pe_call G_l_mixed (hr.mono (by omega)) rfl T.d_l_mixed.hm T.d_l_mixed.F.kp T.d_l_mixed.b .nil pass0 (pa_cons (pv 5) (pa_cons (pv 4) pa_nil))))
    (pss_cons (ps_set (i := 7) sc_law.nd rfl (Or.inl rfl) (pe_call G_l_drawn (hr.mono (by omega)) rfl T.d_l_drawn.hm T.d_l_drawn.F.kp T.d_l_drawn.b .nil pass0 (pa_cons (pe_ix ix_list (pv 2) (pe_op op_mod (pv 6) pe_int) (fun _ _ => rfl)) (pa_cons (pe_op op_fdiv (pv 6) pe_int) pa_nil))))
    (pss_cons (ps_set (i := 8) sc_law.nd rfl (Or.inl rfl) (pe_call G_l_told (hr.mono (by omega)) rfl T.d_l_told.hm T.d_l_told.F.kp T.d_l_told.b .nil pass0 (pa_cons (pe_ix ix_list (pv 2) (pe_op op_mod (pv 6) pe_int) (fun _ _ => rfl)) (pa_cons (pv 7) pa_nil))))
    (pss_cons (ps_set (i := 9) sc_law.nd rfl (Or.inl rfl) (pe_call G_l_done (hr.mono (by omega)) rfl T.d_l_done.hm T.d_l_done.F.kp T.d_l_done.b .nil pass0 (pa_cons (pe_ix ix_list (pv 1) (pe_op op_mod (pv 6) pe_int) (fun _ _ => rfl)) (pa_cons (pv 7) pa_nil))))
    (pss_mid (ps_if (PW.pt (pw_or (pt_cmpR (op_neM hu) (pv 9) (pv 8) (nomark _)) (pw_or1 (PW.pt (pw_and (pt_cmpR op_eq (pe_ix ix_tup (pv 7) pe_int (fun _ _ => rfl)) pe_str (nomark _)) (pw_and1 (pt_not (pt_val (pe_call G_l_whole (hr.mono (by omega)) rfl T.d_l_whole.hm T.d_l_whole.F.kp T.d_l_whole.b .nil pass0 (pa_cons (pv 9) pa_nil))))))))))
    (pss_one (ps_ret pe_bl))
    pss_nil)
    (pss_cons (ps_for PassesOwn.never rfl (pi_range1 rfl T.n_range (pa_cons pe_int pa_nil)) (pg_name (i := 10) sc_law.nd rfl (Or.inl rfl))
    (pss_one (ps_if (pt_not (pt_val (pe_call G_l_same (hr.mono (by omega)) rfl T.d_l_same.hm T.d_l_same.F.kp T.d_l_same.b .nil pass0 (pa_cons (pe_ix ix_list (pv 1) (pv 10) (fun _ _ => rfl)) (pa_cons (pe_ix ix_list (pv 2) (pv 10) (fun _ _ => rfl)) (pa_cons (pe_op op_add (pe_op op_fdiv (pv 6) pe_int) (pv 10)) (pa_cons (pe_op op_mod (pe_op op_fdiv (pv 6) pe_int) pe_int) pa_nil)))))))
    (pss_one (ps_ret pe_bl))
    pss_nil)))
    (pss_one (ps_if (pt_cmpR op_eq (pe_op op_mod (pe_op op_fdiv (pv 6) pe_int) pe_int) pe_int (nomark _))
    (pss_one (ps_expr (pe_bm PySem.F.plainAttrs_list PySem.F.slot_list_append PySem.F.type_list_append mt_append (pv 3) (pa_cons (pe_tup (pa_cons (pe_meth0 (pe_ix ix_list (pv 1) (pe_op op_mod (pv 6) pe_int) (fun _ _ => rfl)) T.k_Clock T.m_Clock_dues.me G_Clock_dues (hr.mono (by omega)) T.m_Clock_dues.b .nil pass0) (pa_cons (pe_callTy call_list_of (by rfl) T.n_list bt_list (pa_cons (pe_dget hu1 (pe_ix ix_list (pv 2) (pe_op op_mod (pv 6) pe_int) (fun _ _ => rfl)) pe_str (fun _ _ => rfl)) pa_nil)) pa_nil))) pa_nil))))
    pss_nil)))))))))
    (pss_mid (ps_if (PW.pt (pw_or (pt_not (pt_val (pe_call G_l_same (hr.mono (by omega)) rfl T.d_l_same.hm T.d_l_same.F.kp T.d_l_same.b .nil pass0 (pa_cons (pe_ix ix_list (pv 1) pe_int (fun _ _ => rfl)) (pa_cons (pe_ix ix_list (pv 2) pe_int (fun _ _ => rfl)) (pa_cons (pe_callB call_len (by rfl) T.n_len bt_len (pa_cons (pv 0) pa_nil)) (pa_cons pe_int pa_nil))))))) (pw_or1 (pt_not (pt_val (pe_call G_l_same (hr.mono (by omega)) rfl T.d_l_same.hm T.d_l_same.F.kp T.d_l_same.b .nil pass0 (pa_cons (pe_ix ix_list (pv 1) pe_int (fun _ _ => rfl)) (pa_cons (pe_ix ix_list (pv 2) pe_int (fun _ _ => rfl)) (pa_cons pe_int (pa_cons pe_int pa_nil))))))))))
    (pss_one (ps_ret pe_bl))
    pss_nil)
    (pss_one (ps_ret (pe_cmpR (op_eqL hu) (pe_lc (N' := ["_law_one"]) (sel := [none]) rfl rfl rfl (pi_list (pv 3)) (gk_name rfl) (fun _ _ _ _ _ => ⟨(pg_name (i := 0) (show (["_law_one"] : List Str).Nodup by decide +kernel) rfl (Or.inl rfl)), (pts_one (pt_cmpR (op_neLK (K := K) rfl hu) (pe_ix (ix_tupK (K := K) rfl) (pv 0) pe_int (fun _ _ => rfl)) (pe_ix (ix_tupK (K := K) rfl) (pv 0) pe_int (fun _ _ => rfl)) (nomark _))), (pv 0)⟩)) (pe_lst pa_nil) (nomark _))))))))), ?_⟩
    (simp only [tLst, tTup, tDNewK, _root_.L2.start, cxOf_K, cxComp_K, tSeq, tAsg, gName, tRet, tRetN, tDrop, tIfS, tTest, tB, tNot, tAnd, tOr, tAndV, tOrV, tNotV, tOp, tUn, tVar, tC, tCons, tNil, tStrs, tCB, tCall, tChain, tBM, tBM0, tPart, tNoPart, tSl, tIf, tNext, tTrue, selS, Option.bind_none, Option.bind_some, Option.join_some, if_true, rI, rI0, rU, rEq, rNe, rStarts, rSlS, lenV_str, tyV, List.map_cons, List.map_nil, List.length_cons, List.length_nil, List.replicate, List.cons_append, List.nil_append, List.append_nil, Nat.reduceAdd, Nat.reduceSub, Nat.zero_add, Nat.add_zero, Nat.sub_self, List.getElem?_cons_zero, List.getElem?_cons_succ, List.set_cons_zero, List.set_cons_succ, Option.some.injEq, V.int.injEq, V.str.injEq, V.ref.injEq, V.bl.injEq, V.ty.injEq, List.cons.injEq, exists_eq_left, exists_eq_left', exists_eq_right, exists_and_left, exists_eq, and_true, true_and, and_self, and_assoc, tFld, sFld, tMeth, tMake, tDIn, tDNotIn, sDPut, tNever, tDGet, tDGet1, tDGet2, tSortK, tSetLc, iList, tLc])
    intro x0 dx0 nx0 ndx0 nex0
    refine ⟨x0, dx0, rfl, upd_same, fun p0 H0 b0 hp0 C0 => ⟨rfl, ?_⟩⟩
    obtain ⟨s0, hp0⟩ := initS nx0 ndx0 nex0 b0 hp0
    clear b0 nx0 ndx0 nex0
    intro x1 dx1 nx1 ndx1 nex1
    refine ⟨x1, dx1, rfl, upd_same, fun p1 H1 b1 hp1 C1 => ⟨rfl, by decide, fun e hen => ?_⟩⟩
    obtain ⟨s1, hp1⟩ := initS nx1 ndx1 nex1 b1 hp1
    have xx : x0 ≠ x1 := by
      obtain ⟨dx, h⟩ := C0.ob
      exact ne_of_none h nx1
    have pp : p0 ≠ p1 := ne_of_none C0.ls.1 hp1
    have hp1 := s0.free hp1
    clear b1 nx1 ndx1 nex1
    have C0 := C0.same s1
    have sA := s0.trans s1
    clear s0 s1
    have t3 := Same.upd (o := .lst [V.ref x0, .ref x1]) hen
    have e3 : (upd H1 e (.lst [V.ref x0, .ref x1])) e = some (.lst [V.ref x0, .ref x1]) := upd_same
    have ep : e ≠ p0 ∧ e ≠ p1 := ⟨Ne.symm (ne_of_none C0.ls.1 hen), Ne.symm (ne_of_none C1.ls.1 hen)⟩
    have C0 := C0.same t3
    have C1 := C1.same t3
    have sA := sA.trans t3
    generalize upd H1 e (.lst [V.ref x0, .ref x1]) = H3 at e3 C0 C1 sA ⊢
    clear t3 hen
    refine disp_md fun m0 q0 H4 hm0 hq0 s4 M0 => disp_md fun m1 q1 H5 hm1 hq1 s5 M1 => ⟨by decide, fun mo hmo => ⟨by decide, fun he hhe => ?_⟩⟩
    have mm : m0 ≠ m1 := ne_of_none M0.dc hm1
    have qp0 : q0 ≠ p0 ∧ q0 ≠ p1 := ⟨Ne.symm (ne_of_none C0.ls.1 hq0), Ne.symm (ne_of_none C1.ls.1 hq0)⟩
    have qp1 : q1 ≠ p0 ∧ q1 ≠ p1 := ⟨Ne.symm (ne_of_none (C0.same s4).ls.1 hq1), Ne.symm (ne_of_none (C1.same s4).ls.1 hq1)⟩
    have C0 := (C0.same s4).same s5
    have C1 := (C1.same s4).same s5
    have M0 := M0.same s5
    have e3 := s5 _ _ (s4 _ _ e3)
    have sA := (sA.trans s4).trans s5
    have mp : mo ≠ p0 ∧ mo ≠ p1 := ⟨Ne.symm (ne_of_none C0.ls.1 hmo), Ne.symm (ne_of_none C1.ls.1 hmo)⟩
    clear s4 s5 hm0 hq0 hm1 hq1
    have t6 := Same.upd (o := .lst [V.ref m0, .ref m1]) hmo
    have e7 : (upd H5 mo (.lst [V.ref m0, .ref m1])) mo = some (.lst [V.ref m0, .ref m1]) := upd_same
    have C0 := C0.same t6
    have C1 := C1.same t6
    have M0 := M0.same t6
    have M1 := M1.same t6
    have e3 := t6 _ _ e3
    have sA := sA.trans t6
    generalize upd H5 mo (.lst [V.ref m0, .ref m1]) = H7 at e3 e7 C0 C1 M0 M1 sA hhe ⊢
    clear t6 hmo
    have hp : he ≠ p0 ∧ he ≠ p1 := ⟨Ne.symm (ne_of_none C0.ls.1 hhe), Ne.symm (ne_of_none C1.ls.1 hhe)⟩
    have neh : ∀ {c : Addr} {o : HO}, H7 c = some o → c ≠ he := fun {c o} h => ne_of_none h hhe
    have u1 := Same.upd (o := .lst []) hhe
    have mkP : ∀ {c : Addr} {o : HO}, H7 c = some o → c ≠ p0 ∧ c ≠ p1 → Pb he (pick p0 p1) c := fun {c o} h n => ⟨neh h, fun i hi => by
      match i, hi with
      | 0, _ => exact n.1
      | 1, _ => exact n.2⟩
    have two : ∀ {R : Nat → Nat → Prop}, R 0 1 → R 1 0 → ∀ i j, i < 2 → j < 2 → i ≠ j → R i j := fun {R} a b i j hi hj ne => by
      have : (i = 0 ∧ j = 1) ∨ (i = 1 ∧ j = 0) := by omega
      rcases this with ⟨rfl, rfl⟩ | ⟨rfl, rfl⟩
      · exact a
      · exact b
    have L : LwAt T.C_Clock p_tab (upd H7 he (.lst [])) e mo he (pick x0 x1) (pick p0 p1) (pick m0 m1) (pick q0 q1) (fun _ => 0) (fun _ => 0) (fun _ => []) (fun _ => []) 0 := by
      refine ⟨u1 _ _ e3, u1 _ _ e7, mkP e3 ep, mkP e7 mp, fun i hi => ?_, fun i hi => ?_, fun i hi => ?_, two xx (Ne.symm xx), two mm (Ne.symm mm), two pp (Ne.symm pp), fun i hi => ?_, ⟨[], upd_same, Nat.le_refl _, fun t ht => by cases ht⟩, (tb.same sA).same u1⟩
      · match i, hi with
        | 0, _ => exact C0.same u1
        | 1, _ => exact C1.same u1
      · match i, hi with
        | 0, _ => exact M0.same u1
        | 1, _ => exact M1.same u1
      · match i, hi with
        | 0, _ => exact mkP M0.ls.1 qp0
        | 1, _ => exact mkP M1.ls.1 qp1
      · match i, hi with
        | 0, _ => exact hp.1
        | 1, _ => exact hp.2
    have S : Scr K (upd H7 he (.lst [])) a (Pb he (pick p0 p1)) (ns.map V.int) := by
      rcases ha with (z | ⟨o, z⟩) | z
      · exact .inl ⟨.inl (u1 _ _ (sA _ _ z)), mkP (sA _ _ z) ⟨ne_of_none z hp0, ne_of_none z hp1⟩⟩
      · exact .inl ⟨.inr ⟨o, u1 _ _ (sA _ _ z)⟩, mkP (sA _ _ z) ⟨ne_of_none z hp0, ne_of_none z hp1⟩⟩
      · exact .inr fun _ => .inr z
    generalize upd H7 he (.lst []) = G1 at L S ⊢
    clear mkP two u1 neh hp hhe sA e3 e7 C0 C1 M0 M1 mp qp0 qp1 mm ep pp xx hp0 hp1 ha tb
    obtain ⟨ms, hms, hml⟩ := cut_ints ns none (some 40)
    have hm40 : ms.length ≤ 40 := by
      have := congrArg List.length hms
      rw [List.length_map] at this
      rw [← this]
      unfold cutV
      rw [List.length_take]
      have h2 : HT.sIx (ns.map V.int).length (ns.map V.int).length (some ((40 : Nat) : Int)) = min 40 (ns.map V.int).length := by rw [HT.sIx_nat]
      have h2 : HT.sIx (ns.map V.int).length (ns.map V.int).length (some 40) = min 40 (ns.map V.int).length := h2
      rw [h2]
      omega
    refine ⟨_, rfl, 40, rfl, a, _, rfl, S.sq, fun ca hca => ?_⟩
    rw [hms]
    refine ⟨ca, rfl, ⟨_, SqL.of upd_same⟩, ?_⟩
    have pca := L.fre (c := ca) (fun xs z => by rw [hca] at z; cases z)
    have t2 := Same.upd (o := .lst (ms.map V.int)) hca
    have L := L.same t2
    have S := S.same t2
    have c2 : (upd G1 ca (.lst (ms.map V.int))) ca = some (.lst (ms.map V.int)) := upd_same
    generalize upd G1 ca (.lst (ms.map V.int)) = G2 at L S c2 ⊢
    clear t2 hca
    refine for_enum (K := K) (a := ca) (xs := ms.map V.int) (fun i σ G => ∃ (v4 v5 v6 v7 v8 v9 v10 : Option V) (p q : Nat → Addr) (n l : Nat → Int) (ds qs : Nat → Ds), σ = [some (.ref a), some (.ref e), some (.ref mo), some (.ref he), v4, v5, v6, v7, v8, v9, v10] ∧ G ca = some (.lst (ms.map V.int)) ∧ Pb he p ca ∧ Scr K G a (Pb he p) (ns.map V.int) ∧ LwAt T.C_Clock p_tab G e mo he (pick x0 x1) p (pick m0 m1) q n l ds qs i ∧ ∀ j < 2, OkN (n j) (l j) (ds j) (qs j) i)
      ⟨none, none, none, none, none, none, none, _, _, _, _, _, _, rfl, c2, pca, S, L, fun j _ => ⟨rfl, rfl, List.Pairwise.nil, Nat.le_refl _⟩⟩ (fun i σ G _ ⟨_, _, _, _, _, _, _, _, _, _, _, _, _, _, h, _⟩ => SqL.of h) ?_ ?_
    · rintro i y r σ G hi ⟨v4, v5, v6, v7, v8, v9, v10, p, q, n, l, ds, qs, rfl, hc, pca, S, L, O⟩ hr0
      rw [List.getElem?_map] at hi
      cases en : ms[i]? with
      | none => rw [en] at hi; cases hi
      | some cv =>
        rw [en] at hi
        cases hi
        have him : i < ms.length := (List.getElem?_eq_some_iff.mp en).1
        refine ⟨r, _, rfl, SqT.of upd_same, rfl, _, _, rfl, _, _, rfl, rfl, ?_⟩
        (simp only [tLst, tTup, tDNewK, _root_.L2.start, cxOf_K, cxComp_K, tSeq, tAsg, gName, tRet, tRetN, tDrop, tIfS, tTest, tB, tNot, tAnd, tOr, tAndV, tOrV, tNotV, tOp, tUn, tVar, tC, tCons, tNil, tStrs, tCB, tCall, tChain, tBM, tBM0, tPart, tNoPart, tSl, tIf, tNext, tTrue, selS, Option.bind_none, Option.bind_some, Option.join_some, if_true, rI, rI0, rU, rEq, rNe, rStarts, rSlS, lenV_str, tyV, List.map_cons, List.map_nil, List.length_cons, List.length_nil, List.replicate, List.cons_append, List.nil_append, List.append_nil, Nat.reduceAdd, Nat.reduceSub, Nat.zero_add, Nat.add_zero, Nat.sub_self, List.getElem?_cons_zero, List.getElem?_cons_succ, List.set_cons_zero, List.set_cons_succ, Option.some.injEq, V.int.injEq, V.str.injEq, V.ref.injEq, V.bl.injEq, V.ty.injEq, List.cons.injEq, exists_eq_left, exists_eq_left', exists_eq_right, exists_and_left, exists_eq, and_true, true_and, and_self, and_assoc, tFld, sFld, tMeth, tMake, tDIn, tDNotIn, sDPut, tNever, tDGet, tDGet1, tDGet2, tSortK, tSetLc, iList, tLc])
        have u0 : Same G (upd G r (.tup [V.int (i : Nat), V.int cv])) := Same.upd hr0
        have L := L.same u0
        have S := S.same u0
        have hc := u0 _ _ hc
        generalize upd G r (.tup [V.int (i : Nat), V.int cv]) = G0 at L S hc ⊢
        clear u0 hr0
        refine ⟨cv, (i : Int), rfl, fun z hz0 => ⟨z, rfl, by decide, ?_⟩⟩
        obtain ⟨j, hj, ej⟩ : ∃ j : Nat, j < 2 ∧ z % 2 = (j : Nat) := ⟨(z % 2).toNat, by omega, by omega⟩
        have Oj := O j hj
        have lq := Oj.lq
        have lp := Oj.ln
        refine ixL L.mv (by rw [ej]; exact atI_nat (at2 hj)) ⟨z, rfl, ⟨by decide, by decide⟩, pick m0 m1 j, q j, l j, qs j, z / 2, rfl, L.md j hj, by omega, fun D d G1 _ s1 h1 => ⟨z, rfl, by decide, ?_⟩⟩
        have L1 := L.same s1
        refine ixL L1.mv (by rw [ej]; exact atI_nat (at2 hj)) ⟨pick m0 m1 j, q j, d, l j, qs j, D, rfl, L1.md j hj, by omega, by rw [← Oj.es]; exact Oj.so, h1, L1.tb, fun u G2 q' qs2 bt2 tb2 fr2 M2 es2 an2 => ⟨z, rfl, by decide, ?_⟩⟩
        have L2 := L1.told hj bt2 tb2 fr2 M2
        have dm := (L1.md j hj).dc
        have S2 := (S.same s1).kept (G' := G2) (B' := Pb he p) fun c o lk b h => ⟨bt2 c o (ne_of h dm (by obtain ⟨xs, rfl | ⟨ob, rfl⟩⟩ := lk <;> exact fun z => nomatch z)) (by obtain ⟨xs, rfl | ⟨ob, rfl⟩⟩ := lk <;> exact fun _ z => nomatch z) h, b⟩
        have hc1 := s1 _ _ hc
        have hc2 : G2 ca = some (.lst (ms.map V.int)) := bt2 ca (.lst (ms.map V.int)) (ne_of hc1 dm (fun z => nomatch z)) (fun _ z => nomatch z) hc1
        have h12 : G2 d = some (.tup D.vs) := bt2 d (.tup D.vs) (ne_of h1 dm (fun z => nomatch z)) (fun _ z => nomatch z) h1
        clear hc1 dm bt2 tb2 fr2 M2 L1 s1 S hc L h1
        refine ixL L2.ev (by rw [ej]; exact atI_nat (at2 hj)) ⟨pick x0 x1 j, p j, d, n j, ds j, D, rfl, L2.ck j hj, by omega, Oj.so, h12, fun v G3 p' ds3 fm fr3 C3 es3 an3 => ?_⟩
        obtain ⟨L3, pL, tu⟩ := L2.done hj fm fr3 C3
        obtain ⟨hc3, pca3⟩ := pL _ _ ⟨_, .inl rfl⟩ pca hc2
        have S3 := S2.kept pL
        have h13 := tu _ _ h12
        have an2 := an2.kept tu
        have O3 : ∀ t < 2, OkN (setN n j (stepT (n j) (esD (ds j)) D) t) (setN l j (stepT (l j) (esD (qs j)) D) t) (setN ds j ds3 t) (setN qs j qs2 t) (i + 1) := fun t ht => by
          by_cases c : t = j
          · subst c
            rw [setN_at, setN_at, setN_at, setN_at]
            exact (O t ht).step es3 es2
          · rw [setN_ne _ _ c, setN_ne _ _ c, setN_ne _ _ c, setN_ne _ _ c]
            exact (O t ht).up (Nat.le_succ _)
        have an3' : AnsV G3 (ansF (l j) (esD (qs j)) D) v := by rw [← Oj.tm, ← Oj.es]; exact an3
        clear an3 fm fr3 C3 es3 es2 pL tu L2 S2 hc2 h12 pca lq lp Oj O
        generalize setN n j (stepT (n j) (esD (ds j)) D) = n3 at L3 O3
        generalize setN l j (stepT (l j) (esD (qs j)) D) = l3 at L3 O3
        generalize setN ds j ds3 = dd3 at L3 O3
        generalize setN qs j qs2 = qq3 at L3 O3
        generalize setN p j p' = p3 at L3 pca3 S3
        generalize setN q j q' = q3 at L3
        obtain ⟨SG, eSG⟩ : ∃ SG : Hp → Prop, SG = Same G3 := ⟨_, rfl⟩
        refine ⟨fun σ' G' => σ' = [some (.ref a), some (.ref e), some (.ref mo), some (.ref he), some (.int (i : Nat)), some (.int cv), some (.int z), some (.ref d), some u, some v, v10] ∧ SG G', ?_, ?_⟩
        · (simp only [tLst, tTup, tDNewK, _root_.L2.start, cxOf_K, cxComp_K, tSeq, tAsg, gName, tRet, tRetN, tDrop, tIfS, tTest, tB, tNot, tAnd, tOr, tAndV, tOrV, tNotV, tOp, tUn, tVar, tC, tCons, tNil, tStrs, tCB, tCall, tChain, tBM, tBM0, tPart, tNoPart, tSl, tIf, tNext, tTrue, selS, Option.bind_none, Option.bind_some, Option.join_some, if_true, rI, rI0, rU, rEq, rNe, rStarts, rSlS, lenV_str, tyV, List.map_cons, List.map_nil, List.length_cons, List.length_nil, List.replicate, List.cons_append, List.nil_append, List.append_nil, Nat.reduceAdd, Nat.reduceSub, Nat.zero_add, Nat.add_zero, Nat.sub_self, List.getElem?_cons_zero, List.getElem?_cons_succ, List.set_cons_zero, List.set_cons_succ, Option.some.injEq, V.int.injEq, V.str.injEq, V.ref.injEq, V.bl.injEq, V.ty.injEq, List.cons.injEq, exists_eq_left, exists_eq_left', exists_eq_right, exists_and_left, exists_eq, and_true, true_and, and_self, and_assoc, tFld, sFld, tMeth, tMake, tDIn, tDNotIn, sDPut, tNever, tDGet, tDGet1, tDGet2, tSortK, tSetLc, iList, tLc])
          refine ans_eq (A := fun H' => Q (.bl false) H') (B := fun H' => rIxT K (.ref d) (.int 0) H' fun x H1 => scal x (.str "drop") = true ∧ if decide (x = .str "drop") = true then spWhole [v] H1 (fun x H1 => ∃ c, x = V.bl c ∧ if (!c) = true then Q (.bl false) H1 else SG H1) E0 else if false = true then Q (.bl false) H1 else SG H1) an3' an2 ?_
          refine ixT h13 (v := .str D.nm) (atI_nat (j := 0) (by cases D <;> rfl)) ⟨rfl, ?_⟩
          have sg : SG G3 := by rw [eSG]; exact Same.refl _
          cases D with
          | «at» t w z => exact ifF (show ¬ V.str "at" = V.str "drop" by decide +kernel) (iteF sg)
          | take => exact ifF (by decide +kernel) (iteF sg)
          | drop w z =>
            have ev : v = .int _ := an3'
            exact ifT rfl ⟨_, by rw [ev], _, rfl, bF rfl sg⟩
          | drop1 w =>
            have ev : v = .int _ := an3'
            exact ifT rfl ⟨_, by rw [ev], _, rfl, bF rfl sg⟩
          | goTo t => exact ifF (show ¬ V.str "go_to" = V.str "drop" by decide +kernel) (iteF sg)
        rintro σ' G4 ⟨rfl, s4⟩
        rw [eSG] at s4
        have L3 := L3.same s4
        have S3 := S3.same s4
        have hc3 := s4 _ _ hc3
        clear an2 an3' h13 s4 eSG
        refine ⟨2, rfl, by decide, by decide, for_range (lo := 0) (n := (2 : Int).toNat) (fun t σ G' => ∃ w10 : Option V, σ = [some (.ref a), some (.ref e), some (.ref mo), some (.ref he), some (.int (i : Nat)), some (.int cv), some (.int z), some (.ref d), some u, some v, w10] ∧ Same G4 G') ⟨_, rfl, Same.refl _⟩ ?_ ?_⟩
        · rintro t σ G6 ht ⟨w10, rfl, s6⟩
          (simp only [tLst, tTup, tDNewK, _root_.L2.start, cxOf_K, cxComp_K, tSeq, tAsg, gName, tRet, tRetN, tDrop, tIfS, tTest, tB, tNot, tAnd, tOr, tAndV, tOrV, tNotV, tOp, tUn, tVar, tC, tCons, tNil, tStrs, tCB, tCall, tChain, tBM, tBM0, tPart, tNoPart, tSl, tIf, tNext, tTrue, selS, Option.bind_none, Option.bind_some, Option.join_some, if_true, rI, rI0, rU, rEq, rNe, rStarts, rSlS, lenV_str, tyV, List.map_cons, List.map_nil, List.length_cons, List.length_nil, List.replicate, List.cons_append, List.nil_append, List.append_nil, Nat.reduceAdd, Nat.reduceSub, Nat.zero_add, Nat.add_zero, Nat.sub_self, List.getElem?_cons_zero, List.getElem?_cons_succ, List.set_cons_zero, List.set_cons_succ, Option.some.injEq, V.int.injEq, V.str.injEq, V.ref.injEq, V.bl.injEq, V.ty.injEq, List.cons.injEq, exists_eq_left, exists_eq_left', exists_eq_right, exists_and_left, exists_eq, and_true, true_and, and_self, and_assoc, tFld, sFld, tMeth, tMake, tDIn, tDNotIn, sDPut, tNever, tDGet, tDGet1, tDGet2, tSortK, tSetLc, iList, tLc])
          have ht : t < 2 := ht
          have L6 := L3.same s6
          have Ot := O3 t ht
          rw [Int.zero_add]
          have Mt := L6.md t ht
          rw [← Ot.tm] at Mt
          exact ixL L6.ev (atI_nat (at2 ht)) (ixL L6.mv (atI_nat (at2 ht)) ⟨⟨by decide, by decide⟩, ⟨by decide, by decide⟩, by decide, _, _, _, _, _, _, _, _, _, rfl, L6.ck t ht, Mt, Ot.es, by have := Ot.ln; omega, by omega, by omega, fun G7 s7 => ⟨_, rfl, iteF (s6.trans s7)⟩⟩)
        · rintro σ G6 ⟨w10, rfl, s6⟩
          (simp only [tLst, tTup, tDNewK, _root_.L2.start, cxOf_K, cxComp_K, tSeq, tAsg, gName, tRet, tRetN, tDrop, tIfS, tTest, tB, tNot, tAnd, tOr, tAndV, tOrV, tNotV, tOp, tUn, tVar, tC, tCons, tNil, tStrs, tCB, tCall, tChain, tBM, tBM0, tPart, tNoPart, tSl, tIf, tNext, tTrue, selS, Option.bind_none, Option.bind_some, Option.join_some, if_true, rI, rI0, rU, rEq, rNe, rStarts, rSlS, lenV_str, tyV, List.map_cons, List.map_nil, List.length_cons, List.length_nil, List.replicate, List.cons_append, List.nil_append, List.append_nil, Nat.reduceAdd, Nat.reduceSub, Nat.zero_add, Nat.add_zero, Nat.sub_self, List.getElem?_cons_zero, List.getElem?_cons_succ, List.set_cons_zero, List.set_cons_succ, Option.some.injEq, V.int.injEq, V.str.injEq, V.ref.injEq, V.bl.injEq, V.ty.injEq, List.cons.injEq, exists_eq_left, exists_eq_left', exists_eq_right, exists_and_left, exists_eq, and_true, true_and, and_self, and_assoc, tFld, sFld, tMeth, tMake, tDIn, tDNotIn, sDPut, tNever, tDGet, tDGet1, tDGet2, tSortK, tSetLc, iList, tLc])
          have L6 := L3.same s6
          have S6 := S3.same s6
          have hc6 := s6 _ _ hc3
          refine ⟨⟨by decide, by decide⟩, by decide, rfl, ?_⟩
          by_cases c : z / 140 % 2 = 0
          · obtain ⟨dx, hx⟩ := (L6.ck j hj).ob
            refine ifT c ⟨.inl L6.heL, by decide, ixL L6.ev (by rw [ej]; exact atI_nat (at2 hj)) ⟨_, rfl, dx, _, hx, rfl, _, _, _, _, rfl, L6.ck j hj, fun l1 G8 hl8 s8 h8 => ⟨by decide, ?_⟩⟩⟩
            have L8 := L6.same s8
            have M8 := L8.md j hj
            refine ixL L8.mv (by rw [ej]; exact atI_nat (at2 hj)) ⟨_, rfl, _, M8.getD, _, rfl, _, .inl (SqL.of M8.ls.1), fun l2 hl2 => ⟨by decide, fun u2 hu2 => ?_⟩⟩
            have t9 := Same.upd (o := .lst (vsD (qq3 j))) hl2
            have t10 := Same.upd (o := .tup [V.ref l1, .ref l2]) hu2
            have s10 := t9.trans t10
            exact (L8.same s10).push (by omega) ⟨l1, l2, dd3 j, qq3 j, upd_same, L6.fre (fun xs z => by rw [hl8] at z; cases z), L8.fre (fun xs z => by rw [hl2] at z; cases z), ⟨s10 _ _ h8, fun y hy => ((L8.ck j hj).same s10).ls.2 y hy⟩, ⟨t10 _ _ upd_same, fun y hy => (M8.same s10).ls.2 y hy⟩, (O3 j hj).es⟩ fun o L' => ⟨by rw [upd_ne pca3.1]; exact s10 _ _ (s8 _ _ hc6), p3, pca3, ((S6.same s8).same s10).kept (fun c o' _ b h => ⟨by rw [upd_ne b.1]; exact h, b⟩), q3, n3, l3, dd3, qq3, L', O3⟩
          · exact ifF c ⟨hc6, p3, pca3, S6, q3, n3, l3, dd3, qq3, L6.up (Nat.le_succ _), O3⟩
    · rintro σ G ⟨v4, v5, v6, v7, v8, v9, v10, p, q, n, l, ds, qs, rfl, hc, pca, S, L, O⟩
      rw [List.length_map] at L O
      have one : ∀ {G' : Hp} {t : Nat} {zz : Int} {R : VK}, Same G G' → t < 2 → (∀ H', Same G H' → R (.bl true) H') → spSame T.C_Clock [.ref (pick x0 x1 t), .ref (pick m0 m1 t), .int zz, .int 4] G' R E0 := fun {G' t zz R} sG ht kR => by
        have Ot := O t ht
        have Mt := (L.same sG).md t ht
        rw [← Ot.tm] at Mt
        exact ⟨_, _, _, _, _, _, _, _, _, rfl, (L.same sG).ck t ht, Mt, Ot.es, by have := Ot.ln; omega, by decide, by decide, fun H' s' => kR H' (sG.trans s')⟩
      refine ⟨fun σ' G' => σ' = [some (.ref a), some (.ref e), some (.ref mo), some (.ref he), v4, v5, v6, v7, v8, v9, v10] ∧ Same G G', ?_, ?_⟩
      · (simp only [tLst, tTup, tDNewK, _root_.L2.start, cxOf_K, cxComp_K, tSeq, tAsg, gName, tRet, tRetN, tDrop, tIfS, tTest, tB, tNot, tAnd, tOr, tAndV, tOrV, tNotV, tOp, tUn, tVar, tC, tCons, tNil, tStrs, tCB, tCall, tChain, tBM, tBM0, tPart, tNoPart, tSl, tIf, tNext, tTrue, selS, Option.bind_none, Option.bind_some, Option.join_some, if_true, rI, rI0, rU, rEq, rNe, rStarts, rSlS, lenV_str, tyV, List.map_cons, List.map_nil, List.length_cons, List.length_nil, List.replicate, List.cons_append, List.nil_append, List.append_nil, Nat.reduceAdd, Nat.reduceSub, Nat.zero_add, Nat.add_zero, Nat.sub_self, List.getElem?_cons_zero, List.getElem?_cons_succ, List.set_cons_zero, List.set_cons_succ, Option.some.injEq, V.int.injEq, V.str.injEq, V.ref.injEq, V.bl.injEq, V.ty.injEq, List.cons.injEq, exists_eq_left, exists_eq_left', exists_eq_right, exists_and_left, exists_eq, and_true, true_and, and_self, and_assoc, tFld, sFld, tMeth, tMake, tDIn, tDNotIn, sDPut, tNever, tDGet, tDGet1, tDGet2, tSortK, tSetLc, iList, tLc])
        refine ixL L.ev (atI_nat (at2 (j := 0) (by decide))) (ixL L.mv (atI_nat (at2 (j := 0) (by decide))) ⟨_, .inl ⟨_, S.sq, rfl⟩, one (t := 0) (Same.refl _) (by decide) fun G1 s1 => ⟨_, rfl, iteF ?_⟩⟩)
        have L1 := L.same s1
        exact ixL L1.ev (atI_nat (at2 (j := 1) (by decide))) (ixL L1.mv (atI_nat (at2 (j := 1) (by decide))) (one (t := 1) s1 (by decide) fun G2 s2 => ⟨_, rfl, iteF s2⟩))
      · rintro σ' G6 ⟨rfl, s6⟩
        (simp only [tLst, tTup, tDNewK, _root_.L2.start, cxOf_K, cxComp_K, tSeq, tAsg, gName, tRet, tRetN, tDrop, tIfS, tTest, tB, tNot, tAnd, tOr, tAndV, tOrV, tNotV, tOp, tUn, tVar, tC, tCons, tNil, tStrs, tCB, tCall, tChain, tBM, tBM0, tPart, tNoPart, tSl, tIf, tNext, tTrue, selS, Option.bind_none, Option.bind_some, Option.join_some, if_true, rI, rI0, rU, rEq, rNe, rStarts, rSlS, lenV_str, tyV, List.map_cons, List.map_nil, List.length_cons, List.length_nil, List.replicate, List.cons_append, List.nil_append, List.append_nil, Nat.reduceAdd, Nat.reduceSub, Nat.zero_add, Nat.add_zero, Nat.sub_self, List.getElem?_cons_zero, List.getElem?_cons_succ, List.set_cons_zero, List.set_cons_succ, Option.some.injEq, V.int.injEq, V.str.injEq, V.ref.injEq, V.bl.injEq, V.ty.injEq, List.cons.injEq, exists_eq_left, exists_eq_left', exists_eq_right, exists_and_left, exists_eq, and_true, true_and, and_self, and_assoc, tFld, sFld, tMeth, tMake, tDIn, tDNotIn, sDPut, tNever, tDGet, tDGet1, tDGet2, tSortK, tSetLc, iList, tLc])
        have L6 := L.same s6
        obtain ⟨ts, h1, h2, h3⟩ := L6.hd
        refine ⟨⟨_, SqL.of h1⟩, lc_filt (K := K) (xs := ts) (f := V.ref) (fun _ => false) h1 (Nat.le_of_lt (small1000 (by omega))) ?_ ?_⟩
        · intro t ys G7 ht s7
          (simp only [tLst, tTup, tDNewK, _root_.L2.start, cxOf_K, cxComp_K, tSeq, tAsg, gName, tRet, tRetN, tDrop, tIfS, tTest, tB, tNot, tAnd, tOr, tAndV, tOrV, tNotV, tOp, tUn, tVar, tC, tCons, tNil, tStrs, tCB, tCall, tChain, tBM, tBM0, tPart, tNoPart, tSl, tIf, tNext, tTrue, selS, Option.bind_none, Option.bind_some, Option.join_some, if_true, rI, rI0, rU, rEq, rNe, rStarts, rSlS, lenV_str, tyV, List.map_cons, List.map_nil, List.length_cons, List.length_nil, List.replicate, List.cons_append, List.nil_append, List.append_nil, Nat.reduceAdd, Nat.reduceSub, Nat.zero_add, Nat.add_zero, Nat.sub_self, List.getElem?_cons_zero, List.getElem?_cons_succ, List.set_cons_zero, List.set_cons_succ, Option.some.injEq, V.int.injEq, V.str.injEq, V.ref.injEq, V.bl.injEq, V.ty.injEq, List.cons.injEq, exists_eq_left, exists_eq_left', exists_eq_right, exists_and_left, exists_eq, and_true, true_and, and_self, and_assoc, tFld, sFld, tMeth, tMake, tDIn, tDNotIn, sDPut, tNever, tDGet, tDGet1, tDGet2, tSortK, tSetLc, iList, tLc])
          obtain ⟨a1, b1, da, db, g1, _, _, g2, g3, g4⟩ := h3 t ht
          exact ixT (s7 _ _ g1) (atI_nat (j := 0) rfl) (ixT (s7 _ _ g1) (atI_nat (j := 1) rfl) (eqDs (g2.same s7) (g3.same s7) g4 ⟨_, rfl, bF rfl ⟨s7, by simp⟩⟩))
        · intro G7 s7 D hD
          have ee : (ts.filter fun _ => false).map V.ref = [] := by simp
          rw [ee]
          exact nilD (ds := []) upd_same fun G8 t8 => k _
theorem law_fn {l : PySem.W.OpenLaw} {h : Heap} {fa : Addr} (X : K.In h) (G : h.Ns mainGlobals mg) (hfa : mg "law" = some (.ref fa))
    (i6 : InK K "_law_mixed" (top 6))
    (i7 : InK K "_law_due" (top 7))
    (i8 : InK K "_law_drawn" (top 8))
    (i9 : InK K "_law_told" (top 9))
    (i10 : InK K "_law_done" (top 10))
    (i11 : InK K "_law_whole" (top 11))
    (i12 : InK K "_law_same" (top 12))
    (i13 : InK K "law" (top 13))
    {C_Clock : Addr} (c_Clock : InC K "Clock" C_Clock)
    (na_Clock_tick : PySem.W.findIn K (.ref C_Clock) "tick" = some none)
    (na_Clock_standing : PySem.W.findIn K (.ref C_Clock) "standing" = some none)
    (im_Clock___init__ : InM K C_Clock "__init__" "Clock.__init__" (inClass (top 4) 0))
    (im_Clock_now : InM K C_Clock "now" "Clock.now" (inClass (top 4) 1))
    (im_Clock_at : InM K C_Clock "at" "Clock.at" (inClass (top 4) 2))
    (im_Clock_due : InM K C_Clock "due" "Clock.due" (inClass (top 4) 3))
    (im_Clock_take : InM K C_Clock "take" "Clock.take" (inClass (top 4) 4))
    (im_Clock_next_time : InM K C_Clock "next_time" "Clock.next_time" (inClass (top 4) 5))
    (im_Clock_dues : InM K C_Clock "dues" "Clock.dues" (inClass (top 4) 6))
    (im_Clock_drop : InMD K C_Clock "drop" "Clock.drop" (inClass (top 4) 7))
    (im_Clock_go_to : InM K C_Clock "go_to" "Clock.go_to" (inClass (top 4) 8))
    {C_BadClock : Addr} (cx : PySem.W.nsIn K mainGlobals "BadClock" = some (some (.ref C_BadClock))) (qx : PySem.W.excIn K C_BadClock [.type "ValueError", .type "Exception", .type "BaseException", .type "object"] "ValueError.__new__" = true)
    (ht : PySem.W.tabIn K "_law_told" = some (c_tab, p_tab))
    (z_len : PySem.W.nsIn K mainGlobals "len" = some none)
    (z_sorted : PySem.W.nsIn K mainGlobals "sorted" = some none)
    (z_list : PySem.W.nsIn K mainGlobals "list" = some none)
    (z_range : PySem.W.nsIn K mainGlobals "range" = some none)
    (z_enumerate : PySem.W.nsIn K mainGlobals "enumerate" = some none)
    (z_isinstance : PySem.W.nsIn K mainGlobals "isinstance" = some none)
    (z_int : PySem.W.nsIn K mainGlobals "int" = some none)
    (z_bool : PySem.W.nsIn K mainGlobals "bool" = some none)
    (z_min : PySem.W.nsIn K mainGlobals "min" = some none)
    (z_max : PySem.W.nsIn K mainGlobals "max" = some none)
    : ∃ fd : FuncData, (∀ (s : Shared) (v : Value), BindsTo s fd ⟨[v], []⟩ [("_law_script", v)]) ∧ ∀ base : Heap, K.In base → base.Ns mainGlobals mg → LamAt mg base c_tab p_tab → FnOk l.prog w K mg base CX0 5 fa fd ["_law_script"] (spLaw K p_tab) := by
  obtain ⟨d6⟩ := i6.def (ps := ["_law_cell", "_law_k"]) X G fun _ _ _ _ _ _ us hl => match us, hl with | [_, _], _ => rfl
  obtain ⟨d7⟩ := i7.def (ps := ["_law_model"]) X G fun _ _ _ _ _ _ us hl => match us, hl with | [_], _ => rfl
  obtain ⟨d8⟩ := i8.def (ps := ["_law_model", "_law_x"]) X G fun _ _ _ _ _ _ us hl => match us, hl with | [_, _], _ => rfl
  obtain ⟨d9⟩ := i9.def (ps := ["_law_model", "_law_deed"]) X G fun _ _ _ _ _ _ us hl => match us, hl with | [_, _], _ => rfl
  obtain ⟨d10⟩ := i10.def (ps := ["_law_clock", "_law_deed"]) X G fun _ _ _ _ _ _ us hl => match us, hl with | [_, _], _ => rfl
  obtain ⟨d11⟩ := i11.def (ps := ["_law_found"]) X G fun _ _ _ _ _ _ us hl => match us, hl with | [_], _ => rfl
  obtain ⟨d12⟩ := i12.def (ps := ["_law_clock", "_law_model", "_law_x", "_law_many"]) X G fun _ _ _ _ _ _ us hl => match us, hl with | [_, _, _, _], _ => rfl
  obtain ⟨e_Clock___init__⟩ := im_Clock___init__.def (ps := ["self"]) fun _ _ _ _ _ _ us hl => match us, hl with | [_], _ => rfl
  obtain ⟨e_Clock_now⟩ := im_Clock_now.def (ps := ["self"]) fun _ _ _ _ _ _ us hl => match us, hl with | [_], _ => rfl
  obtain ⟨e_Clock_at⟩ := im_Clock_at.def (ps := ["self", "time", "who", "what"]) fun _ _ _ _ _ _ us hl => match us, hl with | [_, _, _, _], _ => rfl
  obtain ⟨e_Clock_due⟩ := im_Clock_due.def (ps := ["self"]) fun _ _ _ _ _ _ us hl => match us, hl with | [_], _ => rfl
  obtain ⟨e_Clock_take⟩ := im_Clock_take.def (ps := ["self"]) fun _ _ _ _ _ _ us hl => match us, hl with | [_], _ => rfl
  obtain ⟨e_Clock_next_time⟩ := im_Clock_next_time.def (ps := ["self"]) fun _ _ _ _ _ _ us hl => match us, hl with | [_], _ => rfl
  obtain ⟨e_Clock_dues⟩ := im_Clock_dues.def (ps := ["self"]) fun _ _ _ _ _ _ us hl => match us, hl with | [_], _ => rfl
  obtain ⟨e_Clock_drop⟩ := im_Clock_drop.def (ps := ["self", "who", "what"]) (fun _ _ _ _ _ _ _ us hl => match us, hl with | [_, _, _], _ => ⟨_, rfl, rfl⟩) (fun _ _ _ _ _ _ _ us hl => match us, hl with | [_, _], _ => ⟨_, rfl, rfl⟩)
  obtain ⟨e_Clock_go_to⟩ := im_Clock_go_to.def (ps := ["self", "time"]) fun _ _ _ _ _ _ us hl => match us, hl with | [_, _], _ => rfl
  obtain ⟨f, oc, od, kV, doc, pm, an, cdv, ct, osl, a, lk, c, kp⟩ := i13.ex
  have F := fun_mk (x := "law") (qual := "law") (st := top 13) lk c kp
  have e := hfa.symm.trans (PySem.W.mg_of X G a)
  cases e
  have T : Tx K mg c_tab p_tab := ⟨d6, d7, d8, d9, d10, d11, d12, C_Clock, c_Clock.cls, PySem.W.mg_of X G c_Clock.a, na_Clock_tick, na_Clock_standing, e_Clock___init__, e_Clock_now, e_Clock_at, e_Clock_due, e_Clock_take, e_Clock_next_time, e_Clock_dues, e_Clock_drop, e_Clock_go_to, ⟨c_Clock.mak, e_Clock___init__.me.at_, e_Clock___init__.me.fn, c_Clock.kp⟩, C_BadClock, ⟨PySem.W.mg_of X G cx, qx⟩, code_of X G d9 ht, PySem.W.mg_none_of X G z_len, PySem.W.mg_none_of X G z_sorted, PySem.W.mg_none_of X G z_list, PySem.W.mg_none_of X G z_range, PySem.W.mg_none_of X G z_enumerate, PySem.W.mg_none_of X G z_isinstance, PySem.W.mg_none_of X G z_int, PySem.W.mg_none_of X G z_bool, PySem.W.mg_none_of X G z_min, PySem.W.mg_none_of X G z_max⟩
  refine ⟨PySem.W.fnOf "law" "law" (defArgs (top 13)) (defBody (top 13)) (defScope (top 13)) .none kV doc pm an cdv ct, fun s v => .of_eq rfl, fun base _ _ B => ?_⟩
  have g_Clock___init__ := ok_Clock___init__ (P := l.prog) (w := w) (base := base) T  
  have g_Clock_now := ok_Clock_now (P := l.prog) (w := w) (base := base) T  
  have g_Clock_next_time := ok_Clock_next_time (P := l.prog) (w := w) (base := base) T  
  have g_Clock_dues := ok_Clock_dues (P := l.prog) (w := w) (base := base) T  
  have g_Clock_drop := ok_Clock_drop (P := l.prog) (w := w) (base := base) T  
  have g_Clock_due := ok_Clock_due (P := l.prog) (w := w) (base := base) T  g_Clock_next_time
  have g_Clock_at := ok_Clock_at (P := l.prog) (w := w) (base := base) T  g_Clock_drop
  have g_Clock_take := ok_Clock_take (P := l.prog) (w := w) (base := base) T  g_Clock_due
  have g_Clock_go_to := ok_Clock_go_to (P := l.prog) (w := w) (base := base) T  g_Clock_next_time
  have g_l_mixed := ok_l_mixed (P := l.prog) (w := w) (base := base) T  
  have g_l_due := ok_l_due (P := l.prog) (w := w) (base := base) T  
  have g_l_drawn := ok_l_drawn (P := l.prog) (w := w) (base := base) T  
  have g_l_told := ok_l_told (P := l.prog) (w := w) (base := base) T B g_l_due
  have g_l_done := ok_l_done (P := l.prog) (w := w) (base := base) T  g_Clock_at g_Clock_take g_Clock_drop g_Clock_go_to
  have g_l_whole := ok_l_whole (P := l.prog) (w := w) (base := base) T  
  have g_l_same := ok_l_same (P := l.prog) (w := w) (base := base) T  g_Clock_now g_Clock_dues g_Clock_due g_Clock_next_time g_l_due g_l_whole
  exact ok_law T F  g_Clock___init__ g_Clock_dues g_l_mixed g_l_drawn g_l_told g_l_done g_l_whole g_l_same

end
end K30
open PySem PySem.W PyProof.Rows
set_option maxRecDepth 100000 in
set_option maxHeartbeats 0 in
theorem PySem.Challenge.cw_nightwatch_k30_a_clock_holds : PySem.Challenge.rw_nightwatch_k30_a_clock.Holds := by
  w_on; o_law; k_head; (case hw => w_witness2)
  k_fill
  refine' L2.walk_ofT (l := PySem.Challenge.rw_nightwatch_k30_a_clock) (n := 63) (k := 5) (x := "_law_script") (c := 138) (T := 136) (CX := L2.CX0) (sp := K30.spLaw) rfl (by decide) rfl ⟨rfl, by decide, by decide⟩ (fun w h Y => ⟨PySem.W.km_in_of Y, PySem.W.km_tabs_of Y _ (.head _)⟩) ?nt ?htab ?F (fun K H a ns hl hT hS => ⟨a, ns, rfl, hS, hl, ⟨#[], hT, .inl rfl⟩, fun _ => rfl⟩) (fun _ _ _ _ z => z)
  case htab => intro w; kernel_rfl
  case nt => intro w; kernel_rfl
  case F =>
    intro w mg fa h KX G hmg
    refine' K30.law_fn KX G hmg ?i6 ?i7 ?i8 ?i9 ?i10 ?i11 ?i12 ?i13 ?c_Clock ?na_Clock_tick ?na_Clock_standing ?im_Clock___init__ ?im_Clock_now ?im_Clock_at ?im_Clock_due ?im_Clock_take ?im_Clock_next_time ?im_Clock_dues ?im_Clock_drop ?im_Clock_go_to ?cx ?qx ?ht ?z_len ?z_sorted ?z_list ?z_range ?z_enumerate ?z_isinstance ?z_int ?z_bool ?z_min ?z_max
    case i6 =>
      refine' L2.InK.of ?a ?l ?c ?k
      (case a => k_is); (case l => k_is); (case c => k_is); (case k => k_is)
    case i7 =>
      refine' L2.InK.of ?a ?l ?c ?k
      (case a => k_is); (case l => k_is); (case c => k_is); (case k => k_is)
    case i8 =>
      refine' L2.InK.of ?a ?l ?c ?k
      (case a => k_is); (case l => k_is); (case c => k_is); (case k => k_is)
    case i9 =>
      refine' L2.InK.of ?a ?l ?c ?k
      (case a => k_is); (case l => k_is); (case c => k_is); (case k => k_is)
    case i10 =>
      refine' L2.InK.of ?a ?l ?c ?k
      (case a => k_is); (case l => k_is); (case c => k_is); (case k => k_is)
    case i11 =>
      refine' L2.InK.of ?a ?l ?c ?k
      (case a => k_is); (case l => k_is); (case c => k_is); (case k => k_is)
    case i12 =>
      refine' L2.InK.of ?a ?l ?c ?k
      (case a => k_is); (case l => k_is); (case c => k_is); (case k => k_is)
    case i13 =>
      refine' L2.InK.of ?a ?l ?c ?k
      (case a => k_is); (case l => k_is); (case c => k_is); (case k => k_is)
    case c_Clock =>
      refine' L2.InC.mk ?a ?b ?c ?d ?e ?f ?g
      (case a => k_is); (case b => k_is); (case c => k_is); (case d => k_is); (case e => k_is); (case f => k_is); (case g => k_is)
    (case na_Clock_tick => k_is)
    (case na_Clock_standing => k_is)
    case im_Clock___init__ =>
      refine' L2.InM.of ?a ?i ?l ?c ?k
      (case a => k_is); (case i => k_is); (case l => k_is); (case c => k_is); (case k => k_is)
    case im_Clock_now =>
      refine' L2.InM.of ?a ?i ?l ?c ?k
      (case a => k_is); (case i => k_is); (case l => k_is); (case c => k_is); (case k => k_is)
    case im_Clock_at =>
      refine' L2.InM.of ?a ?i ?l ?c ?k
      (case a => k_is); (case i => k_is); (case l => k_is); (case c => k_is); (case k => k_is)
    case im_Clock_due =>
      refine' L2.InM.of ?a ?i ?l ?c ?k
      (case a => k_is); (case i => k_is); (case l => k_is); (case c => k_is); (case k => k_is)
    case im_Clock_take =>
      refine' L2.InM.of ?a ?i ?l ?c ?k
      (case a => k_is); (case i => k_is); (case l => k_is); (case c => k_is); (case k => k_is)
    case im_Clock_next_time =>
      refine' L2.InM.of ?a ?i ?l ?c ?k
      (case a => k_is); (case i => k_is); (case l => k_is); (case c => k_is); (case k => k_is)
    case im_Clock_dues =>
      refine' L2.InM.of ?a ?i ?l ?c ?k
      (case a => k_is); (case i => k_is); (case l => k_is); (case c => k_is); (case k => k_is)
    case im_Clock_drop =>
      refine' L2.InMD.of ?a ?i ?l ?c ?k ?d ?ga ?rd ?fi
      (case a => k_is); (case i => k_is); (case l => k_is); (case c => k_is); (case k => k_is); (case d => k_is); (case ga => k_is); (case rd => k_is); (case fi => k_is)
    case im_Clock_go_to =>
      refine' L2.InM.of ?a ?i ?l ?c ?k
      (case a => k_is); (case i => k_is); (case l => k_is); (case c => k_is); (case k => k_is)
    (case cx => k_is)
    (case qx => k_exc)
    (case ht => kernel_rfl)
    (case z_len => k_is)
    (case z_sorted => k_is)
    (case z_list => k_is)
    (case z_range => k_is)
    (case z_enumerate => k_is)
    (case z_isinstance => k_is)
    (case z_int => k_is)
    (case z_bool => k_is)
    (case z_min => k_is)
    (case z_max => k_is)
#print axioms PySem.Challenge.cw_nightwatch_k30_a_clock_holds

