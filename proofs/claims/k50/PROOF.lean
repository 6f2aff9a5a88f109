import PyProof.Rows.All
import Wide.All
import OpenK.AllK
import Wide.FinOn
import Lean
import PyProof.EqAt
import PyProof.EqKinds
import PyProof.NeKinds
import PyProof.TupleCall
import KE.KPairComp
import PySem.Challenge.RW_nightwatch_k50_frames
set_option Elab.async false
set_option linter.all false
set_option genSizeOf false
set_option maxRecDepth 100000
namespace L2
open PySem PySem.Spec PyProof.Rows

abbrev Key := Sum Int Str
def keyIs : Key → Value → Bool
  | .inl k, v => Value.isInt k v
  | .inr x, v => Value.isStrOf x v
def keyH (w : World) : Key → Int
  | .inl k => hashInt k
  | .inr x => hashStr w x
theorem keyIs_shape : ∀ {k : Key} {v : Value}, keyIs k v = true → (∃ i t, k = Sum.inl i ∧ v = Value.int i t) ∨ (∃ x t, k = Sum.inr x ∧ v = Value.str x t)
  | .inl i, v, h => by
    obtain ⟨t, e⟩ := Value.isInt_shape (k := i) (v := v) h
    exact .inl ⟨i, t, rfl, e⟩
  | .inr x, v, h => by
    obtain ⟨t, e⟩ := Value.isStrOf_shape (x := x) (v := v) h
    exact .inr ⟨x, t, rfl, e⟩
theorem keyIs_int (i : Int) (t : Tok) : keyIs (.inl i) (.int i t) = true := by simp [keyIs, Value.isInt]
theorem keyIs_str (x : Str) (t : Tok) : keyIs (.inr x) (.str x t) = true := by simp [keyIs, Value.isStrOf]
theorem key_ll (a b : Int) : decide ((Sum.inl a : Key) = Sum.inl b) = (a == b) := by
  by_cases e : a = b
  · subst e; simp
  · have h : ¬ (Sum.inl a : Key) = Sum.inl b := fun q => e (Sum.inl.inj q)
    rw [decide_eq_false h]
    exact (beq_eq_false_iff_ne.mpr e).symm
theorem key_rr (a b : Str) : decide ((Sum.inr a : Key) = Sum.inr b) = decide (a = b) := by
  by_cases e : a = b
  · subst e; simp
  · have h : ¬ (Sum.inr a : Key) = Sum.inr b := fun q => e (Sum.inr.inj q)
    rw [decide_eq_false h, decide_eq_false e]
theorem key_lr (a : Int) (b : Str) : decide ((Sum.inl a : Key) = Sum.inr b) = false := decide_eq_false (fun q => nomatch q)
theorem key_rl (a : Str) (b : Int) : decide ((Sum.inr a : Key) = Sum.inl b) = false := decide_eq_false (fun q => nomatch q)

def mixKind (prog : Program) (w : World) : PySem.KeyKind prog w Key where
  is := keyIs
  hash := keyH w
  inj := fun v a b ha hb => by
    rcases keyIs_shape ha with ⟨i, t, rfl, rfl⟩ | ⟨x, t, rfl, rfl⟩
    · rcases keyIs_shape hb with ⟨j, u, rfl, e⟩ | ⟨y, u, rfl, e⟩
      · injection e with e1 _; rw [e1]
      · exact nomatch e
    · rcases keyIs_shape hb with ⟨j, u, rfl, e⟩ | ⟨y, u, rfl, e⟩
      · exact nomatch e
      · injection e with e1 _; rw [e1]
  byValue := fun k v h => by
    rcases keyIs_shape h with ⟨i, t, rfl, rfl⟩ | ⟨x, t, rfl, rfl⟩ <;> rfl
  pyHash := fun hv h => by
    rcases keyIs_shape hv with ⟨i, t, rfl, rfl⟩ | ⟨x, t, rfl, rfl⟩
    · exact wpAny_pyHash_int h
    · exact wpAny_pyHash_str h
  eqBool := fun hu hv h => by
    rcases keyIs_shape hu with ⟨i, t, rfl, rfl⟩ | ⟨x, t, rfl, rfl⟩
    · rcases keyIs_shape hv with ⟨j, u, rfl, rfl⟩ | ⟨y, u, rfl, rfl⟩
      · rw [key_ll] at h; exact wpAny_eqBool_int h
      · rw [key_lr] at h; exact SeqAt.EqAt.int_str i t y u _ _ _ _ h
    · rcases keyIs_shape hv with ⟨j, u, rfl, rfl⟩ | ⟨y, u, rfl, rfl⟩
      · rw [key_rl] at h; exact SeqAt.EqAt.str_int x t j u _ _ _ _ h
      · rw [key_rr] at h; exact wpAny_eqBool_str h
  «strs» := fun k x t v h => by
    rcases keyIs_shape h with ⟨i, u, rfl, e⟩ | ⟨y, u, rfl, e⟩
    · exact nomatch e
    · injection e with e1 _
      subst e1
      cases v <;> rfl

theorem mixKind_int (prog : Program) (w : World) (i : Int) (t : Tok) : (mixKind prog w).is (.inl i) (.int i t) = true := keyIs_int i t
theorem mixKind_str (prog : Program) (w : World) (x : Str) (t : Tok) : (mixKind prog w).is (.inr x) (.str x t) = true := keyIs_str x t
end L2

namespace L2
open PySem PySem.Spec PyProof.Rows

inductive V where
  | non | bl (b : Bool) | int (i : Int) | str (x : Str) | byt (b : Array UInt8) | flt (b : UInt64) | ref (a : Addr) | ty (n : String)
  deriving DecidableEq

def RelV : V → Value → Prop
  | .non, u => u = Value.none
  | .bl b, u => u = Value.bool b
  | .int i, u => ∃ t, u = Value.int i t
  | .str x, u => ∃ t, u = Value.str x t
  | .byt b, u => ∃ t, u = Value.bytes b t
  | .flt b, u => ∃ t, u = Value.float b t
  | .ref a, u => u = Value.ref a
  | .ty n, u => u = Value.type n

abbrev Vals : List V → List Value → Prop := Paired RelV
theorem Vals.length {xs : List V} {us : List Value} (r : Vals xs us) : xs.length = us.length := Paired.length r
theorem Vals.get : ∀ {xs : List V} {us : List Value} {i : Nat} {x : V}, Vals xs us → xs[i]? = some x → ∃ u, us[i]? = some u ∧ RelV x u
  | _, _, _, _, .nil, e => by simp at e
  | _, _, 0, _, .cons r _, e => by simp at e; subst e; exact ⟨_, rfl, r⟩
  | _, _, i + 1, x, .cons _ t, e => by
    obtain ⟨u, h1, h2⟩ := Vals.get (i := i) (x := x) t (by simpa using e)
    exact ⟨u, by simpa using h1, h2⟩
theorem Vals.set {x : V} {u : Value} (r : RelV x u) : ∀ {xs : List V} {us : List Value} (i : Nat), Vals xs us → Vals (xs.set i x) (us.set i u)
  | _, _, _, .nil => .nil
  | _, _, 0, .cons _ t => .cons r t
  | _, _, i + 1, .cons q t => .cons q (Vals.set r i t)
theorem Vals.append : ∀ {xs ys : List V} {us ws : List Value}, Vals xs us → Vals ys ws → Vals (xs ++ ys) (us ++ ws)
  | _, _, _, _, .nil, s => s
  | _, _, _, _, .cons r t, s => .cons r (Vals.append t s)
theorem Vals.take : ∀ {xs : List V} {us : List Value} (n : Nat), Vals xs us → Vals (xs.take n) (us.take n)
  | _, _, 0, _ => .nil
  | _, _, _ + 1, .nil => .nil
  | _, _, n + 1, .cons r t => .cons r (Vals.take n t)
theorem Vals.drop : ∀ {xs : List V} {us : List Value} (n : Nat), Vals xs us → Vals (xs.drop n) (us.drop n)
  | _, _, 0, r => r
  | _, _, _ + 1, .nil => .nil
  | _, _, n + 1, .cons _ t => Vals.drop n t
theorem Vals.none_of : ∀ {xs : List V} {us : List Value} {i : Nat}, Vals xs us → xs[i]? = none → us[i]? = none := fun {xs us i} r e => by
  have h1 := r.length
  have h2 : xs.length ≤ i := List.getElem?_eq_none_iff.mp e
  exact List.getElem?_eq_none_iff.mpr (by omega)

def RelO : Option V → Option Value → Prop
  | some v, some u => RelV v u
  | none, none => True
  | _, _ => False
def KV {κ : Type} : List (κ × V) → List (κ × Value) → Prop := Paired fun (p : κ × V) (q : κ × Value) => p.1 = q.1 ∧ RelV p.2 q.2

def kV : Key → V
  | .inl i => .int i
  | .inr x => .str x

inductive HO where
  | lst (xs : List V)
  | tup (xs : List V)
  | dK (kvs : List (Key × V)) | dT (kvs : List (List Key × V))
  | set (S : Int → Bool) (n : Nat)
  | ins (C dx : Addr) (fs : List (Str × V))
  | own (x : Addr)
  | xd (fs : List (Str × V))
  | met (f x : Addr)
  | rng (lo hi : Int)
  | frz (o : Obj) (u : HO)
  | tbl (ps : Array Value)
  | ext (φ : Heap → Prop)

abbrev Hp := Addr → Option HO
def upd (H : Hp) (a : Addr) (o : HO) : Hp := fun b => if b = a then some o else H b
theorem upd_same {H : Hp} {a : Addr} {o : HO} : upd H a o a = some o := by unfold upd; rw [if_pos rfl]
theorem upd_ne {H : Hp} {a b : Addr} {o : HO} (h : b ≠ a) : upd H a o b = H b := by unfold upd; rw [if_neg h]
theorem ne_of {H : Hp} {a b : Addr} {o u : HO} (h : H a = some o) (h' : H b = some u) (d : o ≠ u) : a ≠ b := by
  intro e; subst e; rw [h] at h'; exact d (Option.some.inj h')
theorem ne_of_none {H : Hp} {a b : Addr} {o : HO} (h : H a = some o) (h' : H b = none) : a ≠ b := by
  intro e; subst e; rw [h] at h'; cases h'

section
variable (P : Program) (w : World)
def ObjOk (H : Hp) (h : Heap) (a : Addr) : HO → Prop
  | .lst xs => xs.length ≤ sizeLine ∧ ∃ (its : List Value) (n : Nat), Vals xs its ∧ h.get? a = some { cls := .type "list", data := .seq its.toArray n }
  | .tup xs => xs.length ≤ sizeLine ∧ ∃ its : List Value, Vals xs its ∧ IsTup h a its.toArray
  | .dK kvs => kvs.length ≤ sizeLine ∧ (a == sysModules) = false ∧ ∃ vs, KV kvs vs ∧ h.DictOf (mixKind P w) a vs
  | .dT kvs => kvs.length ≤ sizeLine ∧ (a == sysModules) = false ∧ ∃ xs : List (List Key × Addr × Value),
      Paired (fun (p : List Key × V) (q : List Key × Addr × Value) => p.1 = q.1 ∧ H q.2.1 = some (.tup (p.1.map kV)) ∧ RelV p.2 q.2.2) kvs xs ∧
      ∃ o es ep, h.get? a = some o ∧ o.ExactDict ∧ o.data = .dict es ep ∧ es.toList = xs.map (entryOfKey (tupleKind (mixKind P w))) ∧ (xs.map (·.1)).Nodup
  | .set S n => h.SetOf (intKind P w) a S n
  | .ins C dx fs => H dx = some (.own a) ∧ fs.length ≤ 1000 ∧ dx ≠ a ∧ h.get? a = some (PySem.W.instObj C dx) ∧
      ∃ mA, h.Ns1 dx mA ∧ (∀ f, RelO (fs.lookup f) (mA f)) ∧ PySem.Within mA (fs.map (·.1))
  | .own _ => ∃ o, h.get? a = some o
  | .xd fs => ∃ mA, h.Ns1 a mA ∧ ∀ f, RelO (fs.lookup f) (mA f)
  | .rng lo hi => ∃ t u v, h.get? a = some { cls := .type "range", data := .fields #[.int lo t, .int hi u, .int 1 v] }
  | .frz o u => h.get? a = some o ∧ ObjOk H h a u
  | .tbl ps => h.get? a = some { cls := .none, data := .fields ps }
  | .met f x => h.get? a = some (PySem.W.methodObj (.ref f) (.ref x))
  | .ext φ => φ h ∧ (∃ o, h.get? a = some o) ∧ ∀ h1 h2 : Heap, φ h1 → (∀ o, h1.get? a = some o → h2.get? a = some o) → φ h2
def HOk (H : Hp) (h : Heap) : Prop := ∀ a o, H a = some o → ObjOk P w H h a o
end

section
variable {P : Program} {w : World} {H H' : Hp} {h h' : Heap} {a : Addr} {o : HO}
theorem ObjOk.lt (x : ObjOk P w H h a o) : a < h.objs.size := by
  cases o with
  | lst xs => obtain ⟨_, _, _, _, e⟩ := x; exact Heap.lt_size e
  | tup xs => obtain ⟨_, _, _, p⟩ := x; exact p.lt
  | dK kvs => obtain ⟨_, _, _, _, o, _, _, e, _⟩ := x; exact Heap.lt_size e
  | dT kvs => obtain ⟨_, _, _, _, o, _, _, e, _⟩ := x; exact Heap.lt_size e
  | set S n => obtain ⟨o, _, _, _, e, _⟩ := x; exact Heap.lt_size e
  | ins C dx fs => obtain ⟨_, _, _, e, _⟩ := x; exact Heap.lt_size e
  | own y => obtain ⟨_, e⟩ := x; exact Heap.lt_size e
  | xd fs => obtain ⟨_, ⟨_, _, _, e, _⟩, _⟩ := x; exact Heap.lt_size e
  | rng lo hi => obtain ⟨_, _, _, e⟩ := x; exact Heap.lt_size e
  | frz ob u => obtain ⟨e, _⟩ := x; exact Heap.lt_size e
  | tbl ps => exact Heap.lt_size (show h.get? a = some _ from x)
  | met f y => exact Heap.lt_size (show h.get? a = some _ from x)
  | ext φ => obtain ⟨_, ⟨_, e⟩, _⟩ := x; exact Heap.lt_size e
theorem Paired.mapP {α β : Type} {F G : α → β → Prop} : ∀ {l₁ : List α} {l₂ : List β}, Paired F l₁ l₂ → (∀ a b, F a b → G a b) → Paired G l₁ l₂
  | _, _, .nil, _ => .nil
  | _, _, .cons r t, f => .cons (f _ _ r) (Paired.mapP t f)
theorem ObjOk.stay (x : ObjOk P w H h a o) (k : ∀ b u, (b = a ∨ H b = some (.own a)) → h.get? b = some u → h'.get? b = some u)
    (ho : ∀ b, H b = some (.own a) → H' b = some (.own a)) (ht : ∀ b xs, H b = some (.tup xs) → H' b = some (.tup xs)) : ObjOk P w H' h' a o := by
  induction o with
  | lst xs => obtain ⟨z, its, n, r, e⟩ := x; exact ⟨z, its, n, r, k _ _ (.inl rfl) e⟩
  | tup xs => obtain ⟨z, its, r, ob, e, c⟩ := x; exact ⟨z, its, r, ob, k _ _ (.inl rfl) e, c⟩
  | dK kvs => obtain ⟨z, y, vs, r, ob, es, ep, e, c⟩ := x; exact ⟨z, y, vs, r, ob, es, ep, k _ _ (.inl rfl) e, c⟩
  | dT kvs =>
    obtain ⟨z, y, xs, r, ob, es, ep, e, c⟩ := x
    exact ⟨z, y, xs, Paired.mapP r fun p q z => ⟨z.1, ht _ _ z.2.1, z.2.2⟩, ob, es, ep, k _ _ (.inl rfl) e, c⟩
  | set S n => obtain ⟨ob, es, ep, t, e, c⟩ := x; exact ⟨ob, es, ep, t, k _ _ (.inl rfl) e, c⟩
  | ins C dx fs =>
    obtain ⟨d, z, ne, e, mA, ⟨od, es, ep, e2, c⟩, r⟩ := x
    exact ⟨ho _ d, z, ne, k _ _ (.inl rfl) e, mA, ⟨od, es, ep, k _ _ (.inr d) e2, c⟩, r⟩
  | own y => obtain ⟨ob, e⟩ := x; exact ⟨ob, k _ _ (.inl rfl) e⟩
  | xd fs => obtain ⟨mA, ⟨od, es, ep, e, c⟩, r⟩ := x; exact ⟨mA, ⟨od, es, ep, k _ _ (.inl rfl) e, c⟩, r⟩
  | rng lo hi => obtain ⟨t, u, v, e⟩ := x; exact ⟨t, u, v, k _ _ (.inl rfl) e⟩
  | frz ob u ih => obtain ⟨e, q⟩ := x; exact ⟨k _ _ (.inl rfl) e, ih q⟩
  | tbl ps =>
    have e : h.get? a = some { cls := .none, data := .fields ps } := x
    show h'.get? a = some { cls := .none, data := .fields ps }
    exact k a _ (.inl rfl) e
  | met f y =>
    have e : h.get? a = some (PySem.W.methodObj (.ref f) (.ref y)) := x
    show h'.get? a = some (PySem.W.methodObj (.ref f) (.ref y))
    exact k a _ (.inl rfl) e
  | ext φ => obtain ⟨p, ⟨o, e⟩, st⟩ := x; exact ⟨st _ _ p fun o q => k _ _ (.inl rfl) q, ⟨o, k _ _ (.inl rfl) e⟩, st⟩
theorem HOk.lt (x : HOk P w H h) (e : H a = some o) : a < h.objs.size := (x a o e).lt
theorem HOk.fresh (x : HOk P w H h) (e : h.objs.size ≤ a) : H a = none := by
  cases q : H a with
  | none => rfl
  | some u => exact absurd (Nat.lt_of_lt_of_le (x.lt q) e) (Nat.lt_irrefl _)
theorem HOk.kept (x : HOk P w H h) (k : ∀ b u, h.get? b = some u → h'.get? b = some u) : HOk P w H h' := fun a o e =>
  (x a o e).stay (fun b u _ q => k b u q) (fun _ q => q) fun _ _ q => q
theorem HOk.laid (x : HOk P w H h) (k : ∀ b u, h.get? b = some u → h'.get? b = some u) (hp : h.objs.size ≤ a) (new : ObjOk P w (upd H a o) h' a o) : HOk P w (upd H a o) h' := fun b u e => by
  have hn := x.fresh hp
  by_cases hb : b = a
  · subst hb; rw [upd_same] at e; cases e; exact new
  · rw [upd_ne hb] at e
    exact (x b u e).stay (fun c v _ q => k c v q) (fun c q => by rw [upd_ne (ne_of_none q hn)]; exact q) fun c xs q => by rw [upd_ne (ne_of_none q hn)]; exact q
end

def Rd (H : Hp) (a : Addr) (u : HO) : Prop := H a = some u ∨ ∃ o, H a = some (.frz o u)
theorem Rd.of {H : Hp} {a : Addr} {u : HO} (h : H a = some u) : Rd H a u := .inl h
theorem Rd.ok {P : Program} {w : World} {H : Hp} {h : Heap} {a : Addr} {u : HO} (r : Rd H a u) (x : HOk P w H h) : ObjOk P w H h a u := by
  rcases r with r | ⟨o, r⟩
  · exact x a u r
  · obtain ⟨_, q⟩ := x a _ r
    exact q
def Mut : Option HO → Prop
  | some (.lst _) => True
  | some (.dK _) => True
  | some (.dT _) => True
  | some (.set _ _) => True
  | some (.ins _ _ _) => True
  | some (.ext _) => True
  | _ => False
section
variable {P : Program} {w : World} {H : Hp} {h h' : Heap} {x e : Addr} {o' : HO}
theorem HOk.write (ok : HOk P w H h) (mu : Mut (H x)) (he : e = x ∨ H e = some (.own x)) (k : ∀ b u, b ≠ e → h.get? b = some u → h'.get? b = some u) (heo : ∃ u, h'.get? e = some u)
    (new : ObjOk P w (upd H x o') h' x o') : HOk P w (upd H x o') h' := fun b u q => by
  have nown : ∀ c y, H c = some (.own y) → c ≠ x := fun c y r z => by subst z; rw [r] at mu; exact mu
  have ntup : ∀ c xs, H c = some (.tup xs) → c ≠ x := fun c xs r z => by subst z; rw [r] at mu; exact mu
  by_cases hb : b = x
  · subst hb; rw [upd_same] at q; cases q; exact new
  · rw [upd_ne hb] at q
    by_cases hbe : b = e
    · have q' : H b = some (.own x) := by
        rcases he with z | z
        · exact absurd (hbe.trans z) hb
        · rw [hbe]; exact z
      rw [q] at q'; cases q'
      obtain ⟨v, hv⟩ := heo
      exact ⟨v, by rw [hbe]; exact hv⟩
    · refine (ok b u q).stay (fun c v hc r => k c v ?_ r) (fun c r => by rw [upd_ne (nown c b r)]; exact r) fun c xs r => by rw [upd_ne (ntup c xs r)]; exact r
      rcases hc with rfl | hc
      · exact hbe
      · rintro rfl
        rcases he with z | z
        · exact nown c b hc z
        · rw [hc] at z; cases z; exact hb rfl
end

structure Un (fs ex : List Addr) (H H' : Hp) (h h' : Heap) : Prop where
  keep : ∀ b o, h.get? b = some o → H b = none → b ∉ fs → b ∉ ex → h'.get? b = some o
  slot : ∀ b o, h.get? b = some o → H b = none → b ∈ fs → b ∉ ex → ∃ sl, h'.get? b = some { o with slots := sl }
  free : ∀ b o, h.get? b = some o → H b = none → b ∉ ex → H' b = none
  there : ∀ b o, h.get? b = some o → b ∉ ex → ∃ o', h'.get? b = some o'
  tups : ∀ b xs, H b = some (.tup xs) → H' b = some (.tup xs)
  frzs : ∀ b o u, H b = some (.frz o u) → H' b = some (.frz o u)
  tbls : ∀ b ps, H b = some (.tbl ps) → ∃ more, H' b = some (.tbl (ps ++ more))
section
variable {fs fs' ex ex' : List Addr} {H H1 H2 : Hp} {h h1 h2 h' : Heap} {a x e : Addr} {o : HO}
theorem Un.any (u : Un fs ex H H1 h h1) {b : Addr} {ob : Obj} (q : h.get? b = some ob) (n : H b = none) (hx : b ∉ ex) : ∃ sl, h1.get? b = some { ob with slots := sl } := by
  by_cases hb : b ∈ fs
  · exact u.slot b ob q n hb hx
  · exact ⟨ob.slots, u.keep b ob q n hb hx⟩
theorem Un.trans (a : Un fs ex H H1 h h1) (b : Un fs ex H1 H2 h1 h2) : Un fs ex H H2 h h2 where
  keep := fun c ob q n hc hx => b.keep c ob (a.keep c ob q n hc hx) (a.free c ob q n hx) hc hx
  slot := fun c ob q n hc hx => by
    obtain ⟨sl, e1⟩ := a.slot c ob q n hc hx
    obtain ⟨sl', e2⟩ := b.slot c _ e1 (a.free c ob q n hx) hc hx
    exact ⟨sl', e2⟩
  free := fun c ob q n hx => by
    obtain ⟨o', e1⟩ := a.there c ob q hx
    exact b.free c o' e1 (a.free c ob q n hx) hx
  there := fun c ob q hx => by
    obtain ⟨o', e1⟩ := a.there c ob q hx
    exact b.there c o' e1 hx
  tups := fun c xs q => b.tups c xs (a.tups c xs q)
  frzs := fun c ob xs q => b.frzs c ob xs (a.frzs c ob xs q)
  tbls := fun c ps q => by
    obtain ⟨m1, e1⟩ := a.tbls c ps q
    obtain ⟨m2, e2⟩ := b.tbls c _ e1
    exact ⟨m1 ++ m2, by rw [e2, Array.append_assoc]⟩
theorem Un.kept (k : ∀ b u, h.get? b = some u → h'.get? b = some u) : Un fs ex H H h h' :=
  ⟨fun b ob q _ _ _ => k b ob q, fun b ob q _ _ _ => ⟨ob.slots, k b ob q⟩, fun _ _ _ n _ => n, fun b ob q _ => ⟨ob, k b ob q⟩, fun _ _ q => q, fun _ _ _ q => q, fun _ ps q => ⟨#[], by rw [q]; simp⟩⟩
theorem Un.refl : Un fs ex H H h h := Un.kept fun _ _ q => q
theorem Un.laid (k : ∀ b u, h.get? b = some u → h'.get? b = some u) (hp : h.objs.size ≤ a) (hn : H a = none) : Un fs ex H (upd H a o) h h' where
  keep := fun b u q _ _ _ => k b u q
  slot := fun b u q _ _ _ => ⟨u.slots, k b u q⟩
  free := fun b u q n _ => by rw [upd_ne (Nat.ne_of_lt (Nat.lt_of_lt_of_le (Heap.lt_size q) hp))]; exact n
  there := fun b u q _ => ⟨u, k b u q⟩
  tups := fun b xs q => by rw [upd_ne (ne_of_none q hn)]; exact q
  frzs := fun b u xs q => by rw [upd_ne (ne_of_none q hn)]; exact q
  tbls := fun b ps q => ⟨#[], by rw [upd_ne (ne_of_none q hn), q]; simp⟩
theorem Un.write (mu : Mut (H x)) (he : e = x ∨ H e = some (.own x)) (k : ∀ b u, b ≠ e → h.get? b = some u → h'.get? b = some u) (heo : ∃ u, h'.get? e = some u) : Un fs ex H (upd H x o) h h' := by
  have hx : ∀ b, H b = none → b ≠ x := fun b n z => by subst z; rw [n] at mu; exact mu
  have hb : ∀ b, H b = none → b ≠ e := fun b n z => by
    subst z
    rcases he with r | r
    · exact hx b n r
    · rw [n] at r; cases r
  have hm : ∀ b u, H b = some u → ¬ Mut (some u) → b ≠ x := fun b u q nm z => by subst z; rw [q] at mu; exact nm mu
  refine ⟨fun b u q n _ _ => k b u (hb b n) q, fun b u q n _ _ => ⟨u.slots, k b u (hb b n) q⟩, fun b u q n _ => by rw [upd_ne (hx b n)]; exact n, fun b u q _ => ?_,
    fun b xs q => by rw [upd_ne (hm b _ q fun z => z)]; exact q, fun b u xs q => by rw [upd_ne (hm b _ q fun z => z)]; exact q, fun b ps q => ⟨#[], by rw [upd_ne (hm b _ q fun z => z), q]; simp⟩⟩
  by_cases hbe : b = e
  · subst hbe; exact heo
  · exact ⟨u, k b u hbe q⟩
theorem Un.mono (u : Un fs ex H H1 h h1) (hs : ∀ b ∈ fs, b ∈ fs') (hx : ∀ b ∈ ex, b ∈ ex') : Un fs' ex' H H1 h h1 :=
  ⟨fun b ob q n hb he => u.keep b ob q n (fun z => hb (hs b z)) fun z => he (hx b z), fun _ _ q n _ he => u.any q n fun z => he (hx _ z), fun b ob q n he => u.free b ob q n fun z => he (hx b z), fun b ob q he => u.there b ob q fun z => he (hx b z), u.tups, u.frzs, u.tbls⟩
end

def trk (h : Heap) (H : Hp) : List Addr := (List.range h.objs.size).filter fun a => (H a).isSome
def hidT (h : Heap) (H : Hp) : Heap := PySem.W.hideAll h (trk h H)
theorem hidT_size (h : Heap) (H : Hp) : (hidT h H).objs.size = h.objs.size := PySem.W.hideAll_size _ _
theorem hidT_get {h : Heap} {H : Hp} {b : Addr} {o : Obj} (e : h.get? b = some o) (n : H b = none) : (hidT h H).get? b = some o :=
  PySem.W.hideAll_get _ e fun hm => by
    have q : (H b).isSome = true := (List.mem_filter.mp hm).2
    rw [n] at q; simp at q
theorem of_hidT {h : Heap} {H : Hp} {b : Addr} {o : Obj} (e : (hidT h H).get? b = some o) : h.get? b = some o ∧ H b = none := by
  have e' : h.get? b = some o := PySem.W.of_hideAll (trk h H) e
  refine ⟨e', ?_⟩
  cases q : H b with
  | none => rfl
  | some x =>
    have hm : b ∈ trk h H := List.mem_filter.mpr ⟨List.mem_range.mpr (Heap.lt_size e'), by simp [q]⟩
    have z : (hidT h H).get? b = none := PySem.W.hideAll_none (trk h H) hm
    rw [z] at e; cases e

def allNews (g h : Heap) (L : Addr) : List (Addr × Obj) := (List.range h.objs.size).filterMap fun a => if a = L ∨ (g.get? a).isSome = true then none else (h.get? a).map fun o => (a, o)
def rest (g h : Heap) (L d : Addr) : List (Addr × Obj) := (allNews g h L).filter fun p => decide (p.1 ≠ d)
end L2

namespace L2
open PySem PySem.Spec PyProof.Rows

structure Mod (K : PySem.W.Frag) (mg : Str → Option Value) (base : Heap) : Prop where
  kin : K.In base
  glob : base.Ns mainGlobals mg
  blt : ∃ mb, base.Ns builtinsNs mb ∧ ∀ x : Str, x ≠ "__name__" → mb x = bootBuiltins x
  nolimit : base.NoLimit

set_option genInjectivity false in
structure Cx where
  prog : Program
  w : World
  K : PySem.W.Frag
  mg : Str → Option Value
  base : Heap
  A : Around
  N : List Str
  s₀ : Shared
  H₀ : Hp
  env : Env
  outer : List Env
  stack : List Env
  ex : List Addr
  fn : Str → Bool
  calm : Bool
  pn : List (Addr × Obj)
  xe : Value → Shared → Prop
def frs (l : List Env) : List Addr := l.filterMap (·.frame)
abbrev Cx.fs (X : Cx) : List Addr := frs X.outer

def Vis (sc : Scope) (x : Str) : Prop := sc.names.lookup x = some .local ∨ sc.names.lookup x = some .cell ∨ sc.names.lookup x = some .free
def Loc (sc : Scope) (x : Str) : Prop := sc.names.lookup x = some .local ∨ sc.names.lookup x = some .cell
def Look (env : Env) (h : Heap) (m : Str → Option Value) (x : Str) (u : Value) : Prop :=
  (env.kindOf x = some .local ∧ m x = some u) ∨ ((env.kindOf x = some .cell ∨ env.kindOf x = some .free) ∧ ∃ c, env.cells.lookup x = some c ∧ h.IsCell c (some u))

structure Cx.Ok (X : Cx) : Prop where
  mod : Mod X.K X.mg X.base
  kind : X.env.scope.kind = .function
  glob : X.env.globals = mainGlobals
  blt : X.env.builtins = builtinsNs
  above : X.s₀.heap.objs.size ≤ X.env.locals
  inj : ∀ x y c, X.env.cells.lookup x = some c → X.env.cells.lookup y = some c → x = y
  has : ∀ x, (X.env.kindOf x = some .cell ∨ X.env.kindOf x = some .free) → ∃ c, X.env.cells.lookup x = some c
  cab : ∀ x c, X.fn x = true → X.env.cells.lookup x = some c → X.s₀.heap.objs.size ≤ c
  hd : X.calm = true → X.A.handled = none
  frames : X.A.frames = some X.stack
  stk : X.stack = X.outer ∨ (X.stack = X.env :: X.outer ∧ X.env.frame = some X.env.locals)
  exf : ∀ b ∈ X.ex, b ≠ X.env.locals ∧ ∀ x c, X.env.cells.lookup x = some c → c ≠ b
  bs : ∀ b o, X.base.get? b = some o → X.s₀.heap.get? b = some o ∧ X.H₀ b = none
  bsz : X.base.objs.size ≤ X.s₀.heap.objs.size
  noex : ∀ b o, X.base.get? b = some o → b ∉ X.ex
  exfs : ∀ b ∈ X.ex, b ∉ X.fs
  funs : X.s₀.heap.FunFrames X.base X.outer
  frf : ∀ b ∈ X.fs, X.H₀ b = none

structure Inv (X : Cx) (pins : List (Addr × Obj)) (σ : List (Option V)) (H : Hp) (s : Shared) : Prop where
  ok : X.Ok
  os : s.os = X.s₀.os
  bare : AllBare s.gens
  base : Un X.fs X.ex X.H₀ H X.s₀.heap s.heap
  loc : ∃ m, s.heap.Ns X.env.locals m ∧ ∀ (i : Nat) (x : Str) (v : V), X.N[i]? = some x → σ[i]? = some (some v) → Vis X.env.scope x → ∃ u, RelV v u ∧ Look X.env s.heap m x u
  cell : ∀ x c, X.env.cells.lookup x = some c → ∃ v, s.heap.IsCell c v
  free : H X.env.locals = none
  freeC : ∀ x c, X.env.cells.lookup x = some c → H c = none
  pin : ∀ p ∈ X.pn ++ pins, s.heap.get? p.1 = some p.2 ∧ H p.1 = none ∧ p.1 ≠ X.env.locals ∧ p.1 ∉ X.fs ∧ ∀ v, p.2.data ≠ .cell v
  hok : HOk X.prog X.w H s.heap
  len : σ.length = X.N.length

section
variable {X : Cx} {pins : List (Addr × Obj)} {σ : List (Option V)} {H H' : Hp} {s : Shared} {h' : Heap}

theorem Cx.Ok.nofr (ok : X.Ok) {b : Addr} {o : Obj} (e : X.base.get? b = some o) : b ∉ X.fs := fun hb => by
  have := (ok.funs.mem hb).1
  rw [e] at this; cases this
theorem Inv.bs (I : Inv X pins σ H s) : ∀ b o, X.base.get? b = some o → s.heap.get? b = some o ∧ H b = none := fun b o e =>
  ⟨I.base.keep b o (I.ok.bs b o e).1 (I.ok.bs b o e).2 (I.ok.nofr e) (I.ok.noex b o e), I.base.free b o (I.ok.bs b o e).1 (I.ok.bs b o e).2 (I.ok.noex b o e)⟩
theorem Inv.bk (I : Inv X pins σ H s) : ∀ b o, X.base.get? b = some o → s.heap.get? b = some o := fun b o e => (I.bs b o e).1
theorem Inv.mod (I : Inv X pins σ H s) : Mod X.K X.mg X.base := I.ok.mod
theorem Inv.kIn (I : Inv X pins σ H s) : X.K.In s.heap := I.ok.mod.kin.keeps I.bk
theorem Inv.nolimit (I : Inv X pins σ H s) : s.heap.NoLimit := I.ok.mod.nolimit.keeps I.bk
theorem Inv.fr (I : Inv X pins σ H s) : ∃ m, Fr X.base X.env.locals s.heap m :=
  let ⟨m, hn, _⟩ := I.loc
  ⟨m, hn, I.bk, Nat.le_trans I.ok.bsz I.ok.above⟩
theorem Inv.lt (I : Inv X pins σ H s) : X.env.locals < s.heap.objs.size := let ⟨_, hn, _⟩ := I.loc; hn.lt
theorem Inv.sz (I : Inv X pins σ H s) : X.s₀.heap.objs.size ≤ s.heap.objs.size := Nat.le_trans I.ok.above (Nat.le_of_lt I.lt)
theorem Inv.nofs (I : Inv X pins σ H s) {a : Addr} (h : s.heap.objs.size ≤ a) : a ∉ X.fs := fun hb => by
  obtain ⟨_, o, ho, _⟩ := I.ok.funs.mem hb
  exact absurd (Nat.lt_of_lt_of_le (Heap.lt_size ho) (Nat.le_trans I.sz h)) (Nat.lt_irrefl _)
theorem Inv.cne (I : Inv X pins σ H s) : ∀ x c, X.env.cells.lookup x = some c → c ≠ X.env.locals := fun x c e z => by
  obtain ⟨v, o, ho, hd⟩ := I.cell x c e
  obtain ⟨m, ⟨o', es, ep, ho', hd', _⟩, _⟩ := I.loc
  rw [z, ho'] at ho; cases ho; rw [hd'] at hd; cases hd
theorem Inv.funs (I : Inv X pins σ H s) : s.heap.FunFrames X.base X.outer := by
  have all : ∀ (l : List Env), (∀ b ∈ frs l, b ∈ X.fs) → X.s₀.heap.FunFrames X.base l → s.heap.FunFrames X.base l := by
    intro l
    induction l with
    | nil => intro _ _; trivial
    | cons env r ih =>
      intro hs hl
      obtain ⟨hk, ⟨L, o, hf, hn, ho, hd⟩, hr⟩ := hl
      have hL : L ∈ X.fs := hs L (by unfold frs; rw [List.filterMap_cons, hf]; exact List.mem_cons_self)
      obtain ⟨sl, e⟩ := I.base.slot L o ho (I.ok.frf L hL) hL fun z => I.ok.exfs L z hL
      exact ⟨hk, ⟨L, _, hf, hn, e, hd⟩, ih (fun b hb => hs b (by unfold frs; rw [List.filterMap_cons, hf]; exact List.mem_cons_of_mem _ hb)) hr⟩
  exact all X.outer (fun _ hb => hb) I.ok.funs

theorem Inv.stack (I : Inv X pins σ H s) : s.heap.FunFrames X.base X.stack := by
  rcases I.ok.stk with e | ⟨e, hf⟩
  · rw [e]; exact I.funs
  · rw [e]
    obtain ⟨m, hn, _⟩ := I.loc
    refine .cons (by rw [I.ok.kind]; decide) hf hn ?_ I.funs
    exact Heap.get?_none_of_le (Nat.le_trans I.ok.bsz I.ok.above)
theorem Inv.stkSub (I : Inv X pins σ H s) : ∀ b ∈ frs X.stack, b ∈ X.env.locals :: X.fs := fun b hb => by
  rcases I.ok.stk with e | ⟨e, hf⟩
  · rw [e] at hb; exact List.mem_cons_of_mem _ hb
  · rw [e] at hb
    unfold frs at hb
    rw [List.filterMap_cons, hf] at hb
    exact hb
theorem Inv.stkFree (I : Inv X pins σ H s) : ∀ b ∈ frs X.stack, H b = none := fun b hb => by
  rcases List.mem_cons.mp (I.stkSub b hb) with e | hb
  · rw [e]; exact I.free
  · obtain ⟨_, o, ho, _⟩ := I.ok.funs.mem hb
    exact I.base.free b o ho (I.ok.frf b hb) fun z => I.ok.exfs b z hb

theorem Inv.step {g' : Array GenState} {t' : Nat} {d' : Drawn} {ch : List Addr} (I : Inv X pins σ H s)
    (hch : ∀ b ∈ ch, (b ∈ X.ex ∨ X.s₀.heap.objs.size ≤ b) ∧ b ≠ X.env.locals ∧ (∀ x c, X.env.cells.lookup x = some c → c ≠ b) ∧ ∀ p ∈ X.pn ++ pins, p.1 ≠ b)
    (keep : ∀ b o, b ≠ X.env.locals → b ∉ X.fs → b ∉ ch → s.heap.get? b = some o → H b = none → h'.get? b = some o)
    (slot : ∀ b o, b ≠ X.env.locals → b ∈ X.fs → b ∉ ch → s.heap.get? b = some o → H b = none → ∃ sl, h'.get? b = some { o with slots := sl }) (free : ∀ b o, b ∉ ch → s.heap.get? b = some o → H b = none → H' b = none)
    (there : ∀ b o, b ∉ ch → s.heap.get? b = some o → ∃ o', h'.get? b = some o')
    (tups : ∀ b xs, H b = some (.tup xs) → H' b = some (.tup xs)) (frzs : ∀ b o u, H b = some (.frz o u) → H' b = some (.frz o u)) (tbls : ∀ b ps, H b = some (.tbl ps) → ∃ more, H' b = some (.tbl (ps ++ more)))
    (ns : ∀ m, s.heap.Ns X.env.locals m → h'.Ns X.env.locals m) (hok : HOk X.prog X.w H' h') (hg : AllBare g') :
    Inv X pins σ H' { s with heap := h', gens := g', drawn := d', toks := t' } := by
  have neL : ∀ b o, X.s₀.heap.get? b = some o → b ≠ X.env.locals := fun b o e => Nat.ne_of_lt (Nat.lt_of_lt_of_le (Heap.lt_size e) I.ok.above)
  have neC : ∀ b o, X.s₀.heap.get? b = some o → b ∉ X.ex → b ∉ ch := fun b o e hx hb => by
    rcases (hch b hb).1 with z | z
    · exact hx z
    · exact absurd (Nat.lt_of_lt_of_le (Heap.lt_size e) z) (Nat.lt_irrefl _)
  have cellK : ∀ x c, X.env.cells.lookup x = some c → ∀ v, s.heap.IsCell c v → h'.IsCell c v := fun x c e v ⟨o, ho, hd⟩ => by
    have nch : c ∉ ch := fun z => (hch c z).2.2.1 x c e rfl
    by_cases hc : c ∈ X.fs
    · obtain ⟨sl, q⟩ := slot c o (I.cne x c e) hc nch ho (I.freeC x c e)
      exact ⟨_, q, hd⟩
    · exact ⟨o, keep c o (I.cne x c e) hc nch ho (I.freeC x c e), hd⟩
  refine ⟨I.ok, I.os, hg, ⟨fun b o e n hb hx => ?_, fun b o e n hb hx => ?_, fun b o e n hx => ?_, fun b o e hx => ?_, fun b xs e => tups b xs (I.base.tups b xs e), fun b o xs e => frzs b o xs (I.base.frzs b o xs e), fun b ps e => ?_⟩, ?_, fun x c e => ?_, ?_, fun x c e => ?_, fun p hp => ?_, hok, I.len⟩
  · exact keep b o (neL b o e) hb (neC b o e hx) (I.base.keep b o e n hb hx) (I.base.free b o e n hx)
  · obtain ⟨sl, e1⟩ := I.base.slot b o e n hb hx
    obtain ⟨sl', e2⟩ := slot b _ (neL b o e) hb (neC b o e hx) e1 (I.base.free b o e n hx)
    exact ⟨sl', e2⟩
  · obtain ⟨o', e1⟩ := I.base.there b o e hx
    exact free b o' (neC b o e hx) e1 (I.base.free b o e n hx)
  · obtain ⟨o', e1⟩ := I.base.there b o e hx
    exact there b o' (neC b o e hx) e1
  · obtain ⟨m1, e1⟩ := I.base.tbls b ps e
    obtain ⟨m2, e2⟩ := tbls b _ e1
    exact ⟨m1 ++ m2, by rw [e2, Array.append_assoc]⟩
  · obtain ⟨m, hn, hl⟩ := I.loc
    refine ⟨m, ns m hn, fun i x v e1 e2 e3 => ?_⟩
    obtain ⟨u, r, l⟩ := hl i x v e1 e2 e3
    refine ⟨u, r, ?_⟩
    rcases l with l | ⟨k, c, e, z⟩
    · exact .inl l
    · exact .inr ⟨k, c, e, cellK x c e _ z⟩
  · obtain ⟨v, z⟩ := I.cell x c e
    exact ⟨v, cellK x c e v z⟩
  · obtain ⟨m, ⟨o, _, _, ho, _⟩, _⟩ := I.loc
    exact free _ o (fun z => (hch _ z).2.1 rfl) ho I.free
  · obtain ⟨v, o, ho, hd⟩ := I.cell x c e
    exact free c o (fun z => (hch c z).2.2.1 x c e rfl) ho (I.freeC x c e)
  · obtain ⟨e, n, ne, nf, d⟩ := I.pin p hp
    have nch : p.1 ∉ ch := fun z => (hch p.1 z).2.2.2 p hp rfl
    exact ⟨keep p.1 p.2 ne nf nch e n, free p.1 p.2 nch e n, ne, nf, d⟩
theorem Inv.un {t' : Nat} (I : Inv X pins σ H s) (u : Un X.fs [] H H' s.heap h') (hok : HOk X.prog X.w H' h') : Inv X pins σ H' { s with heap := h', toks := t' } := by
  obtain ⟨m, ⟨o, es, ep, ho, r⟩, _⟩ := id I.loc
  obtain ⟨sl, hL⟩ := u.any ho I.free (by simp)
  exact I.step (g' := s.gens) (d' := s.drawn) (ch := []) (fun _ z => nomatch z) (fun b o _ hb _ e n => u.keep b o e n hb (by simp)) (fun b o _ hb _ e n => u.slot b o e n hb (by simp)) (fun b o _ e n => u.free b o e n (by simp)) (fun b o _ e => u.there b o e (by simp)) u.tups u.frzs u.tbls (fun m' hm => by
    obtain ⟨o', es', ep', ho', r'⟩ := hm
    rw [ho] at ho'; cases ho'
    exact ⟨_, es', ep', hL, r'⟩) hok I.bare
theorem Inv.call {g' : Array GenState} {t' : Nat} {d' : Drawn} {ch : List Addr} (I : Inv X pins σ H s) (u : Un (frs X.stack) ch H H' s.heap h') (hok : HOk X.prog X.w H' h') (hg : AllBare g')
    (hch : ∀ b ∈ ch, (b ∈ X.ex ∨ X.s₀.heap.objs.size ≤ b) ∧ b ≠ X.env.locals ∧ (∀ x c, X.env.cells.lookup x = some c → c ≠ b) ∧ ∀ p ∈ X.pn ++ pins, p.1 ≠ b) :
    Inv X pins σ H' { s with heap := h', gens := g', drawn := d', toks := t' } := by
  obtain ⟨m, ⟨o, es, ep, ho, r⟩, _⟩ := id I.loc
  obtain ⟨sl, hL⟩ := u.any ho I.free fun z => (hch _ z).2.1 rfl
  exact I.step (ch := ch) hch (fun b o hL hb hc e n => u.keep b o e n (fun z => (List.mem_cons.mp (I.stkSub b z)).elim hL hb) hc) (fun b o _ _ hc e n => u.any e n hc) (fun b o hc e n => u.free b o e n hc) (fun b o hc e => u.there b o e hc) u.tups u.frzs u.tbls (fun m' hm => by
    obtain ⟨o', es', ep', ho', r'⟩ := hm
    rw [ho] at ho'; cases ho'
    exact ⟨_, es', ep', hL, r'⟩) hok hg
theorem Inv.turned {t' : Nat} {it : Addr} (I : Inv X pins σ H s) (k : ∀ b o, b ≠ it → s.heap.get? b = some o → h'.get? b = some o) (hn : H it = none) (hL : it ≠ X.env.locals)
    (h1 : it ∈ X.ex ∨ X.s₀.heap.objs.size ≤ it) (h2 : ∀ x c, X.env.cells.lookup x = some c → c ≠ it) (h3 : ∀ p ∈ X.pn ++ pins, p.1 ≠ it) : Inv X pins σ H { s with heap := h', toks := t' } := by
  have nit : ∀ b u, H b = some u → b ≠ it := fun b u e z => by rw [z, hn] at e; cases e
  refine I.step (g' := s.gens) (d' := s.drawn) (ch := [it]) (fun b hb => ?_) (fun b o _ _ hc e _ => k b o (fun z => hc (by simp [z])) e) (fun b o _ _ hc e _ => ⟨o.slots, k b o (fun z => hc (by simp [z])) e⟩) (fun _ _ _ _ n => n)
    (fun b o hc e => ⟨o, k b o (fun z => hc (by simp [z])) e⟩) (fun _ _ e => e) (fun _ _ _ e => e) (fun b ps e => ⟨#[], by rw [e]; simp⟩) (fun m hm => ?_) (fun b u e => ?_) I.bare
  · have e : b = it := by simpa using hb
    subst e
    exact ⟨h1, hL, h2, h3⟩
  · obtain ⟨o, es, ep, ho, r⟩ := hm
    exact ⟨o, es, ep, k _ o (Ne.symm hL) ho, r⟩
  · refine (I.hok b u e).stay (fun c v hc q => k c v ?_ q) (fun _ q => q) fun _ _ q => q
    rcases hc with z | z
    · rw [z]; exact nit b u e
    · exact nit c _ z
theorem Inv.tok (I : Inv X pins σ H s) (t : Nat) : Inv X pins σ H { s with toks := t } := I.un (h' := s.heap) (t' := t) Un.refl I.hok
theorem Inv.kept {t' : Nat} (I : Inv X pins σ H s) (k : ∀ b u, s.heap.get? b = some u → h'.get? b = some u) : Inv X pins σ H { s with heap := h', toks := t' } := I.un (Un.kept k) (I.hok.kept k)
theorem Inv.laid {a : Addr} {o : HO} {t' : Nat} (I : Inv X pins σ H s) (k : ∀ b u, s.heap.get? b = some u → h'.get? b = some u) (hp : s.heap.objs.size ≤ a) (new : ObjOk X.prog X.w (upd H a o) h' a o) :
    Inv X pins σ (upd H a o) { s with heap := h', toks := t' } := I.un (Un.laid k hp (I.hok.fresh hp)) (I.hok.laid k hp new)
theorem Inv.write {x e : Addr} {o : HO} {t' : Nat} (I : Inv X pins σ H s) (mu : Mut (H x)) (he : e = x ∨ H e = some (.own x)) (k : ∀ b u, b ≠ e → s.heap.get? b = some u → h'.get? b = some u) (heo : ∃ u, h'.get? e = some u)
    (new : ObjOk X.prog X.w (upd H x o) h' x o) : Inv X pins σ (upd H x o) { s with heap := h', toks := t' } := I.un (Un.write mu he k heo) (I.hok.write mu he k heo new)
theorem Inv.weak {σ' : List (Option V)} (I : Inv X pins σ H s) (hl : σ'.length = σ.length) (w : ∀ (i : Nat) v, σ'[i]? = some (some v) → σ[i]? = some (some v)) : Inv X pins σ' H s :=
  ⟨I.ok, I.os, I.bare, I.base, let ⟨m, hn, hl'⟩ := I.loc; ⟨m, hn, fun i x v e1 e2 e3 => hl' i x v e1 (w i v e2) e3⟩, I.cell, I.free, I.freeC, I.pin, I.hok, hl.trans I.len⟩
theorem Inv.pins_of {pins' : List (Addr × Obj)} (I : Inv X pins σ H s) (h : ∀ p ∈ pins', s.heap.get? p.1 = some p.2 ∧ H p.1 = none ∧ p.1 ≠ X.env.locals ∧ p.1 ∉ X.fs ∧ ∀ v, p.2.data ≠ .cell v) : Inv X pins' σ H s :=
  ⟨I.ok, I.os, I.bare, I.base, I.loc, I.cell, I.free, I.freeC, fun p hp => (List.mem_append.mp hp).elim (fun z => I.pin p (List.mem_append_left _ z)) (h p), I.hok, I.len⟩

theorem nodup_ix {N : List Str} (hN : N.Nodup) {i j : Nat} {x : Str} (a : N[i]? = some x) (b : N[j]? = some x) : i = j := by
  obtain ⟨h1, e1⟩ := List.getElem?_eq_some_iff.mp a
  obtain ⟨h2, e2⟩ := List.getElem?_eq_some_iff.mp b
  exact (List.getElem_inj hN).mp (e1.trans e2.symm)

theorem store_ok2 {M : Model} {A : Around} {E : Value → Shared → Prop} {i : Nat} {x : Str} {v : V} {u : Value} {Q : Unit → Shared → Prop} (I : Inv X pins σ H s) (hN : X.N.Nodup) (hi : X.N[i]? = some x) (hx : Loc X.env.scope x) (r : RelV v u)
    (h : ∀ s', Inv X pins (σ.set i (some v)) H s' → (∃ a, Heap.SameBut a s.heap s'.heap ∧ (a = X.env.locals ∨ X.env.cells.lookup x = some a)) → Q () s') (hf : X.fn x = true ∨ X.env.scope.names.lookup x = some .local := by first | exact .inl rfl | exact .inr rfl | assumption) : wpAny M A (storeName X.env x u) Q E s := by
  obtain ⟨m, hn, hl⟩ := id I.loc
  have hcls : (X.env.scope.kind == .class || (X.env.scope.kind == .module && X.env.locals != X.env.globals)) = false := by rw [I.ok.kind]; rfl
  have hiσ : i < σ.length := by rw [I.len]; exact (List.getElem?_eq_some_iff.mp hi).1
  have cne := I.cne
  have tracked : ∀ {a : Addr} {h' : Heap}, (∃ o, s.heap.get? a = some o ∧ H a = none) → Heap.SameBut a s.heap h' → HOk X.prog X.w H h' := fun {a h'} ha hs b ob e => by
    obtain ⟨_, _, hfree⟩ := ha
    refine (I.hok b ob e).stay (fun c w' hc q => (hs.2 c ?_).trans q) (fun _ q => q) fun _ _ q => q
    rintro rfl
    rcases hc with rfl | hc
    · rw [hfree] at e; cases e
    · rw [hfree] at hc; cases hc
  rcases hx with hk | hk
  · refine wpAny_storeName_local hk hn (fun h' hn' hs => ?_) hcls
    obtain ⟨oL, _, _, hoL, _⟩ := id hn
    refine h _ ⟨I.ok, I.os, I.bare, ⟨fun b o e n hb hx => ?_, fun b o e n hb hx => ?_, I.base.free, fun b o e hx => ?_, I.base.tups, I.base.frzs, I.base.tbls⟩, ⟨_, hn', fun j y v' e1 e2 e3 => ?_⟩, fun y c e => ?_, I.free, I.freeC, fun p hp => ?_, tracked ⟨oL, hoL, I.free⟩ hs, by simpa using I.len⟩ ⟨_, hs, .inl rfl⟩
    · exact (hs.2 b (Nat.ne_of_lt (Nat.lt_of_lt_of_le (Heap.lt_size e) I.ok.above))).trans (I.base.keep b o e n hb hx)
    · obtain ⟨sl, e1⟩ := I.base.slot b o e n hb hx
      exact ⟨sl, (hs.2 b (Nat.ne_of_lt (Nat.lt_of_lt_of_le (Heap.lt_size e) I.ok.above))).trans e1⟩
    · obtain ⟨o', e1⟩ := I.base.there b o e hx
      exact ⟨o', (hs.2 b (Nat.ne_of_lt (Nat.lt_of_lt_of_le (Heap.lt_size e) I.ok.above))).trans e1⟩
    · by_cases hj : j = i
      · subst hj
        rw [hi] at e1; cases e1
        rw [List.getElem?_set_self hiσ] at e2
        cases e2
        exact ⟨u, r, .inl ⟨hk, by simp⟩⟩
      · rw [List.getElem?_set_ne (Ne.symm hj)] at e2
        obtain ⟨u', r', q⟩ := hl j y v' e1 e2 e3
        refine ⟨u', r', ?_⟩
        rcases q with ⟨k, e⟩ | ⟨k, c, e, z⟩
        · refine .inl ⟨k, ?_⟩
          have : y ≠ x := fun e => hj (nodup_ix hN e1 (e ▸ hi))
          simp [this, e]
        · exact .inr ⟨k, c, e, z.sameBut hs (cne y c e)⟩
    · obtain ⟨w', z⟩ := I.cell y c e
      exact ⟨w', z.sameBut hs (cne y c e)⟩
    · obtain ⟨e, n, ne, nf, d⟩ := I.pin p hp
      exact ⟨(hs.2 p.1 ne).trans e, n, ne, nf, d⟩
  · have hfn : X.fn x = true := by
      rcases hf with z | z
      · exact z
      · rw [z] at hk; cases hk
    obtain ⟨c, hc⟩ := I.ok.has x (.inl hk)
    obtain ⟨w', z⟩ := I.cell x c hc
    refine wpAny_storeName_cell I.ok.kind hk hc z (fun h' hc' hs => ?_)
    obtain ⟨oc, hoc, hocd⟩ := id z
    refine h { s with heap := h' } ⟨I.ok, I.os, I.bare, ⟨fun b o e n hb hx => ?_, fun b o e n hb hx => ?_, I.base.free, fun b o e hx => ?_, I.base.tups, I.base.frzs, I.base.tbls⟩, ⟨m, hn.sameBut hs (Ne.symm (cne x c hc)), fun j y v' e1 e2 e3 => ?_⟩, fun y c' e => ?_, I.free, I.freeC, fun p hp => ?_, tracked ⟨oc, hoc, I.freeC x c hc⟩ hs, by simpa using I.len⟩ ⟨c, hs, .inr hc⟩
    · exact (hs.2 b (Nat.ne_of_lt (Nat.lt_of_lt_of_le (Heap.lt_size e) (I.ok.cab x c hfn hc)))).trans (I.base.keep b o e n hb hx)
    · obtain ⟨sl, e1⟩ := I.base.slot b o e n hb hx
      exact ⟨sl, (hs.2 b (Nat.ne_of_lt (Nat.lt_of_lt_of_le (Heap.lt_size e) (I.ok.cab x c hfn hc)))).trans e1⟩
    · obtain ⟨o', e1⟩ := I.base.there b o e hx
      exact ⟨o', (hs.2 b (Nat.ne_of_lt (Nat.lt_of_lt_of_le (Heap.lt_size e) (I.ok.cab x c hfn hc)))).trans e1⟩
    · by_cases hj : j = i
      · subst hj
        rw [hi] at e1; cases e1
        rw [List.getElem?_set_self hiσ] at e2
        cases e2
        exact ⟨u, r, .inr ⟨.inl hk, c, hc, hc'⟩⟩
      · rw [List.getElem?_set_ne (Ne.symm hj)] at e2
        obtain ⟨u', r', q⟩ := hl j y v' e1 e2 e3
        refine ⟨u', r', ?_⟩
        rcases q with q | ⟨k, c', e, z'⟩
        · exact .inl q
        · refine .inr ⟨k, c', e, z'.sameBut hs ?_⟩
          rintro rfl
          exact hj (nodup_ix hN e1 (I.ok.inj _ _ _ e hc ▸ hi))
    · by_cases hcc : c' = c
      · subst hcc; exact ⟨_, hc'⟩
      · obtain ⟨w2, z2⟩ := I.cell y c' e
        exact ⟨w2, z2.sameBut hs hcc⟩
    · obtain ⟨e, n, ne, nf, d⟩ := I.pin p hp
      refine ⟨(hs.2 p.1 ?_).trans e, n, ne, nf, d⟩
      intro q
      rw [q, hoc] at e
      have q' : oc = p.2 := Option.some.inj e
      exact d w' (by rw [← q']; exact hocd)
theorem store_ok {M : Model} {A : Around} {E : Value → Shared → Prop} {i : Nat} {x : Str} {v : V} {u : Value} {Q : Unit → Shared → Prop} (I : Inv X pins σ H s) (hN : X.N.Nodup) (hi : X.N[i]? = some x) (hx : Loc X.env.scope x) (r : RelV v u)
    (h : ∀ s', Inv X pins (σ.set i (some v)) H s' → Q () s') (hf : X.fn x = true ∨ X.env.scope.names.lookup x = some .local := by first | exact .inl rfl | exact .inr rfl | assumption) : wpAny M A (storeName X.env x u) Q E s :=
  store_ok2 I hN hi hx r (fun s' I' _ => h s' I') hf
theorem Inv.call' {s' : Shared} {ch : List Addr} (I : Inv X pins σ H s) (ho : s'.os = s.os) (u : Un (frs X.stack) ch H H' s.heap s'.heap) (hok : HOk X.prog X.w H' s'.heap) (hg : AllBare s'.gens)
    (hch : ∀ b ∈ ch, (b ∈ X.ex ∨ X.s₀.heap.objs.size ≤ b) ∧ b ≠ X.env.locals ∧ (∀ x c, X.env.cells.lookup x = some c → c ≠ b) ∧ ∀ p ∈ X.pn ++ pins, p.1 ≠ b) : Inv X pins σ H' s' := by
  obtain ⟨h', g', d', t', o'⟩ := s'
  have e : o' = s.os := ho
  subst e
  exact I.call (g' := g') (t' := t') (d' := d') u hok hg hch
end

abbrev XK := Value → Option Addr → Hp → Prop
abbrev St := List (Option V)
abbrev VK := V → Hp → Prop
abbrev TE := St → Hp → VK → Prop
abbrev TT := St → Hp → (Bool → Hp → Prop) → Prop
abbrev TA := St → Hp → (List V → Hp → Prop) → Prop
set_option genInjectivity false in
structure Ends where
  nx : St → Hp → Prop
  rt : VK
  bk : St → Hp → Prop := fun _ _ => False
  ct : St → Hp → Prop := fun _ _ => False
abbrev TS := Ends → St → Hp → Prop

def EP (X : Cx) (pins : List (Addr × Obj)) (σ : St) (Q : VK) (u : Value) (s' : Shared) : Prop := ∃ v H', Inv X pins σ H' s' ∧ RelV v u ∧ Q v H'
def TP (X : Cx) (pins : List (Addr × Obj)) (σ : St) (Q : Bool → Hp → Prop) (b : Bool) (s' : Shared) : Prop := ∃ H', Inv X pins σ H' s' ∧ Q b H'
def AP (X : Cx) (pins : List (Addr × Obj)) (σ : St) (Q : List V → Hp → Prop) (us : List Value) (s' : Shared) : Prop := ∃ vs H', Inv X pins σ H' s' ∧ Vals vs us ∧ Q vs H'
def SP (X : Cx) (pins : List (Addr × Obj)) (D : Ends) (f : Flow) (s' : Shared) : Prop :=
  match f with
  | .next => ∃ σ' H', Inv X pins σ' H' s' ∧ D.nx σ' H'
  | .brk => ∃ σ' H', Inv X pins σ' H' s' ∧ D.bk σ' H'
  | .cont => ∃ σ' H', Inv X pins σ' H' s' ∧ D.ct σ' H'
  | .ret u => ∃ v σ' H', Inv X pins σ' H' s' ∧ RelV v u ∧ D.rt v H'

def PE (X : Cx) (e : Expr) (t : TE) : Prop :=
  ∀ (pins : List (Addr × Obj)) (s : Shared) (σ : St) (H : Hp) (Q : VK), Inv X pins σ H s → t σ H Q → wpAny (model X.prog X.w) X.A (eval e X.env) (EP X pins σ Q) X.xe s
def PT (X : Cx) (e : Expr) (t : TT) : Prop :=
  ∀ (pins : List (Addr × Obj)) (s : Shared) (σ : St) (H : Hp) (Q : Bool → Hp → Prop), Inv X pins σ H s → t σ H Q → wpAny (model X.prog X.w) X.A (isTrue e X.env (eval e X.env)) (TP X pins σ Q) X.xe s
def PW (X : Cx) (e : Expr) (t : TT) : Prop :=
  ∀ (whole : Sem Value) (pins : List (Addr × Obj)) (s : Shared) (σ : St) (H : Hp) (Q : Bool → Hp → Prop), Inv X pins σ H s → t σ H Q → wpAny (model X.prog X.w) X.A (isTrue e X.env whole) (TP X pins σ Q) X.xe s
theorem PW.pt {X : Cx} {e : Expr} {t : TT} (h : PW X e t) : PT X e t := h _
def PA (X : Cx) (es : List Expr) (t : TA) : Prop :=
  ∀ (pos : Pos) (pins : List (Addr × Obj)) (s : Shared) (σ : St) (H : Hp) (Q : List V → Hp → Prop), Inv X pins σ H s → t σ H Q → wpAny (model X.prog X.w) X.A (spliced (backTo pos (starEach es X.env))) (AP X pins σ Q) X.xe s
def PS (X : Cx) (st : Stmt) (t : TS) : Prop :=
  ∀ (pins : List (Addr × Obj)) (s : Shared) (σ : St) (H : Hp) (D : Ends), Inv X pins σ H s → t D σ H → wpAny (model X.prog X.w) X.A (exec st X.env) (SP X pins D) X.xe s
def PSs (X : Cx) (st : List Stmt) (t : TS) : Prop :=
  ∀ (pins : List (Addr × Obj)) (s : Shared) (σ : St) (H : Hp) (D : Ends), Inv X pins σ H s → t D σ H → wpAny (model X.prog X.w) X.A (execs st X.env) (SP X pins D) X.xe s
theorem thn {α : Type} {t : Sem α} {Q Q' : α → Shared → Prop} {M : Model} {A : Around} {E : Value → Shared → Prop} {s : Shared} (h : wpAny M A t Q E s) (hQ : ∀ a s, Q a s → Q' a s) : wpAny M A t Q' E s := wpAny_mono h hQ fun _ _ x => x
end L2

namespace L2
open PySem PySem.Spec PyProof.Rows
section
variable {X : Cx}

def tVar (i : Nat) : TE := fun σ H Q => ∃ v, σ[i]? = some (some v) ∧ Q v H
def tC (v : V) : TE := fun _ H Q => Q v H
theorem pe_var {i : Nat} {x : Str} {pos : Pos} (hN : X.N[i]? = some x) (hv : Vis X.env.scope x) (hd : (x == ("__debug__" : Str)) = false := by decide) (hcd : (x == ("__classdict__" : Str)) = false := by decide) : PE X (.Name x pos) (tVar i) := by
  intro pins s σ H Q I h
  obtain ⟨v, e, h⟩ := h
  obtain ⟨m, hn, hl⟩ := I.loc
  obtain ⟨u, r, l⟩ := hl i x v hN e hv
  have fin : EP X pins σ Q u s := ⟨v, H, I, r, h⟩
  rcases l with ⟨hk, hm⟩ | ⟨hk, c, hc, hcell⟩
  · exact wpAny_Name (wpAny_loadName_local I.ok.kind hk hn hm fin) hd
  · rcases hk with hk | hk
    · exact wpAny_Name (wpAny_loadName_cell I.ok.kind hk hc hcell fin) hd
    · exact wpAny_Name (wpAny_loadName_free I.ok.kind hk hc hcell fin hcd) hd
theorem pe_int {i j pos} : PE X (.Constant (.int i) j pos) (tC (.int i)) := fun _ _ _ H _ I h => wpAny_Constant_int ⟨.int i, H, I.tok _, ⟨_, rfl⟩, h⟩
theorem pe_bl {b j pos} : PE X (.Constant (.bool b) j pos) (tC (.bl b)) := fun _ _ _ H _ I h => Constant_bool ⟨.bl b, H, I, rfl, h⟩
theorem pe_non {j pos} : PE X (.Constant .none j pos) (tC .non) := fun _ _ _ H _ I h => Constant_none ⟨.non, H, I, rfl, h⟩
theorem pe_str {x j pos} : PE X (.Constant (.str x) j pos) (tC (.str x)) := fun _ _ _ H _ I h => Calls.Constant_str ⟨.str x, H, I.tok _, ⟨_, rfl⟩, h⟩

def Gl (X : Cx) (x : Str) : Prop := X.env.kindOf x = some .globalImplicit
theorem ld_glob {E : Value → Shared → Prop} {pins : List (Addr × Obj)} {s : Shared} {σ : St} {H : Hp} {x : Str} {u : Value} {pos : Pos} {Q : Value → Shared → Prop} (I : Inv X pins σ H s) (hg : Gl X x) (hm : X.mg x = some u) (h : Q u s)
    (hd : (x == ("__debug__" : Str)) = false := by decide) : wpAny (model X.prog X.w) X.A (eval (.Name x pos) X.env) Q E s :=
  Calls.Name_function_global I.ok.kind hg (Calls.loadGlobal_global (by rw [I.ok.glob]; exact I.mod.glob.keeps I.bk) hm h) hd
theorem ld_blt {E : Value → Shared → Prop} {pins : List (Addr × Obj)} {s : Shared} {σ : St} {H : Hp} {x : Str} {u : Value} {pos : Pos} {Q : Value → Shared → Prop} (I : Inv X pins σ H s) (hg : Gl X x) (hm : X.mg x = none) (hv : bootBuiltins x = some u) (h : Q u s)
    (hn : x ≠ "__name__" := by decide) (hd : (x == ("__debug__" : Str)) = false := by decide) : wpAny (model X.prog X.w) X.A (eval (.Name x pos) X.env) Q E s := by
  obtain ⟨mb, h1, h2⟩ := I.mod.blt
  exact Calls.Name_function_global I.ok.kind hg (Calls.loadGlobal_builtin (by rw [I.ok.glob]; exact I.mod.glob.keeps I.bk) hm (by rw [I.ok.blt]; exact h1.keeps I.bk) ((h2 x hn).trans hv) h) hd
theorem pe_glob {x : Str} {v : V} {u : Value} {pos : Pos} (hg : Gl X x) (hm : X.mg x = some u) (r : RelV v u) (hd : (x == ("__debug__" : Str)) = false := by decide) : PE X (.Name x pos) (tC v) :=
  fun _ _ _ H _ I h => ld_glob I hg hm ⟨v, H, I, r, h⟩ hd
theorem pe_bltn {x : Str} {v : V} {u : Value} {pos : Pos} (hg : Gl X x) (hm : X.mg x = none) (hv : bootBuiltins x = some u) (r : RelV v u) (hn : x ≠ "__name__" := by decide) (hd : (x == ("__debug__" : Str)) = false := by decide) : PE X (.Name x pos) (tC v) :=
  fun _ _ _ H _ I h => ld_blt I hg hm hv ⟨v, H, I, r, h⟩ hn hd

variable {a b : Expr} {ta tb : TE} {pos : Pos}
def PC (X : Cx) (op : CmpOp) (a b : Expr) (t : TE) : Prop :=
  ∀ (pins : List (Addr × Obj)) (s : Shared) (σ : St) (H : Hp) (Q : VK), Inv X pins σ H s → t σ H Q →
    wpAny (model X.prog X.w) X.A (eval a X.env) (fun v s₁ => wpAny (model X.prog X.w) X.A (eval b X.env) (fun u s₂ => wpAny (model X.prog X.w) X.A (compareOp op v u) (EP X pins σ Q) X.xe s₂) X.xe s₁) X.xe s
def tB (t : TE) : TT := fun σ H Q => t σ H fun x H1 => ∃ c, x = .bl c ∧ Q c H1
theorem pt_val {e : Expr} {t : TE} (h : PE X e t) (he : ∀ whole, isTrue e X.env whole = (do let v ← whole; standAt e.pos; holding [v] (truthy v)) := by intro _; rfl) : PT X e (tB t) := by
  intro pins s σ H Q I hw
  refine isTrue_plain (thn (h pins s σ H _ I hw) fun v s1 ⟨x, H1, I1, r1, q1⟩ => ?_) (he _)
  obtain ⟨d, rfl, q⟩ := q1
  cases r1
  exact wpAny_truthy_bool ⟨H1, I1, q⟩

variable {tA tB' : TT} {rest : List Expr}
def tAnd (t u : TT) : TT := fun σ H Q => t σ H fun c H1 => if c = true then u σ H1 Q else Q false H1
def tOr (t u : TT) : TT := fun σ H Q => t σ H fun c H1 => if c = true then Q true H1 else u σ H1 Q
def tNot (t : TT) : TT := fun σ H Q => t σ H fun c H1 => Q (!c) H1
theorem pw_and1 (ha : PT X a tA) : PW X (.BoolOp .And [a] pos) tA := by
  intro wh pins s σ H Q I h
  refine isTrue_and (thn (ha pins s σ H Q I h) fun c s1 e => ?_)
  cases c with
  | true => exact isTrue_and_nil e
  | false => exact e
theorem pw_or1 (ha : PT X a tA) : PW X (.BoolOp .Or [a] pos) tA := by
  intro wh pins s σ H Q I h
  refine isTrue_or (thn (ha pins s σ H Q I h) fun c s1 e => ?_)
  cases c with
  | false => exact isTrue_or_nil e
  | true => exact e
theorem pw_and (ha : PT X a tA) (hb : PW X (.BoolOp .And (b :: rest) pos) tB') : PW X (.BoolOp .And (a :: b :: rest) pos) (tAnd tA tB') := by
  intro wh pins s σ H Q I h
  refine isTrue_and (thn (ha pins s σ H _ I h) fun c s1 ⟨H1, I1, q1⟩ => ?_)
  cases c with
  | true => exact hb wh pins s1 σ H1 Q I1 q1
  | false => exact ⟨H1, I1, q1⟩
theorem pw_or (ha : PT X a tA) (hb : PW X (.BoolOp .Or (b :: rest) pos) tB') : PW X (.BoolOp .Or (a :: b :: rest) pos) (tOr tA tB') := by
  intro wh pins s σ H Q I h
  refine isTrue_or (thn (ha pins s σ H _ I h) fun c s1 ⟨H1, I1, q1⟩ => ?_)
  cases c with
  | true => exact ⟨H1, I1, q1⟩
  | false => exact hb wh pins s1 σ H1 Q I1 q1
theorem pt_not (ha : PT X a tA) : PT X (.UnaryOp .Not a pos) (tNot tA) := by
  intro pins s σ H Q I h
  exact isTrue_not (ha pins s σ H (fun c H1 => Q (!c) H1) I h)
def tAndV (ta tb : TE) : TE := fun σ H Q => ta σ H fun x H1 => ∃ c, x = .bl c ∧ if c = true then tb σ H1 Q else Q (.bl false) H1
def tOrV (ta tb : TE) : TE := fun σ H Q => ta σ H fun x H1 => ∃ c, x = .bl c ∧ if c = true then Q (.bl true) H1 else tb σ H1 Q
def tNotV (ta : TE) : TE := fun σ H Q => ta σ H fun x H1 => ∃ c, x = .bl c ∧ Q (.bl (!c)) H1
theorem pe_one {op} {t : TE} (h : PE X a t) : PE X (.BoolOp op [a] pos) t := fun pins s σ H Q I hw => BoolOp_one (h pins s σ H Q I hw)
theorem pe_and (ha : PE X a ta) (hb : PE X (.BoolOp .And (b :: rest) pos) tb) : PE X (.BoolOp .And (a :: b :: rest) pos) (tAndV ta tb) := by
  intro pins s σ H Q I h
  refine BoolOp_and (thn (ha pins s σ H _ I h) fun v s1 ⟨x, H1, I1, r1, q1⟩ => ?_)
  obtain ⟨c, rfl, q1⟩ := q1
  cases r1
  refine wpAny_truthy_bool ?_
  cases c with
  | true => exact hb pins s1 σ H1 Q I1 q1
  | false => exact ⟨.bl false, H1, I1, rfl, q1⟩
theorem pe_or (ha : PE X a ta) (hb : PE X (.BoolOp .Or (b :: rest) pos) tb) : PE X (.BoolOp .Or (a :: b :: rest) pos) (tOrV ta tb) := by
  intro pins s σ H Q I h
  refine BoolOp_or (thn (ha pins s σ H _ I h) fun v s1 ⟨x, H1, I1, r1, q1⟩ => ?_)
  obtain ⟨c, rfl, q1⟩ := q1
  cases r1
  refine wpAny_truthy_bool ?_
  cases c with
  | false => exact hb pins s1 σ H1 Q I1 q1
  | true => exact ⟨.bl true, H1, I1, rfl, q1⟩
theorem pe_not (ha : PE X a ta) : PE X (.UnaryOp .Not a pos) (tNotV ta) := by
  intro pins s σ H Q I h
  refine UnaryOp_ (thn (ha pins s σ H _ I h) fun v s1 ⟨x, H1, I1, r1, q1⟩ => ?_)
  obtain ⟨c, rfl, q1⟩ := q1
  cases r1
  exact not_of (wpAny_truthy_bool ⟨.bl (!c), H1, I1, rfl, q1⟩)
def tIf (t : TT) (ta tb : TE) : TE := fun σ H Q => t σ H fun c H1 => if c = true then ta σ H1 Q else tb σ H1 Q
theorem pe_ifExp {c : Expr} (hc : PT X c tA) (ha : PE X a ta) (hb : PE X b tb) : PE X (.IfExp c a b pos) (tIf tA ta tb) := by
  intro pins s σ H Q I h
  refine wpAny_IfExp (thn (hc pins s σ H _ I h) fun d s1 ⟨H1, I1, q1⟩ => ?_)
  cases d with
  | true => exact ha pins s1 σ H1 Q I1 q1
  | false => exact hb pins s1 σ H1 Q I1 q1
end
end L2

namespace L2
open PySem PySem.Spec PyProof.Rows

def SqL (K : PySem.W.Frag) (H : Hp) (a : Addr) (xs : List V) : Prop :=
  Rd H a (.lst xs) ∨
    ∃ (o : Obj) (its : Array Value) (n : Nat), K.lookup a = some o ∧ o.cls = .type "list" ∧ o.dict = none ∧ o.data = .seq its n ∧ its.size ≤ sizeLine ∧ Vals xs its.toList
def SqT (K : PySem.W.Frag) (H : Hp) (a : Addr) (xs : List V) : Prop :=
  Rd H a (.tup xs) ∨
    ∃ (o : Obj) (its : Array Value) (n : Nat), K.lookup a = some o ∧ o.cls = .type "tuple" ∧ o.data = .seq its n ∧ its.size ≤ sizeLine ∧ Vals xs its.toList
def absV : Value → Option V
  | .none => some .non
  | .bool b => some (.bl b)
  | .int i _ => some (.int i)
  | .str x _ => some (.str x)
  | .bytes b _ => some (.byt b)
  | .float b _ => some (.flt b)
  | .ref a => some (.ref a)
  | .type n => some (.ty n)
  | _ => none
theorem RelV.abs {x : V} {u : Value} (r : RelV x u) : absV u = some x := by
  cases x with
  | non => cases r; rfl
  | bl _ => cases r; rfl
  | int _ => obtain ⟨t, rfl⟩ := r; rfl
  | str _ => obtain ⟨t, rfl⟩ := r; rfl
  | byt _ => obtain ⟨t, rfl⟩ := r; rfl
  | flt _ => obtain ⟨t, rfl⟩ := r; rfl
  | ref _ => cases r; rfl
  | ty _ => cases r; rfl
theorem RelV.inj {x y : V} {u : Value} (r : RelV x u) (q : RelV y u) : x = y := Option.some.inj (r.abs.symm.trans q.abs)
theorem Vals.inj : ∀ {xs ys : List V} {us : List Value}, Vals xs us → Vals ys us → xs = ys
  | _, _, _, .nil, .nil => rfl
  | _, _, _, .cons r t, .cons r' t' => by rw [r.inj r', Vals.inj t t']
section
variable {X : Cx} {pins : List (Addr × Obj)} {σ : St} {H : Hp} {s : Shared} {a : Addr} {xs ys : List V}
theorem SqL.of {K : PySem.W.Frag} (h : H a = some (.lst xs)) : SqL K H a xs := .inl (.inl h)
theorem SqT.of {K : PySem.W.Frag} (h : H a = some (.tup xs)) : SqT K H a xs := .inl (.inl h)
theorem Inv.list (I : Inv X pins σ H s) (h : SqL X.K H a xs) : ∃ its : List Value, Vals xs its ∧ PlainL s.heap a its.toArray ∧ xs.length ≤ sizeLine := by
  rcases h with h | ⟨o, its, n, hk, hc, hd, hs, hz, r⟩
  · obtain ⟨z, its, n, r, e⟩ := h.ok I.hok
    exact ⟨its, r, ⟨_, n, e, rfl, rfl, rfl⟩, z⟩
  · refine ⟨its.toList, r, ⟨o, n, I.kIn a o hk, hc, hd, by simpa using hs⟩, ?_⟩
    have e := r.length
    simp only [Array.length_toList] at e
    omega
theorem Inv.tuple (I : Inv X pins σ H s) (h : SqT X.K H a xs) : ∃ its : List Value, Vals xs its ∧ IsTup s.heap a its.toArray ∧ xs.length ≤ sizeLine := by
  rcases h with h | ⟨o, its, n, hk, hc, hs, hz, r⟩
  · obtain ⟨z, its, r, p⟩ := h.ok I.hok
    exact ⟨its, r, p, z⟩
  · refine ⟨its.toList, r, ⟨o, I.kIn a o hk, hc, n, by simpa using hs⟩, ?_⟩
    have e := r.length
    simp only [Array.length_toList] at e
    omega
theorem Inv.list_inj (I : Inv X pins σ H s) (h : SqL X.K H a xs) (h' : SqL X.K H a ys) : xs = ys := by
  obtain ⟨its, r, ⟨o, n, e, _, _, d⟩, _⟩ := I.list h
  obtain ⟨its', r', ⟨o', n', e', _, _, d'⟩, _⟩ := I.list h'
  rw [e] at e'; cases e'
  rw [d] at d'
  injection d' with d1 _
  have : its = its' := by simpa using congrArg Array.toList d1
  subst this
  exact r.inj r'
end

abbrev Cx.wish (X : Cx) (E : Value → Shared → Prop) : Cx := { X with xe := E }
abbrev Cx.nox (X : Cx) : Cx := X.wish fun _ _ => False
theorem Cx.Ok.wish {X : Cx} (ok : X.Ok) (E : Value → Shared → Prop) : (X.wish E).Ok :=
  ⟨ok.mod, ok.kind, ok.glob, ok.blt, ok.above, ok.inj, ok.has, ok.cab, ok.hd, ok.frames, ok.stk, ok.exf, ok.bs, ok.bsz, ok.noex, ok.exfs, ok.funs, ok.frf⟩
theorem Cx.Ok.unwish {X : Cx} {E : Value → Shared → Prop} (ok : (X.wish E).Ok) : X.Ok :=
  ⟨ok.mod, ok.kind, ok.glob, ok.blt, ok.above, ok.inj, ok.has, ok.cab, ok.hd, ok.frames, ok.stk, ok.exf, ok.bs, ok.bsz, ok.noex, ok.exfs, ok.funs, ok.frf⟩
section
variable {X : Cx} {pins : List (Addr × Obj)} {σ : St} {H : Hp} {s : Shared} {E : Value → Shared → Prop}
theorem Inv.wish (I : Inv X pins σ H s) (E : Value → Shared → Prop) : Inv (X.wish E) pins σ H s := ⟨I.ok.wish E, I.os, I.bare, I.base, I.loc, I.cell, I.free, I.freeC, I.pin, I.hok, I.len⟩
theorem Inv.unwish (I : Inv (X.wish E) pins σ H s) : Inv X pins σ H s := ⟨I.ok.unwish, I.os, I.bare, I.base, I.loc, I.cell, I.free, I.freeC, I.pin, I.hok, I.len⟩
theorem SP.unwish {D : Ends} {f : Flow} {s' : Shared} (h : SP (X.wish E) pins D f s') : SP X pins D f s' := by
  cases f with
  | next => obtain ⟨σ', H', I, q⟩ := h; exact ⟨σ', H', I.unwish, q⟩
  | brk => obtain ⟨σ', H', I, q⟩ := h; exact ⟨σ', H', I.unwish, q⟩
  | cont => obtain ⟨σ', H', I, q⟩ := h; exact ⟨σ', H', I.unwish, q⟩
  | ret u => obtain ⟨v, σ', H', I, r, q⟩ := h; exact ⟨v, σ', H', I.unwish, r, q⟩
theorem PE.nox {e : Expr} {t : TE} (h : PE X.nox e t) : PE X e t := fun pins s σ H Q I hw =>
  wpAny_mono (h pins s σ H Q (I.wish _) hw) (fun _ _ ⟨v, H', I', r, q⟩ => ⟨v, H', I'.unwish, r, q⟩) fun _ _ z => False.elim z
theorem PT.nox {e : Expr} {t : TT} (h : PT X.nox e t) : PT X e t := fun pins s σ H Q I hw =>
  wpAny_mono (h pins s σ H Q (I.wish _) hw) (fun _ _ ⟨H', I', q⟩ => ⟨H', I'.unwish, q⟩) fun _ _ z => False.elim z
theorem PSs.nox {st : List Stmt} {t : TS} (h : PSs X.nox st t) : PSs X st t := fun pins s σ H D I hw =>
  wpAny_mono (h pins s σ H D (I.wish _) hw) (fun _ _ q => q.unwish) fun _ _ z => False.elim z
end

section
variable {X : Cx} {st : Stmt} {rest : List Stmt} {t u : TS} {e : Expr} {te : TE} {pos : Pos}
def tNext : TS := fun D σ H => D.nx σ H
def tSeq (t u : TS) : TS := fun D σ H => t { D with nx := u D } σ H
theorem pss_nil : PSs X [] tNext := fun _ _ σ H _ I h => wpAny_execs_nil ⟨σ, H, I, h⟩
theorem pss_cons (h1 : PS X st t) (h2 : PSs X rest u) : PSs X (st :: rest) (tSeq t u) := by
  intro pins s σ H D I h
  refine wpAny_execs_cons (thn (h1 pins s σ H { D with nx := u D } I h) fun f s1 q => ?_)
  cases f with
  | next =>
    obtain ⟨σ', H', I', q⟩ := q
    exact h2 pins s1 σ' H' D I' q
  | ret v => exact q
  | brk => exact q
  | cont => exact q
theorem pss_one (h1 : PS X st t) : PSs X [st] t := by
  intro pins s σ H D I h
  refine wpAny_execs_cons (thn (h1 pins s σ H D I h) fun f s1 q => ?_)
  cases f with
  | next => exact wpAny_execs_nil q
  | ret v => exact q
  | brk => exact q
  | cont => exact q
theorem Inv.quiet {pins : List (Addr × Obj)} {σ : St} {H : Hp} {s : Shared} (I : Inv X pins σ H s) : interactive X.env = false := by simp [interactive, I.ok.kind]
def tDrop (te : TE) : TS := fun D σ H => te σ H fun _ H1 => D.nx σ H1
theorem ps_expr (he : PE X e te) (hs : swapsWith e none pos.line X.env = pure false := by rfl) : PS X (.Expr e pos) (tDrop te) := by
  intro pins s σ H D I h
  exact wpAny_Expr_any (thn (he pins s σ H _ I h) fun v s1 ⟨x, H1, I1, r1, q1⟩ => ⟨σ, H1, I1, q1⟩) I.quiet hs
def tRet (te : TE) : TS := fun D σ H => te σ H D.rt
theorem ps_ret (he : PE X e te) : PS X (.Return (some e) pos) (tRet te) := by
  intro pins s σ H D I h
  exact wpAny_Return_some (thn (he pins s σ H _ I h) fun v s1 ⟨x, H1, I1, r1, q1⟩ => ⟨x, σ, H1, I1, r1, q1⟩)
def tRetN : TS := fun D _ H => D.rt .non H
def tIfS (c : TT) (t u : TS) : TS := fun D σ H => c σ H fun b H1 => if b = true then t D σ H1 else u D σ H1
theorem ps_if {c : Expr} {a b : List Stmt} {tc : TT} (hc : PT X c tc) (ha : PSs X a t) (hb : PSs X b u) : PS X (.If c a b pos) (tIfS tc t u) := by
  intro pins s σ H D I h
  refine wpAny_If (thn (hc pins s σ H _ I h) fun d s1 ⟨H1, I1, q1⟩ => ?_)
  cases d with
  | true => exact ha pins s1 σ H1 D I1 q1
  | false => exact hb pins s1 σ H1 D I1 q1
def tNever : TS := fun _ _ _ => False
theorem ps_never : PS X st tNever := fun _ _ _ _ _ _ h => h.elim
end

abbrev TG := V → St → Hp → (St → Hp → Prop) → Prop
abbrev TGs := List V → St → Hp → (St → Hp → Prop) → Prop
def PG (X : Cx) (target : Expr) (t : TG) : Prop :=
  ∀ (pins : List (Addr × Obj)) (s : Shared) (σ : St) (H : Hp) (v : V) (u : Value) (Q : St → Hp → Prop), Inv X pins σ H s → RelV v u → t v σ H Q →
    wpAny (model X.prog X.w) X.A (assign target X.env u) (fun _ s' => ∃ σ' H', Inv X pins σ' H' s' ∧ Q σ' H') X.xe s
def PGs (X : Cx) (ts : List Expr) (t : TGs) : Prop :=
  ∀ (pins : List (Addr × Obj)) (s : Shared) (σ : St) (H : Hp) (vs : List V) (us : List Value) (Q : St → Hp → Prop), Inv X pins σ H s → Vals vs us → t vs σ H Q →
    wpAny (model X.prog X.w) X.A (assignInOrder ((assignEach ts X.env).map (·.2)) us) (fun _ s' => ∃ σ' H', Inv X pins σ' H' s' ∧ Q σ' H') X.xe s
section
variable {X : Cx} {pos : Pos}
def gName (i : Nat) : TG := fun v σ H Q => Q (σ.set i (some v)) H
theorem pg_name {i : Nat} {x : Str} (hN : X.N.Nodup) (hi : X.N[i]? = some x) (hx : Loc X.env.scope x) (hf : X.fn x = true ∨ X.env.scope.names.lookup x = some .local := by first | exact .inl rfl | exact .inr rfl | assumption) : PG X (.Name x pos) (gName i) := by
  intro pins s σ H v u Q I r h
  exact wpAny_assign_Name (store_ok I hN hi hx r (fun s' I' => ⟨_, H, I', h⟩) hf)
def tAsg (te : TE) (g : TG) : TS := fun D σ H => te σ H fun x H1 => g x σ H1 D.nx
theorem ps_set {i : Nat} {x : Str} {e : Expr} {te : TE} {pos' : Pos} (hN : X.N.Nodup) (hi : X.N[i]? = some x) (hx : Loc X.env.scope x) (he : PE X e te) (hs : swapsWith e (some (.Name x pos')) pos.line X.env = pure false := by rfl) (hf : X.fn x = true ∨ X.env.scope.names.lookup x = some .local := by first | exact .inl rfl | exact .inr rfl | assumption) :
    PS X (.Assign [.Name x pos'] e pos) (tAsg te (gName i)) := by
  intro pins s σ H D I h
  refine wpAny_Assign_Name (thn (he pins s σ H _ I h) fun v s1 ⟨y, H1, I1, r1, q1⟩ => ?_) hs
  exact store_ok I1 hN hi hx r1 (fun s2 I2 => ⟨_, H1, I2, q1⟩) hf
end

section
variable {X : Cx} {pos : Pos}
end

set_option genInjectivity false in
structure It where
  go : Nat → Hp → Prop
  yld : Nat → Hp → V → Hp → Prop
  stop : Nat → Hp → Prop
def FpOk (X : Cx) (pins : List (Addr × Obj)) (H : Hp) (b : Addr) : Prop :=
  H b = none ∧ b ≠ X.env.locals ∧ b ∉ X.fs ∧ (b ∈ X.ex ∨ X.s₀.heap.objs.size ≤ b) ∧ (∀ x c, X.env.cells.lookup x = some c → c ≠ b) ∧ ∀ p ∈ X.pn ++ pins, p.1 ≠ b
theorem Inv.fpOk {X : Cx} {pins : List (Addr × Obj)} {σ : St} {H H' : Hp} {s : Shared} {b : Addr} (I : Inv X pins σ H s) (hb : s.heap.objs.size ≤ b) (hn : H' b = none) : FpOk X pins H' b := by
  refine ⟨hn, Nat.ne_of_gt (Nat.lt_of_lt_of_le I.lt hb), I.nofs hb, .inr (Nat.le_trans I.sz hb), fun x c e z => ?_, fun p hp z => ?_⟩
  · obtain ⟨v, q⟩ := I.cell x c e
    exact absurd (Nat.lt_of_lt_of_le q.lt (by rw [z]; exact hb)) (Nat.lt_irrefl _)
  · exact absurd (Nat.lt_of_lt_of_le (Heap.lt_size (I.pin p hp).1) (by rw [z]; exact hb)) (Nat.lt_irrefl _)
structure Turn (P : Program) (w : World) (K : PySem.W.Frag) (tg : Expr) (J : It) (fp : List Addr) (it : Addr) (tn : Nat → Heap → Prop) : Prop where
  mem : it ∈ fp
  obj : ∀ i h, tn i h → ∀ b ∈ fp, ∃ o, h.get? b = some o ∧ ∀ v, o.data ≠ .cell v
  keep : ∀ i h h', tn i h → (∀ b ∈ fp, ∀ o, h.get? b = some o → h'.get? b = some o) → tn i h'
  item : ∀ (X : Cx), X.prog = P → X.w = w → X.K = K → X.calm = true → ∀ (i : Nat) (pins : List (Addr × Obj)) (s : Shared) (σ : St) (H : Hp) (E : Value → Shared → Prop), Inv X pins σ H s → (∀ b ∈ fp, FpOk X pins H b) → tn i s.heap → J.go i H →
    wpAny (model P w) X.A (pyNext (.ref it)) (fun r s1 => ∃ u, r = some u ∧
      wpAny (model P w) X.A (letOwnedTupleGo tg (.ref it) u) (fun _ s2 => ∃ x H', Inv X pins σ H' s2 ∧ RelV x u ∧ J.yld i H x H' ∧ tn (i + 1) s2.heap ∧ ∀ b ∈ fp, H' b = none) E s1) E s
  done : ∀ (X : Cx), X.prog = P → X.w = w → X.K = K → X.calm = true → ∀ (i : Nat) (pins : List (Addr × Obj)) (s : Shared) (σ : St) (H : Hp) (E : Value → Shared → Prop), Inv X pins σ H s → (∀ b ∈ fp, FpOk X pins H b) → tn i s.heap → J.stop i H →
    wpAny (model P w) X.A (pyNext (.ref it)) (fun r s1 => r = none ∧ Inv X pins σ H s1) E s
  self : ∀ (A : Around) (i : Nat) (s : Shared) (Q : Value → Shared → Prop) (E : Value → Shared → Prop), tn i s.heap → Q (.ref it) s → wpAny (model P w) A (pyIter (.ref it)) Q E s
abbrev TI := St → Hp → (It → Hp → Prop) → Prop
def PIE (X : Cx) (pins : List (Addr × Obj)) (σ : St) (tg : Expr) (R : It → Hp → Prop) (itv : Value) (s2 : Shared) : Prop :=
  ∃ (it : Addr) (fp : List Addr) (tn : Nat → Heap → Prop) (J : It) (H' : Hp), itv = .ref it ∧ Inv X pins σ H' s2 ∧ Turn X.prog X.w X.K tg J fp it tn ∧ tn 0 s2.heap ∧ (∀ b ∈ fp, FpOk X pins H' b) ∧ R J H'
def PI (X : Cx) (tg iter : Expr) (wi : TI) : Prop :=
  ∀ (pins : List (Addr × Obj)) (s : Shared) (σ : St) (H : Hp) (R : It → Hp → Prop), Inv X pins σ H s → wi σ H R →
    wpAny (model X.prog X.w) X.A (eval iter X.env) (fun v s1 => wpAny (model X.prog X.w) X.A (pyIter v) (PIE X pins σ tg R) X.xe s1) X.xe s

theorem go_of {M : Model} {A : Around} {E : Value → Shared → Prop} {s : Shared} {tg : Expr} {it : Addr} {u : Value} {o : Obj} {n : String} {vs : Array Value} {Q : Unit → Shared → Prop} (ho : s.heap.get? it = some o) (hc : o.cls = .type n) (hd : o.data = .fields vs)
    (hn : ["enumerate", "zip", "dict_itemiterator", "dict_reverseitemiterator", "odict_iterator", "itertools.zip_longest", "itertools.pairwise"].contains n = false) (hQ : Q () s) : wpAny M A (letOwnedTupleGo tg (.ref it) u) Q E s := by
  unfold letOwnedTupleGo
  cases tg <;> first
    | exact wpAny_pure hQ
    | (cases u <;> first
        | exact wpAny_pure hQ
        | (refine wpAny_bind (wpAny_load ho ?_)
           rw [hc, hd]
           show wpAny M A (if (["enumerate", "zip", "dict_itemiterator", "dict_reverseitemiterator", "odict_iterator", "itertools.zip_longest", "itertools.pairwise"].contains n && vs[0]? == some (rawInt _)) = true then _ else _) Q E s
           rw [if_neg (by intro h; rw [hn, Bool.false_and] at h; cases h)]
           exact wpAny_pure hQ))

def Itl (K : PySem.W.Frag) (a : Addr) : It :=
  ⟨fun i H => ∃ xs x, SqL K H a xs ∧ xs[i]? = some x, fun i H x H' => H' = H ∧ ∀ xs, SqL K H a xs → xs[i]? = some x, fun i H => ∃ xs, SqL K H a xs ∧ xs.length ≤ i⟩
def Itt (K : PySem.W.Frag) (a : Addr) : It :=
  ⟨fun i H => ∃ xs x, SqT K H a xs ∧ xs[i]? = some x, fun i H x H' => H' = H ∧ ∀ xs, SqT K H a xs → xs[i]? = some x, fun i H => ∃ xs, SqT K H a xs ∧ xs.length ≤ i⟩
def Itr (lo : Int) (n : Nat) : It := ⟨fun i _ => i < n, fun i H x H' => H' = H ∧ x = .int (lo + i), fun i _ => n ≤ i⟩
theorem turn_list {P : Program} {w : World} {K : PySem.W.Frag} {tg : Expr} (a it : Addr) : Turn P w K tg (Itl K a) [it] it (fun i h => h.IsListIter it a i) where
  mem := by simp
  obj := fun i h st b hb => by
    have e : b = it := by simpa using hb
    subst e
    obtain ⟨o, e, c, d⟩ := st
    exact ⟨o, e, fun v z => by rw [d] at z; cases z⟩
  keep := fun i h h' st k => st.at fun o e => k it (by simp) o e
  item := by
    intro X hP hw hK hc i pins s σ H E I hf st hg
    subst hP hw hK
    obtain ⟨xs, x, hq, hx⟩ := hg
    obtain ⟨its, rv, p, hz⟩ := I.list hq
    obtain ⟨u, hu, ru⟩ := rv.get hx
    obtain ⟨f0, f1, f2, f3, f4, f5⟩ := hf it (by simp)
    refine wpAny_pyNext_list_item st p.isList (x := u) (by simpa using hu) fun h' st' sb => ?_
    have I1 : Inv X pins σ H { s with heap := h' } := I.turned (t' := s.toks) (fun b o hb e => (sb.2 b hb).trans e) f0 f1 f3 f4 f5
    obtain ⟨o, e, c, d⟩ := id st'
    exact ⟨u, rfl, go_of (s := { s with heap := h' }) e c d (by decide) ⟨x, H, I1, ru, ⟨rfl, fun ys hy => by rw [I.list_inj hy hq]; exact hx⟩, st', fun b hb => (hf b hb).1⟩⟩
  done := by
    intro X hP hw hK hc i pins s σ H E I hf st hg
    subst hP hw hK
    obtain ⟨xs, hq, hx⟩ := hg
    obtain ⟨its, rv, p, hz⟩ := I.list hq
    obtain ⟨f0, f1, f2, f3, f4, f5⟩ := hf it (by simp)
    have hl := rv.length
    exact wpAny_pyNext_list_end (I.ok.hd hc) st p.isList (by simp; omega) fun h' eb => ⟨rfl, I.turned (t' := s.toks) (fun b o hb e => eb b o hb e) f0 f1 f3 f4 f5⟩
  self := fun _ _ _ _ _ st h => wpAny_pyIter_listiter st h
theorem turn_range {P : Program} {w : World} {K : PySem.W.Frag} {tg : Expr} (it : Addr) (lo : Int) (n : Nat) : Turn P w K tg (Itr lo n) [it] it (fun i h => IsRangeIter h it (lo + (i : Nat) * 1) ((n : Int) - (i : Nat)) 1) where
  mem := by simp
  obj := fun i h st b hb => by
    have e : b = it := by simpa using hb
    subst e
    exact ⟨_, st, fun v z => by
      have z' : Data.fields _ = Data.cell v := z
      cases z'⟩
  keep := fun i h h' st k => k it (by simp) _ st
  item := by
    intro X hP hw hK hc i pins s σ H E I hf st hg
    subst hP hw hK
    obtain ⟨f0, f1, f2, f3, f4, f5⟩ := hf it (by simp)
    have W := Walks.range (prog := X.prog) (w := X.w) (I.ok.hd hc) it lo 1 n
    refine W.item i s _ _ hg st fun v h' tk hv st' kk => ?_
    obtain ⟨t, rfl⟩ := hv
    have I1 : Inv X pins σ H { s with heap := h', toks := tk } := I.turned (fun b o hb e => kk b o (by simpa using hb) e) f0 f1 f3 f4 f5
    refine ⟨_, rfl, go_of (s := { s with heap := h', toks := tk }) (n := "range_iterator") st' rfl rfl (by decide) ⟨.int (lo + i), H, I1, ⟨t, ?_⟩, ⟨rfl, rfl⟩, st', fun b hb => (hf b hb).1⟩⟩
    rw [Int.mul_one]
  done := by
    intro X hP hw hK hc i pins s σ H E I hf st hg
    subst hP hw hK
    obtain ⟨f0, f1, f2, f3, f4, f5⟩ := hf it (by simp)
    exact wpAny_pyNext_range_end (I.ok.hd hc) st (by have : n ≤ i := hg; omega) fun h' eb => ⟨rfl, I.turned (t' := s.toks) (fun b o hb e => eb b o hb e) f0 f1 f3 f4 f5⟩
  self := fun _ _ _ _ _ st h => wpAny_pyIter_rangeiter st h
end L2

namespace L2
open PySem PySem.Spec PyProof.Rows
section
variable {X : Cx} {tg : Expr}
def iList (K : PySem.W.Frag) (tl : TE) : TI := fun σ H R => tl σ H fun x H1 => ∃ a, x = .ref a ∧ (∃ xs, SqL K H1 a xs) ∧ R (Itl K a) H1
def iTup (K : PySem.W.Frag) (tl : TE) : TI := fun σ H R => tl σ H fun x H1 => ∃ a, x = .ref a ∧ (∃ xs, SqT K H1 a xs) ∧ R (Itt K a) H1
theorem pi_list {l : Expr} {tl : TE} (hl : PE X l tl) : PI X tg l (iList X.K tl) := by
  intro pins s σ H R I h
  refine thn (hl pins s σ H _ I h) fun v s1 ⟨x, H1, I1, r1, q1⟩ => ?_
  obtain ⟨a, e, ⟨xs, hq⟩, q⟩ := q1
  subst e
  cases r1
  obtain ⟨its, rv, p, hz⟩ := I1.list hq
  refine wpAny_pyIter_list p.isList ?_
  refine ⟨s1.heap.objs.size, [s1.heap.objs.size], _, _, H1, rfl, I1.kept (t' := s1.toks) fun b o e => Heap.get?_push_of_some _ e, turn_list a _, ⟨_, Heap.get?_push_size _ rfl, rfl, rfl⟩, fun b hb => ?_, q⟩
  have e : b = s1.heap.objs.size := by simpa using hb
  subst e
  exact I1.fpOk (Nat.le_refl _) (I1.hok.fresh (Nat.le_refl _))
theorem range_it {pins : List (Addr × Obj)} {σ : St} {H : Hp} {s : Shared} {R : It → Hp → Prop} {E : Value → Shared → Prop} {lo hi : Int} {t u v : Tok} {tk : Nat} (I : Inv X pins σ H s) (h1 : -(2 ^ 62) ≤ lo) (h2 : lo < 2 ^ 62) (h3 : -(2 ^ 62) ≤ hi) (h4 : hi < 2 ^ 62)
    (q : R (Itr lo (hi - lo).toNat) H) : wpAny (model X.prog X.w) X.A (pyIter (.ref s.heap.objs.size)) (PIE X pins σ tg R) E { s with heap := s.heap.push { cls := .type "range", data := .fields #[.int lo t, .int hi u, .int 1 v] }, toks := tk } := by
  refine wpAny_pyIter_range (IsRange.new ..) (small_one h1 h2 h3 h4) ?_
  have I1 : Inv X pins σ H { s with heap := s.heap.push { cls := .type "range", data := .fields #[.int lo t, .int hi u, .int 1 v] }, toks := tk } := I.kept fun b o e => Heap.get?_push_of_some _ e
  refine ⟨(s.heap.push { cls := .type "range", data := .fields #[.int lo t, .int hi u, .int 1 v] }).objs.size, [(s.heap.push { cls := .type "range", data := .fields #[.int lo t, .int hi u, .int 1 v] }).objs.size], _, _, H, rfl,
    I1.kept (t' := tk) fun b o e => Heap.get?_push_of_some _ e, turn_range _ lo (hi - lo).toNat, ?_, fun b hb => ?_, q⟩
  · have e1 : lo + ((0 : Nat) : Int) * 1 = lo := by simp
    have e2 : (((hi - lo).toNat : Nat) : Int) - ((0 : Nat) : Int) = Builtin.Range.rangeSize lo hi 1 := by rw [rangeSize_one]; split <;> omega
    show IsRangeIter _ _ (lo + ((0 : Nat) : Int) * 1) ((((hi - lo).toNat : Nat) : Int) - ((0 : Nat) : Int)) 1
    rw [e1, e2]
    exact Heap.get?_push_size _ rfl
  · have e : b = (s.heap.push { cls := .type "range", data := .fields #[.int lo t, .int hi u, .int 1 v] }).objs.size := by simpa using hb
    subst e
    exact I1.fpOk (Nat.le_refl _) (I1.hok.fresh (Nat.le_refl _))
def iRng1 (ta : TA) : TI := fun σ H R => ta σ H fun vs H1 => ∃ j : Int, vs = [.int j] ∧ -(2 ^ 62) ≤ j ∧ j < 2 ^ 62 ∧ R (Itr 0 j.toNat) H1
def iRng2 (ta : TA) : TI := fun σ H R => ta σ H fun vs H1 => ∃ i j : Int, vs = [.int i, .int j] ∧ (-(2 ^ 62) ≤ i ∧ i < 2 ^ 62 ∧ -(2 ^ 62) ≤ j ∧ j < 2 ^ 62) ∧ R (Itr i (j - i).toNat) H1
theorem pi_range1 {a : Expr} {ta : TA} {p pos : Pos} (hg : Gl X "range") (hm : X.mg "range" = none) (ha : PA X [a] ta) (hs : starEach [a] X.env = [(false, eval a X.env)] := by rfl) : PI X tg (.Call (.Name "range" p) [a] [] pos) (iRng1 ta) := by
  intro pins s σ H R I h
  refine Call_ (ld_blt I hg hm boot_range (PyProof.Rows.callWith_type1 (thn (ha pos pins s σ H _ I h) fun us s1 ⟨vs, H1, I1, r1, q1⟩ => ?_) hs rfl))
  obtain ⟨j, e, q1, q2, q⟩ := q1
  subst e
  cases r1 with
  | cons r rr =>
    cases rr
    obtain ⟨t, rfl⟩ := r
    exact call_range_1 (range_it I1 (by omega) (by omega) q1 q2 (by simpa using q))
theorem pi_range2 {a b : Expr} {ta : TA} {p pos : Pos} (hg : Gl X "range") (hm : X.mg "range" = none) (ha : PA X [a, b] ta) (hs : starEach [a, b] X.env = [(false, eval a X.env), (false, eval b X.env)] := by rfl) (hs2 : starEach [b] X.env = [(false, eval b X.env)] := by rfl) :
    PI X tg (.Call (.Name "range" p) [a, b] [] pos) (iRng2 ta) := by
  intro pins s σ H R I h
  refine Call_ (ld_blt I hg hm boot_range (PyProof.Rows.callWith_type1 (thn (ha pos pins s σ H _ I h) fun us s1 ⟨vs, H1, I1, r1, q1⟩ => ?_) (by rw [hs, hs2]) (by rw [hs2]; rfl)))
  obtain ⟨i, j, e, ⟨q1, q2, q3, q4⟩, q⟩ := q1
  subst e
  cases r1 with
  | cons r rr =>
    cases rr with
    | cons r' rr =>
      cases rr
      obtain ⟨t, rfl⟩ := r
      obtain ⟨t', rfl⟩ := r'
      exact call_range_2 (range_it I1 q1 q2 q3 q4 q)

def tFor (wi : TI) (g : TG) (tb : TS) : TS := fun D σ H => wi σ H fun J H1 => ∃ W : Nat → Nat → St → Hp → Prop, (∃ m, W 0 m σ H1) ∧ ∀ i m σ H, W i m σ H →
  (J.stop i H ∧ D.nx σ H) ∨ (J.go i H ∧ ∃ N : St → Hp → Prop, (∀ σ' H', N σ' H' → ∃ m', m' < m ∧ W (i + 1) m' σ' H') ∧ ∀ x H', J.yld i H x H' → g x σ H' fun σ2 H2 => tb { D with nx := N, ct := N, bk := D.nx } σ2 H2)
def pinsAt (fp : List Addr) (h : Heap) : List (Addr × Obj) := fp.filterMap fun b => (h.get? b).map fun o => (b, o)
theorem mem_pinsAt {fp : List Addr} {h : Heap} {b : Addr} {o : Obj} (hb : b ∈ fp) (e : h.get? b = some o) : (b, o) ∈ pinsAt fp h := List.mem_filterMap.mpr ⟨b, hb, by rw [e]; rfl⟩
theorem of_pinsAt {fp : List Addr} {h : Heap} {p : Addr × Obj} (hp : p ∈ pinsAt fp h) : p.1 ∈ fp ∧ h.get? p.1 = some p.2 := by
  obtain ⟨b, hb, e⟩ := List.mem_filterMap.mp hp
  cases q : h.get? b with
  | none => rw [q] at e; cases e
  | some o =>
    rw [q] at e
    have e' : (b, o) = p := Option.some.inj e
    subst e'
    exact ⟨hb, q⟩
theorem Inv.pinned {pins : List (Addr × Obj)} {σ : St} {H : Hp} {s : Shared} {fp : List Addr} (I : Inv X pins σ H s) (hf : ∀ b ∈ fp, FpOk X pins H b) (ho : ∀ b ∈ fp, ∃ o, s.heap.get? b = some o ∧ ∀ v, o.data ≠ .cell v) : Inv X (pins ++ pinsAt fp s.heap) σ H s :=
  I.pins_of fun p hp => (List.mem_append.mp hp).elim (fun z => I.pin p (List.mem_append_right _ z)) fun z => by
    obtain ⟨hb, e⟩ := of_pinsAt z
    obtain ⟨f0, f1, f2, _⟩ := hf p.1 hb
    obtain ⟨o, e', d⟩ := ho p.1 hb
    rw [e] at e'; cases e'
    exact ⟨e, f0, f1, f2, d⟩
theorem Inv.unpinned {pins pl : List (Addr × Obj)} {σ : St} {H : Hp} {s : Shared} (I : Inv X (pins ++ pl) σ H s) : Inv X pins σ H s := I.pins_of fun p hp => I.pin p (List.mem_append_right _ (List.mem_append_left _ hp))
theorem ps_for {iter : Expr} {body : List Stmt} {wi : TI} {g : TG} {tb : TS} {pos : Pos} (hp : PassesOwn (model X.prog X.w) X.A X.env X.xe) (hc : X.calm = true) (hi : PI X tg iter wi) (hg : PG X tg g) (hb : PSs X body tb)
    (hs : ∀ x, foldedSetIterable iter X.env x = pure x := by intro _; rfl) : PS X (.For tg iter body [] pos) (tFor wi g tb) := by
  intro pins s σ H D I h
  refine wpAny_For (thn (hi pins s σ H _ I h) fun v s1 h1 => thn h1 fun itv s2 h2 => ?_) hs
  obtain ⟨it, fp, tn, J, H2, e, I2, T, st2, f2, W, ⟨m0, w0⟩, turn⟩ := h2
  subst e
  -- what stays true of the iterator's objects through the loop
  have stat : ∀ {H' : Hp}, (∀ b ∈ fp, H' b = none) → ∀ b ∈ fp, FpOk X pins H' b := fun hn b hb => ⟨hn b hb, (f2 b hb).2⟩
  refine codeAny_forLoop_any (fun n s' => ∃ i σ' H', Inv X pins σ' H' s' ∧ tn i s'.heap ∧ (∀ b ∈ fp, H' b = none) ∧ W i n σ' H') ?_ m0 ⟨0, σ, H2, I2, st2, fun b hb => (f2 b hb).1, w0⟩
  rintro n s3 ⟨i, σ3, H3, I3, st3, fr3, w3⟩
  rcases turn i n σ3 H3 w3 with ⟨stop, qn⟩ | ⟨go, N, hN, step⟩
  · refine wpAny_passesOwn hp (thn (T.done X rfl rfl rfl hc i pins s3 σ3 H3 X.xe I3 (stat fr3) st3 stop) fun r s4 ⟨hr, I4⟩ => ?_)
    subst hr
    exact wpAny_execs_nil ⟨σ3, H3, I4, qn⟩
  · refine wpAny_passesOwn hp (thn (T.item X rfl rfl rfl hc i pins s3 σ3 H3 X.xe I3 (stat fr3) st3 go) fun r s4 ⟨u, hr, h4⟩ => ?_)
    subst hr
    refine wpAny_passesOwn hp (thn h4 fun _ s5 ⟨x, H5, I5, r5, y5, st5, fr5⟩ => ?_)
    have I5' := I5.pinned (stat fr5) (T.obj _ _ st5)
    refine wpAny_passesOwn hp (thn (hg _ s5 σ3 H5 x u _ I5' r5 (step x H5 y5)) fun _ s6 ⟨σ6, H6, I6, q6⟩ => ?_)
    refine wpAny_passesOwn hp (thn (hb _ s6 σ6 H6 _ I6 q6) fun f s7 q7 => ?_)
    have again : ∀ {σ7 : St} {H7 : Hp}, Inv X (pins ++ pinsAt fp s5.heap) σ7 H7 s7 → N σ7 H7 → ∃ m, m < n ∧ ∃ i σ' H', Inv X pins σ' H' s7 ∧ tn i s7.heap ∧ (∀ b ∈ fp, H' b = none) ∧ W i m σ' H' := fun {σ7 H7} I7 n7 => by
      obtain ⟨m', hm, w7⟩ := hN σ7 H7 n7
      refine ⟨m', hm, i + 1, σ7, H7, I7.unpinned, T.keep _ _ _ st5 fun b hb o e => (I7.pin (b, o) (List.mem_append_right _ (List.mem_append_right _ (mem_pinsAt hb e)))).1, fun b hb => ?_, w7⟩
      obtain ⟨o, e, d⟩ := T.obj _ _ st5 b hb
      exact (I7.pin (b, o) (List.mem_append_right _ (List.mem_append_right _ (mem_pinsAt hb e)))).2.1
    cases f with
    | next => obtain ⟨σ7, H7, I7, n7⟩ := q7; exact again I7 n7
    | cont => obtain ⟨σ7, H7, I7, n7⟩ := q7; exact again I7 n7
    | brk => obtain ⟨σ7, H7, I7, q7⟩ := q7; exact ⟨σ7, H7, I7.unpinned, q7⟩
    | ret v => obtain ⟨x7, σ7, H7, I7, r7, q7⟩ := q7; exact ⟨x7, σ7, H7, I7.unpinned, r7, q7⟩
end

theorem for_list {K : PySem.W.Frag} {a : Addr} {xs : List V} {g : TG} {tb : TS} {D : Ends} {σ : St} {H : Hp} (Pv : Nat → St → Hp → Prop) (h0 : Pv 0 σ H) (hl : ∀ i σ H, i ≤ xs.length → Pv i σ H → SqL K H a xs)
    (hs : ∀ i x σ H, xs[i]? = some x → Pv i σ H → g x σ H fun σ2 H2 => tb { D with nx := Pv (i + 1), ct := Pv (i + 1), bk := D.nx } σ2 H2) (hd : ∀ σ H, Pv xs.length σ H → D.nx σ H) :
    ∃ W : Nat → Nat → St → Hp → Prop, (∃ m, W 0 m σ H) ∧ ∀ i m σ H, W i m σ H →
      ((Itl K a).stop i H ∧ D.nx σ H) ∨ ((Itl K a).go i H ∧ ∃ N : St → Hp → Prop, (∀ σ' H', N σ' H' → ∃ m', m' < m ∧ W (i + 1) m' σ' H') ∧ ∀ x H', (Itl K a).yld i H x H' → g x σ H' fun σ2 H2 => tb { D with nx := N, ct := N, bk := D.nx } σ2 H2) := by
  refine ⟨fun i m σ H => m = xs.length - i ∧ i ≤ xs.length ∧ Pv i σ H, ⟨xs.length, by simp, Nat.zero_le _, h0⟩, ?_⟩
  rintro i m σ H ⟨rfl, hi, p⟩
  have q := hl i σ H hi p
  by_cases hlt : i < xs.length
  · refine .inr ⟨⟨xs, xs[i], q, by simp [hlt]⟩, Pv (i + 1), fun σ' H' p' => ⟨xs.length - (i + 1), by omega, rfl, hlt, p'⟩, fun x H' y => ?_⟩
    obtain ⟨e, y⟩ := y
    subst e
    exact hs i x σ _ (y xs q) p
  · have e : i = xs.length := by omega
    subst e
    exact .inl ⟨⟨xs, q, Nat.le_refl _⟩, hd σ H p⟩
theorem for_range {lo : Int} {n : Nat} {g : TG} {tb : TS} {D : Ends} {σ : St} {H : Hp} (Pv : Nat → St → Hp → Prop) (h0 : Pv 0 σ H)
    (hs : ∀ i σ H, i < n → Pv i σ H → g (.int (lo + i)) σ H fun σ2 H2 => tb { D with nx := Pv (i + 1), ct := Pv (i + 1), bk := D.nx } σ2 H2) (hd : ∀ σ H, Pv n σ H → D.nx σ H) :
    ∃ W : Nat → Nat → St → Hp → Prop, (∃ m, W 0 m σ H) ∧ ∀ i m σ H, W i m σ H →
      ((Itr lo n).stop i H ∧ D.nx σ H) ∨ ((Itr lo n).go i H ∧ ∃ N : St → Hp → Prop, (∀ σ' H', N σ' H' → ∃ m', m' < m ∧ W (i + 1) m' σ' H') ∧ ∀ x H', (Itr lo n).yld i H x H' → g x σ H' fun σ2 H2 => tb { D with nx := N, ct := N, bk := D.nx } σ2 H2) := by
  refine ⟨fun i m σ H => m = n - i ∧ i ≤ n ∧ Pv i σ H, ⟨n, by simp, Nat.zero_le _, h0⟩, ?_⟩
  rintro i m σ H ⟨rfl, hi, p⟩
  by_cases hlt : i < n
  · refine .inr ⟨hlt, Pv (i + 1), fun σ' H' p' => ⟨n - (i + 1), by omega, rfl, hlt, p'⟩, fun x H' y => ?_⟩
    obtain ⟨e, y⟩ := y
    subst e y
    exact hs i σ _ hlt p
  · have e : i = n := by omega
    subst e
    exact .inl ⟨Nat.le_refl _, hd σ H p⟩
end L2

namespace L2
open PySem PySem.Spec PyProof.Rows

abbrev R2 := V → V → Hp → VK → Prop
def OpR (X : Cx) (f : Value → Value → Sem Value) (r : R2) : Prop :=
  ∀ (pins : List (Addr × Obj)) (s : Shared) (σ : St) (H : Hp) (x y : V) (v u : Value) (Q : VK), Inv X pins σ H s → RelV x v → RelV y u → r x y H Q →
    wpAny (model X.prog X.w) X.A (f v u) (EP X pins σ Q) X.xe s
def CallR (X : Cx) (f : Value) (r : List V → Hp → VK → Prop) : Prop :=
  ∀ (pins : List (Addr × Obj)) (s : Shared) (σ : St) (H : Hp) (xs : List V) (us : List Value) (Q : VK), Inv X pins σ H s → Vals xs us → r xs H Q →
    wpAny (model X.prog X.w) X.A (call f us) (EP X pins σ Q) X.xe s
def tOp (r : R2) (ta tb : TE) : TE := fun σ H Q => ta σ H fun x H1 => tb σ H1 fun y H2 => r x y H2 Q
def tUn (r : V → Hp → VK → Prop) (ta : TE) : TE := fun σ H Q => ta σ H fun x H1 => r x H1 Q
def rI (C : Int → Int → Prop) (g : Int → Int → V) : R2 := fun x y H Q => ∃ i j, x = .int i ∧ y = .int j ∧ C i j ∧ Q (g i j) H
def rI0 (g : Int → Int → V) : R2 := fun x y H Q => ∃ i j, x = .int i ∧ y = .int j ∧ Q (g i j) H
def rU (g : Int → V) : V → Hp → VK → Prop := fun x H Q => ∃ i, x = .int i ∧ Q (g i) H

section
variable {X : Cx} {a b c : Expr} {ta tb tc : TE} {pos : Pos}

theorem binT (ha : PE X a ta) (hb : PE X b tb) {pins : List (Addr × Obj)} {s : Shared} {σ : St} {H : Hp} {R : V → V → Hp → Prop} (I : Inv X pins σ H s)
    (h : ta σ H fun x H1 => tb σ H1 fun y H2 => R x y H2) {Q : Value → Shared → Prop} {f : Value → Value → Sem Value}
    (hf : ∀ v u s2 x y H2, Inv X pins σ H2 s2 → RelV x v → RelV y u → R x y H2 → wpAny (model X.prog X.w) X.A (f v u) Q X.xe s2) :
    wpAny (model X.prog X.w) X.A (eval a X.env) (fun v s₁ => wpAny (model X.prog X.w) X.A (eval b X.env) (fun u s₂ => wpAny (model X.prog X.w) X.A (f v u) Q X.xe s₂) X.xe s₁) X.xe s := by
  refine thn (ha pins s σ H _ I h) fun v s1 ⟨x, H1, I1, r1, q1⟩ => ?_
  refine thn (hb pins s1 σ H1 _ I1 q1) fun u s2 ⟨y, H2, I2, r2, q2⟩ => ?_
  exact hf v u s2 x y H2 I2 r1 r2 q2

theorem pe_op {op : Operator} {r : R2} (ho : OpR X (binaryOp op) r) (ha : PE X a ta) (hb : PE X b tb) : PE X (.BinOp a op b pos) (tOp r ta tb) := by
  intro pins s σ H Q I h
  exact wpAny_BinOp (binT ha hb I h fun v u s2 x y H2 I2 rx ry q => ho pins s2 σ H2 x y v u Q I2 rx ry q)
theorem opI {f : Value → Value → Sem Value} {C : Int → Int → Prop} {g : Int → Int → Int}
    (rule : ∀ (i j : Int) (t u : Tok) (s : Shared) (Q : Value → Shared → Prop) (E : Value → Shared → Prop), C i j → Q (.int (g i j) s.toks) { s with toks := s.toks + 1 } → wpAny (model X.prog X.w) X.A (f (.int i t) (.int j u)) Q E s) :
    OpR X f (rI C fun i j => .int (g i j)) := by
  intro pins s σ H x y v u Q I rx ry h
  obtain ⟨i, j, rfl, rfl, hc, q⟩ := h
  obtain ⟨t, rfl⟩ := rx
  obtain ⟨t', rfl⟩ := ry
  exact rule i j t t' s _ _ hc ⟨.int (g i j), H, I.tok _, ⟨_, rfl⟩, q⟩
theorem opI0 {f : Value → Value → Sem Value} {g : Int → Int → Int}
    (rule : ∀ (i j : Int) (t u : Tok) (s : Shared) (Q : Value → Shared → Prop) (E : Value → Shared → Prop), Q (.int (g i j) s.toks) { s with toks := s.toks + 1 } → wpAny (model X.prog X.w) X.A (f (.int i t) (.int j u)) Q E s) :
    OpR X f (rI0 fun i j => .int (g i j)) := by
  intro pins s σ H x y v u Q I rx ry h
  obtain ⟨i, j, rfl, rfl, q⟩ := h
  obtain ⟨t, rfl⟩ := rx
  obtain ⟨t', rfl⟩ := ry
  exact rule i j t t' s _ _ ⟨.int (g i j), H, I.tok _, ⟨_, rfl⟩, q⟩
theorem opB0 {f : Value → Value → Sem Value} {g : Int → Int → Bool}
    (rule : ∀ (i j : Int) (t u : Tok) (s : Shared) (Q : Value → Shared → Prop) (E : Value → Shared → Prop), Q (.bool (g i j)) s → wpAny (model X.prog X.w) X.A (f (.int i t) (.int j u)) Q E s) :
    OpR X f (rI0 fun i j => .bl (g i j)) := by
  intro pins s σ H x y v u Q I rx ry h
  obtain ⟨i, j, rfl, rfl, q⟩ := h
  obtain ⟨t, rfl⟩ := rx
  obtain ⟨t', rfl⟩ := ry
  exact rule i j t t' s _ _ ⟨.bl (g i j), H, I, rfl, q⟩

def CDiv (i j : Int) : Prop := 0 < j ∧ j < 1073741824
def CMul (i j : Int) : Prop := (-(2 ^ 64) < i ∧ i < 2 ^ 64) ∨ (-(2 ^ 64) < j ∧ j < 2 ^ 64)
theorem CMul.ok {i j : Int} (h : CMul i j) : IntMulOk i j := by
  rcases h with ⟨h1, h2⟩ | ⟨h1, h2⟩
  · exact .of_left (intBits_le_64 h1 h2)
  · exact .of_right (intBits_le_64 h1 h2)
theorem op_add : OpR X (binaryOp .Add) (rI0 fun i j => .int (i + j)) := opI0 fun _ _ _ _ _ _ _ q => add_int q
theorem op_sub : OpR X (binaryOp .Sub) (rI0 fun i j => .int (i - j)) := opI0 fun _ _ _ _ _ _ _ q => sub_int q
theorem op_mul : OpR X (binaryOp .Mult) (rI CMul fun i j => .int (i * j)) := opI fun _ _ _ _ _ _ _ hc q => mul_int q hc.ok
theorem op_fdiv : OpR X (binaryOp .FloorDiv) (rI CDiv fun i j => .int (i / j)) := opI fun i j _ _ _ _ _ hc q => by
  have h1 : (0 : Int) < j := hc.1
  have h2 : j < 1073741824 := hc.2
  exact floordiv_int (by omega) (by rw [Int.fdiv_eq_ediv_of_nonneg i (by omega)]; exact q) (.inl (PyProof.noPylong_small (by omega)))
theorem op_mod : OpR X (binaryOp .Mod) (rI (fun _ j => 0 < j) fun i j => .int (i % j)) := opI fun i j _ _ _ _ _ hc q => by
  have h1 : (0 : Int) < j := hc
  exact mod_int' (by omega) (by rw [Int.fmod_eq_emod_of_nonneg i (by omega)]; exact q)
end

def scal : V → V → Bool
  | .non, .non => true | .non, .int _ => true | .int _, .non => true | .non, .bl _ => true | .bl _, .non => true | .non, .str _ => true | .str _, .non => true
  | .int _, .int _ => true | .bl _, .bl _ => true | .str _, .str _ => true | .byt _, .byt _ => true
  | .int _, .str _ => true | .str _, .int _ => true | .bl _, .str _ => true | .str _, .bl _ => true
  | _, _ => false
def rEq : R2 := fun x y H Q => scal x y = true ∧ Q (.bl (decide (x = y))) H
def rNe : R2 := fun x y H Q => scal x y = true ∧ Q (.bl (!decide (x = y))) H

theorem dec_int {i j : Int} : decide (V.int i = V.int j) = (i == j) := by
  rw [Bool.eq_iff_iff]
  simp
theorem dec_bl {i j : Bool} : decide (V.bl i = V.bl j) = (i == j) := by
  rw [Bool.eq_iff_iff]
  simp
theorem dec_str {i j : Str} : decide (V.str i = V.str j) = (i == j) := by
  rw [Bool.eq_iff_iff]
  simp
theorem dec_byt {i j : Array UInt8} : decide (V.byt i = V.byt j) = (i.toList == j.toList) := by
  rw [Bool.eq_iff_iff]
  cases i
  cases j
  simp

section
variable {X : Cx} {a b c : Expr} {ta tb tc : TE} {pos : Pos}
theorem fin_bl {pins : List (Addr × Obj)} {σ : St} {H : Hp} {s : Shared} {Q : VK} {k k' : Bool} (I : Inv X pins σ H s) (q : Q (.bl k) H) (e : k = k') : EP X pins σ Q (.bool k') s := by
  subst e
  exact ⟨.bl k, H, I, rfl, q⟩
theorem op_eq : OpR X (compareOp .Eq) rEq := by
  intro pins s σ H x y v u Q I rx ry h
  obtain ⟨hs, q⟩ := h
  cases x with
  | non =>
    cases rx
    cases y with
    | non => cases ry; exact PySem.EqNone.eq_none_none (fin_bl I q (by simp))
    | bl j => cases ry; exact PySem.EqNone.eq_none_bool (fin_bl I q (by simp))
    | int j => obtain ⟨t', rfl⟩ := ry; exact PySem.EqNone.eq_none_int (fin_bl I q (by simp))
    | str j => obtain ⟨t', rfl⟩ := ry; exact PySem.EqNone.eq_none_str (fin_bl I q (by simp))
    | _ => exact absurd (show false = true from hs) Bool.false_ne_true
  | bl i =>
    cases rx
    cases y with
    | non => cases ry; exact PySem.EqNone.eq_bool_none (fin_bl I q (by simp))
    | bl j => cases ry; exact eq_bool (fin_bl I q dec_bl)
    | str j => obtain ⟨t', rfl⟩ := ry; exact PySem.EqMixed.eq_bool_str (fin_bl I q (by simp))
    | _ => exact absurd (show false = true from hs) Bool.false_ne_true
  | int i =>
    obtain ⟨t, rfl⟩ := rx
    cases y with
    | non => cases ry; exact PySem.EqNone.eq_int_none (fin_bl I q (by simp))
    | int j => obtain ⟨t', rfl⟩ := ry; exact eq_int (fin_bl I q dec_int)
    | str j => obtain ⟨t', rfl⟩ := ry; exact PySem.EqMixed.eq_int_str (fin_bl I q (by simp))
    | _ => exact absurd (show false = true from hs) Bool.false_ne_true
  | str i =>
    obtain ⟨t, rfl⟩ := rx
    cases y with
    | non => cases ry; exact PySem.EqNone.eq_str_none (fin_bl I q (by simp))
    | bl j => cases ry; exact PySem.EqMixed.eq_str_bool (fin_bl I q (by simp))
    | int j => obtain ⟨t', rfl⟩ := ry; exact PySem.EqMixed.eq_str_int (fin_bl I q (by simp))
    | str j => obtain ⟨t', rfl⟩ := ry; exact eq_str (fin_bl I q dec_str)
    | _ => exact absurd (show false = true from hs) Bool.false_ne_true
  | byt i =>
    obtain ⟨t, rfl⟩ := rx
    cases y with
    | byt j => obtain ⟨t', rfl⟩ := ry; exact PySem.W.eq_bytes (fin_bl I q dec_byt)
    | _ => exact absurd (show false = true from hs) Bool.false_ne_true
  | _ => cases y <;> exact absurd (show false = true from hs) Bool.false_ne_true
theorem op_ne : OpR X (compareOp .NotEq) rNe := by
  intro pins s σ H x y v u Q I rx ry h
  obtain ⟨hs, q⟩ := h
  cases x with
  | non =>
    cases rx
    cases y with
    | non => cases ry; exact PySem.EqNone.ne_none_none (fin_bl I q (by simp))
    | bl j => cases ry; exact PySem.EqNone.ne_none_bool (fin_bl I q (by simp))
    | int j => obtain ⟨t', rfl⟩ := ry; exact PySem.EqNone.ne_none_int (fin_bl I q (by simp))
    | str j => obtain ⟨t', rfl⟩ := ry; exact PySem.EqNone.ne_none_str (fin_bl I q (by simp))
    | _ => exact absurd (show false = true from hs) Bool.false_ne_true
  | bl i =>
    cases rx
    cases y with
    | non => cases ry; exact PySem.EqNone.ne_bool_none (fin_bl I q (by simp))
    | bl j => cases ry; exact ne_bool (fin_bl I q (congrArg not dec_bl))
    | str j => obtain ⟨t', rfl⟩ := ry; exact PySem.EqMixed.ne_bool_str (fin_bl I q (by simp))
    | _ => exact absurd (show false = true from hs) Bool.false_ne_true
  | int i =>
    obtain ⟨t, rfl⟩ := rx
    cases y with
    | non => cases ry; exact PySem.EqNone.ne_int_none (fin_bl I q (by simp))
    | int j => obtain ⟨t', rfl⟩ := ry; exact ne_int (fin_bl I q (congrArg not dec_int))
    | str j => obtain ⟨t', rfl⟩ := ry; exact PySem.EqMixed.ne_int_str (fin_bl I q (by simp))
    | _ => exact absurd (show false = true from hs) Bool.false_ne_true
  | str i =>
    obtain ⟨t, rfl⟩ := rx
    cases y with
    | non => cases ry; exact PySem.EqNone.ne_str_none (fin_bl I q (by simp))
    | bl j => cases ry; exact PySem.EqMixed.ne_str_bool (fin_bl I q (by simp))
    | int j => obtain ⟨t', rfl⟩ := ry; exact PySem.EqMixed.ne_str_int (fin_bl I q (by simp))
    | str j => obtain ⟨t', rfl⟩ := ry; exact ne_str (fin_bl I q (congrArg not dec_str))
    | _ => exact absurd (show false = true from hs) Bool.false_ne_true
  | byt i =>
    obtain ⟨t, rfl⟩ := rx
    cases y with
    | byt j => obtain ⟨t', rfl⟩ := ry; exact PySem.W.ne_bytes (fin_bl I q (congrArg not dec_byt))
    | _ => exact absurd (show false = true from hs) Bool.false_ne_true
  | _ => cases y <;> exact absurd (show false = true from hs) Bool.false_ne_true

theorem op_lt : OpR X (compareOp .Lt) (rI0 fun i j => .bl (decide (i < j))) := opB0 fun _ _ _ _ _ _ _ q => lt_int q
theorem op_gt : OpR X (compareOp .Gt) (rI0 fun i j => .bl (decide (j < i))) := opB0 fun _ _ _ _ _ _ _ q => gt_int q
theorem op_isN : OpR X (compareOp .Is) (fun x y H Q => y = .non ∧ Q (.bl (decide (x = .non))) H) := by
  intro pins s σ H x y v u Q I rx ry h
  obtain ⟨rfl, q⟩ := h
  cases ry
  refine is_none_gen (fin_bl I q ?_)
  cases x <;> first
    | (cases rx; rfl)
    | (obtain ⟨t, rfl⟩ := rx; rfl)
theorem nomark (b : Expr) {op : CmpOp} (h : op ≠ .In := by decide) (h2 : op ≠ .NotIn := by decide) : behindInMarks op b = false := by
  have e1 : (op == CmpOp.In) = false := by cases op <;> first | rfl | exact absurd rfl h
  have e2 : (op == CmpOp.NotIn) = false := by cases op <;> first | rfl | exact absurd rfl h2
  cases b <;> simp [behindInMarks, e1, e2]
theorem pe_cmpR {op : CmpOp} {r : R2} (ho : OpR X (compareOp op) r) (ha : PE X a ta) (hb : PE X b tb) (hm : behindInMarks op b = false) : PE X (.Compare a [op] [b] pos) (tOp r ta tb) := by
  intro pins s σ H Q I h
  exact wpAny_Compare1 (binT ha hb I h fun v u s2 x y H2 I2 rx ry q => ho pins s2 σ H2 x y v u Q I2 rx ry q) hm
def tTest (t : TE) : TT := fun σ H Q => t σ H fun x H' => ∃ k, x = .bl k ∧ Q k H'
theorem pt_cmpR {op : CmpOp} {r : R2} (ho : OpR X (compareOp op) r) (ha : PE X a ta) (hb : PE X b tb) (hm : behindInMarks op b = false) : PT X (.Compare a [op] [b] pos) (tTest (tOp r ta tb)) := by
  intro pins s σ H Q I h
  refine wpAny_isTrue_Compare1 (thn (ha pins s σ H _ I h) fun v s1 ⟨x, H1, I1, r1, q1⟩ => thn (hb pins s1 σ H1 _ I1 q1) fun u s2 ⟨y, H2, I2, r2, q2⟩ =>
    thn (ho pins s2 σ H2 x y v u _ I2 r1 r2 q2) fun c s3 ⟨z, H3, I3, r3, k, e, q3⟩ => ?_) hm
  subst e
  cases r3
  exact wpAny_truthy_bool ⟨H3, I3, q3⟩
def tChain (r r' : R2) (ta tb tc : TE) : TE := fun σ H Q => ta σ H fun x H1 => tb σ H1 fun y H2 => r x y H2 fun z H3 => ∃ k, z = .bl k ∧
  (if k = true then tc σ H3 fun w' H4 => r' y w' H4 Q else Q (.bl false) H3)
theorem line63 : (sizeLine : Nat) < 2 ^ 63 := by rw [sizeLine_eq]; decide
theorem vals1 {x : V} {us : List Value} (r : Vals [x] us) : ∃ u, us = [u] ∧ RelV x u := by
  cases r with
  | cons r1 r2 => cases r2; exact ⟨_, rfl, r1⟩
theorem vals2 {x y : V} {us : List Value} (r : Vals [x, y] us) : ∃ u w', us = [u, w'] ∧ RelV x u ∧ RelV y w' := by
  cases r with
  | cons r1 r2 =>
    cases r2 with
    | cons r3 r4 => cases r4; exact ⟨_, _, rfl, r1, r3⟩
theorem call_min2 (hc : X.calm = true) : CallR X (.builtin "min") (fun xs H Q => ∃ i j, xs = [.int i, .int j] ∧ Q (.int (if j < i then j else i)) H) := by
  intro pins s σ H xs us Q I r h
  obtain ⟨i, j, rfl, q⟩ := h
  obtain ⟨u, w', rfl, ⟨t, rfl⟩, ⟨t', rfl⟩⟩ := vals2 r
  refine min_two_ints (I.ok.hd hc) fun h' tk k => ⟨_, H, I.kept k, ?_, q⟩
  by_cases hj : j < i
  · rw [if_pos hj, if_pos hj]; exact ⟨_, rfl⟩
  · rw [if_neg hj, if_neg hj]; exact ⟨_, rfl⟩
theorem call_int1 : CallR X (.type "int") (fun xs H Q => (∃ i, xs = [.int i] ∧ Q (.int i) H) ∨ ∃ k, xs = [.bl k] ∧ Q (.int (if k then 1 else 0)) H) := by
  intro pins s σ H xs us Q I r h
  rcases h with ⟨i, rfl, q⟩ | ⟨k, rfl, q⟩
  · obtain ⟨u, rfl, t, rfl⟩ := vals1 r
    exact call_int_int ⟨.int i, H, I, ⟨_, rfl⟩, q⟩
  · obtain ⟨u, rfl, r1⟩ := vals1 r
    cases r1
    exact call_int_bool ⟨.int (if k then 1 else 0), H, I.tok _, ⟨_, rfl⟩, q⟩
def LenV (K : PySem.W.Frag) (x : V) (H : Hp) (n : Nat) : Prop :=
  match x with
  | .str y => y.length ≤ sizeLine ∧ n = y.length
  | .byt y => y.size ≤ sizeLine ∧ n = y.size
  | .ref p => (∃ xs, SqL K H p xs ∧ n = xs.length) ∨ ∃ xs, SqT K H p xs ∧ n = xs.length
  | _ => False
theorem call_len : CallR X (.builtin "len") (fun xs H Q => ∃ x n, xs = [x] ∧ LenV X.K x H n ∧ Q (.int n) H) := by
  intro pins s σ H xs us Q I r h
  obtain ⟨x, n, rfl, e, q⟩ := h
  obtain ⟨u, rfl, rx⟩ := vals1 r
  have hl := line63
  have hs : sizeLine = 16777216 := sizeLine_eq
  cases x with
  | str y =>
    obtain ⟨t, rfl⟩ := rx
    obtain ⟨hy, e'⟩ : y.length ≤ sizeLine ∧ n = y.length := e
    subst e'
    exact len_str (by omega) ⟨.int _, H, I.tok _, ⟨_, rfl⟩, q⟩
  | byt y =>
    obtain ⟨t, rfl⟩ := rx
    obtain ⟨hy, e'⟩ : y.size ≤ sizeLine ∧ n = y.size := e
    subst e'
    exact PySem.W.len_bytes (by omega) ⟨.int _, H, I.tok _, ⟨_, rfl⟩, q⟩
  | ref p =>
    cases rx
    have e' : (∃ xs, SqL X.K H p xs ∧ n = xs.length) ∨ ∃ xs, SqT X.K H p xs ∧ n = xs.length := e
    rcases e' with ⟨xs, hx, e'⟩ | ⟨xs, hx, e'⟩
    · subst e'
      obtain ⟨its, r', pl, hz⟩ := I.list hx
      have hlen := r'.length
      exact Calls.call_len_list pl.isList (by simp only [List.size_toArray]; omega) ⟨.int xs.length, H, I.tok _, ⟨_, by simp only [List.size_toArray]; rw [hlen]⟩, q⟩
    · subst e'
      obtain ⟨its, r', pl, hz⟩ := I.tuple hx
      have hlen := r'.length
      exact len_tuple pl (by simp only [List.size_toArray]; omega) ⟨.int xs.length, H, I.tok _, ⟨_, by simp only [List.size_toArray]; rw [hlen]⟩, q⟩
  | _ => exact (show False from e).elim
end
end L2

namespace L2
open PySem PySem.Spec PyProof.Rows

structure ObjM (h : Heap) (x dx C : Addr) (mA : Str → Option Value) : Prop where
  obj : h.get? x = some (PySem.W.instObj C dx)
  ns : h.Ns1 dx mA
  ne : dx ≠ x

theorem lookIn_ns {h : Heap} {dx : Addr} {mA : Str → Option Value} (n : h.Ns1 dx mA) : ∃ od, h.get? dx = some od ∧ ∀ name, PySem.W.lookIn name od = some (mA name) := by
  obtain ⟨o, es, ep, ho, hd, hk, _, hm⟩ := n
  refine ⟨o, ho, fun name => ?_⟩
  have e := hm name
  unfold nsFind findBy at e
  rw [← Array.find?_toList] at e
  unfold PySem.W.lookIn
  rw [hd]
  dsimp only
  split
  · rename_i y q
    rw [q] at e
    exact congrArg some e
  · rename_i q
    rw [q] at e
    have a : es.toList.any (·.refKey) = false := by
      rw [List.any_eq_false]
      intro y hy
      obtain ⟨z, t, hkey⟩ := hk y (Array.mem_toList_iff.mp hy)
      simp [DictEntry.refKey, hkey]
    have a' : ¬ es.toList.any (·.refKey) = true := by rw [a]; exact Bool.false_ne_true
    rw [if_neg a']
    exact congrArg some e

theorem ObjM.look {h : Heap} {x dx C : Addr} {mA : Str → Option Value} (I : ObjM h x dx C mA) : ∃ od, PySem.W.InstAt h x (PySem.W.instObj C dx) C (some od) ∧ ∀ name, PySem.W.lookIn name od = some (mA name) :=
  let ⟨od, ho, hl⟩ := lookIn_ns I.ns
  ⟨od, ⟨I.obj, rfl, rfl, ho⟩, hl⟩

section
variable {prog : Program} {w : World} {A : Around} {E : Value → Shared → Prop} {s : Shared} {K : PySem.W.Frag} {x dx C f : Addr} {mA : Str → Option Value} {name : Str} {v : Value}

theorem get_map {expr : Bool} {Q : Value → Shared → Prop} (X : K.In s.heap) (I : ObjM s.heap x dx C mA) (hg : PySem.W.plainGet K C name = true) (hh : PySem.W.hasDictIn K C = true)
    (ha : PySem.W.findIn K (.ref C) name = some none) (hv : mA name = some v) (hv' : PySem.W.handedIn v = true) (h : Q v { s with toks := s.toks + 1 }) :
    wpAny (model prog w) A (getAttr (.ref x) name expr) Q E s := by
  obtain ⟨od, J, hl⟩ := I.look
  exact PySem.W.get_value X J (PySem.W.plainGet_of hg).1 (PySem.W.findObj_own hh ha rfl (by rw [hl, hv])) hv' h

theorem get_meth {pl : Sem Bool} {Q : Value × List Value → Shared → Prop} (X : K.In s.heap) (I : ObjM s.heap x dx C mA) (hg : PySem.W.plainGet K C name = true)
    (hf : PySem.W.findIn K (.ref C) name = some (some (.ref f))) (ht : PySem.W.isFn K (.ref f) = true) (hv : mA name = none) (h : Q (.ref f, [.ref x]) s) :
    wpAny (model prog w) A (getMethod (.ref x) name pl) Q E s := by
  obtain ⟨od, J, hl⟩ := I.look
  exact PySem.W.method_fn X J (PySem.W.plainGet_of hg).1 (PySem.W.plainGet_of hg).2 hf (beq_iff_eq.mp ht) (by show (PySem.W.lookIn name od).map (·.isSome) = some false; rw [hl, hv]; rfl) h

theorem set_map {ns : List Str} {Q : Unit → Shared → Prop} (X : K.In s.heap) (I : ObjM s.heap x dx C mA)
    (hs : PySem.W.findIn K (.ref C) "__setattr__" = some (some (.builtin "object.__setattr__"))) (hp : PySem.W.plainOver K C = true) (ht : PySem.W.takerIn K C name = some none) (hh : PySem.W.hasDictIn K C = true)
    (hw : PySem.Within mA ns) (hsz : ns.length ≤ sizeLine)
    (h : ∀ h', ObjM h' x dx C (fun y => if y = name then some v else mA y) → Heap.SameBut dx s.heap h' → Q () { s with heap := h', toks := s.toks + 2 }) :
    wpAny (model prog w) A (setAttr (.ref x) name v) Q E s := by
  obtain ⟨od, J, hl⟩ := I.look
  refine PySem.W.set_plain X J hs (PySem.W.osa_open (s := { s with toks := s.toks + 1 }) (r := none) X J hp ht fun b => ?_)
  obtain ⟨cd, hc, hd'⟩ := PySem.W.any_some hh
  have hx : s.heap.get? x = some ⟨.ref C, some dx, .plain, #[]⟩ := I.obj
  refine wpAny_bind (wpAny_pure (wpAny_bind (wpAny_bind (wpAny_loadPart hx (wpAny_bind (PySem.W.Looks.here (s := { s with toks := s.toks + 1 }) (PySem.W.looks_clsIn X hc) ?_))))))
  rw [hd']
  refine wpAny_pure (a := some dx) (wpAny_bind (wpAny_pure (wpAny_bind ?_)))
  refine wpAny_nsSet1 (s := { s with toks := s.toks + 1 }) I.ns fun h' hn2 hs2 => ?_
  obtain ⟨oD, esD, epD, hoD, hdD, hcD⟩ := hn2.count (PySem.Within.cons name v hw)
  refine wpAny_bind (wpAny_lookBehind hoD (by rw [hdD]; exact pastItsLine_dict (Nat.le_trans hcD (by rw [List.length_cons]; omega))) ?_)
  exact wpAny_pure (h _ ⟨(hs2.2 _ (Ne.symm I.ne)).trans I.obj, hn2, I.ne⟩ hs2)

theorem make_map {R : Result → Shared → Prop} {vs : List Value} {kw : List (Str × Value)} (X : K.In s.heap) (hm : PySem.W.makesIn K C = true)
    (hi : PySem.W.findIn K (.ref C) "__init__" = some (some (.ref f))) (hf : PySem.W.typeIn K (.ref f) = some (.type "function"))
    (h : codeAny (model prog w) (A.under (.builtin "type.__call__" ⟨.ref C :: vs, kw⟩)) (.call (.ref f) ⟨.ref (s.heap.objs.size + 1) :: vs, kw⟩) (PySem.W.InitBack (s.heap.objs.size + 1) R)
      { s with heap := (s.heap.push PySem.W.emptyDict).push (PySem.W.instObj C s.heap.objs.size) }) :
    codeAny (model prog w) A (.call (.ref C) ⟨vs, kw⟩) R s := by
  obtain ⟨hh, g, d, t, os⟩ := s
  exact PySem.W.make_core (PySem.W.makes_of X hm) (PySem.W.looks_findIn X hi) (fun self => PySem.W.bind_fn X self hf) (.inl rfl) h
end

def putF (f : Str) (v : V) : List (Str × V) → List (Str × V)
  | [] => [(f, v)]
  | (g, x) :: r => if g = f then (g, v) :: r else (g, x) :: putF f v r
theorem lookup_putF (f g : Str) (v : V) : ∀ fs : List (Str × V), (putF f v fs).lookup g = if g = f then some v else fs.lookup g
  | [] => by
    show List.lookup g [(f, v)] = _
    by_cases h : g = f
    · have hb : (g == f) = true := beq_iff_eq.mpr h
      simp only [List.lookup, hb, if_pos h]
    · have hb : (g == f) = false := beq_eq_false_iff_ne.mpr h
      simp only [List.lookup, hb, if_neg h]
  | (k, x) :: r => by
    have ih := lookup_putF f g v r
    rw [show putF f v ((k, x) :: r) = (if k = f then (k, v) :: r else (k, x) :: putF f v r) from rfl]
    by_cases hk : k = f
    · rw [if_pos hk]
      by_cases h : g = k
      · have hb : (g == k) = true := beq_iff_eq.mpr h
        simp only [List.lookup, hb, if_pos (h.trans hk)]
      · have hb : (g == k) = false := beq_eq_false_iff_ne.mpr h
        simp only [List.lookup, hb, if_neg (fun e : g = f => h (e.trans hk.symm))]
    · rw [if_neg hk]
      by_cases h : g = k
      · have hb : (g == k) = true := beq_iff_eq.mpr h
        simp only [List.lookup, hb, if_neg (fun e : g = f => hk (h.symm.trans e))]
      · have hb : (g == k) = false := beq_eq_false_iff_ne.mpr h
        simp only [List.lookup, hb]
        exact ih
theorem keys_putF (f : Str) (v : V) : ∀ fs : List (Str × V), f ∈ (putF f v fs).map (·.1) ∧ ∀ g, g ∈ fs.map (·.1) → g ∈ (putF f v fs).map (·.1)
  | [] => ⟨by simp [putF], fun g h => by simp at h⟩
  | (k, x) :: r => by
    obtain ⟨i1, i2⟩ := keys_putF f v r
    rw [show putF f v ((k, x) :: r) = (if k = f then (k, v) :: r else (k, x) :: putF f v r) from rfl]
    by_cases hk : k = f
    · rw [if_pos hk]
      subst hk
      exact ⟨by simp, fun g h => by simpa using h⟩
    · rw [if_neg hk]
      refine ⟨?_, fun g h => ?_⟩
      · rw [List.map_cons]
        exact List.mem_cons_of_mem _ i1
      · rw [List.map_cons] at h ⊢
        rcases List.mem_cons.mp h with e | e
        · exact List.mem_cons.mpr (.inl e)
        · exact List.mem_cons_of_mem _ (i2 g e)
theorem length_putF (f : Str) (v : V) : ∀ fs : List (Str × V), (putF f v fs).length ≤ fs.length + 1
  | [] => by simp [putF]
  | (k, x) :: r => by
    have ih := length_putF f v r
    rw [show putF f v ((k, x) :: r) = (if k = f then (k, v) :: r else (k, x) :: putF f v r) from rfl]
    by_cases hk : k = f
    · rw [if_pos hk, List.length_cons, List.length_cons]; omega
    · rw [if_neg hk, List.length_cons, List.length_cons]; omega

theorem RelO.some_of {v : V} {o : Option Value} (r : RelO (some v) o) : ∃ u, o = some u ∧ RelV v u := by
  cases o with
  | none => exact (show False from r).elim
  | some u => exact ⟨u, rfl, r⟩
theorem RelO.none_of {o : Option Value} (r : RelO none o) : o = none := by
  cases o with
  | none => rfl
  | some u => exact (show False from r).elim
theorem handed_of {v : V} {u : Value} (r : RelV v u) : PySem.W.handedIn u = true := by
  cases v with
  | non => cases (show u = Value.none from r); rfl
  | bl b => cases (show u = Value.bool b from r); rfl
  | int i => obtain ⟨t, e⟩ := (show ∃ t, u = Value.int i t from r); cases e; rfl
  | str x => obtain ⟨t, e⟩ := (show ∃ t, u = Value.str x t from r); cases e; rfl
  | byt b => obtain ⟨t, e⟩ := (show ∃ t, u = Value.bytes b t from r); cases e; rfl
  | flt b => obtain ⟨t, e⟩ := (show ∃ t, u = Value.float b t from r); cases e; rfl
  | ref a => cases (show u = Value.ref a from r); rfl
  | ty n => cases (show u = Value.type n from r); rfl

section
variable {P : Program} {w : World} {H H' : Hp} {h h' : Heap} {a C dx : Addr} {fs fs' : List (Str × V)}
theorem ins_get (hok : HOk P w H h) (e : H a = some (.ins C dx fs)) : ∃ mA, ObjM h a dx C mA ∧ (∀ f, RelO (fs.lookup f) (mA f)) ∧ PySem.Within mA (fs.map (·.1)) ∧ fs.length ≤ 1000 ∧ H dx = some (.own a) := by
  obtain ⟨d, z, ne, ob, mA, n, r, q⟩ := (show ObjOk P w H h a (.ins C dx fs) from hok a _ e)
  exact ⟨mA, ⟨ob, n, ne⟩, r, q, z, d⟩
end

structure Cls (K : PySem.W.Frag) (C : Addr) : Prop where
  pg : PySem.W.plainGet K C Str.empty = true
  hd : PySem.W.hasDictIn K C = true
  po : PySem.W.plainOver K C = true
  sa : PySem.W.findIn K (.ref C) "__setattr__" = some (some (.builtin "object.__setattr__"))
theorem Cls.get {K : PySem.W.Frag} {C : Addr} (c : Cls K C) (f : Str) : PySem.W.plainGet K C f = true := c.pg
def NoAttr (K : PySem.W.Frag) (C : Addr) (f : Str) : Prop := PySem.W.findIn K (.ref C) f = some none
theorem NoAttr.taker {K : PySem.W.Frag} {C : Addr} {f : Str} (n : NoAttr K C f) : PySem.W.takerIn K C f = some none := by
  unfold PySem.W.takerIn
  rw [show PySem.W.findIn K (.ref C) f = some none from n]
  rfl
structure Meth (K : PySem.W.Frag) (C : Addr) (m : Str) (f : Addr) : Prop where
  at_ : PySem.W.findIn K (.ref C) m = some (some (.ref f))
  fn : PySem.W.isFn K (.ref f) = true
  kp : PySem.W.keepIn K (.ref f) = true

section
variable {X : Cx} {pins : List (Addr × Obj)} {σ : St} {H : Hp} {s : Shared} {a C dx : Addr} {fs : List (Str × V)} {f : Str} {v : V} {A : Around} {E : Value → Shared → Prop}

theorem getattr_ok {b : Bool} {Q : Value → Shared → Prop} (I : Inv X pins σ H s) (e : H a = some (.ins C dx fs)) (c : Cls X.K C) (n : NoAttr X.K C f) (l : fs.lookup f = some v)
    (h : ∀ u s', Inv X pins σ H s' → RelV v u → Q u s') : wpAny (model X.prog X.w) A (getAttr (.ref a) f b) Q E s := by
  obtain ⟨mA, O, r, _, _, _⟩ := ins_get I.hok e
  obtain ⟨u, hu, ru⟩ := RelO.some_of (v := v) (o := mA f) (by rw [← l]; exact r f)
  exact get_map I.kIn O (c.get f) c.hd n hu (handed_of ru) (h u _ (I.tok _) ru)

theorem getmeth_ok {m : Str} {g : Addr} {pl : Sem Bool} {Q : Value × List Value → Shared → Prop} (I : Inv X pins σ H s) (e : H a = some (.ins C dx fs)) (c : Cls X.K C) (k : Meth X.K C m g) (l : fs.lookup m = none)
    (h : Q (.ref g, [.ref a]) s) : wpAny (model X.prog X.w) A (getMethod (.ref a) m pl) Q E s := by
  obtain ⟨mA, O, r, _, _, _⟩ := ins_get I.hok e
  have hn : mA m = none := RelO.none_of (by rw [← l]; exact r m)
  exact get_meth I.kIn O (c.get m) k.at_ k.fn hn h

theorem setattr_ok {y : V} {u : Value} {Q : Unit → Shared → Prop} (I : Inv X pins σ H s) (e : H a = some (.ins C dx fs)) (c : Cls X.K C) (n : NoAttr X.K C f) (hl : fs.length < 1000) (ry : RelV y u)
    (h : ∀ s', Inv X pins σ (upd H a (.ins C dx (putF f y fs))) s' → Q () s') : wpAny (model X.prog X.w) A (setAttr (.ref a) f u) Q E s := by
  obtain ⟨mA, O, r, wi, _, ho⟩ := ins_get I.hok e
  have hz : (fs.map (·.1)).length ≤ sizeLine := by rw [List.length_map, sizeLine_eq]; omega
  refine set_map I.kIn O c.sa c.po n.taker c.hd wi hz fun h' O' sb => h _ ?_
  have hd : ∃ o, h'.get? dx = some o := let ⟨o, _, _, e', _⟩ := O'.ns; ⟨o, e'⟩
  refine I.write (x := a) (e := dx) (by rw [e]; exact True.intro) (.inr ho) (fun b q hb z => (sb.2 b hb).trans z) hd ?_
  refine ⟨by rw [upd_ne O.ne]; exact ho, ?_, O.ne, O'.obj, _, O'.ns, fun g => ?_, fun g hg => ?_⟩
  · have := length_putF f y fs; omega
  · show RelO ((putF f y fs).lookup g) (if g = f then some u else mA g)
    rw [lookup_putF]
    by_cases q : g = f
    · rw [if_pos q, if_pos q]; exact ry
    · rw [if_neg q, if_neg q]; exact r g
  · by_cases q : g = f
    · rw [q]; exact (keys_putF f y fs).1
    · refine (keys_putF f y fs).2 g (wi g fun z => hg ?_)
      show (if g = f then some u else mA g) = none
      rw [if_neg q]; exact z

theorem Inv.made (I : Inv X pins σ H s) : Inv X pins σ (upd (upd H s.heap.objs.size (.own (s.heap.objs.size + 1))) (s.heap.objs.size + 1) (.ins C s.heap.objs.size []))
    { s with heap := (s.heap.push PySem.W.emptyDict).push (PySem.W.instObj C s.heap.objs.size) } := by
  have e1 : (s.heap.push PySem.W.emptyDict).get? s.heap.objs.size = some PySem.W.emptyDict := Heap.get?_push_size s.heap rfl
  have e2 : ((s.heap.push PySem.W.emptyDict).push (PySem.W.instObj C s.heap.objs.size)).get? (s.heap.objs.size + 1) = some (PySem.W.instObj C s.heap.objs.size) := by
    have := Heap.get?_push_size (s.heap.push PySem.W.emptyDict) (o := PySem.W.instObj C s.heap.objs.size) rfl
    rwa [Heap.size_push] at this
  have e3 : (s.heap.push PySem.W.emptyDict).Ns s.heap.objs.size (fun _ => none) := ⟨PySem.W.emptyDict, #[], _, e1, rfl, (fun e he => absurd he (by simp)), fun _ => rfl⟩
  have I1 := I.laid (a := s.heap.objs.size) (o := .own (s.heap.objs.size + 1)) (h' := s.heap.push PySem.W.emptyDict) (t' := s.toks) (fun b u q => Heap.get?_push_of_some _ q) (Nat.le_refl _) ⟨_, e1⟩
  refine I1.laid (a := s.heap.objs.size + 1) (o := .ins C s.heap.objs.size []) (t' := s.toks) (fun b u q => Heap.get?_push_of_some _ q) (Nat.le_of_eq (Heap.size_push _ _)) ?_
  have ne : s.heap.objs.size ≠ s.heap.objs.size + 1 := Nat.ne_of_lt (Nat.lt_succ_self _)
  refine ⟨by rw [upd_ne ne, upd_same], Nat.zero_le _, ne, e2, fun _ => none, (Heap.Ns1.of_empty e3).at fun o q => Heap.get?_push_of_some _ q, fun _ => True.intro, fun y hy => absurd rfl hy⟩

theorem attr_of {prog : Program} {w : World} {env : Env} {e : Expr} {f : Str} {pos : Pos} {s : Shared} {Q : Value → Shared → Prop} (hb : attributeBase e f env (eval e env) = eval e env)
    (h : wpAny (model prog w) A (eval e env) (fun o s₁ => wpAny (model prog w) A (getAttr o f true) Q E s₁) E s) : wpAny (model prog w) A (eval (.Attribute e f pos) env) Q E s :=
  Attribute_any_ h (by rw [arm_eval_Attribute, hb])
end

def tFld (K : PySem.W.Frag) (ta : TE) (f : Str) : TE := fun σ H Q => ta σ H fun x H1 => ∃ a C dx fs v, x = .ref a ∧ H1 a = some (.ins C dx fs) ∧ Cls K C ∧ NoAttr K C f ∧ fs.lookup f = some v ∧ Q v H1
def sFld (K : PySem.W.Frag) (ta tv : TE) (f : Str) : TS := fun D σ H => tv σ H fun y H1 => ta σ H1 fun x H2 => ∃ a C dx fs, x = .ref a ∧ H2 a = some (.ins C dx fs) ∧ Cls K C ∧ NoAttr K C f ∧ fs.length < 1000 ∧
  D.nx σ (upd H2 a (.ins C dx (putF f y fs)))
section
variable {X : Cx} {o e value : Expr} {f : Str} {pos pos' tpos : Pos} {ta tv : TE}
theorem pe_fld (he : PE X e ta) (hb : attributeBase e f X.env (eval e X.env) = eval e X.env) : PE X (.Attribute e f pos) (tFld X.K ta f) := by
  intro pins s σ H Q I h
  refine attr_of hb (thn (he pins s σ H _ I h) fun u s1 ⟨x, H1, I1, rx, a, C, dx, fs, v, ex, ea, c, n, l, q⟩ => ?_)
  subst ex
  obtain rfl : u = Value.ref a := rx
  exact getattr_ok I1 ea c n l fun u' s2 I2 ru => ⟨v, H1, I2, ru, q⟩
theorem ps_fld (ha : PE X o ta) (hv : PE X value tv) (hs : swapsWith value (some (.Attribute o f pos')) pos.line X.env = pure false) : PS X (.Assign [.Attribute o f pos'] value pos) (sFld X.K ta tv f) := by
  intro pins s σ H D I h
  refine plainObj_wpAny_Assign_Attribute (thn (hv pins s σ H _ I h) fun u s1 ⟨y, H1, I1, ry, q⟩ => thn (ha pins s1 σ H1 _ I1 q) fun ov s2 ⟨x, H2, I2, rx, a, C, dx, fs, ex, ea, c, n, l, q2⟩ => ?_) hs
  subst ex
  obtain rfl : ov = Value.ref a := rx
  exact setattr_ok I2 ea c n l ry fun s3 I3 => ⟨σ, _, I3, q2⟩
end

section
variable {X : Cx} {pins : List (Addr × Obj)} {σ : St} {H : Hp} {s : Shared} {A : Around} {E : Value → Shared → Prop} {Q : Value → Shared → Prop} {c : Value} {b : Bool}
inductive TyOf (K : PySem.W.Frag) (H : Hp) : V → Value → Prop where
  | non : TyOf K H .non (.type "NoneType")
  | bl (x : Bool) : TyOf K H (.bl x) (.type "bool")
  | int (i : Int) : TyOf K H (.int i) (.type "int")
  | str (x : Str) : TyOf K H (.str x) (.type "str")
  | flt (x : UInt64) : TyOf K H (.flt x) (.type "float")
  | lst {a : Addr} {xs : List V} (e : H a = some (.lst xs)) : TyOf K H (.ref a) (.type "list")
  | frz {a : Addr} {o : Obj} {xs : List V} (e : H a = some (.frz o (.lst xs))) : TyOf K H (.ref a) (.type "list")
  | tup {a : Addr} {xs : List V} (e : H a = some (.tup xs)) : TyOf K H (.ref a) (.type "tuple")
  | dK {a : Addr} {kvs : List (Key × V)} (e : H a = some (.dK kvs)) : TyOf K H (.ref a) (.type "dict")
  | dT {a : Addr} {kvs : List (List Key × V)} (e : H a = some (.dT kvs)) : TyOf K H (.ref a) (.type "dict")
  | ins {a C dx : Addr} {fs : List (Str × V)} (e : H a = some (.ins C dx fs)) (cl : Cls K C) (ha : PySem.W.findIn K (.ref C) "__class__" = some (some (.builtin "object.__class__")))
      (hn : PySem.W.specialIn K (.builtin "object.__class__") "__get__" = some (some (.builtin "getset_descriptor.__get__"))) (htk : PySem.W.takesIn K (.builtin "object.__class__") = some true)
      (hm : PySem.W.mroIn K C (.type "object") = some true) : TyOf K H (.ref a) (.ref C)
theorem isinst_ok {x : V} {u t : Value} (I : Inv X pins σ H s) (rx : RelV x u) (ty : TyOf X.K H x t) (e : PySem.W.kitOne X.K t c = some b) (h : ∀ tk, Q (.bool b) { s with toks := tk }) :
    wpAny (model X.prog X.w) A (call (.builtin "isinstance") [u, c]) Q E s := by
  cases ty with
  | non => cases (show u = Value.none from rx); exact PySem.W.kia_one PySem.W.kitx_none I.kIn True.intro e (fun z => nomatch z) h
  | bl y => cases (show u = Value.bool y from rx); exact PySem.W.kia_one PySem.W.kitx_bool I.kIn True.intro e (fun z => nomatch z) h
  | int i => obtain ⟨t, q⟩ := (show ∃ t, u = Value.int i t from rx); cases q; exact PySem.W.kia_one PySem.W.kitx_int I.kIn True.intro e (fun z => nomatch z) h
  | str y => obtain ⟨t, q⟩ := (show ∃ t, u = Value.str y t from rx); cases q; exact PySem.W.kia_one PySem.W.kitx_str I.kIn True.intro e (fun z => nomatch z) h
  | flt y => obtain ⟨t, q⟩ := (show ∃ t, u = Value.float y t from rx); cases q; exact PySem.W.kia_one PySem.W.kitx_float I.kIn True.intro e (fun z => nomatch z) h
  | @lst a xs ea =>
    cases (show u = Value.ref a from rx)
    obtain ⟨_, _, n, _, h1⟩ := (show ObjOk X.prog X.w H s.heap a (.lst xs) from I.hok a _ ea)
    exact PySem.W.kia_one PySem.W.kitx_list I.kIn ⟨_, h1, rfl⟩ e (fun z => nomatch z) h
  | @frz a ob xs ea =>
    cases (show u = Value.ref a from rx)
    obtain ⟨_, _, _, n, _, h1⟩ := (show ObjOk X.prog X.w H s.heap a (.frz ob (.lst xs)) from I.hok a _ ea)
    exact PySem.W.kia_one PySem.W.kitx_list I.kIn ⟨_, h1, rfl⟩ e (fun z => nomatch z) h
  | @tup a xs ea =>
    cases (show u = Value.ref a from rx)
    obtain ⟨_, _, _, p⟩ := (show ObjOk X.prog X.w H s.heap a (.tup xs) from I.hok a _ ea)
    obtain ⟨o, h1, h2, _⟩ := p
    exact PySem.W.kia_one PySem.W.kitx_tuple I.kIn ⟨o, h1, h2⟩ e (fun z => nomatch z) h
  | @dK a kvs ea =>
    cases (show u = Value.ref a from rx)
    obtain ⟨_, _, vs, _, p⟩ := (show ObjOk X.prog X.w H s.heap a (.dK kvs) from I.hok a _ ea)
    obtain ⟨o, es, ep, h1, h2, _⟩ := p
    exact PySem.W.kia_one PySem.W.kitx_dict I.kIn ⟨o, h1, h2.1⟩ e (fun z => nomatch z) h
  | @dT a kvs ea =>
    cases (show u = Value.ref a from rx)
    obtain ⟨_, _, xs, _, o, es, ep, h1, h2, _⟩ := (show ObjOk X.prog X.w H s.heap a (.dT kvs) from I.hok a _ ea)
    exact PySem.W.kia_one PySem.W.kitx_dict I.kIn ⟨o, h1, h2.1⟩ e (fun z => nomatch z) h
  | @ins a C dx fs ea cl ha hn htk hm =>
    cases (show u = Value.ref a from rx)
    obtain ⟨mA, O, _⟩ := ins_get I.hok ea
    obtain ⟨od, J, _⟩ := O.look
    exact PySem.W.kia_one (PySem.W.kitx_own (cl.get _) cl.hd ha hn htk hm) I.kIn J e (fun z => nomatch z) h
end
end L2

namespace L2
open PySem PySem.Spec PyProof.Rows

structure Room (k : Nat) (A : Around) : Prop where
  hd : A.handled = none
  dp : A.depth + 3 * k + 5 < recursionLimit
  un : A.units + 16 * k + 200 < cLine
theorem Room.mono {j k : Nat} {A : Around} (r : Room k A) (h : j ≤ k) : Room j A := ⟨r.hd, by have := r.dp; omega, by have := r.un; omega⟩
theorem Room.deeper {k : Nat} {A : Around} (r : Room (k + 1) A) (env : Env) : Room k (A.deeper env) :=
  ⟨r.hd, by have := r.dp; show A.depth + 1 + 3 * k + 5 < _; omega, by have := r.un; show A.units + 3 + 16 * k + 200 < _; omega⟩
theorem make_depth {A : Around} {C : Addr} {us : List Value} {kw : List (Str × Value)} : (A.under (.builtin "type.__call__" ⟨.ref C :: us, kw⟩)).depth = A.depth + 1 := by
  first | rfl | simp [Around.under, Code.weight, Code.isCreation, Code.isGuard, Code.isCaller, Code.frames, Code.isFrame, guardIds]
theorem make_units {A : Around} {C : Addr} {us : List Value} {kw : List (Str × Value)} : (A.under (.builtin "type.__call__" ⟨.ref C :: us, kw⟩)).units = A.units + 1 := by
  first | rfl | simp [Around.under, Code.cUnits, Code.frames, Code.isFrame]
theorem Room.make {k : Nat} {A : Around} (r : Room (k + 1) A) (C : Addr) (us : List Value) (kw : List (Str × Value)) : Room k (A.under (.builtin "type.__call__" ⟨.ref C :: us, kw⟩)) :=
  ⟨r.hd, by have := r.dp; rw [make_depth]; omega, by have := r.un; rw [make_units]; omega⟩
theorem Room.depth {k : Nat} {A : Around} (r : Room k A) : A.depth < recursionLimit := by have := r.dp; omega
theorem Room.units {k : Nat} {A : Around} (r : Room k A) : A.units + 64 < cLine := by have := r.un; omega
def tNil : TA := fun _ H Q => Q [] H
def tCons (ta : TE) (tr : TA) : TA := fun σ H Q => ta σ H fun x H1 => tr σ H1 fun xs H2 => Q (x :: xs) H2
section
variable {X : Cx} {e : Expr} {es : List Expr} {te : TE} {t : TA} {pos : Pos}
theorem pa_nil : PA X [] tNil := fun _ _ _ _ H Q I h => Calls.spliced_nil ⟨[], H, I, .nil, h⟩
theorem pa_cons (ha : PE X e te) (hr : PA X es t) (hs : starEach (e :: es) X.env = (false, eval e X.env) :: starEach es X.env := by rfl) : PA X (e :: es) (tCons te t) := by
  intro pos pins s σ H Q I h
  rw [hs]
  show wpAny _ _ (spliced ((false, eval e X.env) :: backTo pos (starEach es X.env))) _ _ s
  refine Calls.spliced_cons (thn (ha pins s σ H _ I h) fun u s1 ⟨x, H1, I1, r1, q1⟩ => ?_)
  exact thn (hr pos pins s1 σ H1 _ I1 q1) fun us s2 ⟨xs, H2, I2, r2, q2⟩ => ⟨x :: xs, H2, I2, .cons r1 r2, q2⟩

def tTup (t : TA) : TE := fun σ H Q => t σ H fun xs H1 => xs.length ≤ sizeLine ∧ ∀ p, H1 p = none → Q (.ref p) (upd H1 p (.tup xs))
def tLst (t : TA) : TE := fun σ H Q => t σ H fun xs H1 => xs.length ≤ sizeLine ∧ ∀ p, H1 p = none → Q (.ref p) (upd H1 p (.lst xs))
theorem pe_tup {x1} (h : PA X es t) : PE X (.Tuple es x1 pos) (tTup t) := by
  intro pins s σ H Q I hq
  refine wpAny_Tuple_spliced (thn (h pos pins s σ H _ I hq) fun us s1 ⟨xs, H1, I1, r, z, q⟩ => ⟨by rw [← r.length]; exact z, ?_⟩)
  have hf : H1 s1.heap.objs.size = none := I1.hok.fresh (Nat.le_refl _)
  refine ⟨.ref s1.heap.objs.size, upd H1 s1.heap.objs.size (.tup xs), I1.laid (t' := s1.toks) (fun b u e => Heap.get?_push_of_some _ e) (Nat.le_refl _) ?_, rfl, q _ hf⟩
  exact ⟨z, us, r, ⟨_, Heap.get?_push_size _ rfl, rfl, _, rfl⟩⟩
theorem pe_lst (h : PA X es t) : PE X (.List es pos) (tLst t) := by
  intro pins s σ H Q I hq
  refine wpAny_List_spliced (thn (h pos pins s σ H _ I hq) fun us s1 ⟨xs, H1, I1, r, z, q⟩ => ⟨by rw [← r.length]; exact z, ?_⟩)
  have hf : H1 s1.heap.objs.size = none := I1.hok.fresh (Nat.le_refl _)
  refine ⟨.ref s1.heap.objs.size, upd H1 s1.heap.objs.size (.lst xs), I1.laid (t' := s1.toks) (fun b u e => Heap.get?_push_of_some _ e) (Nat.le_refl _) ?_, rfl, q _ hf⟩
  exact ⟨z, us, 0, r, Heap.get?_push_size _ rfl⟩
end

abbrev Sp := List V → Hp → VK → XK → Prop
abbrev CXT := List Env → Hp → Shared → XK → Value → Shared → Prop

structure Env0 (P : Program) (w : World) (K : PySem.W.Frag) (mg : Str → Option Value) (base : Heap) (A : Around) (outer : List Env) (s : Shared) (H : Hp) : Prop where
  frames : A.frames = some outer
  mod : Mod K mg base
  bs : ∀ b o, base.get? b = some o → s.heap.get? b = some o ∧ H b = none
  bsz : base.objs.size ≤ s.heap.objs.size
  funs : s.heap.FunFrames base outer
  frf : ∀ b ∈ frs outer, H b = none
  hok : HOk P w H s.heap
  bare : AllBare s.gens
def CE (outer : List Env) (P : Program) (w : World) (H : Hp) (s : Shared) (Q : VK) (u : Value) (s' : Shared) : Prop :=
  ∃ v H', s'.os = s.os ∧ AllBare s'.gens ∧ Un (frs outer) [] H H' s.heap s'.heap ∧ HOk P w H' s'.heap ∧ RelV v u ∧ Q v H'
def CR (CX : CXT) (outer : List Env) (P : Program) (w : World) (H : Hp) (s : Shared) (Q : VK) (E : XK) (r : Result) (s' : Shared) : Prop :=
  match r with
  | .ok (.ret u) => CE outer P w H s Q u s'
  | .ok _ => False
  | .error e => CX outer H s E e s'
structure FnOk (P : Program) (w : World) (K : PySem.W.Frag) (mg : Str → Option Value) (base : Heap) (CX : CXT) (k : Nat) (f : Addr) (fd : FuncData) (ps : List Str) (sp : Sp) : Prop where
  len : ∀ vs H Q E, sp vs H Q E → vs.length = ps.length
  run : ∀ (A : Around) (outer : List Env) (s : Shared) (H : Hp) (args : Args) (us : List Value) (vs : List V) (Q : VK) (E : XK), Room k A → Env0 P w K mg base A outer s H → BindsTo s fd args (ps.zip us) → Vals vs us → sp vs H Q E →
    codeAny (model P w) A (.call (.ref f) args) (CR CX outer P w H s Q E) s
theorem FnOk.mono {P : Program} {w : World} {K : PySem.W.Frag} {mg : Str → Option Value} {base : Heap} {CX : CXT} {j k : Nat} {f : Addr} {fd : FuncData} {ps : List Str} {sp : Sp} (F : FnOk P w K mg base CX j f fd ps sp) (h : j ≤ k) :
    FnOk P w K mg base CX k f fd ps sp := ⟨F.len, fun A outer s H args us vs Q E hr => F.run A outer s H args us vs Q E (hr.mono h)⟩
theorem Env0.make {P : Program} {w : World} {K : PySem.W.Frag} {mg : Str → Option Value} {base : Heap} {A : Around} {outer : List Env} {s : Shared} {H : Hp} (e : Env0 P w K mg base A outer s H) (C : Addr) (us : List Value) (kw : List (Str × Value)) :
    Env0 P w K mg base (A.under (.builtin "type.__call__" ⟨.ref C :: us, kw⟩)) outer s H := ⟨by first | exact e.frames | (simpa [Around.under, Code.envs, Code.isFrame, pushEnvs] using e.frames), e.mod, e.bs, e.bsz, e.funs, e.frf, e.hok, e.bare⟩
section
variable {X : Cx} {pins : List (Addr × Obj)} {σ : St} {H : Hp} {s s' : Shared}
theorem Inv.env0 (I : Inv X pins σ H s) : Env0 X.prog X.w X.K X.mg X.base X.A X.stack s H :=
  ⟨I.ok.frames, I.ok.mod, I.bs, Nat.le_trans I.ok.bsz I.sz, I.stack, I.stkFree, I.hok, I.bare⟩
theorem Inv.after {Q : VK} {u : Value} (I : Inv X pins σ H s) (h : CE X.stack X.prog X.w H s Q u s') : EP X pins σ Q u s' := by
  obtain ⟨v, H', os, bare, un, hok, r, q⟩ := h
  obtain ⟨hh, g, d, t, os'⟩ := s'
  obtain rfl : os' = s.os := os
  exact ⟨v, H', I.call (h' := hh) (g' := g) (d' := d) (t' := t) (ch := []) un hok bare (fun b z => absurd z (by simp)), r, q⟩
end

def tCall (sp : Sp) (dvs : List V) (E : XK) (t : TA) : TE := fun σ H Q => t σ H fun vs H1 => sp (vs ++ dvs) H1 Q E
def tMeth (C : Addr) (m : Str) (sp : Sp) (dvs : List V) (E : XK) (ta : TE) (t : TA) : TE := fun σ H Q => ta σ H fun x H1 => ∃ a dx fs, x = .ref a ∧ H1 a = some (.ins C dx fs) ∧ fs.lookup m = none ∧
  t σ H1 fun vs H2 => sp (x :: (vs ++ dvs)) H2 Q E
def tMake (C : Addr) (sp : Sp) (dvs : List V) (E : XK) (t : TA) : TE := fun σ H Q => t σ H fun vs H1 => ∀ x dx, H1 x = none → H1 dx = none → dx ≠ x →
  sp (.ref x :: (vs ++ dvs)) (upd (upd H1 dx (.own x)) x (.ins C dx [])) (fun v H2 => v = .non ∧ Q (.ref x) H2) E

def Binds (K : PySem.W.Frag) (fd : FuncData) (ps : List Str) (ds : List Value) : Prop :=
  ∀ (s : Shared) (us : List Value), K.In s.heap → (us ++ ds).length = ps.length → BindsTo s fd ⟨us, []⟩ (ps.zip (us ++ ds))
theorem Binds.all {K : PySem.W.Frag} {fd : FuncData} {ps : List Str} (h : ∀ us : List Value, us.length = ps.length → bindArgs fd ⟨us, []⟩ = pure (ps.zip us)) : Binds K fd ps [] := fun s us _ hl => by
  rw [List.append_nil] at hl ⊢
  exact .of_eq (h us hl)

def Passes (CX : CXT) (X : Cx) (E : XK) : Prop := ∀ (pins : List (Addr × Obj)) (σ : St) (H : Hp) (s : Shared) (e : Value) (s' : Shared), Inv X pins σ H s → CX X.stack H s E e s' → X.xe e s'

section
variable {X : Cx} {CX : CXT} {k : Nat} {f C : Addr} {fd : FuncData} {ps : List Str} {sp : Sp} {dvs : List V} {ds : List Value} {E : XK} {x m : Str} {p pos apos : Pos} {e o : Expr} {es : List Expr} {ta : TE} {t : TA}

theorem run_fn {pins : List (Addr × Obj)} {σ : St} {H : Hp} {s : Shared} {Q : VK} {us : List Value} {vs : List V} (F : FnOk X.prog X.w X.K X.mg X.base CX k f fd ps sp) (hr : Room k X.A) (hb : Binds X.K fd ps ds) (hd : Vals dvs ds) (hx : Passes CX X E)
    (I : Inv X pins σ H s) (r : Vals vs us) (h : sp (vs ++ dvs) H Q E) : wpAny (model X.prog X.w) X.A (call (.ref f) us) (EP X pins σ Q) X.xe s := by
  have r2 : Vals (vs ++ dvs) (us ++ ds) := r.append hd
  have hl : (us ++ ds).length = ps.length := by rw [← r2.length]; exact F.len _ _ _ _ h
  refine wpAny_call (codeAny_mono (F.run X.A X.stack s H ⟨us, []⟩ (us ++ ds) (vs ++ dvs) Q E hr I.env0 (hb s us I.kIn hl) r2 h) fun r s' hq => ?_)
  cases r with
  | error e => exact hx pins σ H s e s' I hq
  | ok fl =>
    cases fl with
    | ret u => exact I.after hq
    | next => exact False.elim hq
    | brk => exact False.elim hq
    | cont => exact False.elim hq

theorem pe_call (F : FnOk X.prog X.w X.K X.mg X.base CX k f fd ps sp) (hr : Room k X.A) (hg : Gl X x) (hm : X.mg x = some (.ref f)) (hk : PySem.W.keepIn X.K (.ref f) = true) (hb : Binds X.K fd ps ds) (hd : Vals dvs ds) (hx : Passes CX X E)
    (ha : PA X (e :: es) t) (hdb : (x == ("__debug__" : Str)) = false := by decide) (he : starEach (e :: es) X.env = (false, eval e X.env) :: starEach es X.env := by rfl) (hpl : (backTo pos (starEach es X.env)).any (·.1) = false := by rfl) :
    PE X (.Call (.Name x p) (e :: es) [] pos) (tCall sp dvs E t) := by
  intro pins s σ H Q I h
  refine wpAny_Call_Name_kw (ld_glob I hg hm ?_ hdb)
  refine PySem.W.callWith_K (h₀ := X.base) I.ok.mod.kin hk (thn (ha pos pins s σ H _ I h) fun us s1 ⟨vs, H1, I1, r, q⟩ => ⟨I1.kIn, ?_⟩) he hpl
  exact run_fn F hr hb hd hx I1 r q
theorem pe_meth {pl : Sem Bool} (he : PE X o ta) (c : Cls X.K C) (hm : Meth X.K C m f) (F : FnOk X.prog X.w X.K X.mg X.base CX k f fd ps sp) (hr : Room k X.A) (hb : Binds X.K fd ps ds) (hd : Vals dvs ds) (hx : Passes CX X E) (ha : PA X (e :: es) t)
    (hst : starEach (e :: es) X.env = (false, eval e X.env) :: starEach es X.env := by rfl) (hpl : (backTo pos (starEach es X.env)).any (·.1) = false := by rfl)
    (ht : eval (.Call (.Attribute o m apos) (e :: es) [] pos) X.env = (do
      let ov ← eval o X.env
      standAt apos.atName
      let (f, first) ← holding [ov] (getMethod ov m pl)
      callWith pos f first (backTo pos (starEach (e :: es) X.env)) (backToKw pos (keywordEach [] X.env))) := by rfl) :
    PE X (.Call (.Attribute o m apos) (e :: es) [] pos) (tMeth C m sp dvs E ta t) := by
  intro pins s σ H Q I h
  refine PySem.W.methodCall_KW (pl := pl) (thn (he pins s σ H _ I h) fun u s1 ⟨x, H1, I1, rx, a, dx, fs, ex, ea, l, q⟩ => ?_) ht
  subst ex
  obtain rfl : u = Value.ref a := rx
  refine getmeth_ok I1 ea c hm l ?_
  refine PySem.W.callWith_K (first := [.ref a]) (h₀ := X.base) I.ok.mod.kin hm.kp (thn (ha pos pins s1 σ H1 _ I1 q) fun us s2 ⟨vs, H2, I2, r, q2⟩ => ⟨I2.kIn, ?_⟩) hst hpl
  exact run_fn (us := .ref a :: us) (vs := .ref a :: vs) F hr hb hd hx I2 (.cons rfl r) q2
theorem pe_meth0 {pl : Sem Bool} (he : PE X o ta) (c : Cls X.K C) (hm : Meth X.K C m f) (F : FnOk X.prog X.w X.K X.mg X.base CX k f fd ps sp) (hr : Room k X.A) (hb : Binds X.K fd ps ds) (hd : Vals dvs ds) (hx : Passes CX X E)
    (ht : eval (.Call (.Attribute o m apos) [] [] pos) X.env = (do
      let ov ← eval o X.env
      standAt apos.atName
      let (f, first) ← holding [ov] (getMethod ov m pl)
      callWith pos f first (backTo pos (starEach [] X.env)) (backToKw pos (keywordEach [] X.env))) := by rfl) :
    PE X (.Call (.Attribute o m apos) [] [] pos) (tMeth C m sp dvs E ta tNil) := by
  intro pins s σ H Q I h
  refine PySem.W.methodCall_KW (pl := pl) (thn (he pins s σ H _ I h) fun u s1 ⟨x, H1, I1, rx, a, dx, fs, ex, ea, l, q⟩ => ?_) ht
  subst ex
  obtain rfl : u = Value.ref a := rx
  refine getmeth_ok I1 ea c hm l ?_
  exact PySem.W.callWith_K0 (first := [.ref a]) I1.kIn hm.kp (run_fn (us := [.ref a]) (vs := [.ref a]) F hr hb hd hx I1 (.cons rfl .nil) q)

structure Mk (K : PySem.W.Frag) (C f : Addr) : Prop where
  makes : PySem.W.makesIn K C = true
  init : PySem.W.findIn K (.ref C) "__init__" = some (some (.ref f))
  fn : PySem.W.isFn K (.ref f) = true
  kp : PySem.W.keepIn K (.ref C) = true

theorem run_make {pins : List (Addr × Obj)} {σ : St} {H : Hp} {s : Shared} {Q : VK} {us : List Value} {vs : List V} (M : Mk X.K C f) (F : FnOk X.prog X.w X.K X.mg X.base CX k f fd ps sp) (hr : Room (k + 1) X.A) (hb : Binds X.K fd ps ds) (hd : Vals dvs ds)
    (hx : Passes CX X E) (I : Inv X pins σ H s) (r : Vals vs us)
    (h : ∀ x dx, H x = none → H dx = none → dx ≠ x → sp (.ref x :: (vs ++ dvs)) (upd (upd H dx (.own x)) x (.ins C dx [])) (fun v H2 => v = .non ∧ Q (.ref x) H2) E) :
    wpAny (model X.prog X.w) X.A (call (.ref C) us) (EP X pins σ Q) X.xe s := by
  have hq := h (s.heap.objs.size + 1) s.heap.objs.size (I.hok.fresh (Nat.le_succ _)) (I.hok.fresh (Nat.le_refl _)) (Nat.ne_of_lt (Nat.lt_succ_self _))
  have I2 := Inv.made (C := C) I
  have r2 : Vals (V.ref (s.heap.objs.size + 1) :: (vs ++ dvs)) (Value.ref (s.heap.objs.size + 1) :: (us ++ ds)) := .cons rfl (r.append hd)
  have hl : (Value.ref (s.heap.objs.size + 1) :: us ++ ds).length = ps.length := by
    have e := r2.length
    rw [F.len _ _ _ _ hq] at e
    exact e.symm
  refine wpAny_call (make_map (f := f) I.kIn M.makes M.init (beq_iff_eq.mp M.fn) (codeAny_mono (F.run _ X.stack _ _ ⟨Value.ref (s.heap.objs.size + 1) :: us, []⟩ (Value.ref (s.heap.objs.size + 1) :: (us ++ ds)) _ _ E (hr.make C us [])
    (I2.env0.make C us []) (hb _ (Value.ref (s.heap.objs.size + 1) :: us) I2.kIn hl) r2 hq) fun r s' hq' => ?_))
  cases r with
  | error e => exact hx pins σ _ _ e s' I2 hq'
  | ok fl =>
    cases fl with
    | ret u =>
      obtain ⟨v, H', I3, rv, ev, q3⟩ := I2.after hq'
      subst ev
      exact ⟨rv, ⟨V.ref (s.heap.objs.size + 1), H', I3, rfl, q3⟩⟩
    | next => exact False.elim hq'
    | brk => exact False.elim hq'
    | cont => exact False.elim hq'
theorem pe_make (M : Mk X.K C f) (F : FnOk X.prog X.w X.K X.mg X.base CX k f fd ps sp) (hr : Room (k + 1) X.A) (hg : Gl X x) (hm : X.mg x = some (.ref C)) (hb : Binds X.K fd ps ds) (hd : Vals dvs ds) (hx : Passes CX X E)
    (ha : PA X (e :: es) t) (hdb : (x == ("__debug__" : Str)) = false := by decide) (he : starEach (e :: es) X.env = (false, eval e X.env) :: starEach es X.env := by rfl) (hpl : (backTo pos (starEach es X.env)).any (·.1) = false := by rfl) :
    PE X (.Call (.Name x p) (e :: es) [] pos) (tMake C sp dvs E t) := by
  intro pins s σ H Q I h
  refine wpAny_Call_Name_kw (ld_glob I hg hm ?_ hdb)
  refine PySem.W.callWith_K (h₀ := X.base) I.ok.mod.kin M.kp (thn (ha pos pins s σ H _ I h) fun us s1 ⟨vs, H1, I1, r, q⟩ => ⟨I1.kIn, ?_⟩) he hpl
  exact run_make M F hr hb hd hx I1 r q
end

section
variable {X : Cx} {CX : CXT} {k : Nat} {f C : Addr} {fd : FuncData} {ps ks : List Str} {sp : Sp} {E : XK} {x m : Str} {p pos apos kpos : Pos} {e o : Expr} {es : List Expr} {kws : List Keyword} {te ta : TE} {t tk : TA} {nm : Option Str}
variable {g : List Value → List Value → List Value} {gV : List V → List V → List V}
end

structure FnScope (N P : List Str) (sc : Scope) : Prop where
  kind : sc.kind = .function
  co : sc.isCoroutine = false
  gen : sc.isGenerator = false
  nd : N.Nodup
  pre : N.take P.length = P
  par : ∀ x ∈ P, sc.names.lookup x = some .local ∨ sc.names.lookup x = some .cell
  nofree : ∀ y ∈ sc.names, y.2 ≠ .free

theorem bindL_out {kindOf : Str → Option NameKind} {x : Str} : ∀ {binds : List (Str × Value)} {m : Str → Option Value}, (∀ v, (x, v) ∉ binds) → bindL kindOf binds m x = m x
  | [], _, _ => rfl
  | (n, v) :: r, m, h => by
    unfold bindL
    rw [bindL_out fun w hw => h w (List.mem_cons_of_mem _ hw)]
    split
    · have : x ≠ n := by rintro rfl; exact h v List.mem_cons_self
      simp [this]
    · rfl
theorem bindC_out {kindOf : Str → Option NameKind} {x : Str} : ∀ {binds : List (Str × Value)} {m : Str → Option Value}, (∀ v, (x, v) ∉ binds) → bindC kindOf binds m x = m x
  | [], _, _ => rfl
  | (n, v) :: r, m, h => by
    unfold bindC
    rw [bindC_out fun w hw => h w (List.mem_cons_of_mem _ hw)]
    split
    · rfl
    · have : x ≠ n := by rintro rfl; exact h v List.mem_cons_self
      simp [this]
theorem bindL_get {kindOf : Str → Option NameKind} {x : Str} {v : Value} : ∀ {P : List Str} {vs : List Value} {i : Nat} {m : Str → Option Value}, P.Nodup → P[i]? = some x → vs[i]? = some v → kindOf x = some .local →
    bindL kindOf (P.zip vs) m x = some v
  | [], _, _, _, _, h, _, _ => by simp at h
  | _ :: _, [], _, _, _, _, h, _ => by simp at h
  | p :: P, w :: vs, 0, m, nd, h1, h2, hk => by
    simp at h1 h2; subst h1; subst h2
    show bindL kindOf ((p, w) :: P.zip vs) m p = _
    unfold bindL
    rw [bindL_out fun v hv => (List.nodup_cons.mp nd).1 (List.of_mem_zip hv).1, if_pos hk]
    simp
  | p :: P, w :: vs, i + 1, m, nd, h1, h2, hk => by
    show bindL kindOf ((p, w) :: P.zip vs) m x = _
    unfold bindL
    exact bindL_get (i := i) (List.nodup_cons.mp nd).2 (by simpa using h1) (by simpa using h2) hk
theorem bindC_get {kindOf : Str → Option NameKind} {x : Str} {v : Value} : ∀ {P : List Str} {vs : List Value} {i : Nat} {m : Str → Option Value}, P.Nodup → P[i]? = some x → vs[i]? = some v → kindOf x ≠ some .local →
    bindC kindOf (P.zip vs) m x = some v
  | [], _, _, _, _, h, _, _ => by simp at h
  | _ :: _, [], _, _, _, _, h, _ => by simp at h
  | p :: P, w :: vs, 0, m, nd, h1, h2, hk => by
    simp at h1 h2; subst h1; subst h2
    show bindC kindOf ((p, w) :: P.zip vs) m p = _
    unfold bindC
    rw [bindC_out fun v hv => (List.nodup_cons.mp nd).1 (List.of_mem_zip hv).1, if_neg hk]
    simp
  | p :: P, w :: vs, i + 1, m, nd, h1, h2, hk => by
    show bindC kindOf ((p, w) :: P.zip vs) m x = _
    unfold bindC
    exact bindC_get (i := i) (List.nodup_cons.mp nd).2 (by simpa using h1) (by simpa using h2) hk

def start (N : List Str) (vs : List V) : St := vs.map some ++ List.replicate (N.length - vs.length) none

def cxOf (CX : CXT) (P : Program) (w : World) (K : PySem.W.Frag) (mg : Str → Option Value) (base : Heap) (N : List Str) (qual : Str) (scope : Scope) (f : Addr) (cd : Value) (A : Around) (outer : List Env) (s : Shared) (H : Hp) (E : XK) : Cx where
  prog := P
  w := w
  K := K
  mg := mg
  base := base
  A := A.deeper (envOfC qual scope s.heap.objs.size f cd)
  N := N
  s₀ := s
  H₀ := H
  env := envOfC qual scope s.heap.objs.size f cd
  outer := outer
  stack := envOfC qual scope s.heap.objs.size f cd :: outer
  ex := []
  calm := true
  fn := fun _ => true
  pn := []
  xe := fun e s' => wpAny (model P w) (A.deeper (envOfC qual scope s.heap.objs.size f cd)) (leaving (envOfC qual scope s.heap.objs.size f cd) e) (fun _ s'' => CX outer H s E e s'') (fun e' s'' => CX outer H s E e' s'') s'

theorem cell_has {sc : Scope} {n : Nat} {x : Str} (h : sc.names.lookup x = some .cell) : ∃ c, (cellsFrom n sc.names []).lookup x = some c := by
  have q := PySem.W.cellsFrom_some sc.names n [] (.inl h)
  exact Option.isSome_iff_exists.mp q

theorem inv_start {CX : CXT} {P : Program} {w : World} {K : PySem.W.Frag} {mg : Str → Option Value} {base : Heap} {N ps : List Str} {qual : Str} {scope : Scope} {f : Addr} {cd : Value} {A : Around} {outer : List Env} {s s1 : Shared} {H : Hp} {E : XK} {us : List Value} {vs : List V}
    (S : FnScope N ps scope) (hd : A.handled = none) (e0 : Env0 P w K mg base A outer s H) (hl : vs.length = ps.length) (r : Vals vs us)
    (x : InCallC s s.heap.objs.size (bindL (envOfC qual scope s.heap.objs.size f cd).kindOf (ps.zip us) fun _ => none) (cellsFrom (s.heap.objs.size + 1) scope.names []) (bindC (envOfC qual scope s.heap.objs.size f cd).kindOf (ps.zip us) fun _ => none) s1) :
    Inv (cxOf CX P w K mg base N qual scope f cd A outer s H E) [] (start N vs) H s1 := by
  have hpl : ps.length ≤ N.length := by have := congrArg List.length S.pre; rw [List.length_take] at this; omega
  obtain ⟨h1, tk, rfl, hk⟩ := x.done
  have noA : ∀ b : Addr, b ∉ (cxOf CX P w K mg base N qual scope f cd A outer s H E).ex := fun b z => absurd (show b ∈ ([] : List Addr) from z) (by simp)
  refine ⟨⟨e0.mod, S.kind, rfl, rfl, Nat.le_refl _, fun y z c h1 h2 => ?_, fun y hy => ?_, fun y c _ h => ?_, fun _ => hd, Around.frames_deeper e0.frames, .inr ⟨rfl, rfl⟩, fun b z => absurd z (noA b), e0.bs, e0.bsz, fun b _ _ => noA b, fun b z => absurd z (noA b), e0.funs, e0.frf⟩,
    rfl, e0.bare, Un.kept hk, ⟨_, x.toInCall.ns, fun i y v h1 h2 h3 => ?_⟩, fun y c h => ⟨_, x.cell y c h⟩, e0.hok.fresh (Nat.le_refl _), fun y c h => ?_, fun p hp => absurd (show p ∈ ([] : List (Addr × Obj)) from hp) (by simp), e0.hok.kept hk, ?_⟩
  · exact name_of_addr x.apart (PySem.mem_of_lookup h1) (PySem.mem_of_lookup h2)
  · have hy : scope.names.lookup y = some .cell ∨ scope.names.lookup y = some .free := hy
    rcases hy with hy | hy
    · exact cell_has hy
    · exact absurd rfl (S.nofree _ (PySem.mem_of_lookup hy))
  · exact Nat.le_of_lt (x.above y c (PySem.mem_of_lookup h))
  · have hi : i < vs.length := by
      unfold start at h2
      by_cases hi : i < vs.length
      · exact hi
      · rw [List.getElem?_append_right (by simpa using hi)] at h2
        rw [List.getElem?_replicate] at h2
        split at h2 <;> cases h2
    have ha : vs[i]? = some v := by
      unfold start at h2
      rw [List.getElem?_append_left (by simpa using hi), List.getElem?_map] at h2
      cases e : vs[i]? with
      | none => rw [e] at h2; cases h2
      | some a => rw [e] at h2; cases h2; rfl
    obtain ⟨u, hu, rv⟩ := r.get ha
    have hp : ps[i]? = some y := by
      rw [← S.pre, List.getElem?_take_of_lt (by omega)]; exact h1
    have ndP : ps.Nodup := by rw [← S.pre]; exact S.nd.sublist (List.take_sublist _ _)
    refine ⟨u, rv, ?_⟩
    rcases S.par y (List.mem_of_getElem? hp) with k | k
    · exact .inl ⟨k, bindL_get ndP hp hu k⟩
    · obtain ⟨c, e⟩ := cell_has (n := s.heap.objs.size + 1) k
      refine .inr ⟨.inl k, c, e, ?_⟩
      have q := x.cell y c e
      rw [bindC_get ndP hp hu (by show scope.names.lookup y ≠ _; rw [k]; decide)] at q
      exact q
  · exact e0.hok.fresh (Nat.le_of_lt (x.above y c (PySem.mem_of_lookup h)))
  · unfold start
    show _ = N.length
    rw [List.length_append, List.length_map, List.length_replicate]
    omega

theorem fn_of {CX : CXT} {P : Program} {w : World} {K : PySem.W.Frag} {mg : Str → Option Value} {base : Heap} {k : Nat} {f : Addr} {name qual : Str} {params : Arguments} {body : List Stmt} {scope : Scope} {dV kV doc pm cdv ct oc : Value} {an od : Option Addr}
    {osl : Array (Option Value)} {N ps : List Str} {sp : Sp} (lk : K.lookup f = some ⟨oc, od, .func (PySem.W.fnOf name qual params body scope dV kV doc pm an cdv ct), osl⟩) (hcd : PySem.W.codeIn K cdv qual = true) (S : FnScope N ps scope)
    (len : ∀ vs H Q E, sp vs H Q E → vs.length = ps.length)
    (hbody : ∀ (A : Around) (outer : List Env) (s : Shared) (H : Hp) (vs : List V) (Q : VK) (E : XK), Room k (A.deeper (envOfC qual scope s.heap.objs.size f cdv)) → sp vs H Q E →
      ∃ t, PSs (cxOf CX P w K mg base N qual scope f cdv A outer s H E) body t ∧ t { nx := fun _ H' => Q .non H', rt := Q } (start N vs) H) :
    FnOk P w K mg base CX (k + 1) f (PySem.W.fnOf name qual params body scope dV kV doc pm an cdv ct) ps sp := by
  refine ⟨len, fun A outer s H args us vs Q E hr e0 hb r hsp => ?_⟩
  have hl := len _ _ _ _ hsp
  have KX : K.In s.heap := e0.mod.kin.keeps fun b o e => (e0.bs b o e).1
  have lim : s.heap.NoLimit := e0.mod.nolimit.keeps fun b o e => (e0.bs b o e).1
  have hkind : ∀ y ∈ ps.zip us, scope.names.lookup y.1 = some .local ∨ (scope.names.lookup y.1 = some .cell ∧ ((cellsFrom (s.heap.objs.size + 1) scope.names []).lookup y.1).isSome = true) := fun ⟨n, v⟩ hy => by
    rcases S.par n (List.of_mem_zip hy).1 with q | q
    · exact .inl q
    · exact .inr ⟨q, PySem.W.cellsFrom_some _ _ _ (.inl q)⟩
  refine codeAny_call_function hr.depth (KX _ _ lk) rfl S.co S.gen rfl (PySem.W.codeRec_of KX hcd) (hb _ _ _ _ ?_)
  refine wpAny_newFunctionEnv_cells S.kind hkind fun env he s1 x => ?_
  subst he
  refine ⟨lim.keeps x.toInCall.keep, codeAny_func ?_⟩
  obtain ⟨t, ht, hq⟩ := hbody A outer s H vs Q E (hr.deeper _) hsp
  have I : Inv (cxOf CX P w K mg base N qual scope f cdv A outer s H E) [] (start N vs) H s1 := inv_start S hr.hd e0 hl r x
  refine wpAny_mono (ht [] s1 (start N vs) H _ I hq) (fun fl s' hs => ?_) fun e s' hs => hs
  have fin : ∀ {σ' : St} {H' : Hp} {v : V} {u : Value}, Inv (cxOf CX P w K mg base N qual scope f cdv A outer s H E) [] σ' H' s' → RelV v u → Q v H' → CE outer P w H s Q u s' :=
    fun {σ' H' v u} J rv q => ⟨v, H', J.os, J.bare, J.base, J.hok, rv, q⟩
  cases fl with
  | ret u =>
    obtain ⟨v, σ', H', J, rv, q⟩ := hs
    exact fin J rv q
  | next =>
    obtain ⟨σ', H', J, q⟩ := hs
    exact fin (v := V.non) (u := Value.none) J rfl q
  | brk =>
    obtain ⟨_, _, _, q⟩ := hs
    exact False.elim q
  | cont =>
    obtain ⟨_, _, _, q⟩ := hs
    exact False.elim q
end L2

namespace L2
open PySem PySem.Spec PyProof.Rows
section
variable {X : Cx} {x : Str} {p pos : Pos} {e : Expr} {es : List Expr} {t : TA} {id T : String} {r : List V → Hp → VK → Prop}

def tCB (r : List V → Hp → VK → Prop) (t : TA) : TE := fun σ H Q => t σ H fun vs H1 => r vs H1 Q
theorem pe_callB (hc : CallR X (.builtin id) r) (hg : Gl X x) (hm : X.mg x = none) (hv : bootBuiltins x = some (.builtin id)) (ha : PA X (e :: es) t) (hn : x ≠ "__name__" := by decide) (hdb : (x == ("__debug__" : Str)) = false := by decide)
    (he : starEach (e :: es) X.env = (false, eval e X.env) :: starEach es X.env := by rfl) (hpl : (backTo pos (starEach es X.env)).any (·.1) = false := by rfl) : PE X (.Call (.Name x p) (e :: es) [] pos) (tCB r t) := by
  intro pins s σ H Q I h
  refine wpAny_Call_Name_kw (ld_blt I hg hm hv ?_ hn hdb)
  exact PyProof.Rows.callWith_builtin1 (thn (ha pos pins s σ H _ I h) fun us s1 ⟨vs, H1, I1, r1, q1⟩ => hc pins s1 σ H1 vs us Q I1 r1 q1) he hpl
theorem pe_callTy (hc : CallR X (.type T) r) (hg : Gl X x) (hm : X.mg x = none) (hv : bootBuiltins x = some (.type T)) (ha : PA X (e :: es) t) (hn : x ≠ "__name__" := by decide) (hdb : (x == ("__debug__" : Str)) = false := by decide)
    (he : starEach (e :: es) X.env = (false, eval e X.env) :: starEach es X.env := by rfl) (hpl : (backTo pos (starEach es X.env)).any (·.1) = false := by rfl) : PE X (.Call (.Name x p) (e :: es) [] pos) (tCB r t) := by
  intro pins s σ H Q I h
  refine wpAny_Call_Name_kw (ld_blt I hg hm hv ?_ hn hdb)
  exact PyProof.Rows.callWith_type1 (thn (ha pos pins s σ H _ I h) fun us s1 ⟨vs, H1, I1, r1, q1⟩ => hc pins s1 σ H1 vs us Q I1 r1 q1) he hpl
end
end L2

namespace HT
open PySem PyProof.Rows

section
open PySem.SeqAt
open PySem.AutoSeq1 (wpAny_loadPart')
open PySem.MeetsSeq PySem.MeetsSeq2 PySem.MeetsSeq3

end

section
variable {prog : Program} {w : World} {A : Around} {E : Value → Shared → Prop} {s : Shared}

def sIx (n d : Nat) : Option Int → Nat
  | none => d
  | some v => if v < 0 then (v + (n : Int)).toNat else min v.toNat n
theorem sIx_none (n d : Nat) : sIx n d none = d := rfl
theorem sIx_nat (n d k : Nat) : sIx n d (some (k : Int)) = min k n := by
  show (if (k : Int) < 0 then ((k : Int) + (n : Int)).toNat else min (k : Int).toNat n) = min k n
  rw [if_neg (by omega), Int.toNat_natCast]
theorem sIx_le (n d : Nat) (hd : d ≤ n) (o : Option Int) : sIx n d o ≤ n := by
  cases o with
  | none => exact hd
  | some v =>
    show (if v < 0 then (v + (n : Int)).toNat else min v.toNat n) ≤ n
    by_cases hv : v < 0
    · rw [if_pos hv]; omega
    · rw [if_neg hv]; exact Nat.min_le_right _ _
theorem clip_eq (v : Int) (n d : Nat) : (if v < 0 then max (v + (n : Int)) 0 else min v (n : Int)) = ((sIx n d (some v) : Nat) : Int) := by
  show (if v < 0 then max (v + (n : Int)) 0 else min v (n : Int)) = (((if v < 0 then (v + (n : Int)).toNat else min v.toNat n) : Nat) : Int)
  by_cases hv : v < 0
  · simp only [if_pos hv]; omega
  · simp only [if_neg hv]; omega
theorem adjust_gen (lo hi : Option Int) (n : Nat) : Builtin.Slice.sliceAdjust lo hi 1 (n : Int) = (((sIx n 0 lo : Nat) : Int), ((sIx n n hi : Nat) : Int)) := by
  have h1 : ¬ ((1 : Int) < 0) := by omega
  unfold Builtin.Slice.sliceAdjust
  simp only [h1, if_false]
  refine Prod.ext ?_ ?_
  · cases lo with
    | none => rfl
    | some v => exact clip_eq v n 0
  · cases hi with
    | none => rfl
    | some v => exact clip_eq v n n
theorem places_gen (i j : Nat) : Builtin.Slice.slicePlaces (i : Int) (j : Int) 1 = j - i := by
  unfold Builtin.Slice.slicePlaces
  have h1 : (1 : Int) > 0 := by omega
  simp only [h1, if_true, Int.ediv_one]
  split <;> omega
theorem slicePart_ {v : Value} {o : Option Int} {Q : Option Int → Shared → Prop} (p : IsPart v o) (h : Q o s) : wpAny (model prog w) A (Builtin.Slice.slicePartIndex v) Q E s := by
  cases p with
  | none => exact slicePart_none h
  | int i t => exact slicePart_int h
theorem sliceApplied_gen {sl : Addr} {vl vu : Value} {lo hi : Option Int} {n : Nat} {Q : Int × Int × Nat → Shared → Prop} (hs : s.heap.IsSliceOf sl vl vu .none) (pl : IsPart vl lo) (pu : IsPart vu hi)
    (h : Q (((sIx n 0 lo : Nat) : Int), 1, sIx n n hi - sIx n 0 lo) s) : wpAny (model prog w) A (Builtin.Slice.sliceApplied (.ref sl) (pure (n : Int))) Q E s := by
  obtain ⟨os, hos, hcs, hds⟩ := id hs
  unfold Builtin.Slice.sliceApplied Builtin.Slice.sliceFields
  refine wpAny_bind (wpAny_bind (wpAny_field hos hds (x := vl) rfl (wpAny_bind (wpAny_field hos hds (x := vu) rfl (wpAny_bind (wpAny_field hos hds (x := .none) rfl (wpAny_pure ?_)))))))
  refine wpAny_bind (slicePart_none ?_)
  show wpAny _ _ (if ((1 : Int) == 0) = true then _ else _) _ _ s
  rw [if_neg (by decide)]
  refine wpAny_bind (slicePart_ pl (wpAny_bind (slicePart_ pu (wpAny_bind (wpAny_pure ?_)))))
  show wpAny _ _ (match Builtin.Slice.sliceAdjust lo hi 1 (n : Int) with | (lo, hi) => pure (lo, (1 : Int), Builtin.Slice.slicePlaces lo hi 1)) _ _ s
  rw [adjust_gen lo hi n]
  show wpAny _ _ (pure (((sIx n 0 lo : Nat) : Int), (1 : Int), Builtin.Slice.slicePlaces ((sIx n 0 lo : Nat) : Int) ((sIx n n hi : Nat) : Int) 1)) _ _ s
  rw [places_gen]
  exact wpAny_pure h
theorem pick_gen (xs : Array Value) (i k : Nat) : ((List.range k).filterMap fun (m : Nat) => xs[((i : Int) + (m : Int) * 1).toNat]?).toArray = ((xs.toList.drop i).take k).toArray := by
  have e : (fun (m : Nat) => xs[((i : Int) + (m : Int) * 1).toNat]?) = fun m => xs[i + m]? := by
    funext m
    have : ((i : Int) + (m : Int) * 1).toNat = i + m := by omega
    rw [this]
  rw [e]
  have := pick_run xs i k
  rw [List.filterMap_map] at this
  have e2 : ((fun x => xs[x]?) ∘ fun x => i + x) = fun m => xs[i + m]? := rfl
  rw [e2] at this
  rw [this]

theorem getItem_tuple_cut {t sl : Addr} {items : Array Value} {vl vu : Value} {lo hi : Option Int} {Q : Value → Shared → Prop} (ht : IsTup s.heap t items) (hs : s.heap.IsSliceOf sl vl vu .none) (pl : IsPart vl lo) (pu : IsPart vu hi)
    (hw : ¬ (sIx items.size 0 lo = 0 ∧ sIx items.size items.size hi = items.size))
    (h : Q (.ref s.heap.objs.size) { s with heap := s.heap.push { cls := .type "tuple", data := .seq ((items.toList.drop (sIx items.size 0 lo)).take (sIx items.size items.size hi - sIx items.size 0 lo)).toArray } })
    (hsz : items.size ≤ sizeLine) : wpAny (model prog w) A (getItem (.ref t) (.ref sl)) Q E s := by
  have htake : sizeOk (.seq ((items.toList.drop (sIx items.size 0 lo)).take (sIx items.size items.size hi - sIx items.size 0 lo)).toArray) := by
    show ((items.toList.drop (sIx items.size 0 lo)).take (sIx items.size items.size hi - sIx items.size 0 lo)).toArray.size ≤ sizeLine
    rw [List.size_toArray, List.length_take, List.length_drop, Array.length_toList]
    omega
  have hj : sIx items.size items.size hi ≤ items.size := sIx_le _ _ (Nat.le_refl _) hi
  obtain ⟨os, hos, hcs, hds⟩ := id hs
  have hTs : s.TypeIs (.ref sl) "slice" := ⟨os, hos, hcs⟩
  unfold getItem
  try with_reducible refine wpAny_holding ?_
  first | refine wpAny_bind (wpAny_pure ?_) | skip
  refine wpAny_bind (wpAny_sequenceKey ht.typeIs (by decide) ?_)
  refine wpAny_bind (wpAny_callSpecial?_slot (name := Str.ofString "__getitem__") ht.typeIs PyProof.Rows.slot_tuple_getitem
    (wpAny_call_entry PyProof.Rows.slot_tuple_getitem ht.typeIs entry_tuple_getitem ?_ (args_tuple_getitem _ _)))
  show wpAny _ _ (Builtin.Tuple.tupleItemsOf (.ref t) >>= _) _ _ s
  refine wpAny_bind (tupleItemsOf_ ht ?_)
  refine wpAny_bind (wpAny_typeOf hTs ?_)
  rw [if_pos (by decide)]
  refine wpAny_bind (sliceApplied_gen hs pl pu ?_)
  have hno : ¬ ((((sIx items.size 0 lo : Nat) : Int) == 0 && (1 : Int) == 1 && (sIx items.size items.size hi - sIx items.size 0 lo) == items.size) = true) := by
    intro q
    rw [Bool.and_eq_true, Bool.and_eq_true] at q
    have q1 : ((sIx items.size 0 lo : Nat) : Int) = 0 := eq_of_beq q.1.1
    have q2 : sIx items.size items.size hi - sIx items.size 0 lo = items.size := eq_of_beq q.2
    exact hw ⟨by omega, by omega⟩
  show wpAny _ _ (if (((sIx items.size 0 lo : Nat) : Int) == 0 && (1 : Int) == 1 && (sIx items.size items.size hi - sIx items.size 0 lo) == items.size) = true then _ else _) _ _ s
  rw [if_neg hno, pick_gen]
  first
    | exact wpAny_bind (m := Builtin.Tuple.tupleExact _) (wpAny_newObj_type (wpAny_pure ⟨_, rfl, wpAny_pure h⟩) htake)
    | exact wpAny_bind (m := Builtin.Tuple.tupleExact _) (wpAny_newObj_type (wpAny_bind (wpAny_pure (wpAny_pure ⟨_, rfl, wpAny_pure h⟩))) htake)
    | exact wpAny_bind (wpAny_bind (m := Builtin.Tuple.tupleExact _) (wpAny_newObj_type (wpAny_pure (wpAny_pure ⟨_, rfl, wpAny_pure h⟩)) htake))
    | exact wpAny_bind (wpAny_bind (m := Builtin.Tuple.tupleExact _) (wpAny_newObj_type (wpAny_pure ⟨_, rfl, wpAny_pure h⟩) htake))
end
end HT

namespace L2
open PySem PySem.Spec PyProof.Rows

abbrev TO := St → Hp → (Option Int → Hp → Prop) → Prop
def PO (X : Cx) (e : Option Expr) (t : TO) : Prop :=
  ∀ (pins : List (Addr × Obj)) (s : Shared) (σ : St) (H : Hp) (Q : Option Int → Hp → Prop), Inv X pins σ H s → t σ H Q →
    wpAny (model X.prog X.w) X.A (evalPart e X.env) (fun u s' => ∃ o H', Inv X pins σ H' s' ∧ IsPart u o ∧ Q o H') X.xe s
def tNoPart : TO := fun _ H Q => Q none H
def tPart (t : TE) : TO := fun σ H Q => t σ H fun x H1 => ∃ i, x = .int i ∧ Q (some i) H1

section
variable {X : Cx} {e : Expr} {te : TE} {lo hi : Option Expr} {tl th : TO} {pos p2 : Pos}

theorem po_none : PO X none tNoPart := by
  intro pins s σ H Q I h
  rw [evalPart_none]
  exact wpAny_pure ⟨none, H, I, .none, h⟩
theorem po_some (h : PE X e te) : PO X (some e) (tPart te) := by
  intro pins s σ H Q I hw
  rw [evalPart_some]
  refine thn (h pins s σ H _ I hw) fun u s1 ⟨x, H1, I1, r1, q1⟩ => ?_
  obtain ⟨i, rfl, q⟩ := q1
  obtain ⟨t, rfl⟩ := r1
  exact ⟨some i, H1, I1, .int i t, q⟩

def SlR (X : Cx) (r : V → Option Int → Option Int → Hp → VK → Prop) : Prop :=
  ∀ (pins : List (Addr × Obj)) (s : Shared) (σ : St) (H : Hp) (x : V) (v vl vu : Value) (lo hi : Option Int) (sl : Addr) (Q : VK), Inv X pins σ H s → RelV x v → s.heap.IsSliceOf sl vl vu .none → IsPart vl lo → IsPart vu hi → r x lo hi H Q →
    ∃ T id, typeLookup (.type T) "__getitem__" = pure (some (.builtin id)) ∧ s.TypeIs v T ∧ wpAny (model X.prog X.w) X.A (getItem v (.ref sl)) (EP X pins σ Q) X.xe s
def tSl (r : V → Option Int → Option Int → Hp → VK → Prop) (te : TE) (tl th : TO) : TE := fun σ H Q => te σ H fun x H1 => tl σ H1 fun l H2 => th σ H2 fun u H3 => r x l u H3 Q
theorem pe_slice {r : V → Option Int → Option Int → Hp → VK → Prop} (hr : SlR X r) (he : PE X e te) (hl : PO X lo tl) (hu : PO X hi th) : PE X (.Subscript e (.Slice lo hi none p2) pos) (tSl r te tl th) := by
  intro pins s σ H Q I h
  refine Subscript_ (thn (he pins s σ H _ I h) fun v s1 ⟨x, H1, I1, r1, q1⟩ => ?_)
  refine wpAny_Slice (thn (hl pins s1 σ H1 _ I1 q1) fun vl s2 ⟨l, H2, I2, pl, q2⟩ => thn (hu pins s2 σ H2 _ I2 q2) fun vu s3 ⟨u, H3, I3, pu, q3⟩ => ?_)
  rw [evalPart_none]
  refine wpAny_pure ?_
  have I4 : Inv X pins σ H3 { s3 with heap := s3.heap.push { cls := .type "slice", data := .fields #[vl, vu, .none] } } := I3.kept (t' := s3.toks) fun b ob q => Heap.get?_push_of_some _ q
  obtain ⟨T, id, hT, ht, hg⟩ := hr pins { s3 with heap := s3.heap.push { cls := .type "slice", data := .fields #[vl, vu, .none] } } σ H3 x v vl vu l u s3.heap.objs.size Q I4 r1 (Heap.IsSliceOf.new ..) pl pu q3
  show wpAny (model X.prog X.w) X.A (subscriptTail e (.Slice lo hi none p2) v (.ref s3.heap.objs.size)) (EP X pins σ Q) X.xe { s3 with heap := s3.heap.push { cls := .type "slice", data := .fields #[vl, vu, .none] } }
  exact tail_any (ops := [.ref s3.heap.objs.size, v]) ht hT hg (by with_unfolding_all rfl)

def cutV (xs : List V) (lo hi : Option Int) : List V := (xs.drop (HT.sIx xs.length 0 lo)).take (HT.sIx xs.length xs.length hi - HT.sIx xs.length 0 lo)
theorem cutV_length (xs : List V) (lo hi : Option Int) : (cutV xs lo hi).length ≤ xs.length := by
  unfold cutV
  rw [List.length_take, List.length_drop]
  omega
def rSlT (K : PySem.W.Frag) : V → Option Int → Option Int → Hp → VK → Prop := fun x lo hi H Q => ∃ a xs, x = .ref a ∧ SqT K H a xs ∧
  ¬ (HT.sIx xs.length 0 lo = 0 ∧ HT.sIx xs.length xs.length hi = xs.length) ∧ ∀ p, H p = none → Q (.ref p) (upd H p (.tup (cutV xs lo hi)))
theorem sl_tup : SlR X (rSlT X.K) := by
  intro pins s σ H x v vl vu lo hi sl Q I rx hs pl pu h
  obtain ⟨a, xs, rfl, hx, hw, q⟩ := h
  cases rx
  obtain ⟨its, r, ht, hz⟩ := I.tuple hx
  have hlen : its.toArray.size = xs.length := by rw [List.size_toArray]; exact r.length.symm
  refine ⟨"tuple", _, PyProof.Rows.slot_tuple_getitem.lookup, ht.typeIs, ?_⟩
  refine HT.getItem_tuple_cut ht hs pl pu (by rw [hlen]; exact hw) ?_ (by rw [hlen]; exact hz)
  rw [hlen]
  refine ⟨.ref s.heap.objs.size, _, I.laid (t' := s.toks) (o := .tup (cutV xs lo hi)) (fun b ob q => Heap.get?_push_of_some _ q) (Nat.le_refl _) ?_, rfl, q _ (I.hok.fresh (Nat.le_refl _))⟩
  exact ⟨Nat.le_trans (cutV_length xs lo hi) hz, _, (r.drop (HT.sIx xs.length 0 lo)).take (HT.sIx xs.length xs.length hi - HT.sIx xs.length 0 lo), IsTup.new _ _⟩

end
end L2

namespace L2
open PySem PySem.Spec PyProof.Rows

def ixN (n : Nat) (i : Int) : Option Nat := if 0 ≤ i then (if i < n then some i.toNat else none) else if -(n : Int) ≤ i then some (i + n).toNat else none
def atI {α : Type} (xs : List α) (i : Int) : Option α := (ixN xs.length i).bind fun j => xs[j]?
theorem ixN_seq {n : Nat} {i : Int} {j : Nat} (h : ixN n i = some j) : seqIndex? i n = some j ∧ j < n ∧ -(n : Int) ≤ i ∧ i < n := by
  unfold ixN at h
  by_cases h0 : 0 ≤ i
  · rw [if_pos h0] at h
    by_cases h1 : i < n
    · rw [if_pos h1] at h
      have e : i.toNat = j := Option.some.inj h
      exact ⟨by rw [seqIndex_of h0 h1, e], by omega, by omega, h1⟩
    · rw [if_neg h1] at h; cases h
  · rw [if_neg h0] at h
    by_cases h1 : -(n : Int) ≤ i
    · rw [if_pos h1] at h
      have e : (i + n).toNat = j := Option.some.inj h
      exact ⟨by rw [seqIndex_neg (by omega) h1, e], by omega, h1, by omega⟩
    · rw [if_neg h1] at h; cases h
theorem atI_get {α : Type} {xs : List α} {i : Int} {v : α} (h : atI xs i = some v) : ∃ j, seqIndex? i xs.length = some j ∧ xs[j]? = some v ∧ j < xs.length ∧ -(xs.length : Int) ≤ i ∧ i < xs.length := by
  unfold atI at h
  cases e : ixN xs.length i with
  | none => rw [e] at h; cases h
  | some j =>
    rw [e] at h
    obtain ⟨h1, h2, h3, h4⟩ := ixN_seq e
    exact ⟨j, h1, h, h2, h3, h4⟩
theorem atI_nat {α : Type} {xs : List α} {j : Nat} {v : α} (h : xs[j]? = some v) : atI xs (j : Int) = some v := by
  have hj : j < xs.length := (List.getElem?_eq_some_iff.mp h).1
  have e : ixN xs.length (j : Int) = some j := by
    unfold ixN
    rw [if_pos (by omega), if_pos (by omega)]; simp
  unfold atI; rw [e]; exact h
def PlainIx (b : Expr) : Prop := ∀ o i, subscripted b false o i = operate [o, i] (getItem o i)
def IxR (X : Cx) (r : R2) : Prop :=
  ∀ (value slice : Expr) (pins : List (Addr × Obj)) (s : Shared) (σ : St) (H : Hp) (x y : V) (v u : Value) (Q : VK), Inv X pins σ H s → RelV x v → RelV y u → r x y H Q →
    subscripted slice false v u = operate [v, u] (getItem v u) → wpAny (model X.prog X.w) X.A (subscriptTail value slice v u) (EP X pins σ Q) X.xe s
def MtR (X : Cx) (id : String) (r : V → List V → Hp → VK → Prop) : Prop :=
  ∀ (pins : List (Addr × Obj)) (s : Shared) (σ : St) (H : Hp) (x : V) (xs : List V) (v : Value) (us : List Value) (Q : VK), Inv X pins σ H s → RelV x v → Vals xs us → r x xs H Q →
    wpAny (model X.prog X.w) X.A (call (.builtin id) (v :: us)) (EP X pins σ Q) X.xe s
section
variable {X : Cx} {a b : Expr} {ta tb : TE} {pos : Pos}
theorem pe_ix {r : R2} (hr : IxR X r) (ha : PE X a ta) (hb : PE X b tb) (hs : PlainIx b) : PE X (.Subscript a b pos) (tOp r ta tb) := by
  intro pins s σ H Q I h
  exact Subscript_ (binT ha hb I h fun v u s2 x y H2 I2 rx ry q => hr a b pins s2 σ H2 x y v u Q I2 rx ry q (hs _ _))

def rIxL (K : PySem.W.Frag) : R2 := fun x y H Q => ∃ p xs i v, x = .ref p ∧ y = .int i ∧ SqL K H p xs ∧ atI xs i = some v ∧ Q v H
def rIxT (K : PySem.W.Frag) : R2 := fun x y H Q => ∃ p xs i v, x = .ref p ∧ y = .int i ∧ SqT K H p xs ∧ atI xs i = some v ∧ Q v H
theorem ix_list : IxR X (rIxL X.K) := by
  intro value slice pins s σ H x y v u Q I rx ry h hs
  obtain ⟨p, xs, i, z, rfl, rfl, hq, he, q⟩ := h
  cases rx
  obtain ⟨t, rfl⟩ := ry
  obtain ⟨its, r, pl, hz⟩ := I.list hq
  obtain ⟨j, h1, h2, h3, h4, h5⟩ := atI_get he
  obtain ⟨w, ew, rw'⟩ := r.get h2
  have hl := r.length
  have hn := line63
  have fin : EP X pins σ Q w s := ⟨z, H, I, rw', q⟩
  by_cases h0 : 0 ≤ i
  · have hj : i.toNat = j := by
      rw [seqIndex_of h0 h5] at h1
      exact Option.some.inj h1
    exact item_listR pl.isList h0 (by omega) (by rw [hj]; simpa using ew) fin hs
  · have hj : (i + (its.toArray.size : Int)).toNat = j := by
      rw [seqIndex_neg (by omega) h4] at h1
      rw [List.size_toArray, ← hl]
      exact Option.some.inj h1
    exact subscriptTail_builtinR (x := w) pl.isList.typeIs slot_list_getitem.lookup
      (wpAny_getItem_list_neg (Q := fun r s' => r = w ∧ EP X pins σ Q r s') pl.isList (by omega) (by rw [List.size_toArray] <;> omega) (by omega) (by rw [hj]; simpa using ew) ⟨rfl, fin⟩) hs
theorem ix_tup : IxR X (rIxT X.K) := by
  intro value slice pins s σ H x y v u Q I rx ry h hs
  obtain ⟨p, xs, i, z, rfl, rfl, hq, he, q⟩ := h
  cases rx
  obtain ⟨t, rfl⟩ := ry
  obtain ⟨its, r, pl, hz⟩ := I.tuple hq
  obtain ⟨j, h1, h2, h3, h4, h5⟩ := atI_get he
  obtain ⟨w, ew, rw'⟩ := r.get h2
  have hl := r.length
  have hn := line63
  have fin : EP X pins σ Q w s := ⟨z, H, I, rw', q⟩
  exact subscriptTail_builtinR (x := w) pl.typeIs slot_tuple_getitem.lookup
    (getItem_tuple (j := j) (Q := fun r s' => r = w ∧ EP X pins σ Q r s') pl (by omega) (by omega) (by rw [List.size_toArray, ← hl]; exact h1) (by simpa using ew) ⟨rfl, fin⟩) hs
theorem Inv.lst {pins : List (Addr × Obj)} {σ : St} {H : Hp} {s : Shared} {p : Addr} {xs : List V} (I : Inv X pins σ H s) (h : H p = some (.lst xs)) :
    ∃ (its : List Value) (n : Nat), Vals xs its ∧ s.heap.get? p = some { cls := .type "list", data := .seq its.toArray n } ∧ xs.length ≤ sizeLine := by
  obtain ⟨z, its, n, r, e⟩ := I.hok p _ h
  exact ⟨its, n, r, e, z⟩
def flatV : V → Bool
  | .non => true
  | .bl _ => true
  | .int _ => true
  | .str _ => true
  | _ => false
def eqV : V → V → Bool
  | .non, .non => true
  | .bl a, .bl b => a == b
  | .bl a, .int b => (if a then 1 else 0) == b
  | .int a, .bl b => a == (if b then 1 else 0)
  | .int a, .int b => a == b
  | .str a, .str b => a == b
  | _, _ => false
theorem eqAt_V {A : Around} {s : Shared} {y x : V} {u v : Value} (ry : RelV y u) (rx : RelV x v) (fy : flatV y = true) (fx : flatV x = true) : SeqAt.EqAt A s u v (eqV y x) := by
  cases y with
  | non =>
    cases ry
    cases x with
    | non => cases rx; exact SeqAt.EqAt.same _
    | bl b => cases rx; exact SeqAt.EqAt.none_bool b
    | int b => obtain ⟨t, rfl⟩ := rx; exact SeqAt.EqAt.none_int b t
    | str b => obtain ⟨t, rfl⟩ := rx; exact SeqAt.EqAt.none_str b t
    | _ => exact absurd (show false = true from fx) Bool.false_ne_true
  | bl a =>
    cases ry
    cases x with
    | non => cases rx; exact SeqAt.EqAt.bool_none a
    | bl b => cases rx; exact SeqAt.EqAt.bool_bool a b
    | int b => obtain ⟨t, rfl⟩ := rx; exact SeqAt.EqAt.bool_int a b t
    | str b => obtain ⟨t, rfl⟩ := rx; exact SeqAt.EqAt.bool_str a b t
    | _ => exact absurd (show false = true from fx) Bool.false_ne_true
  | int a =>
    obtain ⟨t', rfl⟩ := ry
    cases x with
    | non => cases rx; exact SeqAt.EqAt.int_none a t'
    | bl b => cases rx; exact SeqAt.EqAt.int_bool a t' b
    | int b => obtain ⟨t, rfl⟩ := rx; exact SeqAt.EqAt.int_int a t' b t
    | str b => obtain ⟨t, rfl⟩ := rx; exact SeqAt.EqAt.int_str a t' b t
    | _ => exact absurd (show false = true from fx) Bool.false_ne_true
  | str a =>
    obtain ⟨t', rfl⟩ := ry
    cases x with
    | non => cases rx; exact SeqAt.EqAt.str_none a t'
    | bl b => cases rx; exact SeqAt.EqAt.str_bool a t' b
    | int b => obtain ⟨t, rfl⟩ := rx; exact SeqAt.EqAt.str_int a t' b t
    | str b => obtain ⟨t, rfl⟩ := rx; exact SeqAt.EqAt.str_str a t' b t
    | _ => exact absurd (show false = true from fx) Bool.false_ne_true
  | _ => exact absurd (show false = true from fy) Bool.false_ne_true
def eqU (x : V) (u : Value) : Bool := match u with
  | .none => eqV .non x
  | .bool b => eqV (.bl b) x
  | .int i _ => eqV (.int i) x
  | .str z _ => eqV (.str z) x
  | _ => false
theorem eqU_of {x y : V} {u : Value} (r : RelV y u) (f : flatV y = true) : eqU x u = eqV y x := by
  cases y with
  | non => cases r; rfl
  | bl b => cases r; rfl
  | int i => obtain ⟨t, rfl⟩ := r; rfl
  | str z => obtain ⟨t, rfl⟩ := r; rfl
  | _ => exact absurd (show false = true from f) Bool.false_ne_true
theorem any_eqU {x : V} : ∀ {xs : List V} {us : List Value}, Vals xs us → xs.all flatV = true → us.any (eqU x) = xs.any fun y => eqV y x
  | _, _, .nil, _ => rfl
  | y :: xs, u :: us, .cons r t, f => by
    rw [List.all_cons, Bool.and_eq_true] at f
    rw [List.any_cons, List.any_cons, eqU_of r f.1, any_eqU t f.2]
theorem mem_eqAt {A : Around} {s : Shared} {x : V} {v : Value} (rx : RelV x v) (fx : flatV x = true) : ∀ {xs : List V} {us : List Value}, Vals xs us → xs.all flatV = true → ∀ u ∈ us, SeqAt.EqAt A s u v (eqU x u)
  | _, _, .nil, _ => fun u hu => by cases hu
  | y :: xs, u :: us, .cons r t, f => fun u' hu => by
    rw [List.all_cons, Bool.and_eq_true] at f
    rcases List.mem_cons.mp hu with rfl | hu
    · rw [eqU_of r f.1]; exact eqAt_V r rx f.1 fx
    · exact mem_eqAt rx fx t f.2 u' hu
def inV (x : V) (xs : List V) : Bool := xs.any fun y => eqV y x
def rIn (K : PySem.W.Frag) (neg : Bool) : R2 := fun x y H Q => ∃ p xs, y = .ref p ∧ (SqL K H p xs ∨ SqT K H p xs) ∧ flatV x = true ∧ xs.all flatV = true ∧ Q (.bl (if neg then !inV x xs else inV x xs)) H
theorem op_in_seq : OpR X (compareOp .In) (rIn X.K false) := by
  intro pins s σ H x y v u Q I rx ry h
  obtain ⟨p, xs, rfl, hq, fx, fs, q⟩ := h
  cases ry
  rcases hq with hq | hq
  · obtain ⟨its, r, pl, hz⟩ := I.list hq
    refine SeqAt.in_listAt (eqU x) pl.isList (fun w hw => mem_eqAt rx fx r fs w (by simpa using hw)) ⟨.bl _, H, I, rfl, ?_⟩
    rw [show its.toArray.any (eqU x) = its.any (eqU x) by simp, any_eqU r fs]
    exact q
  · obtain ⟨its, r, pl, hz⟩ := I.tuple hq
    refine SeqAt.in_tupleAt (eqU x) pl (fun w hw => mem_eqAt rx fx r fs w (by simpa using hw)) ⟨.bl _, H, I, rfl, ?_⟩
    rw [show its.toArray.any (eqU x) = its.any (eqU x) by simp, any_eqU r fs]
    exact q
theorem call_list_of : CallR X (.type "list") (fun xs H Q => ∃ p ys, xs = [.ref p] ∧ (SqL X.K H p ys ∨ SqT X.K H p ys) ∧ ∀ l, H l = none → Q (.ref l) (upd H l (.lst ys))) := by
  intro pins s σ H xs us Q I r h
  obtain ⟨p, ys, rfl, hq, q⟩ := h
  obtain ⟨u, rfl, rx⟩ := vals1 r
  cases rx
  have fin : ∀ (its : List Value), Vals ys its → ys.length ≤ sizeLine → ∀ (h' : Heap) (c' : Nat), (∀ b o', s.heap.get? b = some o' → h'.get? b = some o') →
      h'.get? s.heap.objs.size = some { cls := .type "list", dict := none, data := .seq its.toArray c', slots := #[] } → EP X pins σ Q (.ref s.heap.objs.size) { s with heap := h' } := fun its r' hz h' c' kp e =>
    ⟨.ref s.heap.objs.size, _, I.laid (t' := s.toks) kp (Nat.le_refl _) (show ObjOk X.prog X.w _ h' _ (.lst ys) from ⟨hz, its, c', r', e⟩), rfl, q _ (I.hok.fresh (Nat.le_refl _))⟩
  rcases hq with hq | hq
  · obtain ⟨its, r', pl, hz⟩ := I.list hq
    have hlen := r'.length
    obtain ⟨o, ho, hc, n, hd⟩ := pl.isList
    exact call_list_seq p (.inl rfl) ho hc hd (fun h' c' kp e => fin its r' hz h' c' kp e) (by simp only [List.size_toArray] <;> omega)
  · obtain ⟨its, r', pl, hz⟩ := I.tuple hq
    have hlen := r'.length
    obtain ⟨o, ho, hc, n, hd⟩ := pl
    exact call_list_seq p (.inr rfl) ho hc hd (fun h' c' kp e => fin its r' hz h' c' kp e) (by simp only [List.size_toArray] <;> omega)
theorem call_tuple_of : CallR X (.type "tuple") (fun xs H Q => ∃ p ys, xs = [.ref p] ∧ ((SqL X.K H p ys ∧ ∀ l, H l = none → Q (.ref l) (upd H l (.tup ys))) ∨ (SqT X.K H p ys ∧ Q (.ref p) H))) := by
  intro pins s σ H xs us Q I r h
  obtain ⟨p, ys, rfl, h⟩ := h
  obtain ⟨u, rfl, rx⟩ := vals1 r
  cases rx
  rcases h with ⟨hq, q⟩ | ⟨hq, q⟩
  · obtain ⟨its, r', pl, hz⟩ := I.list hq
    have hlen := r'.length
    refine call_tuple_list pl.isList (fun h' kp => ?_) (by simp only [List.size_toArray] <;> omega)
    have I1 : Inv X pins σ H { s with heap := h' } := I.kept (t' := s.toks) kp
    have I2 : Inv X pins σ (upd H h'.objs.size (.tup ys)) { s with heap := h'.push { cls := .type "tuple", data := .seq its.toArray } } :=
      I1.laid (t' := s.toks) (fun b o e => Heap.get?_push_of_some _ e) (Nat.le_refl _) (show ObjOk X.prog X.w _ _ _ (.tup ys) from ⟨hz, its, r', IsTup.new _ _⟩)
    exact ⟨.ref h'.objs.size, _, I2, rfl, q _ (I1.hok.fresh (Nat.le_refl _))⟩
  · obtain ⟨its, r', pl, hz⟩ := I.tuple hq
    exact call_tuple_same pl ⟨.ref p, H, I, rfl, q⟩

def tyV (K : PySem.W.Frag) (T : String) (x : V) (H : Hp) : Prop := match x with
  | .str _ => T = "str"
  | .int _ => T = "int"
  | .ref p => (T = "list" ∧ ∃ xs, SqL K H p xs) ∨ (T = "tuple" ∧ ∃ o, K.lookup p = some o ∧ o.cls = .type "tuple" ∧ o.dict = none) ∨
      (T = "dict" ∧ ((∃ kvs, H p = some (.dK kvs)) ∨ ∃ kvs, H p = some (.dT kvs))) ∨ (T = "set" ∧ ∃ S n, H p = some (.set S n))
  | _ => False
theorem tyV_is {pins : List (Addr × Obj)} {σ : St} {H : Hp} {s : Shared} {T : String} {x : V} {v : Value} (I : Inv X pins σ H s) (r : RelV x v) (ty : tyV X.K T x H) :
    s.TypeIs v T ∧ ∀ a, v = .ref a → ∃ ob, s.heap.get? a = some ob ∧ ob.dict = none := by
  cases x with
  | str z =>
    obtain ⟨t, rfl⟩ := r
    cases (show T = "str" from ty)
    exact ⟨typeIs_str s z t, fun _ e => nomatch e⟩
  | int i =>
    obtain ⟨t, rfl⟩ := r
    cases (show T = "int" from ty)
    exact ⟨typeIs_int s i t, fun _ e => nomatch e⟩
  | ref p =>
    cases r
    rcases ty with ⟨rfl, xs, hq⟩ | ⟨rfl, o, hk, hc, hd⟩ | ⟨rfl, hk⟩ | ⟨rfl, S, n, hk⟩
    · obtain ⟨its, _, pl, _⟩ := I.list hq
      refine ⟨pl.isList.typeIs, fun a e => ?_⟩
      cases e
      obtain ⟨o, n, e, c, hd, _⟩ := pl
      exact ⟨o, e, hd⟩
    · refine ⟨⟨o, I.kIn p o hk, hc⟩, fun a e => ?_⟩
      cases e
      exact ⟨o, I.kIn _ o hk, hd⟩
    · have z : ∃ o, s.heap.get? p = some o ∧ o.ExactDict := by
        rcases hk with ⟨kvs, hk⟩ | ⟨kvs, hk⟩
        · obtain ⟨_, _, _, _, o, _, _, e, ex, _⟩ := I.hok p _ hk
          exact ⟨o, e, ex⟩
        · obtain ⟨_, _, _, _, o, _, _, e, ex, _⟩ := I.hok p _ hk
          exact ⟨o, e, ex⟩
      obtain ⟨o, e, ex⟩ := z
      refine ⟨⟨o, e, ex.1⟩, fun a e2 => ?_⟩
      cases e2
      exact ⟨o, e, ex.2.1⟩
    · obtain ⟨o, _, _, _, e, ex, _⟩ := I.hok p _ hk
      refine ⟨⟨o, e, ex.1⟩, fun a e2 => ?_⟩
      cases e2
      exact ⟨o, e, ex.2.1⟩
  | _ => exact False.elim ty
def tBM0 (K : PySem.W.Frag) (T : String) (r : V → List V → Hp → VK → Prop) (to : TE) : TE := fun σ H Q => to σ H fun x H1 => tyV K T x H1 ∧ r x [] H1 Q
def tBM (K : PySem.W.Frag) (T : String) (r : V → List V → Hp → VK → Prop) (to : TE) (t : TA) : TE := fun σ H Q => to σ H fun x H1 => tyV K T x H1 ∧ t σ H1 fun xs H2 => r x xs H2 Q
variable {o e : Expr} {es : List Expr} {to : TE} {t : TA} {name : Str} {apos cpos : Pos} {T id : String} {r : V → List V → Hp → VK → Prop}
theorem pe_bm (pa : PlainAttrs T) (slot : Slot T name id) (hty : typeOf (.builtin id) = pure (.type "method_descriptor")) (hm : MtR X id r) (ho : PE X o to) (ha : PA X (e :: es) t)
    (hbase : attributeBase o name X.env (eval o X.env) = eval o X.env := by rfl)
    (hfew : ((backTo cpos (starEach (e :: es) X.env)).all (fun x => !x.1) && (backToKw cpos (keywordEach [] X.env)).all (fun x => x.1.isSome)
      && decide ((e :: es).length + ([] : List Keyword).length + (if ([] : List Keyword).isEmpty then 0 else 1) < 30)) = true := by rfl)
    (hline : (apos.endLine == cpos.line) = true := by rfl) (hs : starEach (e :: es) X.env = (false, eval e X.env) :: starEach es X.env := by rfl) (hplain : (backTo cpos (starEach es X.env)).any (·.1) = false := by rfl) :
    PE X (.Call (.Attribute o name apos) (e :: es) [] cpos) (tBM X.K T r to t) := by
  intro pins s σ H Q I h
  refine wpAny_Call_method_late hbase hfew hline rfl (thn (ho pins s σ H _ I h) fun v s1 ⟨x, H1, I1, r1, ty, q1⟩ => ?_)
  obtain ⟨h1, h2⟩ := tyV_is I1 r1 ty
  refine ⟨T, id, pa, slot, hty, h1, h2, ?_⟩
  have hA := ha cpos pins s1 σ H1 _ I1 q1
  rw [hs] at hA ⊢
  refine Calls.callWith_builtin (by show (false || (backTo cpos (starEach es X.env)).any (·.1)) = false; rw [hplain] <;> rfl) (Calls.evalArgs_plain ?_)
  exact thn hA fun us s2 ⟨vs, H2, I2, r2, q2⟩ => hm pins s2 σ H2 x vs v us Q I2 r1 r2 q2
/- xs.append(e), list.index on a module's tuple .. are MtR facts of 06m -/
end
end L2

namespace L2
open PySem PySem.Spec PyProof.Rows

def MtM (X : Cx) (id : String) (r : V → List V → Hp → VK → Prop) : Prop :=
  ∀ (pins : List (Addr × Obj)) (s : Shared) (σ : St) (H : Hp) (x : V) (xs : List V) (v : Value) (us : List Value) (Q : VK), Inv X pins σ H s → RelV x v → Vals xs us → r x xs H Q →
    wpAny (model X.prog X.w) X.A (call (.builtin id) (v :: us)) (EP X pins σ Q) X.xe s

theorem Vals.one : ∀ {x : V} {us : List Value}, Vals [x] us → ∃ u, us = [u] ∧ RelV x u
  | _, _, .cons r .nil => ⟨_, rfl, r⟩
section
variable {X : Cx} {pins : List (Addr × Obj)} {σ : St} {H : Hp} {s : Shared} {l b : Addr} {xs ys zs : List V}

theorem Inv.lset {its its' : List Value} {n : Nat} {f : Array Value → Array Value} {t' : Nat} (I : Inv X pins σ H s) (hH : H l = some (.lst xs))
    (e : s.heap.get? l = some { cls := .type "list", data := .seq its.toArray n }) (hf : f its.toArray = its'.toArray) (hv : Vals ys its') (hz : ys.length ≤ sizeLine) :
    Inv X pins σ (upd H l (.lst ys)) { s with heap := s.heap.update l (Obj.mapSeq f), toks := t' } := by
  have q := PySem.IsL.update e f
  rw [hf] at q
  refine I.write (x := l) (e := l) (by rw [hH]; exact trivial) (.inl rfl) (fun b' u hb hu => (Heap.get?_update_other s.heap (Obj.mapSeq f) (Ne.symm hb)).trans hu) ⟨_, q⟩ ?_
  exact ⟨hz, its', _, hv, q⟩
theorem Inv.lnew {its : List Value} {t' : Nat} (I : Inv X pins σ H s) (hv : Vals ys its) (hz : ys.length ≤ sizeLine) :
    Inv X pins σ (upd H s.heap.objs.size (.lst ys)) { s with heap := s.heap.push { cls := .type "list", data := .seq its.toArray }, toks := t' } :=
  I.laid (fun _ _ q => Heap.get?_push_of_some _ q) (Nat.le_refl _) ⟨hz, its, 0, hv, Heap.get?_push_size _ rfl⟩
theorem Inv.fresh (I : Inv X pins σ H s) : H s.heap.objs.size = none := I.hok.fresh (Nat.le_refl _)
theorem Inv.lstM (I : Inv X pins σ H s) (hH : H l = some (.lst xs)) : xs.length ≤ sizeLine ∧ ∃ (its : List Value) (n : Nat), Vals xs its ∧ xs.length = its.length ∧ s.heap.get? l = some { cls := .type "list", data := .seq its.toArray n } := by
  obtain ⟨z, its, n, r, e⟩ := I.hok l _ hH
  exact ⟨z, its, n, r, r.length, e⟩

end

section
variable {X : Cx}

def rAppend : V → List V → Hp → VK → Prop := fun x vs H Q => ∃ l xs y, x = .ref l ∧ vs = [y] ∧ H l = some (.lst xs) ∧ xs.length < sizeLine ∧ Q .non (upd H l (.lst (xs ++ [y])))
theorem mt_append : MtM X "list.append" rAppend := by
  intro pins s σ H x vs v us Q I rx rv h
  obtain ⟨l, xs, y, rfl, rfl, hH, hz, q⟩ := h
  cases rx
  obtain ⟨u, rfl, ru⟩ := rv.one
  obtain ⟨z, its, n, r, hl, e⟩ := I.lstM hH
  refine call_meets F.slot_list_append ⟨_, e, rfl⟩ F.entry_list_append (F.args_list_append_2 _ _) (PySem.list_append l its.toArray n u (by rw [List.size_toArray]; omega)) ⟨e, ?_⟩
  refine ⟨.non, _, I.lset (its' := its ++ [u]) hH e (by simp) (r.append (.cons ru .nil)) ?_, rfl, q⟩
  rw [List.length_append, List.length_singleton]
  omega

def rCat : R2 := fun x y H Q => ∃ l b xs zs, x = .ref l ∧ y = .ref b ∧ H l = some (.lst xs) ∧ H b = some (.lst zs) ∧ xs.length + zs.length ≤ sizeLine ∧ ∀ p, H p = none → Q (.ref p) (upd H p (.lst (xs ++ zs)))
theorem op_cat : OpR X (binaryOp .Add) rCat := by
  intro pins s σ H x y v u Q I rx ry h
  obtain ⟨l, b, xs, zs, rfl, rfl, hH, hB, hz, q⟩ := h
  cases rx
  cases ry
  obtain ⟨z, its, n, r, hl, e⟩ := I.lstM hH
  obtain ⟨z2, its2, n2, r2, hl2, e2⟩ := I.lstM hB
  refine PySem.P.add_list e e2 ?_ (by rw [List.size_toArray, List.size_toArray]; omega)
  have ea : its.toArray ++ its2.toArray = (its ++ its2).toArray := by simp
  rw [ea]
  exact ⟨.ref _, _, I.lnew (t' := s.toks) (r.append r2) (by rw [List.length_append]; omega), rfl, q _ I.fresh⟩
end

section
variable {prog : Program} {w : World} {A : Around} {E : Value → Shared → Prop} {s : Shared}
end

section
variable {X : Cx}
end
end L2

namespace Att
open PySem PySem.W PySem.Calls PyProof.Rows

theorem ints_of_wellAll {P : Params} {h : Heap} : ∀ (ns : List Int) (vs : List Value), WellAll P h vs (ns.map WData.int) → IntsAre vs ns := by
  intro ns
  induction ns with
  | nil =>
    intro vs w
    rw [List.map_nil] at w
    cases w
    exact .nil
  | cons n ns ih =>
    intro vs w
    rw [List.map_cons] at w
    cases w with
    | cons a b =>
      cases a
      exact .cons _ _ (ih _ b)

theorem script_of {l : OpenLaw} {n : Nat} (hn : l.most = some n) {P : Params} {h : Heap} {args : List WData} {vals : List Value}
    (hpre : l.row.toRowW.claim.pre args = true) (hwl : WellAll P h vals args) :
    ∃ a vs ns, vals = [Value.ref a] ∧ args = [WData.list (ns.map WData.int)] ∧ h.get? a = some { cls := .type "list", data := .seq vs.toArray } ∧ IntsAre vs ns ∧ ns.length ≤ n := by
  have hsh : WShape.hasAll [] args [.list .int] = true := (pre_splitW hpre).1
  have hc : l.pre.holds [] { args := args } = true := (pre_splitW hpre).2
  obtain ⟨d, r, rfl, h1, h2⟩ := hasAllW_cons hsh
  obtain rfl := hasAllW_nil h2
  obtain ⟨xs, rfl, h3⟩ := hasW_list h1
  obtain ⟨ns, rfl⟩ := items_int h3
  have hlen : ns.length ≤ n := by
    unfold OpenLaw.pre at hc
    have h4 : (WTm.not (.lt (.lit (.int (n : Int))) (.len (.arg 0)))).holds [] { args := [.list (ns.map .int)] } = true := by
      have h4 := (holds_andW hc).1
      rw [hn] at h4
      exact h4
    have h5 := condW_of h4 (w_not (w_lt w_lit (w_len_list (w_arg rfl))))
    rw [List.length_map] at h5
    refine Nat.le_of_not_lt fun q => ?_
    have q' : (n : Int) < ((ns.length : Nat) : Int) := by omega
    first
      | (rw [decide_eq_true q'] at h5; exact absurd h5 (by decide))
      | (simp at h5; omega)
  cases hwl with
  | cons w1 w2 =>
    cases w2
    cases w1 with
    | list ho hall => exact ⟨_, _, ns, rfl, rfl, ho, ints_of_wellAll ns _ hall, hlen⟩

theorem post_true (l : OpenLaw) (args : List WData) : l.row.toRowW.claim.post args (.bool true) args = true :=
  postW_of (r := l.row.toRowW) (X := (true == true))
    (show WShape.has [] (.bool true) .bool = true by first | rfl | decide | simp [WShape.has, WShape.arms, WShape.armsAll])
    (show (WTm.eq .res (.lit (.bool true))).value [] { args := args, res := some (.bool true), after := args } = some (.bool (true == true)) from w_eq_bool (w_res rfl) w_lit) rfl

theorem attach_call {l : OpenLaw} {n : Nat} {q : Program} {loose : List Str} {XP : (Str → Option Value) → Heap → Prop} {YP : World → Heap → Prop} {d : DefRec}
    (hn : l.most = some n) (hdf : d.params.defaults = [])
    (call : ∀ (w : World) (s₀ s₁ : Shared) (mg mb : Str → Option Value) (fa : Addr) (o : Obj) (pm cd doc : Value) (a : Addr) (vs : List Value) (ns : List Int),
      Ground q loose [] XP w s₀ mg mb s₁.heap → YP w s₁.heap →
      s₁.heap.get? fa = some o → o.data = .func (docDef d.name d.params d.body d.scope pm cd doc) → s₁.heap.CodeRec cd d.name → mg d.name = some (.ref fa) →
      s₁.heap.get? a = some { cls := .type "list", data := .seq vs.toArray } → IntsAre vs ns → ns.length ≤ n → s₁.gens = #[] →
      codeAny (model l.prog w) callerA (.call (.ref fa) ⟨[.ref a], []⟩) (fun r s' => r = .ok (.ret (.bool true)) ∧ OldK s₁.heap s'.heap ∧ s'.os = s₁.os ∧ AllBare s'.gens) s₁) :
    WalkO q loose XP YP l.row.toRowW d [] (fun f vs => PySem.call f vs) := by
  intro w s₀ s₁ mg mb G Y fa o pm cd doc dV kV ho hd hcd hD hmg hg args vals as hpre hlay hrd hwl hlo
  obtain rfl : dV = .none := Dflts.none hD hdf
  obtain rfl : kV = .none := Dflts.noKw hD
  obtain ⟨a, vs, ns, rfl, rfl, hobj, hints, hlen⟩ := script_of hn hpre hwl
  refine enter_call (codeAny_mono (call w s₀ s₁ mg mb fa o pm cd doc a vs ns G Y ho (fd_plain hd) hcd hmg hobj hints hlen hg) fun r s' hq => ?_)
  obtain ⟨rfl, h2, h3, h4⟩ := hq
  exact ⟨.inl ⟨.bool true, .bool true, [], rfl, fun _ => rfl, .bool true, post_true l _, fun _ => ⟨List.Pairwise.nil, fun _ hm => (nomatch hm)⟩⟩, h2, h3, h4⟩

section
variable {prog : Program} {w : World} {A : Around} {E : Value → Shared → Prop} {s : Shared} {K : Frag}

def ledger (h : Heap) (L d : Addr) : List (Addr × Obj) := (List.range h.objs.size).filterMap fun a => if a = L ∨ a = d then none else (h.get? a).map fun o => (a, o)
end
end Att

namespace L2
open PySem PySem.Spec PyProof.Rows

theorem vals_ints : ∀ {vs : List Value} {ns : List Int}, IntsAre vs ns → Vals (ns.map V.int) vs
  | _, _, .nil => .nil
  | _, _, .cons n t h => .cons ⟨t, rfl⟩ (vals_ints h)

def Only (H : Hp) : Prop := ∀ b, H b = none ∨ ∃ o xs, H b = some (.frz o (.lst xs))

theorem law_call {P : Program} {w : World} {K : PySem.W.Frag} {mg mb : Str → Option Value} {CX : CXT} {k : Nat} {fa a : Addr} {fd : FuncData} {x : Str} {sp : Sp} {s₁ : Shared} {vs : List Value} {ns : List Int}
    (KX : K.In s₁.heap) (hns : s₁.heap.Ns mainGlobals mg) (hb : s₁.heap.Ns builtinsNs mb) (hbb : ∀ x : Str, x ≠ "__name__" → mb x = bootBuiltins x) (hlim : s₁.heap.NoLimit) (hg : s₁.gens = #[])
    (ha : s₁.heap.get? a = some { cls := .type "list", data := .seq vs.toArray }) (hi : IntsAre vs ns) (hl : ns.length ≤ sizeLine) (hr : Room k callerA)
    (F : ∀ base : Heap, K.In base → base.Ns mainGlobals mg → FnOk P w K mg base CX k fa fd [x] sp) (hbind : ∀ (s : Shared) (u : Value), BindsTo s fd ⟨[u], []⟩ [(x, u)])
    (hsp : ∀ H : Hp, Only H → SqL K H a (ns.map V.int) → sp [.ref a] H (fun v _ => v = .bl true) fun _ _ _ => False)
    (hCX : ∀ H e s', CX [] H s₁ (fun _ _ _ => False) e s' → False) :
    codeAny (model P w) callerA (.call (.ref fa) ⟨[.ref a], []⟩) (fun r s' => r = .ok (.ret (.bool true)) ∧ OldK s₁.heap s'.heap ∧ s'.os = s₁.os ∧ AllBare s'.gens) s₁ := by
  have rv := vals_ints hi
  have lenV := hi.length
  -- from an abstract heap in which nothing but the script may be tracked
  have core : ∀ H : Hp, Only H → SqL K H a (ns.map V.int) → HOk P w H s₁.heap → (∀ b, H b ≠ none → b = a) → (H a ≠ none → K.lookup a = none) →
      codeAny (model P w) callerA (.call (.ref fa) ⟨[.ref a], []⟩) (fun r s' => r = .ok (.ret (.bool true)) ∧ OldK s₁.heap s'.heap ∧ s'.os = s₁.os ∧ AllBare s'.gens) s₁ := by
    intro H hO hS hok hA hK
    have base_of : ∀ {b : Addr} {o : Obj}, s₁.heap.get? b = some o → H b = none → (hidT s₁.heap H).get? b = some o := fun e n => hidT_get e n
    have noA : ∀ {b : Addr} {o : Obj} {es : Array DictEntry} {ep : Nat}, s₁.heap.get? b = some o → o.data = .dict es ep → H b = none := fun {b o es ep} e d => by
      cases q : H b with
      | none => rfl
      | some u =>
        have e' : b = a := hA b (by rw [q]; simp)
        subst e'
        rw [ha] at e; cases e
        have d' : Data.seq vs.toArray _ = Data.dict es ep := d
        cases d'
    have nsK : ∀ {b : Addr} {m : Str → Option Value}, s₁.heap.Ns b m → (hidT s₁.heap H).Ns b m := fun {b m} ⟨o, es, ep, e, d, r⟩ => ⟨o, es, ep, base_of e (noA e d), d, r⟩
    have hKb : K.In (hidT s₁.heap H) := fun b o e => base_of (KX b o e) (by
      cases q : H b with
      | none => rfl
      | some u =>
        have e' : b = a := hA b (by rw [q]; simp)
        subst e'
        rw [hK (by rw [q]; simp)] at e; cases e)
    have hM : Mod K mg (hidT s₁.heap H) := ⟨hKb, nsK hns, ⟨mb, nsK hb, hbb⟩, let ⟨mc, h1, h2⟩ := hlim; ⟨mc, nsK h1, h2⟩⟩
    have e0 : Env0 P w K mg (hidT s₁.heap H) callerA [] s₁ H := ⟨rfl, hM, fun b o e => of_hidT e, Nat.le_of_eq (hidT_size _ _), trivial, fun b hb => absurd (show b ∈ ([] : List Addr) from hb) (by simp), hok, .of_eq hg⟩
    refine codeAny_mono ((F _ hKb (nsK hns)).run callerA [] s₁ H ⟨[.ref a], []⟩ [.ref a] [.ref a] _ _ hr e0 (hbind s₁ (.ref a)) (.cons rfl .nil) (hsp H hO hS)) fun r s' h => ?_
    cases r with
    | error e => exact (hCX H e s' h).elim
    | ok fl =>
      cases fl with
      | next => exact False.elim h
      | brk => exact False.elim h
      | cont => exact False.elim h
      | ret u =>
        obtain ⟨v, H', os, bare, un, hok', r', q⟩ := h
        have q' : v = .bl true := q
        subst q'
        obtain rfl : u = Value.bool true := r'
        refine ⟨rfl, OldK.of_keep fun b o e => ?_, os, bare⟩
        cases q : H b with
        | none => exact un.keep b o e q (by intro z; exact absurd (show b ∈ ([] : List Addr) from z) (by simp)) (by simp)
        | some u =>
          rcases hO b with z | ⟨ob, xs, z⟩
          · rw [q] at z; cases z
          · have z2 := un.frzs b ob _ z
            obtain ⟨e1, _⟩ := hok b _ z
            obtain ⟨e2, _⟩ := hok' b _ z2
            rw [e] at e1; cases e1
            exact e2
  cases hk : K.lookup a with
  | some o =>
    -- the script is one of the module's own objects
    have e := KX a o hk
    rw [ha] at e
    cases e
    refine core (fun _ => none) (fun _ => .inl rfl) (.inr ⟨_, vs.toArray, _, hk, rfl, rfl, rfl, by rw [List.size_toArray, lenV]; exact hl, by simpa using rv⟩) (fun b u z => by have z' : (none : Option HO) = some u := z; cases z') (fun b z => absurd rfl z) fun z => absurd rfl z
  | none =>
    refine core (fun b => if b = a then some (.frz { cls := .type "list", data := .seq vs.toArray } (.lst (ns.map V.int))) else none) (fun b => ?_) (.inl (.inr ⟨{ cls := .type "list", data := .seq vs.toArray }, if_pos rfl⟩)) (fun b u z => ?_) (fun b z => ?_) fun _ => hk
    · by_cases hb : b = a
      · exact .inr ⟨_, _, if_pos hb⟩
      · exact .inl (if_neg hb)
    · by_cases hb : b = a
      · have z' := (if_pos hb).symm.trans z
        cases z'
        subst hb
        exact ⟨ha, by rw [List.length_map]; exact hl, vs, _, rv, ha⟩
      · have z' := (if_neg hb).symm.trans z
        cases z'
    · by_cases hb : b = a
      · exact hb
      · exact absurd (if_neg hb) z
end L2

namespace L2
open PySem PySem.Spec PyProof.Rows

theorem walk_of {l : PySem.W.OpenLaw} {n k : Nat} {q : Program} {loose : List Str} {XP : (Str → Option Value) → Heap → Prop} {YP : World → Heap → Prop} {d : DefRec} {K : Params → PySem.W.Frag} {CX : World → CXT} {sp : World → Sp} {x : Str}
    (hn : l.most = some n) (hn2 : n ≤ sizeLine) (hdf : d.params.defaults = []) (hr : Room k callerA)
    (hY : ∀ (w : World) (h : Heap), YP w h → (K w.params).In h)
    (F : ∀ (w : World) (mg : Str → Option Value) (fa : Addr) (h : Heap), (K w.params).In h → h.Ns mainGlobals mg → mg d.name = some (.ref fa) →
      ∃ fd : FuncData, (∀ (s : Shared) (u : Value), BindsTo s fd ⟨[u], []⟩ [(x, u)]) ∧
        ∀ base : Heap, (K w.params).In base → base.Ns mainGlobals mg → FnOk l.prog w (K w.params) mg base (CX w) k fa fd [x] (sp w))
    (hsp : ∀ (w : World) (H : Hp) (a : Addr) (ns : List Int), ns.length ≤ n → Only H → SqL (K w.params) H a (ns.map V.int) → sp w [.ref a] H (fun v _ => v = .bl true) fun _ _ _ => False)
    (hCX : ∀ (w : World) (H : Hp) (s : Shared) (e : Value) (s' : Shared), CX w [] H s (fun _ _ _ => False) e s' → False) :
    PySem.W.WalkO q loose XP YP l.row.toRowW d [] (fun f vs => PySem.call f vs) := by
  refine Att.attach_call hn hdf fun w s₀ s₁ mg mb fa o pm cd doc a vs ns G Y ho hd hcd hmg hobj hints hlen hg => ?_
  have KX := hY w _ Y
  obtain ⟨fd, hb, hF⟩ := F w mg fa _ KX G.T.g hmg
  exact law_call KX G.T.g G.T.b G.T.builtins G.T.nolimit hg hobj hints (Nat.le_trans hlen hn2) hr hF hb (fun H hO hS => hsp w H a ns hlen hO hS) fun H e s' => hCX w H s₁ e s'
theorem walk_ofK {l : PySem.W.OpenLaw} {n k : Nat} {q : Program} {loose : List Str} {XP : (Str → Option Value) → Heap → Prop} {YP : World → Heap → Prop} {d : DefRec} {K : Params → PySem.W.Frag} {CX : CXT} {sp : PySem.W.Frag → Sp} {x : Str}
    (hn : l.most = some n) (hn2 : n ≤ sizeLine) (hdf : d.params.defaults = []) (hr : Room k callerA)
    (hY : ∀ (w : World) (h : Heap), YP w h → (K w.params).In h)
    (F : ∀ (w : World) (mg : Str → Option Value) (fa : Addr) (h : Heap), (K w.params).In h → h.Ns mainGlobals mg → mg d.name = some (.ref fa) →
      ∃ fd : FuncData, (∀ (s : Shared) (u : Value), BindsTo s fd ⟨[u], []⟩ [(x, u)]) ∧
        ∀ base : Heap, (K w.params).In base → base.Ns mainGlobals mg → FnOk l.prog w (K w.params) mg base CX k fa fd [x] (sp (K w.params)))
    (hsp : ∀ (K : PySem.W.Frag) (H : Hp) (a : Addr) (ns : List Int), ns.length ≤ n → Only H → SqL K H a (ns.map V.int) → sp K [.ref a] H (fun v _ => v = .bl true) fun _ _ _ => False)
    (hCX : ∀ (H : Hp) (s : Shared) (e : Value) (s' : Shared), CX [] H s (fun _ _ _ => False) e s' → False) :
    PySem.W.WalkO q loose XP YP l.row.toRowW d [] (fun f vs => PySem.call f vs) :=
  walk_of (K := K) (CX := fun _ => CX) (sp := fun w => sp (K w.params)) hn hn2 hdf hr hY F (fun w H a ns h1 h2 h3 => hsp (K w.params) H a ns h1 h2 h3) fun _ H s e s' => hCX H s e s'
end L2


namespace L2
open PySem PySem.Spec PyProof.Rows

def inClass (s : Stmt) (j : Nat) : Stmt := match s with
  | .ClassDef _ _ _ body _ _ _ _ _ _ _ => body.getD j (.Pass ⟨0, 0, 0, 0⟩)
  | _ => .Pass ⟨0, 0, 0, 0⟩
def defArgs (s : Stmt) : Arguments := match s with
  | .FunctionDef _ a _ _ _ _ _ _ _ _ => a
  | _ => { posonlyargs := [], args := [], vararg := none, kwonlyargs := [], kw_defaults := [], kwarg := none, defaults := [] }
def defBody (s : Stmt) : List Stmt := match s with
  | .FunctionDef _ _ b _ _ _ _ _ _ _ => b
  | _ => []
def defScope (s : Stmt) : Scope := match s with
  | .FunctionDef _ _ _ _ _ _ sc _ _ _ => sc
  | _ => { kind := .function, names := [], isGenerator := false, isCoroutine := false }

abbrev CX0 : CXT := fun _ _ _ _ _ _ => False
abbrev E0 : XK := fun _ _ _ => False
theorem pass0 {X : Cx} : Passes CX0 X E0 := fun _ _ _ _ _ _ _ h => h.elim

structure Fun (K : PySem.W.Frag) (x qual : Str) (st : Stmt) (f : Addr) (fd : FuncData) : Prop where
  ex : ∃ (oc : Value) (od : Option Addr) (kV doc pm : Value) (an : Option Addr) (cdv ct : Value) (osl : Array (Option Value)),
    fd = PySem.W.fnOf x qual (defArgs st) (defBody st) (defScope st) .none kV doc pm an cdv ct ∧ K.lookup f = some ⟨oc, od, .func fd, osl⟩ ∧ PySem.W.codeIn K cdv qual = true
  kp : PySem.W.keepIn K (.ref f) = true
section
variable {P : Program} {w : World} {K : PySem.W.Frag} {mg : Str → Option Value} {base : Heap}
theorem Fun.ok {x qual : Str} {st : Stmt} {f : Addr} {fd : FuncData} {N ps : List Str} {k : Nat} {sp : Sp} (F : Fun K x qual st f fd) (S : FnScope N ps (defScope st)) (len : ∀ vs H Q E, sp vs H Q E → vs.length = ps.length)
    (hbody : ∀ (cdv : Value) (A : Around) (outer : List Env) (s : Shared) (H : Hp) (vs : List V) (Q : VK) (E : XK), Room k (A.deeper (envOfC qual (defScope st) s.heap.objs.size f cdv)) → sp vs H Q E →
      ∃ t, PSs (cxOf CX0 P w K mg base N qual (defScope st) f cdv A outer s H E).nox (defBody st) t ∧ t { nx := fun _ H' => Q .non H', rt := Q } (start N vs) H) : FnOk P w K mg base CX0 (k + 1) f fd ps sp := by
  obtain ⟨oc, od, kV, doc, pm, an, cdv, ct, osl, rfl, lk, hcd⟩ := F.ex
  refine fn_of lk hcd S len fun A outer s H vs Q E hr hsp => ?_
  obtain ⟨t, h, q⟩ := hbody cdv A outer s H vs Q E hr hsp
  exact ⟨t, h.nox, q⟩
theorem Fun.binds {x qual : Str} {st : Stmt} {f : Addr} {fd : FuncData} {ps : List Str} (F : Fun K x qual st f fd)
    (h : ∀ (kV doc pm : Value) (an : Option Addr) (cdv ct : Value) (us : List Value), us.length = ps.length → bindArgs (PySem.W.fnOf x qual (defArgs st) (defBody st) (defScope st) .none kV doc pm an cdv ct) ⟨us, []⟩ = pure (ps.zip us)) : Binds K fd ps [] := by
  obtain ⟨oc, od, kV, doc, pm, an, cdv, ct, osl, rfl, lk, hcd⟩ := F.ex
  exact .all (h kV doc pm an cdv ct)
theorem fun_mk {x qual : Str} {st : Stmt} {f : Addr} {oc : Value} {od an : Option Addr} {osl : Array (Option Value)} {kV doc pm cdv ct : Value} (l : K.lookup f = some ⟨oc, od, .func (PySem.W.fnOf x qual (defArgs st) (defBody st) (defScope st) .none kV doc pm an cdv ct), osl⟩)
    (c : PySem.W.codeIn K cdv qual = true) (k : PySem.W.keepIn K (.ref f) = true) : Fun K x qual st f (PySem.W.fnOf x qual (defArgs st) (defBody st) (defScope st) .none kV doc pm an cdv ct) := ⟨⟨oc, od, kV, doc, pm, an, cdv, ct, osl, rfl, l, c⟩, k⟩
end
theorem hu_of {A : Around} {k : Nat} (hr : Room k A) : A.units + 1 < cLine := Nat.lt_of_le_of_lt (Nat.add_le_add_left (by decide : 1 ≤ 64) _) hr.units
theorem small1000 {n : Nat} (h : n ≤ 1000) : n < sizeLine := Nat.lt_of_le_of_lt h (by decide)

section
variable {X : Cx}
theorem pv (i : Nat) {x : Str} {pos : Pos} (hN : X.N[i]? = some x := by rfl) (hv : Vis X.env.scope x := by first | exact Or.inl rfl | exact Or.inr (Or.inl rfl) | exact Or.inr (Or.inr rfl)) (hd : (x == ("__debug__" : Str)) = false := by decide)
    (hcd : (x == ("__classdict__" : Str)) = false := by decide) : PE X (.Name x pos) (tVar i) := pe_var hN hv hd hcd
end

theorem iteF {A B : Prop} (h : B) : if false = true then A else B := by
  rw [if_neg Bool.false_ne_true]
  exact h
theorem iteT {A B : Prop} (h : A) : if true = true then A else B := by
  rw [if_pos rfl]
  exact h
theorem iteNS {c A B : Prop} [Decidable c] (hc : c) (h : B) : if (!decide c) = true then A else B := by
  rw [decide_eq_true hc]
  exact iteF h

def Same (H H' : Hp) : Prop := ∀ b o, H b = some o → H' b = some o
theorem Same.refl (H : Hp) : Same H H := fun _ _ h => h
theorem Same.trans {H H1 H2 : Hp} (a : Same H H1) (b : Same H1 H2) : Same H H2 := fun c o h => b c o (a c o h)
theorem Same.free {H H' : Hp} (e : Same H H') {l : Addr} (h : H' l = Option.none) : H l = Option.none := by
  cases q : H l with
  | none => rfl
  | some o =>
    rw [e l o q] at h
    cases h
theorem Same.seq {K : PySem.W.Frag} {H H' : Hp} {a : Addr} {xs : List V} (e : Same H H') (h : SqL K H a xs) : SqL K H' a xs := by
  rcases h with (h | ⟨o, h⟩) | h
  · exact .inl (.inl (e _ _ h))
  · exact .inl (.inr ⟨o, e _ _ h⟩)
  · exact .inr h

end L2


namespace L2
open PySem PySem.Spec PyProof.Rows

section
variable {κ : Type} [DecidableEq κ]
def valV (kvs : List (κ × V)) (k : κ) : Option V := (kvs.find? fun kv => decide (kv.1 = k)).map (·.2)
def putK (kvs : List (κ × V)) (k : κ) (v : V) : List (κ × V) :=
  if (kvs.any fun kv => decide (kv.1 = k)) = true then kvs.map (fun kv => if kv.1 = k then (kv.1, v) else kv) else kvs ++ [(k, v)]
def dropK (kvs : List (κ × V)) (k : κ) : List (κ × V) := kvs.filter fun kv => decide (kv.1 ≠ k)

theorem valV_pos {p : κ × V} {r : List (κ × V)} {k : κ} (e : p.1 = k) : valV (p :: r) k = some p.2 := by simp [valV, List.find?_cons, e]
theorem valV_neg {p : κ × V} {r : List (κ × V)} {k : κ} (e : ¬ p.1 = k) : valV (p :: r) k = valV r k := by simp [valV, List.find?_cons, e]
theorem valV_any (k : κ) : ∀ kvs : List (κ × V), (kvs.any fun kv => decide (kv.1 = k)) = (valV kvs k).isSome
  | [] => rfl
  | p :: r => by
    rw [List.any_cons]
    by_cases e : p.1 = k
    · simp only [valV_pos e, decide_eq_true e, Bool.true_or, Option.isSome_some]
    · rw [valV_neg e, decide_eq_false e, Bool.false_or]; exact valV_any k r
theorem valV_map (k j : κ) (y : V) : ∀ kvs : List (κ × V), valV (kvs.map fun kv => if kv.1 = k then (kv.1, y) else kv) j = (valV kvs j).map fun x => if j = k then y else x
  | [] => rfl
  | p :: r => by
    have ih := valV_map k j y r
    rw [List.map_cons]
    by_cases h : p.1 = k
    · rw [if_pos h]
      by_cases e : p.1 = j
      · rw [valV_pos (p := (p.1, y)) e, valV_pos e, Option.map_some, if_pos (e.symm.trans h)]
      · rw [valV_neg (p := (p.1, y)) e, valV_neg e, ih]
    · rw [if_neg h]
      by_cases e : p.1 = j
      · rw [valV_pos (p := p) e, valV_pos e, Option.map_some, if_neg (fun z => h (e.trans z))]
      · rw [valV_neg (p := p) e, valV_neg e, ih]
theorem valV_snoc (k j : κ) (y : V) : ∀ kvs : List (κ × V), valV kvs k = none → valV (kvs ++ [(k, y)]) j = if j = k then some y else valV kvs j
  | [], _ => by
    by_cases e : k = j
    · rw [if_pos e.symm]; exact valV_pos (p := (k, y)) e
    · rw [if_neg (fun z => e z.symm)]; exact valV_neg (p := (k, y)) e
  | p :: r, hn => by
    rw [List.cons_append]
    have hk : ¬ p.1 = k := fun z => by rw [valV_pos z] at hn; cases hn
    rw [valV_neg hk] at hn
    have ih := valV_snoc k j y r hn
    by_cases e : p.1 = j
    · rw [valV_pos e, valV_pos e, if_neg (fun z => hk (e.trans z))]
    · rw [valV_neg e, valV_neg e, ih]
theorem valV_put (kvs : List (κ × V)) (k j : κ) (y : V) : valV (putK kvs k y) j = if j = k then some y else valV kvs j := by
  unfold putK
  by_cases a : (kvs.any fun kv => decide (kv.1 = k)) = true
  · rw [if_pos a, valV_map]
    rw [valV_any] at a
    by_cases e : j = k
    · obtain ⟨x, hx⟩ := Option.isSome_iff_exists.mp a
      rw [if_pos e, e, hx, Option.map_some, if_pos rfl]
    · rw [if_neg e]
      cases valV kvs j with
      | none => rfl
      | some x => rw [Option.map_some, if_neg e]
  · rw [if_neg a]
    refine valV_snoc k j y kvs ?_
    rw [valV_any] at a
    cases q : valV kvs k with
    | none => rfl
    | some x => rw [q] at a; exact (a rfl).elim
theorem length_putK (kvs : List (κ × V)) (k : κ) (v : V) : (putK kvs k v).length ≤ kvs.length + 1 := by
  unfold putK
  split
  · rw [List.length_map]; omega
  · rw [List.length_append, List.length_cons, List.length_nil]; omega
theorem RelO.isSome_eq {o : Option V} {u : Option Value} (r : RelO o u) : o.isSome = u.isSome := by
  cases o with
  | none => cases u with
    | none => rfl
    | some _ => exact (show False from r).elim
  | some _ => cases u with
    | none => exact (show False from r).elim
    | some _ => rfl
theorem RelO.getD {o : Option V} {u : Option Value} {d : V} {d' : Value} (r : RelO o u) (rd : RelV d d') : RelV (o.getD d) (u.getD d') := by
  cases o with
  | none => cases u with
    | none => exact rd
    | some _ => exact (show False from r).elim
  | some _ => cases u with
    | none => exact (show False from r).elim
    | some _ => exact r

theorem KV.val {kvs : List (κ × V)} {vs : List (κ × Value)} (r : KV kvs vs) (k : κ) : RelO (valV kvs k) (valueAt vs k) := by
  unfold KV at r
  induction r with
  | nil => exact True.intro
  | @cons p q ps qs h t ih =>
    obtain ⟨h1, h2⟩ := h
    by_cases e : p.1 = k
    · have e' : q.1 = k := h1.symm.trans e
      have b : valueAt (q :: qs) k = some q.2 := by simp [valueAt, List.find?_cons, e']
      rw [valV_pos e, b]; exact h2
    · have e' : ¬ q.1 = k := fun z => e (h1.trans z)
      have b : valueAt (q :: qs) k = valueAt qs k := by simp [valueAt, List.find?_cons, e']
      rw [valV_neg e, b]; exact ih
theorem KV.any {kvs : List (κ × V)} {vs : List (κ × Value)} (r : KV kvs vs) (k : κ) : (kvs.any fun kv => decide (kv.1 = k)) = vs.any fun kv => decide (kv.1 = k) := by
  unfold KV at r
  induction r with
  | nil => rfl
  | cons h t ih => rw [List.any_cons, List.any_cons, ih, h.1]
theorem KV.repl {kvs : List (κ × V)} {vs : List (κ × Value)} (r : KV kvs vs) (k : κ) {y : V} {u : Value} (ry : RelV y u) :
    KV (kvs.map fun kv => if kv.1 = k then (kv.1, y) else kv) (vs.map fun kv => if kv.1 = k then (kv.1, u) else kv) := by
  unfold KV at r ⊢
  induction r with
  | nil => exact .nil
  | @cons p q ps qs h t ih =>
    rw [List.map_cons, List.map_cons]
    refine .cons ?_ ih
    obtain ⟨h1, h2⟩ := h
    by_cases e : p.1 = k
    · rw [if_pos e, if_pos (h1.symm.trans e)]; exact ⟨h1, ry⟩
    · rw [if_neg e, if_neg (fun z => e (h1.trans z))]; exact ⟨h1, h2⟩
theorem KV.put {kvs : List (κ × V)} {vs : List (κ × Value)} (r : KV kvs vs) (k : κ) {y : V} {u : Value} (ry : RelV y u) : KV (putK kvs k y) (stored vs k u) := by
  unfold putK stored
  rw [r.any k]
  by_cases e : (vs.any fun kv => decide (kv.1 = k)) = true
  · rw [if_pos e, if_pos e]; exact r.repl k ry
  · rw [if_neg e, if_neg e]; exact Paired.snoc r ⟨rfl, ry⟩
theorem KV.drop {kvs : List (κ × V)} {vs : List (κ × Value)} (r : KV kvs vs) (k : κ) : KV (dropK kvs k) (without vs k) := by
  unfold KV at r ⊢
  unfold dropK without
  induction r with
  | nil => exact .nil
  | @cons p q ps qs h t ih =>
    obtain ⟨h1, h2⟩ := h
    rw [List.filter_cons, List.filter_cons]
    by_cases e : p.1 = k
    · have a : ¬ decide (p.1 ≠ k) = true := by simp [e]
      have b : ¬ decide (q.1 ≠ k) = true := by simp [h1.symm.trans e]
      rw [if_neg a, if_neg b]; exact ih
    · have e' : ¬ q.1 = k := fun z => e (h1.trans z)
      have a : decide (p.1 ≠ k) = true := by simp [e]
      have b : decide (q.1 ≠ k) = true := by simp [e']
      rw [if_pos a, if_pos b]; exact .cons ⟨h1, h2⟩ ih
theorem KV.length {kvs : List (κ × V)} {vs : List (κ × Value)} (r : KV kvs vs) : kvs.length = vs.length := Paired.length r
end


theorem kV_is {P : Program} {w : World} {k : Key} {u : Value} (r : RelV (kV k) u) : (mixKind P w).is k u = true := by
  cases k with
  | inl i => obtain ⟨t, e⟩ := (show ∃ t, u = Value.int i t from r); subst e; exact mixKind_int P w i t
  | inr x => obtain ⟨t, e⟩ := (show ∃ t, u = Value.str x t from r); subst e; exact mixKind_str P w x t
theorem items_are {P : Program} {w : World} : ∀ {ks : List Key} {us : List Value}, Vals (ks.map kV) us → ItemsAre (mixKind P w) ks us
  | [], _, r => by rw [List.map_nil] at r; cases r; exact .nil
  | k :: ks, _, r => by
    rw [List.map_cons] at r
    cases r with
    | cons h t => exact .cons (kV_is h) (items_are t)

abbrev KT (H : Hp) : List (List Key × V) → List (List Key × Addr × Value) → Prop := Paired fun p q => p.1 = q.1 ∧ H q.2.1 = some (.tup (p.1.map kV)) ∧ RelV p.2 q.2.2
theorem KT.val {H : Hp} {kvs : List (List Key × V)} {xs : List (List Key × Addr × Value)} (r : KT H kvs xs) (k : List Key) : RelO (valV kvs k) ((atKey xs k).map (·.2)) := by
  induction r with
  | nil => exact True.intro
  | @cons p q ps qs h t ih =>
    obtain ⟨h1, _, h2⟩ := h
    by_cases e : p.1 = k
    · have e' : q.1 = k := h1.symm.trans e
      have b : atKey (q :: qs) k = some q.2 := by simp [atKey, List.find?_cons, e']
      rw [valV_pos e, b]; exact h2
    · have e' : ¬ q.1 = k := fun z => e (h1.trans z)
      have b : atKey (q :: qs) k = atKey qs k := by simp [atKey, List.find?_cons, e']
      rw [valV_neg e, b]; exact ih
theorem KT.repl {H : Hp} {kvs : List (List Key × V)} {xs : List (List Key × Addr × Value)} (r : KT H kvs xs) (k : List Key) {y : V} {u : Value} (ry : RelV y u) :
    KT H (kvs.map fun kv => if kv.1 = k then (kv.1, y) else kv) (xs.map (putAt k u)) := by
  induction r with
  | nil => exact .nil
  | @cons p q ps qs h t ih =>
    rw [List.map_cons, List.map_cons]
    refine .cons ?_ ih
    obtain ⟨h1, h2, h3⟩ := h
    unfold putAt
    by_cases e : p.1 = k
    · rw [if_pos e, if_pos (h1.symm.trans e)]; exact ⟨h1, h2, ry⟩
    · rw [if_neg e, if_neg (fun z => e (h1.trans z))]; exact ⟨h1, h2, h3⟩
theorem KT.put {H : Hp} {kvs : List (List Key × V)} {xs : List (List Key × Addr × Value)} (r : KT H kvs xs) (k : List Key) {b : Addr} {y : V} {u : Value} (hb : H b = some (.tup (k.map kV))) (ry : RelV y u) :
    KT H (putK kvs k y) (storedH xs k b u) := by
  have e : (kvs.any fun kv => decide (kv.1 = k)) = (atKey xs k).isSome := by
    rw [valV_any, (r.val k).isSome_eq, Option.isSome_map]
  unfold putK storedH
  rw [e]
  by_cases q : (atKey xs k).isSome = true
  · rw [if_pos q, if_pos q]; exact r.repl k ry
  · rw [if_neg q, if_neg q]; exact Paired.snoc r ⟨rfl, hb, ry⟩
theorem KT.keeps {H H' : Hp} {kvs : List (List Key × V)} {xs : List (List Key × Addr × Value)} (r : KT H kvs xs) (ht : ∀ b ys, H b = some (.tup ys) → H' b = some (.tup ys)) : KT H' kvs xs :=
  Paired.mapP r fun _ _ z => ⟨z.1, ht _ _ z.2.1, z.2.2⟩

section
variable {P : Program} {w : World} {H : Hp} {h : Heap} {a : Addr}
theorem rd_of {u : HO} (ok : HOk P w H h) (e : Rd H a u) : ObjOk P w H h a u := e.ok ok
theorem dk_rd {kvs : List (Key × V)} (ok : HOk P w H h) (e : Rd H a (.dK kvs)) : kvs.length ≤ sizeLine ∧ (a == sysModules) = false ∧ ∃ vs, KV kvs vs ∧ h.DictOf (mixKind P w) a vs :=
  show ObjOk P w H h a (.dK kvs) from rd_of ok e
theorem dk_of {kvs : List (Key × V)} (ok : HOk P w H h) (e : H a = some (.dK kvs)) : kvs.length ≤ sizeLine ∧ (a == sysModules) = false ∧ ∃ vs, KV kvs vs ∧ h.DictOf (mixKind P w) a vs := dk_rd ok (.inl e)
theorem key_of {ks : List Key} (ok : HOk P w H h) (e : H a = some (.tup (ks.map kV))) : (tupleKind (mixKind P w)).is h ks a := by
  obtain ⟨_, its, r, o, h1, h2, n, h3⟩ := (show ObjOk P w H h a (.tup (ks.map kV)) from ok a _ e)
  exact ⟨o, its.toArray, n, h1, h2, h3, by simpa using items_are r⟩
theorem dt_rd {kvs : List (List Key × V)} (ok : HOk P w H h) (e : Rd H a (.dT kvs)) : kvs.length ≤ sizeLine ∧ (a == sysModules) = false ∧
    ∃ xs, KT H kvs xs ∧ h.DictOfH (tupleKind (mixKind P w)) a xs := by
  obtain ⟨z, y, xs, r, o, es, ep, h1, h2, h3, h4, h5⟩ := (show ObjOk P w H h a (.dT kvs) from rd_of ok e)
  refine ⟨z, y, xs, r, o, es, ep, h1, h2, h3, h4, fun x hx => ?_, h5⟩
  have all : ∀ {l : List (List Key × V)} {m : List (List Key × Addr × Value)}, KT H l m → ∀ x ∈ m, (tupleKind (mixKind P w)).is h x.1 x.2.1 := by
    intro l m q
    induction q with
    | nil => intro x hx; exact nomatch hx
    | @cons p q ps qs hq t ih =>
      intro x hx
      rcases List.mem_cons.mp hx with e | hx
      · subst e
        exact key_of ok (by rw [← hq.1]; exact hq.2.1)
      · exact ih x hx
  exact all r x hx
theorem dt_of {kvs : List (List Key × V)} (ok : HOk P w H h) (e : H a = some (.dT kvs)) : kvs.length ≤ sizeLine ∧ (a == sysModules) = false ∧
    ∃ xs, KT H kvs xs ∧ h.DictOfH (tupleKind (mixKind P w)) a xs := dt_rd ok (.inl e)
end

def DGet (H : Hp) (a : Addr) (y : V) (r : Option V) : Prop :=
  (∃ kvs k, Rd H a (.dK kvs) ∧ y = kV k ∧ r = valV kvs k) ∨ ∃ kvs k b, Rd H a (.dT kvs) ∧ y = .ref b ∧ H b = some (.tup (k.map kV)) ∧ r = valV kvs k
def DPut (H : Hp) (a : Addr) (y v : V) (H' : Hp) : Prop :=
  (∃ kvs k, H a = some (.dK kvs) ∧ y = kV k ∧ kvs.length < sizeLine ∧ H' = upd H a (.dK (putK kvs k v))) ∨
  ∃ kvs k b, H a = some (.dT kvs) ∧ y = .ref b ∧ H b = some (.tup (k.map kV)) ∧ kvs.length < sizeLine ∧ H' = upd H a (.dT (putK kvs k v))
theorem DGet.k {H : Hp} {a : Addr} {kvs : List (Key × V)} {k : Key} (e : H a = some (.dK kvs)) : DGet H a (kV k) (valV kvs k) := .inl ⟨kvs, k, .inl e, rfl, rfl⟩
theorem DPut.k {H : Hp} {a : Addr} {kvs : List (Key × V)} {k : Key} {v : V} (e : H a = some (.dK kvs)) (hl : kvs.length < sizeLine) : DPut H a (kV k) v (upd H a (.dK (putK kvs k v))) := .inl ⟨kvs, k, e, rfl, hl, rfl⟩
section
variable {X : Cx} {pins : List (Addr × Obj)} {σ : St} {H : Hp} {s : Shared} {a : Addr} {y v : V} {u r : Value} {o : Option V} {A : Around} {E : Value → Shared → Prop}

theorem Inv.big (I : Inv X pins σ H s) : sysModules < s.heap.objs.size := by
  have h : mainGlobals < s.heap.objs.size := (I.mod.glob.keeps I.bk).lt
  exact Nat.lt_trans (by decide) h

theorem d_getItem {Q : Value → Shared → Prop} (hu : A.units + 1 < cLine) (I : Inv X pins σ H s) (g : DGet H a y (some v)) (ry : RelV y u) (h : ∀ w' s', Inv X pins σ H s' → RelV v w' → Q w' s') :
    wpAny (model X.prog X.w) A (getItem (.ref a) u) Q E s := by
  rcases g with ⟨kvs, k, e, ey, l⟩ | ⟨kvs, k, b, e, ey, eb, l⟩
  · subst ey
    obtain ⟨z, hd, vs, rel, dd⟩ := dk_rd I.hok e
    obtain ⟨w', hw, rw'⟩ := RelO.some_of (v := v) (o := valueAt vs k) (by rw [l]; exact rel.val k)
    exact wpAny_getItem_of (kV_is ry) dd.mapOf hw (h w' _ (I.tok _) rw')
  · subst ey
    cases (show u = Value.ref b from ry)
    obtain ⟨z, hd, xs, rel, dd⟩ := dt_rd I.hok e
    obtain ⟨w', hw, rw'⟩ := RelO.some_of (v := v) (o := (atKey xs k).map (·.2)) (by rw [l]; exact rel.val k)
    obtain ⟨p, hp, hp2⟩ := Option.map_eq_some_iff.mp hw
    refine wpAny_getItem_heap (tupleKind_room_in1 hu) (key_of I.hok eb) dd hp ?_
    rw [hp2]
    exact h w' _ (I.tok _) rw'
theorem d_write {h' : Heap} {t' : Nat} {ob : HO} (I : Inv X pins σ H s) (mu : Mut (H a)) (hs : Heap.SameBut a s.heap h') (he : ∃ q, h'.get? a = some q) (new : ObjOk X.prog X.w (upd H a ob) h' a ob) :
    Inv X pins σ (upd H a ob) { s with heap := h', toks := t' } :=
  I.write (x := a) (e := a) mu (.inl rfl) (fun b q hb z => (hs.2 b hb).trans z) he new
theorem dk_new {P : Program} {w : World} {H' : Hp} {h' : Heap} {kvs : List (Key × V)} {vs : List (Key × Value)} (z : kvs.length ≤ sizeLine) (hd : (a == sysModules) = false) (rel : KV kvs vs) (dd : h'.DictOf (mixKind P w) a vs) :
    ObjOk P w H' h' a (.dK kvs) := ⟨z, hd, vs, rel, dd⟩
theorem d_setItem {H' : Hp} {Q : Unit → Shared → Prop} (hu : A.units + 1 < cLine) (I : Inv X pins σ H s) (g : DPut H a y v H') (ry : RelV y u) (rv : RelV v r) (h : ∀ s', Inv X pins σ H' s' → Q () s') :
    wpAny (model X.prog X.w) A (setItem (.ref a) u r) Q E s := by
  rcases g with ⟨kvs, k, e, ey, l, eH⟩ | ⟨kvs, k, b, e, ey, eb, l, eH⟩
  · subst ey eH
    obtain ⟨z, hd, vs, rel, dd⟩ := dk_of I.hok e
    have hz : vs.length ≤ sizeLine := by rw [← rel.length]; exact z
    have hl : (putK kvs k v).length ≤ sizeLine := by have := length_putK kvs k v; omega
    refine wpAny_setItem_pairs (hsz := hz) (kV_is ry) dd fun h' dd' hs => h _ ?_
    have he : ∃ q, h'.get? a = some q := let ⟨q, _, _, hq, _⟩ := dd'; ⟨q, hq⟩
    exact d_write I (by rw [e]; exact True.intro) hs he (dk_new hl hd (rel.put k rv) dd')
  · subst ey eH
    cases (show u = Value.ref b from ry)
    obtain ⟨z, hd, xs, rel, dd⟩ := dt_of I.hok e
    have hz : xs.length ≤ sizeLine := by rw [← Paired.length rel]; exact z
    have hl : (putK kvs k v).length ≤ sizeLine := by have := length_putK kvs k v; omega
    refine wpAny_setItem_heap (hsz := hz) (tupleKind_room_in1 hu) (key_of I.hok eb) dd fun h' dd' hs => h _ ?_
    obtain ⟨q, es, ep, hq, h2, h3, h4, _, h5⟩ := dd'
    refine d_write I (by rw [e]; exact True.intro) hs ⟨q, hq⟩ ⟨hl, hd, _, (rel.put k eb rv).keeps fun c ys ec => ?_, q, es, ep, hq, h2, h3, h4, h5⟩
    rw [upd_ne (ne_of ec e (fun z => nomatch z))]
    exact ec
end

section
variable {X : Cx} {pins : List (Addr × Obj)} {σ : St} {H : Hp} {s : Shared} {a : Addr} {kvs : List (Key × V)} {k : Key} {u : Value} {A : Around} {E : Value → Shared → Prop}
end


def NoSl (i : Expr) : Prop := ∀ ov iv, subscripted i false ov iv = operate [ov, iv] (getItem ov iv)
theorem subD_of {prog : Program} {w : World} {A : Around} {E : Value → Shared → Prop} {s : Shared} {env : Env} {value slice : Expr} {pos : Pos} {T id : String} {Q : Value → Shared → Prop}
    (hl : typeLookup (.type T) "__getitem__" = pure (some (.builtin id))) (hs : NoSl slice)
    (h : wpAny (model prog w) A (eval value env) (fun o s₁ => wpAny (model prog w) A (eval slice env) (fun i s₂ => s₂.TypeIs o T ∧ wpAny (model prog w) A (getItem o i) Q E s₂) E s₁) E s) :
    wpAny (model prog w) A (eval (.Subscript value slice pos) env) Q E s := by
  refine Subscript_ (wpAny_mono h (fun o s₁ h₁ => wpAny_mono h₁ (fun i s₂ h₂ => ?_) fun _ _ x => x) fun _ _ x => x)
  obtain ⟨hT, h₂⟩ := h₂
  unfold subscriptTail
  refine wpAny_bind ?_
  rw [getitemInPython_of_ne hT.not_modules]
  refine wpAny_bind (wpAny_specialOf hT hl ?_)
  have fin : wpAny (model prog w) A (subscripted slice false o i) (fun r s₃ => wpAny (model prog w) A (letTemporaryGo value o r >>= fun _ => pure r) Q E s₃) E s₂ := by
    rw [hs o i]
    exact wpAny_operating (wpAny_mono h₂ (fun r s₃ h₃ => wpAny_bind (wpAny_letTemporaryGo (wpAny_pure h₃))) fun _ _ x => x)
  first
    | exact wpAny_pure (wpAny_bind fin)
    | exact wpAny_bind (wpAny_pure (wpAny_bind fin))
    | exact wpAny_bind fin

theorem dict_typeIs {X : Cx} {pins : List (Addr × Obj)} {σ : St} {H : Hp} {s : Shared} {a : Addr} {y : V} {o : Option V} (I : Inv X pins σ H s) (g : DGet H a y o) : s.TypeIs (.ref a) "dict" := by
  rcases g with ⟨kvs, k, e, _, _⟩ | ⟨kvs, k, b, e, _, _, _⟩
  · obtain ⟨_, _, vs, _, dd⟩ := dk_rd I.hok e
    exact dd.typeIs
  · obtain ⟨_, _, xs, _, dd⟩ := dt_rd I.hok e
    exact dd.typeIs
def tDGet (td ty : TE) : TE := fun σ H Q => td σ H fun x H1 => ty σ H1 fun y H2 => ∃ a v, x = .ref a ∧ DGet H2 a y (some v) ∧ Q v H2
def tDIn (ty td : TE) : TE := fun σ H Q => ty σ H fun y H1 => td σ H1 fun x H2 => ∃ a o, x = .ref a ∧ DGet H2 a y o ∧ Q (.bl o.isSome) H2
def tDNotIn (ty td : TE) : TE := fun σ H Q => ty σ H fun y H1 => td σ H1 fun x H2 => ∃ a o, x = .ref a ∧ DGet H2 a y o ∧ Q (.bl (!o.isSome)) H2
def sDPut (td ty tv : TE) : TS := fun D σ H => tv σ H fun v H1 => td σ H1 fun x H2 => ty σ H2 fun y H3 => ∃ a H4, x = .ref a ∧ DPut H3 a y v H4 ∧ D.nx σ H4
section
variable {X : Cx} {o i e value : Expr} {pos pos' tpos : Pos} {td ty tv : TE}
theorem pe_dget (hu : X.A.units + 1 < cLine) (ho : PE X o td) (hi : PE X i ty) (hs : NoSl i) : PE X (.Subscript o i pos) (tDGet td ty) := by
  intro pins s σ H Q I h
  refine subD_of PySem.F.slot_dict_getitem.lookup hs (thn (ho pins s σ H _ I h) fun u s1 ⟨x, H1, I1, rx, q1⟩ => thn (hi pins s1 σ H1 _ I1 q1) fun iv s2 ⟨y, H2, I2, ry, a, v, ex, g, q2⟩ => ?_)
  subst ex
  obtain rfl : u = Value.ref a := rx
  exact ⟨dict_typeIs I2 g, d_getItem hu I2 g ry fun w' s3 I3 rw' => ⟨v, H2, I3, rw', q2⟩⟩
theorem ps_dput (hu : X.A.units + 1 < cLine) (ho : PE X o td) (hi : PE X i ty) (hv : PE X value tv) (hs : swapsWith value (some (.Subscript o i pos')) pos.line X.env = pure false) :
    PS X (.Assign [.Subscript o i pos'] value pos) (sDPut td ty tv) := by
  intro pins s σ H D I h
  refine wpAny_Assign_Subscript (thn (hv pins s σ H _ I h) fun r s1 ⟨v, H1, I1, rv, q1⟩ => thn (ho pins s1 σ H1 _ I1 q1) fun u s2 ⟨x, H2, I2, rx, q2⟩ => thn (hi pins s2 σ H2 _ I2 q2) fun iv s3 ⟨y, H3, I3, ry, a, H4, ex, g, q3⟩ => ?_) hs
  subst ex
  obtain rfl : u = Value.ref a := rx
  exact d_setItem hu I3 g ry rv fun s4 I4 => ⟨σ, H4, I4, q3⟩
end


theorem dk_empty {P : Program} {w : World} {H : Hp} (h : Heap) (hb : sysModules < h.objs.size) : ObjOk P w H (h.push { cls := .type "dict", data := .dict #[] }) h.objs.size (.dK []) :=
  ⟨Nat.zero_le _, beq_eq_false_iff_ne.mpr (Ne.symm (Nat.ne_of_lt hb)), [], .nil, Heap.DictOf.new h⟩
def tDNewK : TE := fun _ H Q => ∀ p, H p = none → Q (.ref p) (upd H p (.dK []))
section
variable {X : Cx} {pos : Pos}
end

def tPairs : List (TE × TE) → St → Hp → (List (V × V) → Hp → Prop) → Prop
  | [], _, H, Q => Q [] H
  | (tk, tv) :: r, σ, H, Q => tk σ H fun x H1 => tv σ H1 fun y H2 => tPairs r σ H2 fun ps H3 => Q ((x, y) :: ps) H3
abbrev VV : List (V × V) → List (Value × Value) → Prop := Paired fun p q => RelV p.1 q.1 ∧ RelV p.2 q.2
def PPs (X : Cx) (pos : Pos) (keys : List (Option Expr)) (values : List Expr) (trs : List (TE × TE)) : Prop :=
  ∀ (pins : List (Addr × Obj)) (s : Shared) (σ : St) (H : Hp) (Q : List (V × V) → Hp → Prop), Inv X pins σ H s → tPairs trs σ H Q →
    wpAny (model X.prog X.w) X.A (evalPairs (pairTrees keys values X.env pos)) (fun vs s' => ∃ ps H', Inv X pins σ H' s' ∧ VV ps vs ∧ Q ps H') X.xe s
theorem pps_nil {X : Cx} {pos : Pos} : PPs X pos [] [] [] := fun pins s σ H Q I h => pairTrees_nil_walk ⟨[], H, I, .nil, h⟩
theorem pps_cons {X : Cx} {pos : Pos} {k v : Expr} {ks : List (Option Expr)} {vs : List Expr} {tk tv : TE} {trs : List (TE × TE)} (hk : PE X k tk) (hv : PE X v tv) (hr : PPs X pos ks vs trs) :
    PPs X pos (some k :: ks) (v :: vs) ((tk, tv) :: trs) := fun pins s σ H Q I h =>
  pairTrees_cons_walk (thn (hk pins s σ H _ I h) fun u s1 ⟨x, H1, I1, rx, q1⟩ => thn (hv pins s1 σ H1 _ I1 q1) fun w2 s2 ⟨y, H2, I2, ry, q2⟩ =>
    thn (hr pins s2 σ H2 _ I2 q2) fun ws s3 ⟨ps, H3, I3, rel, q3⟩ => ⟨(x, y) :: ps, H3, I3, .cons ⟨rx, ry⟩ rel, q3⟩)

def mergeK (kvs more : List (Key × V)) : List (Key × V) := more.foldl (fun acc kv => putK acc kv.1 kv.2) kvs
theorem KV.merge : ∀ {more : List (Key × V)} {rs : List (Key × Value)} {kvs : List (Key × V)} {vs : List (Key × Value)}, KV more rs → KV kvs vs → KV (mergeK kvs more) (merged vs rs) := by
  intro more rs kvs vs r
  unfold KV at r
  induction r generalizing kvs vs with
  | nil => intro q; exact q
  | @cons p q ps qs h t ih =>
    intro r0
    have e : KV (putK kvs p.1 p.2) (stored vs q.1 q.2) := by
      have := r0.put p.1 h.2
      rw [← h.1]; exact this
    exact ih e
theorem length_mergeK : ∀ (more kvs : List (Key × V)), (mergeK kvs more).length ≤ kvs.length + more.length
  | [], kvs => by show kvs.length ≤ kvs.length + 0; omega
  | p :: r, kvs => by
    have h1 := length_mergeK r (putK kvs p.1 p.2)
    have h2 := length_putK kvs p.1 p.2
    show (mergeK (putK kvs p.1 p.2) r).length ≤ _
    rw [List.length_cons]; omega
theorem carries_of {P : Program} {w : World} : ∀ {kvs : List (Key × V)} {ws : List (Value × Value)}, VV (kvs.map fun kv => (kV kv.1, kv.2)) ws → ∃ rs, Carries (mixKind P w) ws rs ∧ KV kvs rs
  | [], _, r => by rw [List.map_nil] at r; cases r; exact ⟨[], True.intro, .nil⟩
  | p :: kvs, _, r => by
    rw [List.map_cons] at r
    cases r with
    | @cons a b as bs h t =>
      obtain ⟨rs, c, q⟩ := carries_of (P := P) (w := w) t
      obtain ⟨b1, b2⟩ := b
      exact ⟨(p.1, b2) :: rs, ⟨kV_is h.1, rfl, c⟩, .cons ⟨rfl, h.2⟩ q⟩
def tDisp (trs : List (TE × TE)) : TE := fun σ H Q => ∀ p, H p = none → tPairs trs σ (upd H p (.dK [])) fun ps H2 => H2 p = some (.dK []) ∧ ∃ kvs : List (Key × V), ps = kvs.map (fun kv => (kV kv.1, kv.2)) ∧ kvs.length ≤ 15 ∧ Q (.ref p) (upd H2 p (.dK (mergeK [] kvs)))
theorem pe_disp {X : Cx} {pos : Pos} {keys : List (Option Expr)} {values : List Expr} {trs : List (TE × TE)} (h : PPs X pos keys values trs) (hall : keys.all (·.isSome) = true) (hl : keys.length = values.length) (h0 : keys ≠ [])
    (h15 : keys.length ≤ 15) : PE X (.Dict keys values pos) (tDisp trs) := by
  intro pins s σ H Q I q
  have hn := I.hok.fresh (Nat.le_refl s.heap.objs.size)
  have I1 := I.laid (a := s.heap.objs.size) (o := .dK []) (h' := s.heap.push { cls := .type "dict", data := .dict #[] }) (t' := s.toks) (fun _ _ q => Heap.get?_push_of_some _ q) (Nat.le_refl _) (dk_empty s.heap I.big)
  refine wpAny_Dict_walk (knd := mixKind X.prog X.w) hall hl h0 h15 (thn (h pins _ σ _ _ I1 (q _ hn)) fun ws s2 ⟨ps, H2, I2, rel, e, kvs, ep, lk, q2⟩ => ?_)
  subst ep
  obtain ⟨rs, c, rk⟩ := carries_of (P := X.prog) (w := X.w) rel
  obtain ⟨z, hd, vs0, r0, dd⟩ := dk_of I2.hok e
  cases r0
  refine ⟨rs, c, dd, fun h' dd' hs => ⟨.ref s.heap.objs.size, _, ?_, rfl, q2⟩⟩
  have hz : (mergeK [] kvs).length ≤ sizeLine := by
    have h1 := length_mergeK kvs []
    rw [List.length_nil] at h1
    rw [sizeLine_eq]; omega
  have he : ∃ q, h'.get? s.heap.objs.size = some q := let ⟨q, _, _, hq, _⟩ := dd'; ⟨q, hq⟩
  exact d_write I2 (by rw [e]; exact True.intro) hs he (dk_new hz hd (rk.merge .nil) dd')


structure M1 (X : Cx) (o : Expr) (m : Str) (apos : Pos) (e : Expr) (cpos : Pos) : Prop where
  base : attributeBase o m X.env (eval o X.env) = eval o X.env
  few : ((backTo cpos (starEach [e] X.env)).all (fun x => !x.1) && (backToKw cpos (keywordEach [] X.env)).all (fun x => x.1.isSome)
    && decide (([e] : List Expr).length + ([] : List Keyword).length + (if ([] : List Keyword).isEmpty then 0 else 1) < 30)) = true
  line : (apos.endLine == cpos.line) = true
  trees : backTo cpos (starEach [e] X.env) = [(false, eval e X.env)]
structure M2 (X : Cx) (o : Expr) (m : Str) (apos : Pos) (e f : Expr) (cpos : Pos) : Prop where
  base : attributeBase o m X.env (eval o X.env) = eval o X.env
  few : ((backTo cpos (starEach [e, f] X.env)).all (fun x => !x.1) && (backToKw cpos (keywordEach [] X.env)).all (fun x => x.1.isSome)
    && decide (([e, f] : List Expr).length + ([] : List Keyword).length + (if ([] : List Keyword).isEmpty then 0 else 1) < 30)) = true
  line : (apos.endLine == cpos.line) = true
  trees : backTo cpos (starEach [e, f] X.env) = [(false, eval e X.env), (false, eval f X.env)]

def IsD (H : Hp) (a : Addr) : Prop := (∃ kvs, Rd H a (.dK kvs)) ∨ ∃ kvs, Rd H a (.dT kvs)
section
variable {X : Cx} {pins : List (Addr × Obj)} {σ : St} {H : Hp} {s : Shared} {a : Addr} {y d : V} {u r : Value} {o : Option V} {A : Around} {E : Value → Shared → Prop}
end

def tDPop1 (td ty : TE) : TE := fun σ H Q => td σ H fun x H1 => ∃ a, x = .ref a ∧ IsD H1 a ∧ ty σ H1 fun y H2 => ∃ kvs k v, H2 a = some (.dK kvs) ∧ y = kV k ∧ valV kvs k = some v ∧ Q v (upd H2 a (.dK (dropK kvs k)))
section
variable {X : Cx} {o e f : Expr} {apos cpos : Pos} {td ty tx : TE}
end

section
variable {X : Cx} {pins : List (Addr × Obj)} {σ : St} {H : Hp} {s : Shared} {a : Addr} {kvs : List (Key × V)} {A : Around} {E : Value → Shared → Prop}
end


section
variable {X : Cx} {pins : List (Addr × Obj)} {σ : St} {H : Hp} {s : Shared} {a : Addr} {y : V} {u : Value} {A : Around} {E : Value → Shared → Prop}
end
end L2
namespace L2
open PySem PySem.Spec PyProof.Rows
section
variable {X : Cx}
end
section
variable {κ : Type} [DecidableEq κ]
end
end L2

set_option maxHeartbeats 4000000
namespace L2
open PySem PySem.Spec PyProof.Rows

theorem noE {α : Type} {M : Model} {A : Around} {t : Sem α} {Q : α → Shared → Prop} {E : Value → Shared → Prop} {s : Shared} (h : wpAny M A t Q (fun _ _ => False) s) : wpAny M A t Q E s :=
  wpAny_mono h (fun _ _ q => q) fun _ _ f => f.elim

def closL (cells : List (Str × Addr)) : List (Str × NameKind) → List (Str × Addr) → List (Str × Addr)
  | [], acc => acc
  | (n, k) :: r, acc => closL cells r (if (k == NameKind.free) = true then (n, (cells.lookup n).getD 0) :: acc else acc)
theorem closL_sub {cells : List (Str × Addr)} {y : Str} {c : Addr} : ∀ (names : List (Str × NameKind)) (acc : List (Str × Addr)),
    (closL cells names acc).lookup y = some c → acc.lookup y = some c ∨ ((y, NameKind.free) ∈ names ∧ c = (cells.lookup y).getD 0)
  | [], acc, h => .inl h
  | (n, k) :: r, acc, h => by
    rcases closL_sub r _ h with h1 | ⟨h1, h2⟩
    · by_cases hk : (k == NameKind.free) = true
      · rw [if_pos hk, List.lookup_cons] at h1
        by_cases e : (y == n) = true
        · rw [e] at h1
          have e1 : y = n := by simpa using e
          have e2 : k = NameKind.free := by simpa using hk
          subst e1 e2
          exact .inr ⟨List.mem_cons_self, (Option.some.inj h1).symm⟩
        · have e1 : (y == n) = false := by simpa using e
          rw [e1] at h1
          exact .inl h1
      · rw [if_neg hk] at h1
        exact .inl h1
    · exact .inr ⟨List.mem_cons_of_mem _ h1, h2⟩
theorem closL_keeps {cells : List (Str × Addr)} {y : Str} : ∀ (names : List (Str × NameKind)) (acc : List (Str × Addr)), (∃ c, acc.lookup y = some c) → ∃ c, (closL cells names acc).lookup y = some c
  | [], _, h => h
  | (n, k) :: r, acc, h => by
    refine closL_keeps r _ ?_
    by_cases hk : (k == NameKind.free) = true
    · rw [if_pos hk, List.lookup_cons]
      by_cases e : (y == n) = true
      · rw [e]; exact ⟨_, rfl⟩
      · have e1 : (y == n) = false := by simpa using e
        rw [e1]; exact h
    · rw [if_neg hk]; exact h
theorem closL_has {cells : List (Str × Addr)} {y : Str} : ∀ (names : List (Str × NameKind)) (acc : List (Str × Addr)), (y, NameKind.free) ∈ names → ∃ c, (closL cells names acc).lookup y = some c
  | [], _, h => by simp at h
  | (n, k) :: r, acc, h => by
    rcases List.mem_cons.mp h with h | h
    · cases h
      refine closL_keeps r _ ?_
      rw [if_pos (by rfl), List.lookup_cons, beq_self_eq_true]
      exact ⟨_, rfl⟩
    · exact closL_has r _ h
theorem closureFor_free {scope : Scope} {env : Env} (h : ∀ x, (x, NameKind.free) ∈ scope.names → ∃ c, env.cells.lookup x = some c) : closureFor scope env = pure (closL env.cells scope.names []) := by
  have go : ∀ (names : List (Str × NameKind)) (acc : List (Str × Addr)), (∀ x, (x, NameKind.free) ∈ names → ∃ c, env.cells.lookup x = some c) →
      (forIn names acc fun (x : Str × NameKind) (cs : List (Str × Addr)) => match x with
        | (name, kind) => if (kind == NameKind.free) = true then do let a ← cellOf env name; pure (ForInStep.yield ((name, a) :: cs)) else pure (ForInStep.yield cs) : Sem (List (Str × Addr)))
      = pure (closL env.cells names acc) := by
    intro names
    induction names with
    | nil => intro acc _; rfl
    | cons x r ih =>
      intro acc hx
      obtain ⟨n, k⟩ := x
      rw [List.forIn_cons]
      by_cases hk : (k == NameKind.free) = true
      · have e2 : k = NameKind.free := by simpa using hk
        obtain ⟨c, hc⟩ := hx n (by rw [e2]; exact List.mem_cons_self)
        have hcell : cellOf env n = pure c := by unfold cellOf; rw [hc]
        simp only [hk, if_true, hcell]
        show (forIn r ((n, c) :: acc) _ : Sem (List (Str × Addr))) = _
        rw [ih _ fun y hy => hx y (List.mem_cons_of_mem _ hy)]
        simp only [closL, hk, if_true, hc, Option.getD_some]
      · simp only [hk, if_false]
        show (forIn r acc _ : Sem (List (Str × Addr))) = _
        rw [ih _ fun y hy => hx y (List.mem_cons_of_mem _ hy)]
        simp only [closL, hk, if_false]
        rfl
  have := go scope.names [] h
  unfold closureFor
  exact (congrArg (fun (t : Sem (List (Str × Addr))) => t >>= fun cs => (pure cs : Sem (List (Str × Addr)))) this).trans rfl

theorem lookup_relabel_free {env : Env} : ∀ {names : List (Str × NameKind)} {x : Str}, names.lookup x = some .free →
    (names.map fun (n, k) => if (k == NameKind.free && env.scope.kind == .function && env.kindOf n == some .cell) then (n, NameKind.cell) else (n, k)).lookup x = some .cell ∨
    (names.map fun (n, k) => if (k == NameKind.free && env.scope.kind == .function && env.kindOf n == some .cell) then (n, NameKind.cell) else (n, k)).lookup x = some .free
  | [], _, h => by simp at h
  | (n, k) :: r, x, h => by
    have ih := @lookup_relabel_free env r x
    show List.lookup x ((if (k == NameKind.free && env.scope.kind == .function && env.kindOf n == some .cell) = true then (n, NameKind.cell) else (n, k)) :: _) = _ ∨ List.lookup x ((if (k == NameKind.free && env.scope.kind == .function && env.kindOf n == some .cell) = true then (n, NameKind.cell) else (n, k)) :: _) = _
    cases hx : x == n with
    | true =>
      simp only [List.lookup_cons, hx] at h
      cases h
      by_cases hc : (NameKind.free == NameKind.free && env.scope.kind == .function && env.kindOf n == some .cell) = true
      · rw [if_pos hc]; left; simp [List.lookup_cons, hx]
      · rw [if_neg hc]; right; simp [List.lookup_cons, hx]
    | false =>
      simp only [List.lookup_cons, hx] at h
      by_cases hc : (k == NameKind.free && env.scope.kind == .function && env.kindOf n == some .cell) = true
      · rw [if_pos hc]; simp only [List.lookup_cons, hx]; exact ih h
      · rw [if_neg hc]; simp only [List.lookup_cons, hx]; exact ih h
theorem lookup_relabel_back {env : Env} {k : NameKind} : ∀ {names : List (Str × NameKind)} {x : Str},
    (names.map fun (n, k) => if (k == NameKind.free && env.scope.kind == .function && env.kindOf n == some .cell) then (n, NameKind.cell) else (n, k)).lookup x = some k →
    names.lookup x = some k ∨ (k = .cell ∧ names.lookup x = some .free)
  | [], _, h => by simp at h
  | (n, j) :: r, x, h => by
    have ih := @lookup_relabel_back env k r x
    have h' : List.lookup x ((if (j == NameKind.free && env.scope.kind == .function && env.kindOf n == some .cell) = true then (n, NameKind.cell) else (n, j)) :: r.map fun (n, k) => if (k == NameKind.free && env.scope.kind == .function && env.kindOf n == some .cell) then (n, NameKind.cell) else (n, k)) = some k := h
    cases hx : x == n with
    | true =>
      by_cases hc : (j == NameKind.free && env.scope.kind == .function && env.kindOf n == some .cell) = true
      · rw [if_pos hc] at h'
        simp only [List.lookup_cons, hx] at h' ⊢
        cases h'
        have e : j = NameKind.free := by
          have := hc
          simp only [Bool.and_eq_true] at this
          simpa using this.1.1
        rw [e]
        exact .inr ⟨rfl, rfl⟩
      · rw [if_neg hc] at h'
        simp only [List.lookup_cons, hx] at h' ⊢
        exact .inl h'
    | false =>
      by_cases hc : (j == NameKind.free && env.scope.kind == .function && env.kindOf n == some .cell) = true
      · rw [if_pos hc] at h'; simp only [List.lookup_cons, hx] at h' ⊢; exact ih h'
      · rw [if_neg hc] at h'; simp only [List.lookup_cons, hx] at h' ⊢; exact ih h'

def compChk (sc osc : Scope) (N N' : List Str) (sel : List (Option Nat)) : Bool :=
  (sc.names.all fun p => match p.2 with
    | .free => (osc.names.lookup p.1 == some .cell || osc.names.lookup p.1 == some .free) && sc.names.lookup p.1 == some .free
    | .cell => false
    | .local => sc.names.lookup p.1 == some .local
    | _ => true) && N'.length == sel.length && ((N'.zip sel).all fun p => match p.2 with
      | none => true
      | some j => N[j]? == some p.1 && sc.names.lookup p.1 == some .free)
def selS (sel : List (Option Nat)) (σ : St) : St := sel.map fun o => o.bind fun j => (σ[j]?).join

def cxComp (X : Cx) (N' : List Str) (scope : Scope) (C : Addr) (s : Shared) (H : Hp) (fp : List Addr) (pn : List (Addr × Obj)) : Cx where
  prog := X.prog
  w := X.w
  K := X.K
  mg := X.mg
  base := X.base
  A := X.A
  N := N'
  s₀ := s
  H₀ := H
  env := compEnvC scope (closL X.env.cells scope.names []) C X.env
  outer := X.stack
  stack := X.stack
  ex := fp
  fn := fun x => decide (scope.names.lookup x = some NameKind.local)
  calm := X.calm
  pn := pn
  xe := fun _ _ => False

section
variable {X : Cx} {pins : List (Addr × Obj)} {σ : St} {H : Hp} {s : Shared}

structure ChkOk (X : Cx) (sc : Scope) (N' : List Str) (sel : List (Option Nat)) : Prop where
  fr : ∀ x, (x, NameKind.free) ∈ sc.names → (X.env.kindOf x = some .cell ∨ X.env.kindOf x = some .free) ∧ sc.names.lookup x = some .free
  nc : ∀ y ∈ sc.names, y.2 ≠ NameKind.cell
  lo : ∀ y ∈ sc.names, y.2 = NameKind.local → sc.names.lookup y.1 = some .local
  ln : N'.length = sel.length
  sl : ∀ (i : Nat) (x : Str) (j : Nat), N'[i]? = some x → sel[i]? = some (some j) → X.N[j]? = some x ∧ sc.names.lookup x = some .free
theorem chk_ok {sc : Scope} {N' : List Str} {sel : List (Option Nat)} (h : compChk sc X.env.scope X.N N' sel = true) : ChkOk X sc N' sel := by
  unfold compChk at h
  simp only [Bool.and_eq_true] at h
  obtain ⟨⟨h1, h2⟩, h3⟩ := h
  rw [List.all_eq_true] at h1 h3
  refine ⟨fun x hx => ?_, fun y hy e => ?_, fun y hy e => ?_, by simpa using h2, fun i x j e1 e2 => ?_⟩
  · have := h1 _ hx
    simp only [Bool.and_eq_true, Bool.or_eq_true, beq_iff_eq] at this
    exact this
  · have := h1 _ hy
    rw [e] at this
    simp at this
  · have := h1 _ hy
    rw [e] at this
    simpa using this
  · have hm : (x, some j) ∈ N'.zip sel := by
      refine List.mem_of_getElem? (i := i) ?_
      rw [List.getElem?_zip_eq_some]
      exact ⟨e1, e2⟩
    have := h3 _ hm
    simp only [Bool.and_eq_true, beq_iff_eq] at this
    exact this

theorem clos_cells (I : Inv X pins σ H s) {sc : Scope} {N' : List Str} {sel : List (Option Nat)} (k : ChkOk X sc N' sel) :
    (∀ x, (x, NameKind.free) ∈ sc.names → ∃ c, X.env.cells.lookup x = some c) ∧ (∀ x c, (closL X.env.cells sc.names []).lookup x = some c → X.env.cells.lookup x = some c ∧ (x, NameKind.free) ∈ sc.names) := by
  have a : ∀ x, (x, NameKind.free) ∈ sc.names → ∃ c, X.env.cells.lookup x = some c := fun x hx => I.ok.has x (k.fr x hx).1
  refine ⟨a, fun x c h => ?_⟩
  rcases closL_sub _ _ h with h | ⟨h, e⟩
  · simp at h
  · obtain ⟨c', hc⟩ := a x h
    rw [hc] at e
    exact ⟨by rw [hc, e]; rfl, h⟩

theorem inv_block (I : Inv X pins σ H s) {scope : Scope} {N' : List Str} {sel : List (Option Nat)} {C : Addr} {fp : List Addr} {h₁ : Heap} {t' : Nat} {m : Str → Option Value} (hk : scope.kind = .function)
    (k : ChkOk X scope N' sel) (hC : s.heap.objs.size ≤ C) (hf : ∀ b ∈ fp, FpOk X pins H b) (hfl : ∀ b ∈ fp, b < s.heap.objs.size) (hns : h₁.Ns C m) (hkeep : ∀ b o, s.heap.get? b = some o → h₁.get? b = some o) :
    Inv (cxComp X N' scope C s H fp (X.pn ++ pins)) [] (selS sel σ) H { s with heap := h₁, toks := t' } := by
  obtain ⟨cl1, cl2⟩ := clos_cells I k
  have lkf : ∀ x, scope.names.lookup x = some .free → (relabel scope X.env).names.lookup x = some .cell ∨ (relabel scope X.env).names.lookup x = some .free := fun x hx => lookup_relabel_free hx
  have hfr : ∀ x, (relabel scope X.env).names.lookup x = some .cell ∨ (relabel scope X.env).names.lookup x = some .free → (x, NameKind.free) ∈ scope.names := fun x hx => by
    rcases hx with hx | hx
    · rcases lookup_relabel_back hx with h | ⟨_, h⟩
      · exact absurd rfl (k.nc _ (PySem.mem_of_lookup h))
      · exact PySem.mem_of_lookup h
    · rcases lookup_relabel_back hx with h | ⟨e, h⟩
      · exact PySem.mem_of_lookup h
      · exact PySem.mem_of_lookup h
  refine ⟨⟨I.ok.mod, hk, I.ok.glob, I.ok.blt, hC, fun x y c h1 h2 => ?_, fun x hx => ?_, fun x c h1 h2 => ?_, I.ok.hd, I.ok.frames, .inl rfl, fun b hb => ?_, I.bs, Nat.le_trans I.ok.bsz I.sz, fun b o e hb => ?_, fun b hb hb2 => ?_, I.stack, I.stkFree⟩,
    rfl, I.bare, Un.kept hkeep, ⟨m, hns, fun i x v e1 e2 e3 => ?_⟩, fun x c h => ?_, I.hok.fresh hC, fun x c h => ?_, fun p hp => ?_, I.hok.kept hkeep, ?_⟩
  · exact I.ok.inj x y c (cl2 x c h1).1 (cl2 y c h2).1
  · exact closL_has _ _ (hfr x hx)
  · have h1' : scope.names.lookup x = some NameKind.local := of_decide_eq_true h1
    have := (k.fr x (cl2 x c h2).2).2
    rw [h1'] at this
    cases this
  · refine ⟨Nat.ne_of_lt (Nat.lt_of_lt_of_le (hfl b hb) hC), fun x c h => ?_⟩
    exact (hf b hb).2.2.2.2.1 x c (cl2 x c h).1
  · rcases (hf b hb).2.2.2.1 with z | z
    · exact I.ok.noex b o e z
    · exact absurd (Nat.lt_of_lt_of_le (Heap.lt_size e) (Nat.le_trans I.ok.bsz z)) (Nat.lt_irrefl _)
  · rcases List.mem_cons.mp (I.stkSub b hb2) with z | z
    · exact (hf b hb).2.1 z
    · exact (hf b hb).2.2.1 z
  · -- a free name
    have e2' : sel[i]?.map (fun o => o.bind fun j => (σ[j]?).join) = some (some v) := by
      have := e2
      unfold selS at this
      rwa [List.getElem?_map] at this
    cases hs : sel[i]? with
    | none => rw [hs] at e2'; cases e2'
    | some o =>
      rw [hs] at e2'
      cases o with
      | none => cases e2'
      | some j =>
        have e4 : (σ[j]?).join = some v := Option.some.inj e2'
        have e5 : σ[j]? = some (some v) := by
          cases q : σ[j]? with
          | none => rw [q] at e4; cases e4
          | some r => rw [q] at e4; rw [show r = some v from e4]
        obtain ⟨hX, hl⟩ := k.sl i x j e1 hs
        obtain ⟨kk, _⟩ := k.fr x (PySem.mem_of_lookup hl)
        obtain ⟨m0, _, hloc⟩ := I.loc
        obtain ⟨u, ru, lu⟩ := hloc j x v hX e5 (kk.elim (fun z => .inr (.inl z)) fun z => .inr (.inr z))
        refine ⟨u, ru, ?_⟩
        rcases lu with ⟨z, _⟩ | ⟨_, c, hc, hcell⟩
        · rcases kk with y | y <;> (rw [z] at y; cases y)
        · refine .inr ⟨lkf x hl, c, ?_, hcell.keeps hkeep⟩
          obtain ⟨c', hc'⟩ := closL_has (cells := X.env.cells) scope.names [] (PySem.mem_of_lookup hl)
          have := (cl2 x c' hc').1
          rw [hc] at this
          cases this
          exact hc'
  · obtain ⟨v, z⟩ := I.cell x c (cl2 x c h).1
    exact ⟨v, z.keeps hkeep⟩
  · exact I.freeC x c (cl2 x c h).1
  · have hp' : p ∈ X.pn ++ pins := by
      have : p ∈ (X.pn ++ pins) ++ [] := hp
      rwa [List.append_nil] at this
    obtain ⟨e, n, ne, nf, d⟩ := I.pin p hp'
    refine ⟨hkeep _ _ e, n, Nat.ne_of_lt (Nat.lt_of_lt_of_le (Heap.lt_size e) hC), fun z => ?_, d⟩
    rcases List.mem_cons.mp (I.stkSub _ z) with z | z
    · exact ne z
    · exact nf z
  · show (sel.map _).length = N'.length
    rw [List.length_map]
    exact k.ln.symm

def PTs (X : Cx) (ifs : List Expr) (t : TT) : Prop :=
  ∀ (pins : List (Addr × Obj)) (s : Shared) (σ : St) (H : Hp) (Q : Bool → Hp → Prop), Inv X pins σ H s → t σ H Q →
    wpAny (model X.prog X.w) X.A (forIn ifs true fun c r => if r = true then do let ok ← isTrue c X.env (eval c X.env); pure (ForInStep.yield ok) else pure (ForInStep.yield r)) (TP X pins σ Q) X.xe s
def tTrue : TT := fun _ H Q => Q true H
theorem pts_nil : PTs X [] tTrue := fun _ _ _ H _ I h => wpAny_tests_nil ⟨H, I, h⟩
theorem compLoop_any {prog : Program} {w : World} {A : Around} {R : Result → Shared → Prop} {s : Shared} {elt target iter : Expr} {ifs : List Expr} {scope : Scope} {pos : Pos} {it acc : Value} {env : Env} (I : Nat → Shared → Prop)
    (turn : ∀ n s, I n s → wpAny (model prog w) A (pyNext it) (fun r s₁ => match r with
      | none => R (.ok .next) s₁
      | some v => wpAny (model prog w) A (letOwnedTupleGo target it v) (fun _ s₁' => wpAny (model prog w) A (assign target env v) (fun _ s₂ =>
          wpAny (model prog w) A (forIn ifs true fun c r => if r = true then do let ok ← isTrue c env (eval c env); pure (ForInStep.yield ok) else pure (ForInStep.yield r)) (fun ok s₃ =>
            if ok = true then wpAny (model prog w) A (eval elt env) (fun x s₄ =>
              wpAny (model prog w) A (call (.builtin "list.append") [acc, x]) (fun _ s₅ => ∃ m, m < n ∧ I m s₅) (notedBy (model prog w) A env fun e s' => R (.error e) s') s₄) (notedBy (model prog w) A env fun e s' => R (.error e) s') s₃
            else ∃ m, m < n ∧ I m s₃) (notedBy (model prog w) A env fun e s' => R (.error e) s') s₂) (notedBy (model prog w) A env fun e s' => R (.error e) s') s₁') (notedBy (model prog w) A env fun e s' => R (.error e) s') s₁) (notedBy (model prog w) A env fun e s' => R (.error e) s') s)
    (n : Nat) (h : I n s) :
    codeAny (model prog w) A (.compLoop (.ListComp elt [⟨target, iter, ifs, 0⟩] scope pos) 0 it acc env) R s := by
  refine codeAny_loop rfl I (fun n s hI => ?_) n h
  show wpAny _ A ((compTurn (.ListComp elt [⟨target, iter, ifs, 0⟩] scope pos) 0 it acc env).onRaise (fun x => do noteFrame x env; theTreesLotGoes x)) _ _ s
  refine wpAny_noted ?_
  rw [compTurn_list]
  refine wpAny_bind (wpAny_standAt (wpAny_bind (wpAny_mono (turn n s hI) (fun r s₁ h₁ => ?_) fun _ _ h' => h')))
  cases r with
  | none => exact wpAny_pure h₁
  | some v =>
    refine wpAny_bind (wpAny_mono h₁ (fun _ s₁' h₁' => ?_) fun _ _ h' => h')
    refine wpAny_bind (wpAny_mono h₁' (fun _ s₂ h₂ => wpAny_bind (wpAny_mono h₂ (fun ok s₃ h₃ => ?_) fun _ _ h' => h')) fun _ _ h' => h')
    cases ok with
    | false => exact wpAny_pure ⟨rfl, h₃⟩
    | true =>
      exact wpAny_bind (wpAny_bind (wpAny_mono h₃ (fun x s₄ h₄ => wpAny_bind (wpAny_mono h₄ (fun _ s₅ h₅ => wpAny_pure (wpAny_pure ⟨rfl, h₅⟩)) fun _ _ h' => h')) fun _ _ h' => h'))

def lcTurn (sel : List (Option Nat)) (g : TG) (tt : TT) (te : TE) (σ : St) (J : It) (W : Nat → Nat → List V → Hp → Prop) (Q : List V → Hp → Prop) : Prop :=
  ∀ i m ys H, W i m ys H → (J.stop i H ∧ Q ys H) ∨
    (J.go i H ∧ ys.length < sizeLine ∧ ∃ N : List V → Hp → Prop, (∀ ys' H', N ys' H' → ∃ m', m' < m ∧ W (i + 1) m' ys' H') ∧
      ∀ x H', J.yld i H x H' → g x (selS sel σ) H' fun σ2 H2 => tt σ2 H2 fun b H3 => if b = true then te σ2 H3 fun y H4 => N (ys ++ [y]) H4 else N ys H3)

def GKeeps (sel : List (Option Nat)) (g : TG) : Prop := ∀ (σ : St) (x : V) (H : Hp) (Q : St → Hp → Prop), g x (selS sel σ) H Q → g x (selS sel σ) H fun σ2 H2 => (∀ (i : Nat) v, (selS sel σ)[i]? = some (some v) → σ2[i]? = some (some v)) ∧ Q σ2 H2
theorem sel_none {sel : List (Option Nat)} {i : Nat} {σ : St} {v : V} (h : sel[i]? = some none) : ¬ (selS sel σ)[i]? = some (some v) := fun e => by
  unfold selS at e
  rw [List.getElem?_map, h] at e
  cases e
theorem set_keeps {sel : List (Option Nat)} {i : Nat} {σ σ2 : St} {x : V} (h : sel[i]? = some none) (k : ∀ (j : Nat) v, (selS sel σ)[j]? = some (some v) → σ2[j]? = some (some v)) :
    ∀ (j : Nat) v, (selS sel σ)[j]? = some (some v) → (σ2.set i (some x))[j]? = some (some v) := fun j v e => by
  by_cases hj : i = j
  · subst hj; exact absurd e (sel_none h)
  · rw [List.getElem?_set_ne hj]; exact k j v e
theorem gk_name {sel : List (Option Nat)} {i : Nat} (h : sel[i]? = some none) : GKeeps sel (gName i) := fun _ _ _ _ q => ⟨set_keeps h fun _ _ e => e, q⟩
theorem lc_block {elt tg iter : Expr} {ifs : List Expr} {scope : Scope} {pos : Pos} {N' : List Str} {sel : List (Option Nat)} {g : TG} {tt : TT} {te : TE} {it : Addr} {fp : List Addr} {tn : Nat → Heap → Prop} {J : It}
    {W : Nat → Nat → List V → Hp → Prop} {Qe : List V → Hp → Prop} {RR : Value → Addr → Result → Shared → Prop} {E : Value → Shared → Prop} {m0 : Nat}
    (hc : X.calm = true) (hk : scope.kind = .function) (k : ChkOk X scope N' sel) (I : Inv X pins σ H s) (T : Turn X.prog X.w X.K tg J fp it tn) (st : tn 0 s.heap) (f2 : ∀ b ∈ fp, FpOk X pins H b)
    (hb : ∀ (C : Addr) (s : Shared) (H : Hp) (fp : List Addr) (pn : List (Addr × Obj)), PG (cxComp X N' scope C s H fp pn) tg g ∧ PTs (cxComp X N' scope C s H fp pn) ifs tt ∧ PE (cxComp X N' scope C s H fp pn) elt te)
    (hgk : GKeeps sel g) (w0 : W 0 m0 [] H) (turn : lcTurn sel g tt te σ J W Qe)
    (hRR : ∀ (D C : Addr) (s' : Shared) (H' : Hp) (ys : List V) (m : Str → Option Value), H' D = none → Inv X pins σ (upd H' D (.lst ys)) s' → s'.heap.Ns C m → FpOk X pins (upd H' D (.lst ys)) C → Qe ys H' → RR (.ref D) C (.ok .next) s') :
    wpAny (model X.prog X.w) X.A (newList []) (fun acc s₃ => wpAny (model X.prog X.w) X.A (newFunctionEnv scope X.env.globals (closL X.env.cells scope.names []) [] X.env.qual none .none (some X.env)) (fun cenv s₄ =>
      codeAny (model X.prog X.w) X.A (.compStart (.ListComp elt [⟨tg, iter, ifs, 0⟩] scope pos) 0 (.ref it) acc { cenv with scope := relabel scope X.env }) (RR acc cenv.locals) s₄) E s₃) E s := by
  refine wpAny_newObj_type (wpAny_newFunctionEnv k.nc (by intro y hy; simp at hy) (fun h₁ hns₁ hsb₁ => ?_) hk)
  dsimp only at hns₁ hsb₁ ⊢
  generalize hH2 : s.heap.push { cls := .type "list", dict := none, data := .seq ([] : List Value).toArray } = H2 at hns₁ hsb₁ ⊢
  have hC : H2.objs.size = s.heap.objs.size + 1 := by rw [← hH2, Heap.size_push]
  have hDC : s.heap.objs.size ≠ H2.objs.size := by rw [hC]; exact Nat.ne_of_lt (Nat.lt_succ_self _)
  have hCle : s.heap.objs.size ≤ H2.objs.size := by rw [hC]; exact Nat.le_succ _
  have below : ∀ b, b < s.heap.objs.size → b ≠ H2.objs.size ∧ b ≠ s.heap.objs.size := fun b hb => ⟨by rw [hC]; exact Nat.ne_of_lt (Nat.lt_succ_of_lt hb), Nat.ne_of_lt hb⟩
  have old : ∀ b o, s.heap.get? b = some o → h₁.get? b = some o := fun b o e => hsb₁.extBut b o (below b (Heap.lt_size e)).1 (Heap.get?_push_of_some _ (hH2 ▸ Heap.get?_push_of_some _ e))
  have hacc : h₁.get? s.heap.objs.size = some { cls := .type "list", data := .seq ([] : List Value).toArray } := hsb₁.extBut _ _ hDC (Heap.get?_push_of_some _ (hH2 ▸ Heap.get?_push_size _ rfl))
  have hfl : ∀ b ∈ fp, b < s.heap.objs.size := fun b hb => let ⟨_, e, _⟩ := T.obj 0 _ st b hb; Heap.lt_size e
  have hst₁ : tn 0 h₁ := T.keep _ _ _ st fun b _ o e => old b o e
  generalize hDe : s.heap.objs.size = D at hDC hCle below hacc hfl ⊢
  generalize hCe : H2.objs.size = C at hns₁ hsb₁ hC hDC hCle below ⊢
  have fD : ∀ {H' : Hp}, H' D = none → FpOk X pins H' D := fun hn => I.fpOk (by rw [hDe]; exact Nat.le_refl _) hn
  have fC : ∀ {H' : Hp}, H' C = none → FpOk X pins H' C := fun hn => I.fpOk (by rw [hDe]; exact hCle) hn
  have HD : H D = none := I.hok.fresh (by rw [hDe]; exact Nat.le_refl _)
  -- the pin of the new list, in the block
  have pinD : ∀ {o : Obj} {σ' : St} {H' : Hp} {s' : Shared} {ps : List (Addr × Obj)}, Inv (cxComp X N' scope C s H fp (X.pn ++ pins)) ps σ' H' s' → s'.heap.get? D = some o → H' D = none → (∀ v, o.data ≠ .cell v) →
      Inv (cxComp X N' scope C s H fp (X.pn ++ pins)) (ps ++ [(D, o)]) σ' H' s' := fun {o σ' H' s' ps} J1 e n d => by
    refine J1.pins_of fun p hp => ?_
    rcases List.mem_append.mp hp with hp | hp
    · exact J1.pin p (List.mem_append_right _ hp)
    · rw [List.mem_singleton.mp hp]
      refine ⟨e, n, hDC, fun z => ?_, d⟩
      rcases List.mem_cons.mp (I.stkSub D z) with z | z
      · exact (fD HD).2.1 z
      · exact (fD HD).2.2.1 z
  have loop : ∀ s₃ : Shared, s₃ = { s with heap := h₁, toks := s.toks + ([] : List (Str × Value)).length } →
      codeAny (model X.prog X.w) X.A (.compLoop (.ListComp elt [⟨tg, iter, ifs, 0⟩] scope pos) 0 (.ref it) (.ref D) (compEnvC scope (closL X.env.cells scope.names []) C X.env)) (RR (.ref D) C) s₃ := by
    rintro s₃ rfl
    have I4 : Inv (cxComp X N' scope C s H fp (X.pn ++ pins)) [] (selS sel σ) H { s with heap := h₁, toks := s.toks + ([] : List (Str × Value)).length } :=
      inv_block I hk k (by rw [hDe]; exact hCle) f2 (fun b hb => by rw [hDe]; exact hfl b hb) hns₁ old
    refine compLoop_any (fun n s' => ∃ i H' ys its nn, Inv (cxComp X N' scope C s H fp (X.pn ++ pins)) [] (selS sel σ) H' s' ∧ tn i s'.heap ∧ (∀ b ∈ fp, H' b = none) ∧ H' D = none ∧
      s'.heap.get? D = some { cls := .type "list", data := .seq (List.toArray its) nn } ∧ Vals ys its ∧ ys.length ≤ sizeLine ∧ W i n ys H') ?_ m0 ⟨0, H, [], [], 0, I4, hst₁, fun b hb => (f2 b hb).1, HD, hacc, .nil, Nat.zero_le _, w0⟩
    rintro n s3 ⟨i, H3, ys, its, nn, I3, st3, fr3, hD3, o3, v3, z3, w3⟩
    have I3' := pinD I3 o3 hD3 (fun v z => by cases z)
    have stat : ∀ {ps : List (Addr × Obj)} {H' : Hp}, (∀ p ∈ ps, p.1 = D) → (∀ b ∈ fp, H' b = none) → ∀ b ∈ fp, FpOk (cxComp X N' scope C s H fp (X.pn ++ pins)) ps H' b := fun {ps H'} hps hn b hb => by
      obtain ⟨a0, a1, a2, a3, a4, a5⟩ := f2 b hb
      refine ⟨hn b hb, Nat.ne_of_lt (Nat.lt_of_lt_of_le (hfl b hb) hCle), fun z => ?_, .inl hb, fun x c h => a4 x c ((clos_cells I k).2 x c h).1, fun p hp => ?_⟩
      · rcases List.mem_cons.mp (I.stkSub b z) with z | z
        · exact a1 z
        · exact a2 z
      · rcases List.mem_append.mp hp with hp | hp
        · exact a5 p hp
        · rw [hps p hp]
          exact (Nat.ne_of_lt (hfl b hb)).symm
    rcases turn i n ys H3 w3 with ⟨stop, qe⟩ | ⟨go, hz, Nn, hNn, step⟩
    · refine noE (thn (T.done (cxComp X N' scope C s H fp (X.pn ++ pins)) rfl rfl rfl hc i _ s3 _ H3 _ I3' (stat (fun p hp => by have : p ∈ [] ++ [(D, _)] := hp; rw [List.nil_append] at this; rw [List.mem_singleton.mp this]) fr3) st3 stop) fun r s4 ⟨hr, J4⟩ => ?_)
      subst hr
      obtain ⟨m4, n4, _⟩ := id J4.loc
      have o4 := (J4.pin (D, _) (List.mem_append_right _ (List.mem_append_right _ (List.mem_singleton.mpr rfl)))).1
      have hC4 : H3 C = none := J4.free
      have hDC' : C ≠ D := Ne.symm hDC
      refine hRR D C s4 H3 ys m4 hD3 (I.call' (ch := fp) J4.os ?_ ?_ J4.bare (fun b hb => ?_)) n4 (fC (by rw [upd_ne hDC']; exact hC4)) qe
      · have u := J4.base
        have nD : ∀ b o, s.heap.get? b = some o → b ≠ D := fun b o e => by rw [← hDe]; exact Nat.ne_of_lt (Heap.lt_size e)
        have nD2 : ∀ b o, H b = some o → b ≠ D := fun b o e => ne_of_none e HD
        exact ⟨u.keep, u.slot, fun b o e n hx => by rw [upd_ne (nD b o e)]; exact u.free b o e n hx, u.there, fun b xs e => by rw [upd_ne (nD2 b _ e)]; exact u.tups b xs e,
          fun b o w e => by rw [upd_ne (nD2 b _ e)]; exact u.frzs b o w e, fun b ps e => by rw [upd_ne (nD2 b _ e)]; exact u.tbls b ps e⟩
      · intro b o e
        by_cases hbD : b = D
        · subst hbD
          rw [upd_same] at e
          cases e
          exact ⟨z3, its, nn, v3, o4⟩
        · rw [upd_ne hbD] at e
          exact (J4.hok b o e).stay (fun c u _ q => q) (fun c q => by rw [upd_ne (ne_of_none q hD3)]; exact q) fun c xs q => by rw [upd_ne (ne_of_none q hD3)]; exact q
      · obtain ⟨a0, a1, a2, a3, a4, a5⟩ := f2 b hb
        exact ⟨a3, a1, a4, a5⟩
    · refine noE (thn (T.item (cxComp X N' scope C s H fp (X.pn ++ pins)) rfl rfl rfl hc i _ s3 _ H3 _ I3' (stat (fun p hp => by have : p ∈ [] ++ [(D, _)] := hp; rw [List.nil_append] at this; rw [List.mem_singleton.mp this]) fr3) st3 go) fun r s4 ⟨u, hr, h4⟩ => ?_)
      subst hr
      refine noE (thn h4 fun _ s5 ⟨x, H5, I5, r5, y5, st5, fr5⟩ => ?_)
      obtain ⟨hb1, hb2, hb3⟩ := hb C s H fp (X.pn ++ pins)
      have I5' := I5.pinned (stat (fun p hp => by have : p ∈ [] ++ [(D, _)] := hp; rw [List.nil_append] at this; rw [List.mem_singleton.mp this]) fr5) (T.obj _ _ st5)
      refine noE (thn (hb1 _ s5 _ H5 x u _ I5' r5 (hgk _ _ _ _ (step x H5 y5))) fun _ s6 ⟨σ6, H6, I6, hw6, q6⟩ => ?_)
      refine noE (thn (hb2 _ s6 σ6 H6 _ I6 q6) fun ok s7 ⟨H7, I7, q7⟩ => ?_)
      -- what stands behind the turn
      have back : ∀ {σ8 : St} {H8 : Hp} {s8 : Shared}, Inv (cxComp X N' scope C s H fp (X.pn ++ pins)) (([] ++ [(D, { cls := .type "list", data := .seq (List.toArray its) nn })]) ++ pinsAt fp s5.heap) σ8 H8 s8 →
          tn (i + 1) s8.heap ∧ (∀ b ∈ fp, H8 b = none) ∧ H8 D = none ∧ s8.heap.get? D = some { cls := .type "list", data := .seq (List.toArray its) nn } := fun {σ8 H8 s8} J8 => by
        refine ⟨T.keep _ _ _ st5 fun b hb o e => (J8.pin (b, o) (List.mem_append_right _ (List.mem_append_right _ (mem_pinsAt hb e)))).1, fun b hb => ?_, ?_, ?_⟩
        · obtain ⟨o, e, d⟩ := T.obj _ _ st5 b hb
          exact (J8.pin (b, o) (List.mem_append_right _ (List.mem_append_right _ (mem_pinsAt hb e)))).2.1
        · exact (J8.pin (D, _) (List.mem_append_right _ (List.mem_append_left _ (List.mem_append_right _ (List.mem_singleton.mpr rfl))))).2.1
        · exact (J8.pin (D, _) (List.mem_append_right _ (List.mem_append_left _ (List.mem_append_right _ (List.mem_singleton.mpr rfl))))).1
      have weak : ∀ {H8 : Hp} {s8 : Shared} {ps : List (Addr × Obj)}, Inv (cxComp X N' scope C s H fp (X.pn ++ pins)) ps σ6 H8 s8 → Inv (cxComp X N' scope C s H fp (X.pn ++ pins)) [] (selS sel σ) H8 s8 := fun {H8 s8 ps} J8 =>
        (J8.pins_of (pins' := []) fun p hp => by simp at hp).weak (by rw [J8.len]; exact I4.len) hw6
      cases ok with
      | false =>
        obtain ⟨st8, fr8, hD8, o8⟩ := back I7
        obtain ⟨m', hm, w8⟩ := hNn ys H7 q7
        exact ⟨m', hm, i + 1, H7, ys, its, nn, weak I7, st8, fr8, hD8, o8, v3, z3, w8⟩
      | true =>
        refine noE (thn (hb3 _ s7 σ6 H7 _ I7 q7) fun y s8 ⟨yv, H8, I8, ry, q8⟩ => ?_)
        obtain ⟨st8, fr8, hD8, o8⟩ := back I8
        obtain ⟨m', hm, w8⟩ := hNn _ _ q8
        have hl := v3.length
        refine call_meets F.slot_list_append ⟨_, o8, rfl⟩ F.entry_list_append (F.args_list_append_2 _ _) (PySem.list_append D (List.toArray its) nn y (by rw [List.size_toArray]; omega)) ⟨o8, ?_⟩
        have q := PySem.IsL.update o8 (fun z => z.push y)
        rw [show (List.toArray its).push y = (its ++ [y]).toArray by simp] at q
        have kp : ∀ b o, b ≠ D → s8.heap.get? b = some o → (s8.heap.update D (Obj.mapSeq fun z => z.push y)).get? b = some o := fun b o hb e => (Heap.get?_update_other s8.heap (Obj.mapSeq fun z => z.push y) (Ne.symm hb)).trans e
        refine ⟨m', hm, i + 1, H8, ys ++ [yv], its ++ [y], _, (weak I8).turned (t' := s8.toks) kp hD8 hDC (.inr (by show s.heap.objs.size ≤ D; rw [hDe]; exact Nat.le_refl _)) (fun x c h => (fD HD).2.2.2.2.1 x c ((clos_cells I k).2 x c h).1) (fun p hp => (fD HD).2.2.2.2.2 p (by have : p ∈ (X.pn ++ pins) ++ [] := hp; rwa [List.append_nil] at this)),
          T.keep _ _ _ st8 (fun b hb o e => kp b o (Nat.ne_of_lt (hfl b hb)) e), fr8, hD8, q, v3.append (.cons ry .nil), ?_, w8⟩
        rw [List.length_append, List.length_singleton]
        omega
  exact codeAny_compStart_list (loop _ rfl) (T.self _ 0 _ _ _ hst₁ (loop _ rfl))

def tLc (sel : List (Option Nat)) (wi : TI) (g : TG) (tt : TT) (te : TE) : TE := fun σ H Q => wi σ H fun J H1 => ∃ W : Nat → Nat → List V → Hp → Prop, (∃ m, W 0 m [] H1) ∧
  lcTurn sel g tt te σ J W fun ys H => ∀ D, H D = none → Q (.ref D) (upd H D (.lst ys))
theorem pe_lc {elt tg iter : Expr} {ifs : List Expr} {scope : Scope} {pos : Pos} {wi : TI} {N' : List Str} {sel : List (Option Nat)} {g : TG} {tt : TT} {te : TE}
    (hc : X.calm = true) (hk : scope.kind = .function) (chk : compChk scope X.env.scope X.N N' sel = true) (hi : PI X tg iter wi) (hgk : GKeeps sel g)
    (hb : ∀ (C : Addr) (s : Shared) (H : Hp) (fp : List Addr) (pn : List (Addr × Obj)), PG (cxComp X N' scope C s H fp pn) tg g ∧ PTs (cxComp X N' scope C s H fp pn) ifs tt ∧ PE (cxComp X N' scope C s H fp pn) elt te)
    (hs : ∀ x, foldedSetIterable iter X.env x = pure x := by intro _; rfl) : PE X (.ListComp elt [⟨tg, iter, ifs, 0⟩] scope pos) (tLc sel wi g tt te) := by
  intro pins s σ H Q I h
  have k := chk_ok chk
  rw [eval_ListComp]
  refine wpAny_comprehension_free (use := none) rfl hs (closureFor_free (clos_cells I k).1) hk k.lo (thn (hi pins s σ H _ I h) fun v s1 h1 => thn h1 fun itv s2 h2 => ?_)
  obtain ⟨it, fp, tn, J, H2, e, I2, T, st2, f2, W, ⟨m0, w0⟩, turn⟩ := h2
  subst e
  refine lc_block (RR := fun acc C => compPost (model X.prog X.w) X.A X.xe none (EP X pins σ Q) acc C) hc hk k I2 T st2 f2 hb hgk w0 turn ?_
  intro D C s' H' ys m hD I' hns fC q
  refine ⟨m, hns, fun h' hs' => ⟨.ref D, _, I'.turned (t' := s'.toks) (fun b o hb e => (hs'.2 b hb).trans e) fC.1 fC.2.1 fC.2.2.2.1 fC.2.2.2.2.1 fC.2.2.2.2.2, rfl, q D hD⟩⟩

theorem lc_range {lo : Int} {n : Nat} {sel : List (Option Nat)} {g : TG} {tt : TT} {te : TE} {σ : St} {H : Hp} {Qe : List V → Hp → Prop} (Pv : Nat → List V → Hp → Prop) (h0 : Pv 0 [] H)
    (hl : ∀ i ys H, i ≤ n → Pv i ys H → ys.length ≤ i) (hz : n ≤ sizeLine)
    (hs : ∀ i ys H, i < n → Pv i ys H → g (.int (lo + i)) (selS sel σ) H fun σ2 H2 => tt σ2 H2 fun b H3 => if b = true then te σ2 H3 fun y H4 => Pv (i + 1) (ys ++ [y]) H4 else Pv (i + 1) ys H3)
    (hd : ∀ ys H, Pv n ys H → Qe ys H) : ∃ W : Nat → Nat → List V → Hp → Prop, (∃ m, W 0 m [] H) ∧ lcTurn sel g tt te σ (Itr lo n) W Qe := by
  refine ⟨fun i m ys H => m = n - i ∧ i ≤ n ∧ Pv i ys H, ⟨_, rfl, Nat.zero_le _, h0⟩, ?_⟩
  rintro i m ys H ⟨rfl, hi, p⟩
  have hy := hl i ys H hi p
  by_cases e : i = n
  · subst e
    exact .inl ⟨Nat.le_refl _, hd _ _ p⟩
  · have hlt : i < n := Nat.lt_of_le_of_ne hi e
    refine .inr ⟨hlt, by omega, Pv (i + 1), fun ys' H' p' => ⟨n - (i + 1), by omega, rfl, hlt, p'⟩, ?_⟩
    rintro x H' ⟨rfl, rfl⟩
    exact hs i ys H' hlt p

end
end L2
namespace L2
open PySem PySem.Spec PyProof.Rows
section
variable {X : Cx} {tg : Expr} {a b : Expr} {ta tb : TE} {pos : Pos}

def tMid (t u : TS) : TS := fun D σ H => ∃ M : St → Hp → Prop, t { D with nx := M } σ H ∧ ∀ σ' H', M σ' H' → u D σ' H'
theorem pss_mid {st : Stmt} {rest : List Stmt} {t u : TS} (h1 : PS X st t) (h2 : PSs X rest u) : PSs X (st :: rest) (tMid t u) := by
  intro pins s σ H D I h
  obtain ⟨M, hM, hu⟩ := h
  refine wpAny_execs_cons (thn (h1 pins s σ H { D with nx := M } I hM) fun f s1 q => ?_)
  cases f with
  | next =>
    obtain ⟨σ', H', I', q⟩ := q
    exact h2 pins s1 σ' H' D I' (hu _ _ q)
  | ret v => exact q
  | brk => exact q
  | cont => exact q

def Its (x : Str) : It := ⟨fun i _ => i < x.length, fun i H v H' => H' = H ∧ ∃ c, x.cps.toList[i]? = some c ∧ v = .str ⟨#[c]⟩, fun i _ => x.length ≤ i⟩
def iStr (tl : TE) : TI := fun σ H R => tl σ H fun x H1 => ∃ z, x = .str z ∧ R (Its z) H1
theorem call_isinst : CallR X (.builtin "isinstance") (fun xs H Q => ∃ x n t b, xs = [x, .ty n] ∧ TyOf X.K H x t ∧ PySem.W.kitOne X.K t (.type n) = some b ∧ Q (.bl b) H) := by
  intro pins s σ H xs us Q I r h
  obtain ⟨x, n, t, b, rfl, ty, e, q⟩ := h
  obtain ⟨u, w', rfl, ru, rw'⟩ := vals2 r
  cases rw'
  exact isinst_ok I ru ty e fun tk => ⟨.bl b, H, I.tok _, rfl, q⟩
def cutS (z : Str) (lo hi : Option Int) : Str := ⟨((z.cps.toList.drop (HT.sIx z.length 0 lo)).take (HT.sIx z.length z.length hi - HT.sIx z.length 0 lo)).toArray⟩
def rSlS : V → Option Int → Option Int → Hp → VK → Prop := fun x lo hi H Q => ∃ z, x = .str z ∧ z.length ≤ sizeLine ∧ Q (.str (cutS z lo hi)) H
def rStarts : V → List V → Hp → VK → Prop := fun x vs H Q => ∃ z y, x = .str z ∧ vs = [.str y] ∧ Q (.bl (Txt.startswith z y)) H
inductive EqD (K : PySem.W.Frag) (H : Hp) : Nat → V → V → Bool → Prop
  | flat {n : Nat} {x y : V} : flatV x = true → flatV y = true → EqD K H n x y (eqV x y)
  | same {n : Nat} {a : Addr} : EqD K H n (.ref a) (.ref a) true
  | lst {n : Nat} {a b : Addr} {xs ys : List V} {e : Nat → Bool} : SqL K H a xs → SqL K H b ys → a ≠ b → xs.length = ys.length → (∀ i x y, xs[i]? = some x → ys[i]? = some y → EqD K H n x y (e i)) → EqD K H (n + 1) (.ref a) (.ref b) ((List.range xs.length).all e)
  | lstN {n : Nat} {a b : Addr} {xs ys : List V} : SqL K H a xs → SqL K H b ys → a ≠ b → xs.length ≠ ys.length → EqD K H (n + 1) (.ref a) (.ref b) false
  | tup {n : Nat} {a b : Addr} {xs ys : List V} {e : Nat → Bool} : SqT K H a xs → SqT K H b ys → a ≠ b → (∀ i x y, xs[i]? = some x → ys[i]? = some y → EqD K H n x y (e i)) → EqD K H (n + 1) (.ref a) (.ref b) ((List.range (min xs.length ys.length)).all e && xs.length == ys.length)
  | tupF {n : Nat} {a : Addr} {xs : List V} {y : V} : SqT K H a xs → flatV y = true → EqD K H n (.ref a) y false
  | fTup {n : Nat} {a : Addr} {xs : List V} {y : V} : SqT K H a xs → flatV y = true → EqD K H n y (.ref a) false
theorem item_of {xs : List V} {its : List Value} {j : Nat} (r : Vals xs its) (h : j < its.toArray.size) : ∃ x, xs[j]? = some x ∧ RelV x its.toArray[j] := by
  have hl := r.length
  have hj : j < xs.length := by rw [List.size_toArray] at h; omega
  obtain ⟨u, hu, ru⟩ := r.get (i := j) (x := xs[j]) (by simp [hj])
  refine ⟨xs[j], by simp [hj], ?_⟩
  have e : its.toArray[j] = u := by
    have h2 : j < its.length := by rw [List.size_toArray] at h; exact h
    have := List.getElem?_eq_getElem h2
    rw [hu] at this
    simpa using (Option.some.inj this).symm
  rw [e]; exact ru
theorem _root_.PyProof.Rows.IsTup.isTuple' {h : Heap} {a : Addr} {its : Array Value} (p : IsTup h a its) : h.IsTuple a its := p
theorem EqD.at {K : PySem.W.Frag} {H : Hp} {n : Nat} {x y : V} {b : Bool} (d : EqD K H n x y b) : ∀ {X : Cx} {pins : List (Addr × Obj)} {σ : St} {s : Shared} {A : Around} {u v : Value}, X.K = K → Inv X pins σ H s → RelV x u → RelV y v → A.units + n < cLine → SeqAt.EqAt A s u v b := by
  induction d with
  | flat fx fy => intro X pins σ s A u v hK I rx ry hu; exact eqAt_V rx ry fx fy
  | same => intro X pins σ s A u v hK I rx ry hu; cases rx; cases ry; exact SeqAt.EqAt.same _
  | @lst n a b xs ys e hx hy hne hl _ ih =>
    intro X pins σ s A u v hK I rx ry hu
    subst hK
    cases rx; cases ry
    obtain ⟨ia, ra, pa, _⟩ := I.list hx
    obtain ⟨ib, rb, pb, _⟩ := I.list hy
    have la := ra.length
    have lb := rb.length
    have hs : ia.toArray.size = ib.toArray.size := by rw [List.size_toArray, List.size_toArray]; omega
    have q := SeqAt.RcAt.lists (A := A) (e := e) pa.isList pb.isList hs (by omega) fun j h1 h2 => by
      obtain ⟨x, ex, rx⟩ := item_of ra h1
      obtain ⟨y, ey, ry⟩ := item_of rb h2
      exact ih j x y ex ey rfl I rx ry (by show A.units + 1 + n < cLine; omega)
    rw [List.size_toArray, ← la] at q
    exact SeqAt.EqAt.of_refs hne q
  | @lstN n a b xs ys hx hy hne hl =>
    intro X pins σ s A u v hK I rx ry hu
    subst hK
    cases rx; cases ry
    obtain ⟨ia, ra, pa, _⟩ := I.list hx
    obtain ⟨ib, rb, pb, _⟩ := I.list hy
    have la := ra.length
    have lb := rb.length
    exact SeqAt.EqAt.of_refs hne (SeqAt.RcAt.lists_lengths pa.isList pb.isList (by rw [List.size_toArray, List.size_toArray]; simp; omega) (by omega))
  | @tup n a b xs ys e hx hy hne _ ih =>
    intro X pins σ s A u v hK I rx ry hu
    subst hK
    cases rx; cases ry
    obtain ⟨ia, ra, pa, _⟩ := I.tuple hx
    obtain ⟨ib, rb, pb, _⟩ := I.tuple hy
    have la := ra.length
    have lb := rb.length
    have q := SeqAt.RcAt.tuples (A := A) (e := e) pa.isTuple' pb.isTuple' (by omega) fun j h1 h2 => by
      obtain ⟨x, ex, rx⟩ := item_of ra h1
      obtain ⟨y, ey, ry⟩ := item_of rb h2
      exact ih j x y ex ey rfl I rx ry (by show A.units + 1 + n < cLine; omega)
    rw [List.size_toArray, List.size_toArray, ← la, ← lb] at q
    exact SeqAt.EqAt.of_refs hne q
  | @tupF n a xs y hx fy =>
    intro X pins σ s A u v hK I rx ry hu
    subst hK
    cases rx
    obtain ⟨ia, ra, pa, _⟩ := I.tuple hx
    have hu' : A.units < cLine := by omega
    cases y with
    | non => cases (show v = Value.none from ry); exact SeqAt.EqAt.tuple_none pa.isTuple' hu'
    | bl b => cases (show v = Value.bool b from ry); exact SeqAt.EqAt.tuple_bool b pa.isTuple' hu'
    | int i => obtain ⟨t, q⟩ := (show ∃ t, v = Value.int i t from ry); cases q; exact SeqAt.EqAt.tuple_int i t pa.isTuple' hu'
    | str z => obtain ⟨t, q⟩ := (show ∃ t, v = Value.str z t from ry); cases q; exact SeqAt.EqAt.tuple_str z t pa.isTuple' hu'
    | byt b => cases fy
    | flt b => cases fy
    | ref a => cases fy
    | ty n => cases fy
  | @fTup n a xs y hx fy =>
    intro X pins σ s A u v hK I rx ry hu
    subst hK
    cases ry
    obtain ⟨ia, ra, pa, _⟩ := I.tuple hx
    have hu' : A.units < cLine := by omega
    cases y with
    | non => cases (show u = Value.none from rx); exact SeqAt.EqAt.none_tuple pa.isTuple' hu'
    | bl b => cases (show u = Value.bool b from rx); exact SeqAt.EqAt.bool_tuple b pa.isTuple' hu'
    | int i => obtain ⟨t, q⟩ := (show ∃ t, u = Value.int i t from rx); cases q; exact SeqAt.EqAt.int_tuple i t pa.isTuple' hu'
    | str z => obtain ⟨t, q⟩ := (show ∃ t, u = Value.str z t from rx); cases q; exact SeqAt.EqAt.str_tuple z t pa.isTuple' hu'
    | byt b => cases fy
    | flt b => cases fy
    | ref a => cases fy
    | ty n => cases fy
def EqIt (K : PySem.W.Frag) (H : Hp) (n : Nat) (xs ys : List V) (e : Nat → Bool) : Prop := ∀ i x y, xs[i]? = some x → ys[i]? = some y → EqD K H n x y (e i)
def rEqL (K : PySem.W.Frag) (neg : Bool) : R2 := fun x y H Q => ∃ a b xs ys n e, x = .ref a ∧ y = .ref b ∧ SqL K H a xs ∧ SqL K H b ys ∧ n ≤ 90 ∧ EqIt K H n xs ys e ∧ Q (.bl (neg ^^ (decide (xs.length = ys.length) && (List.range xs.length).all e))) H
theorem op_neL (hu : X.A.units + 100 < cLine) : OpR X (compareOp .NotEq) (rEqL X.K true) := by
  intro pins s σ H x y v u Q I rx ry h
  obtain ⟨a, b, xs, ys, n, e, rfl, rfl, hx, hy, hn, he, q⟩ := h
  cases rx; cases ry
  obtain ⟨ia, ra, pa, _⟩ := I.list hx
  obtain ⟨ib, rb, pb, _⟩ := I.list hy
  have la := ra.length
  have lb := rb.length
  rw [Bool.true_xor] at q
  by_cases hl : xs.length = ys.length
  · rw [decide_eq_true hl, Bool.true_and] at q
    refine SeqAt.RcNeAt.lists (e := e) pa.isList pb.isList (by rw [List.size_toArray, List.size_toArray]; omega) (by omega) (fun j h1 h2 => ?_) _ _ _ _ ⟨.bl _, H, I, rfl, ?_⟩
    · obtain ⟨x, ex, rx⟩ := item_of ra h1
      obtain ⟨y, ey, ry⟩ := item_of rb h2
      exact (he j x y ex ey).at rfl I rx ry (by show X.A.units + 1 + n < cLine; omega)
    · rw [List.size_toArray, ← la]; exact q
  · rw [decide_eq_false hl, Bool.false_and] at q
    exact SeqAt.RcNeAt.lists_lengths pa.isList pb.isList (by rw [List.size_toArray, List.size_toArray]; simp; omega) (by omega) _ _ _ _ ⟨.bl _, H, I, rfl, q⟩
def rEqT (K : PySem.W.Frag) (neg : Bool) : R2 := fun x y H Q => ∃ a b xs ys n e, x = .ref a ∧ y = .ref b ∧ SqT K H a xs ∧ SqT K H b ys ∧ n ≤ 90 ∧ EqIt K H n xs ys e ∧ Q (.bl (neg ^^ ((List.range (min xs.length ys.length)).all e && xs.length == ys.length))) H
theorem op_eqT (hu : X.A.units + 100 < cLine) : OpR X (compareOp .Eq) (rEqT X.K false) := by
  intro pins s σ H x y v u Q I rx ry h
  obtain ⟨a, b, xs, ys, n, e, rfl, rfl, hx, hy, hn, he, q⟩ := h
  cases rx; cases ry
  obtain ⟨ia, ra, pa, _⟩ := I.tuple hx
  obtain ⟨ib, rb, pb, _⟩ := I.tuple hy
  have la := ra.length
  have lb := rb.length
  rw [Bool.false_xor] at q
  refine SeqAt.eq_tupleAt (e := e) pa.isTuple' pb.isTuple' (by omega) (fun j h1 h2 => ?_) ⟨.bl _, H, I, rfl, ?_⟩
  · obtain ⟨x, ex, rx⟩ := item_of ra h1
    obtain ⟨y, ey, ry⟩ := item_of rb h2
    exact (he j x y ex ey).at rfl I rx ry (by show X.A.units + 1 + n < cLine; omega)
  · rw [List.size_toArray, List.size_toArray, ← la, ← lb]; exact q
theorem op_neT (hu : X.A.units + 100 < cLine) : OpR X (compareOp .NotEq) (rEqT X.K true) := by
  intro pins s σ H x y v u Q I rx ry h
  obtain ⟨a, b, xs, ys, n, e, rfl, rfl, hx, hy, hn, he, q⟩ := h
  cases rx; cases ry
  obtain ⟨ia, ra, pa, _⟩ := I.tuple hx
  obtain ⟨ib, rb, pb, _⟩ := I.tuple hy
  have la := ra.length
  have lb := rb.length
  rw [Bool.true_xor] at q
  refine SeqAt.RcNeAt.tuples (e := e) pa.isTuple' pb.isTuple' (by omega) (fun j h1 h2 => ?_) _ _ _ _ ⟨.bl _, H, I, rfl, ?_⟩
  · obtain ⟨x, ex, rx⟩ := item_of ra h1
    obtain ⟨y, ey, ry⟩ := item_of rb h2
    exact (he j x y ex ey).at rfl I rx ry (by show X.A.units + 1 + n < cLine; omega)
  · rw [List.size_toArray, List.size_toArray, ← la, ← lb]; exact q
theorem hu100 {A : Around} {k : Nat} (hr : Room k A) : A.units + 100 < cLine := Nat.lt_of_le_of_lt (by omega) hr.un

def strsAre : List Expr → List Str → Bool
  | [], [] => true
  | .Constant (.str x) _ _ :: r, z :: zs => x == z && strsAre r zs
  | _, _ => false
def tStrs (zs : List Str) : TA := fun _ H Q => Q (zs.map V.str) H
theorem pa_strs : ∀ {es : List Expr} {zs : List Str}, strsAre es zs = true → PA X es (tStrs zs) := by
  intro es
  induction es with
  | nil =>
    intro zs h
    cases zs with
    | nil => exact pa_nil
    | cons z zs => cases h
  | cons e r ih =>
    intro zs h
    unfold strsAre at h
    split at h
    · exact absurd ‹e :: r = []› (List.cons_ne_nil _ _)
    · rename_i x j p r' z zs' h1
      cases h1
      rw [Bool.and_eq_true] at h
      have hx : x = z := by simpa using h.1
      subst hx
      exact pa_cons (X := X) (e := .Constant (.str x) j p) pe_str (ih h.2)
    · cases h
end
end L2
namespace L2
open PySem PySem.Spec PyProof.Rows
set_option genInjectivity false in
structure Def (K : PySem.W.Frag) (mg : Str → Option Value) (x : Str) (st : Stmt) (ps : List Str) where
  f : Addr
  fd : FuncData
  F : Fun K x x st f fd
  hm : mg x = some (.ref f)
  b : Binds K fd ps []
theorem cxOf_K {CX : CXT} {P : Program} {w : World} {K : PySem.W.Frag} {mg : Str → Option Value} {base : Heap} {N : List Str} {qual : Str} {scope : Scope} {f : Addr} {cd : Value} {A : Around} {outer : List Env} {s : Shared} {H : Hp} {E : XK} :
    (cxOf CX P w K mg base N qual scope f cd A outer s H E).K = K := rfl
theorem cxComp_K {X : Cx} {N : List Str} {scope : Scope} {C : Addr} {s : Shared} {H : Hp} {fp : List Addr} {pn : List (Addr × Obj)} : (cxComp X N scope C s H fp pn).K = X.K := rfl
structure InK (K : PySem.W.Frag) (x : Str) (st : Stmt) : Prop where
  ex : ∃ (f : Addr) (oc : Value) (od : Option Addr) (kV doc pm : Value) (an : Option Addr) (cdv ct : Value) (osl : Array (Option Value)),
    PySem.W.nsIn K mainGlobals x = some (some (.ref f)) ∧ K.lookup f = some ⟨oc, od, .func (PySem.W.fnOf x x (defArgs st) (defBody st) (defScope st) .none kV doc pm an cdv ct), osl⟩ ∧ PySem.W.codeIn K cdv x = true ∧ PySem.W.keepIn K (.ref f) = true
theorem InK.of {K : PySem.W.Frag} {x : Str} {st : Stmt} {f : Addr} {oc : Value} {od : Option Addr} {kV doc pm : Value} {an : Option Addr} {cdv ct : Value} {osl : Array (Option Value)}
    (a : PySem.W.nsIn K mainGlobals x = some (some (.ref f))) (l : K.lookup f = some ⟨oc, od, .func (PySem.W.fnOf x x (defArgs st) (defBody st) (defScope st) .none kV doc pm an cdv ct), osl⟩) (c : PySem.W.codeIn K cdv x = true) (k : PySem.W.keepIn K (.ref f) = true) : InK K x st :=
  ⟨⟨f, oc, od, kV, doc, pm, an, cdv, ct, osl, a, l, c, k⟩⟩
theorem InK.def {K : PySem.W.Frag} {mg : Str → Option Value} {h : Heap} {x : Str} {st : Stmt} {ps : List Str} (i : InK K x st) (X : K.In h) (G : h.Ns mainGlobals mg)
    (hb : ∀ (kV doc pm : Value) (an : Option Addr) (cdv ct : Value) (us : List Value), us.length = ps.length → bindArgs (PySem.W.fnOf x x (defArgs st) (defBody st) (defScope st) .none kV doc pm an cdv ct) ⟨us, []⟩ = pure (ps.zip us)) : Nonempty (Def K mg x st ps) := by
  obtain ⟨f, oc, od, kV, doc, pm, an, cdv, ct, osl, a, l, c, k⟩ := i.ex
  have F := fun_mk (x := x) (qual := x) (st := st) l c k
  exact ⟨⟨f, _, F, PySem.W.mg_of X G a, F.binds hb⟩⟩
def strsOf : List Str → List Value → Bool
  | [], [] => true
  | z :: zs, .str x _ :: r => x == z && strsOf zs r
  | _, _ => false
structure InT (K : PySem.W.Frag) (x : Str) (zs : List Str) : Prop where
  ex : ∃ (p : Addr) (dd : Option Addr) (its : Array Value) (n : Nat) (sl : Array (Option Value)), PySem.W.nsIn K mainGlobals x = some (some (.ref p)) ∧ K.lookup p = some ⟨.type "tuple", dd, .seq its n, sl⟩ ∧ its.size ≤ sizeLine ∧ strsOf zs its.toList = true
theorem InT.of {K : PySem.W.Frag} {x : Str} {zs : List Str} {p : Addr} {dd : Option Addr} {its : Array Value} {n : Nat} {sl : Array (Option Value)} (a : PySem.W.nsIn K mainGlobals x = some (some (.ref p))) (l : K.lookup p = some ⟨.type "tuple", dd, .seq its n, sl⟩)
    (s : its.size ≤ sizeLine) (v : strsOf zs its.toList = true) : InT K x zs := ⟨⟨p, dd, its, n, sl, a, l, s, v⟩⟩
theorem bt_len : bootBuiltins "len" = some (.builtin "len") := by decide +kernel
theorem bt_isinstance : bootBuiltins "isinstance" = some (.builtin "isinstance") := by decide +kernel
theorem bt_int : bootBuiltins "int" = some (.type "int") := by decide +kernel
theorem bt_bool : bootBuiltins "bool" = some (.type "bool") := by decide +kernel
theorem bt_list : bootBuiltins "list" = some (.type "list") := by decide +kernel
theorem bt_tuple : bootBuiltins "tuple" = some (.type "tuple") := by decide +kernel
theorem Same.upd {H : Hp} {a : Addr} {o : HO} (h : H a = none) : Same H (L2.upd H a o) := fun b u e => by rw [upd_ne (ne_of_none e h)]; exact e
theorem lenV_str {K : PySem.W.Frag} {z : Str} {H : Hp} {n : Nat} : LenV K (.str z) H n ↔ z.length ≤ sizeLine ∧ n = z.length := Iff.rfl
end L2
namespace L2
open PySem PySem.Spec PyProof.Rows
section
variable {X : Cx} {o e f : Expr} {apos cpos pos : Pos} {td ty tx : TE}

variable {K : PySem.W.Frag}
end
end L2
namespace L2
open PySem PySem.Spec PyProof.Rows
structure InC (K : PySem.W.Frag) (x : Str) (C : Addr) : Prop where
  a : PySem.W.nsIn K mainGlobals x = some (some (.ref C))
  pg : PySem.W.plainGet K C Str.empty = true
  hd : PySem.W.hasDictIn K C = true
  po : PySem.W.plainOver K C = true
  sa : PySem.W.findIn K (.ref C) "__setattr__" = some (some (.builtin "object.__setattr__"))
  mak : PySem.W.makesIn K C = true
  kp : PySem.W.keepIn K (.ref C) = true
theorem InC.cls {K : PySem.W.Frag} {x : Str} {C : Addr} (i : InC K x C) : Cls K C := ⟨i.pg, i.hd, i.po, i.sa⟩
structure InM (K : PySem.W.Frag) (C : Addr) (m q : Str) (st : Stmt) : Prop where
  ex : ∃ (f : Addr) (oc : Value) (od : Option Addr) (kV doc pm : Value) (an : Option Addr) (cdv ct : Value) (osl : Array (Option Value)),
    PySem.W.findIn K (.ref C) m = some (some (.ref f)) ∧ PySem.W.isFn K (.ref f) = true ∧ K.lookup f = some ⟨oc, od, .func (PySem.W.fnOf m q (defArgs st) (defBody st) (defScope st) .none kV doc pm an cdv ct), osl⟩ ∧ PySem.W.codeIn K cdv q = true ∧ PySem.W.keepIn K (.ref f) = true
theorem InM.of {K : PySem.W.Frag} {C : Addr} {m q : Str} {st : Stmt} {f : Addr} {oc : Value} {od : Option Addr} {kV doc pm : Value} {an : Option Addr} {cdv ct : Value} {osl : Array (Option Value)}
    (a : PySem.W.findIn K (.ref C) m = some (some (.ref f))) (i : PySem.W.isFn K (.ref f) = true) (l : K.lookup f = some ⟨oc, od, .func (PySem.W.fnOf m q (defArgs st) (defBody st) (defScope st) .none kV doc pm an cdv ct), osl⟩) (c : PySem.W.codeIn K cdv q = true) (k : PySem.W.keepIn K (.ref f) = true) : InM K C m q st :=
  ⟨⟨f, oc, od, kV, doc, pm, an, cdv, ct, osl, a, i, l, c, k⟩⟩
set_option genInjectivity false in
structure MDef (K : PySem.W.Frag) (C : Addr) (m q : Str) (st : Stmt) (ps : List Str) where
  f : Addr
  fd : FuncData
  F : Fun K m q st f fd
  me : Meth K C m f
  b : Binds K fd ps []
theorem InM.def {K : PySem.W.Frag} {C : Addr} {m q : Str} {st : Stmt} {ps : List Str} (i : InM K C m q st)
    (hb : ∀ (kV doc pm : Value) (an : Option Addr) (cdv ct : Value) (us : List Value), us.length = ps.length → bindArgs (PySem.W.fnOf m q (defArgs st) (defBody st) (defScope st) .none kV doc pm an cdv ct) ⟨us, []⟩ = pure (ps.zip us)) : Nonempty (MDef K C m q st ps) := by
  obtain ⟨f, oc, od, kV, doc, pm, an, cdv, ct, osl, a, i, l, c, k⟩ := i.ex
  have F := fun_mk (x := m) (qual := q) (st := st) l c k
  exact ⟨⟨f, _, F, ⟨a, i, k⟩, F.binds hb⟩⟩
section
variable {X : Cx}
end
end L2
namespace HT
open PySem PySem.Spec PyProof.Rows
section
variable {prog : Program} {w : World} {A : Around} {E : Value → Shared → Prop} {s : Shared}
theorem getItem_tuple_whole {t sl : Addr} {items : Array Value} {vl vu : Value} {lo hi : Option Int} {Q : Value → Shared → Prop} (ht : IsTup s.heap t items) (hs : s.heap.IsSliceOf sl vl vu .none) (pl : IsPart vl lo) (pu : IsPart vu hi)
    (hw : sIx items.size 0 lo = 0 ∧ sIx items.size items.size hi = items.size) (h : Q (.ref t) s) : wpAny (model prog w) A (getItem (.ref t) (.ref sl)) Q E s := by
  obtain ⟨os, hos, hcs, hds⟩ := id hs
  have hTs : s.TypeIs (.ref sl) "slice" := ⟨os, hos, hcs⟩
  unfold getItem
  try with_reducible refine wpAny_holding ?_
  first | refine wpAny_bind (wpAny_pure ?_) | skip
  refine wpAny_bind (wpAny_sequenceKey ht.typeIs (by decide) ?_)
  refine wpAny_bind (wpAny_callSpecial?_slot (name := Str.ofString "__getitem__") ht.typeIs PyProof.Rows.slot_tuple_getitem
    (wpAny_call_entry PyProof.Rows.slot_tuple_getitem ht.typeIs entry_tuple_getitem ?_ (args_tuple_getitem _ _)))
  show wpAny _ _ (Builtin.Tuple.tupleItemsOf (.ref t) >>= _) _ _ s
  refine wpAny_bind (tupleItemsOf_ ht ?_)
  refine wpAny_bind (wpAny_typeOf hTs ?_)
  rw [if_pos (by decide)]
  refine wpAny_bind (sliceApplied_gen hs pl pu ?_)
  dsimp only
  rw [if_pos (by rw [hw.1, hw.2]; simp)]
  unfold Builtin.Tuple.tupleIsExact
  refine wpAny_bind (wpAny_bind (wpAny_typeOf ht.typeIs (wpAny_pure ?_)))
  rw [if_pos (by decide)]
  refine wpAny_bind (wpAny_rule (wpAny_pure ?_))
  exact ⟨_, rfl, wpAny_pure h⟩
end
end HT
namespace L2
open PySem PySem.Spec PyProof.Rows
section
variable {X : Cx}
def rSlTW (K : PySem.W.Frag) : V → Option Int → Option Int → Hp → VK → Prop := fun x lo hi H Q => ∃ a xs, x = .ref a ∧ SqT K H a xs ∧
  ((HT.sIx xs.length 0 lo = 0 ∧ HT.sIx xs.length xs.length hi = xs.length) → Q x H) ∧ (¬ (HT.sIx xs.length 0 lo = 0 ∧ HT.sIx xs.length xs.length hi = xs.length) → ∀ p, H p = none → Q (.ref p) (upd H p (.tup (cutV xs lo hi))))
theorem sl_tupW : SlR X (rSlTW X.K) := by
  intro pins s σ H x v vl vu lo hi sl Q I rx hs pl pu h
  obtain ⟨a, xs, e, hx, q1, q2⟩ := h
  by_cases hw : HT.sIx xs.length 0 lo = 0 ∧ HT.sIx xs.length xs.length hi = xs.length
  · subst e
    cases rx
    obtain ⟨its, r, ht, hz⟩ := I.tuple hx
    have hlen : its.toArray.size = xs.length := by rw [List.size_toArray]; exact r.length.symm
    refine ⟨"tuple", _, PyProof.Rows.slot_tuple_getitem.lookup, ht.typeIs, ?_⟩
    exact HT.getItem_tuple_whole ht hs pl pu (by rw [hlen]; exact hw) ⟨.ref a, H, I, rfl, q1 hw⟩
  · exact sl_tup pins s σ H x v vl vu lo hi sl Q I rx hs pl pu ⟨a, xs, e, hx, hw, q2 hw⟩
end
end L2
namespace L2
open PySem PySem.Spec PyProof.Rows
def del (H : Hp) (d : Addr) : Hp := fun b => if b = d then none else H b
theorem KV.at {kvs : List (Key × V)} {vs : List (Key × Value)} {i : Nat} {kv : Key × V} (r : KV kvs vs) (h : kvs[i]? = some kv) : ∃ u, vs[i]? = some (kv.1, u) ∧ RelV kv.2 u := by
  have go : ∀ (l₁ : List (Key × V)) (l₂ : List (Key × Value)), Paired (fun (p : Key × V) (q : Key × Value) => p.1 = q.1 ∧ RelV p.2 q.2) l₁ l₂ → ∀ (i : Nat) (kv : Key × V), l₁[i]? = some kv → ∃ u, l₂[i]? = some (kv.1, u) ∧ RelV kv.2 u := by
    intro l₁ l₂ r
    induction r with
    | nil => intro i kv h; simp at h
    | @cons a b _ _ r t ih =>
      intro i kv h
      cases i with
      | zero =>
        simp at h
        subst h
        obtain ⟨e, q⟩ := r
        refine ⟨b.2, ?_, q⟩
        rw [List.getElem?_cons_zero, e]
      | succ i =>
        rw [List.getElem?_cons_succ] at h ⊢
        exact ih i kv h
  exact go kvs vs r i kv h
section
variable {X : Cx} {pins : List (Addr × Obj)} {σ : St} {H : Hp} {s : Shared}
end
end L2
namespace L2
open PySem PySem.Spec PyProof.Rows
structure FunD (K : PySem.W.Frag) (x qual : Str) (st : Stmt) (dV : Value) (f : Addr) (fd : FuncData) : Prop where
  ex : ∃ (oc : Value) (od : Option Addr) (kV doc pm : Value) (an : Option Addr) (cdv ct : Value) (osl : Array (Option Value)),
    fd = PySem.W.fnOf x qual (defArgs st) (defBody st) (defScope st) dV kV doc pm an cdv ct ∧ K.lookup f = some ⟨oc, od, .func fd, osl⟩ ∧ PySem.W.codeIn K cdv qual = true
  kp : PySem.W.keepIn K (.ref f) = true
theorem FunD.ok {P : Program} {w : World} {K : PySem.W.Frag} {mg : Str → Option Value} {base : Heap} {x qual : Str} {st : Stmt} {dV : Value} {f : Addr} {fd : FuncData} {N ps : List Str} {k : Nat} {sp : Sp} (F : FunD K x qual st dV f fd) (S : FnScope N ps (defScope st)) (len : ∀ vs H Q E, sp vs H Q E → vs.length = ps.length)
    (hbody : ∀ (cdv : Value) (A : Around) (outer : List Env) (s : Shared) (H : Hp) (vs : List V) (Q : VK) (E : XK), Room k (A.deeper (envOfC qual (defScope st) s.heap.objs.size f cdv)) → sp vs H Q E →
      ∃ t, PSs (cxOf CX0 P w K mg base N qual (defScope st) f cdv A outer s H E).nox (defBody st) t ∧ t { nx := fun _ H' => Q .non H', rt := Q } (start N vs) H) : FnOk P w K mg base CX0 (k + 1) f fd ps sp := by
  obtain ⟨oc, od, kV, doc, pm, an, cdv, ct, osl, rfl, lk, hcd⟩ := F.ex
  refine fn_of lk hcd S len fun A outer s H vs Q E hr hsp => ?_
  obtain ⟨t, h, q⟩ := hbody cdv A outer s H vs Q E hr hsp
  exact ⟨t, h.nox, q⟩
structure CMeth (K : PySem.W.Frag) (C : Addr) (m : Str) (f : Addr) : Prop where
  ga : PySem.W.specialIn K (.ref C) "__getattribute__" = some (some (.builtin "type.__getattribute__"))
  rd : PySem.W.readsIn K C (.type "type") = true
  fi : PySem.W.findCls K (.ref C) (.type "type") m = some (.val (.ref f))
  kp : PySem.W.keepIn K (.ref f) = true
structure InMD (K : PySem.W.Frag) (C : Addr) (m q : Str) (st : Stmt) : Prop where
  ex : ∃ (f T : Addr) (oc : Value) (od : Option Addr) (kV doc pm : Value) (an : Option Addr) (cdv ct : Value) (osl : Array (Option Value)) (dd : Option Addr) (n : Nat) (sl : Array (Option Value)),
    PySem.W.findIn K (.ref C) m = some (some (.ref f)) ∧ PySem.W.isFn K (.ref f) = true ∧ K.lookup f = some ⟨oc, od, .func (PySem.W.fnOf m q (defArgs st) (defBody st) (defScope st) (.ref T) kV doc pm an cdv ct), osl⟩ ∧ PySem.W.codeIn K cdv q = true ∧ PySem.W.keepIn K (.ref f) = true ∧
      K.lookup T = some ⟨.type "tuple", dd, .seq #[.none] n, sl⟩ ∧ CMeth K C m f
theorem InMD.of {K : PySem.W.Frag} {C : Addr} {m q : Str} {st : Stmt} {f T : Addr} {oc : Value} {od : Option Addr} {kV doc pm : Value} {an : Option Addr} {cdv ct : Value} {osl : Array (Option Value)} {dd : Option Addr} {n : Nat} {sl : Array (Option Value)}
    (a : PySem.W.findIn K (.ref C) m = some (some (.ref f))) (i : PySem.W.isFn K (.ref f) = true) (l : K.lookup f = some ⟨oc, od, .func (PySem.W.fnOf m q (defArgs st) (defBody st) (defScope st) (.ref T) kV doc pm an cdv ct), osl⟩) (c : PySem.W.codeIn K cdv q = true) (k : PySem.W.keepIn K (.ref f) = true)
    (d : K.lookup T = some ⟨.type "tuple", dd, .seq #[.none] n, sl⟩) (ga : PySem.W.specialIn K (.ref C) "__getattribute__" = some (some (.builtin "type.__getattribute__"))) (rd : PySem.W.readsIn K C (.type "type") = true) (fi : PySem.W.findCls K (.ref C) (.type "type") m = some (.val (.ref f))) : InMD K C m q st :=
  ⟨⟨f, T, oc, od, kV, doc, pm, an, cdv, ct, osl, dd, n, sl, a, i, l, c, k, d, ga, rd, fi, k⟩⟩
set_option genInjectivity false in
structure MDefD (K : PySem.W.Frag) (C : Addr) (m q : Str) (st : Stmt) (ps : List Str) where
  f : Addr
  fd : FuncData
  dV : Value
  F : FunD K m q st dV f fd
  me : Meth K C m f
  b : Binds K fd ps []
  b1 : Binds K fd ps [.none]
  cm : CMeth K C m f
theorem InMD.def {K : PySem.W.Frag} {C : Addr} {m q : Str} {st : Stmt} {ps : List Str} (i : InMD K C m q st)
    (h0 : ∀ (T : Addr) (kV doc pm : Value) (an : Option Addr) (cdv ct : Value) (us : List Value), us.length = ps.length → ∃ k, bindArgs (PySem.W.fnOf m q (defArgs st) (defBody st) (defScope st) (.ref T) kV doc pm an cdv ct) ⟨us, []⟩ = seqItems? (.ref T) >>= k ∧ k (some #[.none]) = pure (ps.zip us))
    (h1 : ∀ (T : Addr) (kV doc pm : Value) (an : Option Addr) (cdv ct : Value) (us : List Value), us.length + 1 = ps.length → ∃ k, bindArgs (PySem.W.fnOf m q (defArgs st) (defBody st) (defScope st) (.ref T) kV doc pm an cdv ct) ⟨us, []⟩ = seqItems? (.ref T) >>= k ∧ k (some #[.none]) = pure (ps.zip (us ++ [Value.none]))) : Nonempty (MDefD K C m q st ps) := by
  obtain ⟨f, T, oc, od, kV, doc, pm, an, cdv, ct, osl, dd, n, sl, a, i, l, c, k, d, cm⟩ := i.ex
  refine ⟨⟨f, PySem.W.fnOf m q (defArgs st) (defBody st) (defScope st) (.ref T) kV doc pm an cdv ct, .ref T, ⟨⟨oc, od, kV, doc, pm, an, cdv, ct, osl, rfl, l, c⟩, k⟩, ⟨a, i, k⟩, fun s us X hl => ?_, fun s us X hl => ?_, cm⟩⟩
  · rw [List.append_nil] at hl ⊢
    obtain ⟨kk, e1, e2⟩ := h0 T kV doc pm an cdv ct us hl
    exact BindsTo.of_defaults (T := T) (items := #[.none]) rfl (X T _ d) rfl e1 e2
  · obtain ⟨kk, e1, e2⟩ := h1 T kV doc pm an cdv ct us (by rw [List.length_append] at hl; exact hl)
    exact BindsTo.of_defaults (T := T) (items := #[.none]) rfl (X T _ d) rfl e1 e2
section
variable {X : Cx} {CX : CXT} {k : Nat} {f C : Addr} {fd : FuncData} {ps : List Str} {sp : Sp} {dvs : List V} {ds : List Value} {E : XK} {x m : Str} {p pos apos : Pos} {e o : Expr} {es : List Expr} {ta : TE} {t : TA}
def tCMeth (C : Addr) (sp : Sp) (dvs : List V) (E : XK) (ta : TE) (t : TA) : TE := fun σ H Q => ta σ H fun x H1 => x = .ref C ∧ t σ H1 fun vs H2 => sp (vs ++ dvs) H2 Q E
theorem pe_cmeth {pl : Sem Bool} (he : PE X o ta) (hm : CMeth X.K C m f) (F : FnOk X.prog X.w X.K X.mg X.base CX k f fd ps sp) (hr : Room k X.A) (hb : Binds X.K fd ps ds) (hd : Vals dvs ds) (hx : Passes CX X E) (ha : PA X (e :: es) t)
    (hst : starEach (e :: es) X.env = (false, eval e X.env) :: starEach es X.env := by rfl) (hpl : (backTo pos (starEach es X.env)).any (·.1) = false := by rfl)
    (ht : eval (.Call (.Attribute o m apos) (e :: es) [] pos) X.env = (do
      let ov ← eval o X.env
      standAt apos.atName
      let (f, first) ← holding [ov] (getMethod ov m pl)
      callWith pos f first (backTo pos (starEach (e :: es) X.env)) (backToKw pos (keywordEach [] X.env))) := by rfl) :
    PE X (.Call (.Attribute o m apos) (e :: es) [] pos) (tCMeth C sp dvs E ta t) := by
  intro pins s σ H Q I h
  refine PySem.W.methodCall_KW (pl := pl) (thn (he pins s σ H _ I h) fun u s1 ⟨x, H1, I1, rx, ex, q⟩ => ?_) ht
  subst ex
  obtain rfl : u = Value.ref C := rx
  refine PySem.W.method_cls I1.kIn hm.ga (PySem.W.cls_value I1.kIn hm.rd hm.fi rfl ?_)
  have I1' := I1.tok (s1.toks + 1)
  refine PySem.W.callWith_K (first := []) (h₀ := X.base) I.ok.mod.kin hm.kp (thn (ha pos pins _ σ H1 _ I1' q) fun us s2 ⟨vs, H2, I2, r, q2⟩ => ⟨I2.kIn, ?_⟩) hst hpl
  exact run_fn (us := us) (vs := vs) F hr hb hd hx I2 r q2
theorem bt_min : bootBuiltins "min" = some (.builtin "min") := by decide +kernel
theorem op_neM (hu : X.A.units + 100 < cLine) : OpR X (compareOp .NotEq) (fun x y H Q => rNe x y H Q ∨ rEqT X.K true x y H Q) := by
  intro pins s σ H x y v u Q I rx ry h
  rcases h with h | h
  · exact op_ne pins s σ H x y v u Q I rx ry h
  · exact op_neT hu pins s σ H x y v u Q I rx ry h
end
end L2
namespace K50
open PySem L2
theorem ifT {c A B : Prop} [Decidable c] (hc : c) (h : A) : if decide c = true then A else B := by
  rw [if_pos (decide_eq_true hc)]; exact h
theorem ifF {c A B : Prop} [Decidable c] (hc : ¬ c) (h : B) : if decide c = true then A else B := by
  rw [if_neg (by rw [decide_eq_false hc]; exact Bool.false_ne_true)]; exact h
def tEither (t u : TS) : TS := fun D σ H => t D σ H ∨ u D σ H
theorem ps_either {X : Cx} {st : Stmt} {t u : TS} (h1 : PS X st t) (h2 : PS X st u) : PS X st (tEither t u) := by
  intro pins s σ H D I h
  rcases h with h | h
  · exact h1 pins s σ H D I h
  · exact h2 pins s σ H D I h
theorem lenS {α : Type} {n : Nat} {us : List α} (h : us.length = n + 1) : ∃ a r, us = a :: r ∧ r.length = n := by
  cases us with
  | nil => cases h
  | cons a r => exact ⟨a, r, rfl, Nat.succ.inj h⟩
theorem seq_hold {t u : TS} {D : Ends} {σ : St} {H : Hp} (h : ∀ U : St → Hp → Prop, (∀ σ' H', u D σ' H' → U σ' H') → t { D with nx := U } σ H) : tSeq t u D σ H := h (u D) fun _ _ q => q
theorem bT {x : Bool} {A B : Prop} (h : x = true) (a : A) : if x = true then A else B := by rw [if_pos h]; exact a
theorem bF {x : Bool} {A B : Prop} (h : x = false) (b : B) : if x = true then A else B := by rw [h, if_neg Bool.false_ne_true]; exact b

def top (i : Nat) : Stmt := PySem.Challenge.pw_nightwatch_k50_frames.main.body.getD i (.Pass ⟨0, 0, 0, 0⟩)
inductive Kd where
  | frame | rounds | kept | tried | cleaned | limited | grouped
deriving DecidableEq
inductive Fl where
  | rows | line | scope | begun | named | held | left | fault | others | cleaning | told
deriving DecidableEq
def Fl.name : Fl → Str
  | .rows => "rows" | .line => "line" | .scope => "scope" | .begun => "begun_rows" | .named => "named" | .held => "held" | .left => "rounds_left" | .fault => "fault" | .others => "others" | .cleaning => "cleaning" | .told => "told_faults"
def qHides : Kd → Str
  | .kept => "Kept.hides" | .cleaned => "Cleaned.hides" | _ => "Frame.hides"
def sHides : Kd → Stmt
  | .kept => inClass (top 4) 0 | .cleaned => inClass (top 6) 2 | _ => inClass (top 2) 3
def qOver : Kd → Str
  | .rounds => "Rounds.over" | .cleaned => "Cleaned.over" | .grouped => "Grouped.over" | _ => "Frame.over"
def sOver : Kd → Stmt
  | .rounds => inClass (top 3) 1 | .cleaned => inClass (top 6) 3 | .grouped => inClass (top 8) 3 | _ => inClass (top 2) 4
def qMeets : Kd → Str
  | .tried => "Tried.meets" | .cleaned => "Cleaned.meets" | .limited => "Limited.meets" | .grouped => "Grouped.meets" | _ => "Frame.meets"
def sMeets : Kd → Stmt
  | .tried => inClass (top 5) 1 | .cleaned => inClass (top 6) 4 | .limited => inClass (top 7) 1 | .grouped => inClass (top 8) 4 | _ => inClass (top 2) 5
def qBehind : Kd → Str
  | .rounds => "Rounds.behind" | .tried => "Tried.behind" | .cleaned => "Cleaned.behind" | .limited => "Limited.behind" | _ => "Frame.behind"
def sBehind : Kd → Stmt
  | .rounds => inClass (top 3) 2 | .tried => inClass (top 5) 2 | .cleaned => inClass (top 6) 5 | .limited => inClass (top 7) 2 | _ => inClass (top 2) 7

set_option genInjectivity false in
structure Tx (K : PySem.W.Frag) (mg : Str → Option Value) where
  d_l_cell_at : Def K mg "_law_cell_at" (top 10) ["_law_script", "_law_k"]
  d_l_mixed : Def K mg "_law_mixed" (top 12) ["_law_cell", "_law_k"]
  d_l_made : Def K mg "_law_made" (top 13) ["_law_kind", "_law_rows", "_law_others", "_law_many"]
  d_l_meets : Def K mg "_law_meets" (top 14) ["_law_kind", "_law_many", "_law_cleaning", "_law_signal"]
  d_l_behind : Def K mg "_law_behind" (top 15) ["_law_state"]
  d_l_over : Def K mg "_law_over" (top 16) ["_law_state"]
  d_l_held : Def K mg "_law_held" (top 11) ["_law_held_here"]
  d_l_asked : Def K mg "_law_asked" (top 17) ["_law_frame", "_law_state", "_law_pick", "_law_held_here"]
  C : Kd → Addr
  cl : ∀ c, Cls K (C c)
  na : ∀ c l, NoAttr K (C c) (Fl.name l)
  m_next_row : ∀ c, MDef K (C c) "next_row" "Frame.next_row" (inClass (top 2) 1) ["self"]
  m_begin_anew : ∀ c, MDef K (C c) "begin_anew" "Frame.begin_anew" (inClass (top 2) 2) ["self", "rows"]
  m_rest : ∀ c, MDef K (C c) "rest" "Frame.rest" (inClass (top 2) 6) ["self"]
  m_hides : ∀ c, MDef K (C c) "hides" (qHides c) (sHides c) ["self"]
  m_over : ∀ c, MDef K (C c) "over" (qOver c) (sOver c) ["self"]
  m_meets : ∀ c, MDef K (C c) "meets" (qMeets c) (sMeets c) ["self", "signal"]
  m_behind : ∀ c, MDef K (C c) "behind" (qBehind c) (sBehind c) ["self"]
  m_clean : MDef K (C .cleaned) "clean" "Cleaned.clean" (inClass (top 6) 1) ["self", "signal"]
  h_frame : mg "Frame" = some (.ref (C .frame))
  h_rounds : mg "Rounds" = some (.ref (C .rounds))
  h_kept : mg "Kept" = some (.ref (C .kept))
  h_tried : mg "Tried" = some (.ref (C .tried))
  h_cleaned : mg "Cleaned" = some (.ref (C .cleaned))
  h_limited : mg "Limited" = some (.ref (C .limited))
  h_grouped : mg "Grouped" = some (.ref (C .grouped))
  i_frame : MDefD K (C .frame) "__init__" "Frame.__init__" (inClass (top 2) 0) ["self", "rows", "line", "scope"]
  i_rounds : MDef K (C .rounds) "__init__" "Rounds.__init__" (inClass (top 3) 0) ["self", "rows", "line", "many"]
  i_kept : MDefD K (C .kept) "__init__" "Frame.__init__" (inClass (top 2) 0) ["self", "rows", "line", "scope"]
  i_tried : MDef K (C .tried) "__init__" "Tried.__init__" (inClass (top 5) 0) ["self", "rows", "line", "fault", "others"]
  i_cleaned : MDef K (C .cleaned) "__init__" "Cleaned.__init__" (inClass (top 6) 0) ["self", "rows", "line", "others"]
  i_limited : MDef K (C .limited) "__init__" "Limited.__init__" (inClass (top 7) 0) ["self", "rows", "line", "scope", "others"]
  i_grouped : MDef K (C .grouped) "__init__" "Grouped.__init__" (inClass (top 8) 0) ["self", "rows", "line", "scope", "named"]
  M_frame : Mk K (C .frame) i_frame.f
  M_rounds : Mk K (C .rounds) i_rounds.f
  M_kept : Mk K (C .kept) i_kept.f
  M_tried : Mk K (C .tried) i_tried.f
  M_cleaned : Mk K (C .cleaned) i_cleaned.f
  M_limited : Mk K (C .limited) i_limited.f
  M_grouped : Mk K (C .grouped) i_grouped.f
  n_len : mg "len" = none
  n_range : mg "range" = none
  n_tuple : mg "tuple" = none
  n_list : mg "list" = none
  n_int : mg "int" = none
  n_bool : mg "bool" = none
  n_isinstance : mg "isinstance" = none
  n_min : mg "min" = none
section
variable {P : Program} {w : World} {K : PySem.W.Frag} {mg : Str → Option Value} {base : Heap}
seal PE PT PW PA PS PSs PG PGs PI PC PTs PO
theorem name_inj : ∀ a b : Fl, a.name = b.name → a = b := by
  intro a b
  cases a <;> cases b <;> first
    | (intro _; rfl)
    | (intro h; exact absurd h (by decide +kernel))
def setG (g : Fl → Option V) (l : Fl) (v : V) : Fl → Option V := fun x => if x = l then some v else g x
def But (d : Addr) (H H' : Hp) : Prop := ∀ c o, c ≠ d → H c = some o → H' c = some o
theorem But.refl (d : Addr) (H : Hp) : But d H H := fun _ _ _ h => h
theorem But.trans {d : Addr} {H H1 H2 : Hp} (a : But d H H1) (b : But d H1 H2) : But d H H2 := fun c o n h => b c o n (a c o n h)
theorem But.of {d : Addr} {H H' : Hp} (s : Same H H') : But d H H' := fun c o _ h => s c o h
theorem But.tup {d : Addr} {H H' : Hp} {C dx : Addr} {fs : List (Str × V)} {a : Addr} {xs : List V} (b : But d H H') (e : H d = some (.ins C dx fs)) (h : H a = some (.tup xs)) : H' a = some (.tup xs) := b _ _ (ne_of h e (fun z => nomatch z)) h
structure FrAt (T : Tx K mg) (n : Nat) (c : Kd) (H : Hp) (p : Addr) (g : Fl → Option V) : Prop where
  ex : ∃ dx fs, H p = some (.ins (T.C c) dx fs) ∧ fs.length ≤ n ∧ (∀ l : Fl, fs.lookup l.name = g l) ∧ ∀ m : Str, (∀ l : Fl, l.name ≠ m) → fs.lookup m = none
theorem FrAt.same {T : Tx K mg} {n : Nat} {c : Kd} {H H' : Hp} {p : Addr} {g : Fl → Option V} (F : FrAt T n c H p g) (s : Same H H') : FrAt T n c H' p g := by
  obtain ⟨dx, fs, h1, h2⟩ := F.ex
  exact ⟨dx, fs, s _ _ h1, h2⟩
theorem FrAt.mono {T : Tx K mg} {n m : Nat} {c : Kd} {H : Hp} {p : Addr} {g : Fl → Option V} (F : FrAt T n c H p g) (h : n ≤ m) : FrAt T m c H p g := by
  obtain ⟨dx, fs, h1, h2, h3⟩ := F.ex
  exact ⟨dx, fs, h1, Nat.le_trans h2 h, h3⟩
theorem FrAt.new {T : Tx K mg} {c : Kd} {H : Hp} {p dx : Addr} (h : H p = some (.ins (T.C c) dx [])) : FrAt T 0 c H p (fun _ => none) := ⟨dx, [], h, Nat.le_refl _, fun _ => rfl, fun _ _ => rfl⟩
theorem FrAt.fld {T : Tx K mg} {n : Nat} {c : Kd} {H : Hp} {p : Addr} {g : Fl → Option V} (F : FrAt T n c H p g) {l : Fl} {v : V} {σ : St} {i : Nat} {R : VK} (hσ : σ[i]? = some (some (.ref p))) (e : g l = some v) (k : R v H) : tFld K (tVar i) l.name σ H R := by
  obtain ⟨dx, fs, h1, _, h3, _⟩ := F.ex
  exact ⟨_, hσ, p, _, dx, fs, v, rfl, h1, T.cl c, T.na c l, (h3 l).trans e, k⟩
theorem len_putF_old {f : Str} {v : V} : ∀ {fs : List (Str × V)}, fs.lookup f ≠ none → (putF f v fs).length = fs.length
  | [], h => absurd rfl h
  | (g, x) :: r, h => by
    show (if g = f then (g, v) :: r else (g, x) :: putF f v r).length = _
    by_cases e : g = f
    · rw [if_pos e]; rfl
    · rw [if_neg e]
      show (putF f v r).length + 1 = r.length + 1
      rw [len_putF_old]
      intro z
      apply h
      rw [List.lookup_cons]
      have : (f == g) = false := by simp [Ne.symm e]
      rw [this]; exact z
theorem FrAt.put {T : Tx K mg} {n : Nat} {c : Kd} {H : Hp} {p : Addr} {g : Fl → Option V} (F : FrAt T n c H p g) (l : Fl) (v : V) : ∃ dx fs, H p = some (.ins (T.C c) dx fs) ∧ fs.length ≤ n ∧
    FrAt T (n + 1) c (upd H p (.ins (T.C c) dx (putF l.name v fs))) p (setG g l v) ∧ (g l ≠ none → FrAt T n c (upd H p (.ins (T.C c) dx (putF l.name v fs))) p (setG g l v)) := by
  obtain ⟨dx, fs, h1, h2, h3, h4⟩ := F.ex
  have q1 : ∀ x : Fl, (putF l.name v fs).lookup x.name = setG g l v x := fun x => by
    rw [lookup_putF]
    unfold setG
    by_cases e : x = l
    · rw [if_pos (by rw [e]), if_pos e]
    · rw [if_neg (fun z => e (name_inj _ _ z)), if_neg e, h3]
  have q2 : ∀ m : Str, (∀ l : Fl, l.name ≠ m) → (putF l.name v fs).lookup m = none := fun m hm => by
    rw [lookup_putF, if_neg (Ne.symm (hm l)), h4 m hm]
  refine ⟨dx, fs, h1, h2, ⟨dx, _, upd_same, ?_, q1, q2⟩, fun hg => ⟨dx, _, upd_same, ?_, q1, q2⟩⟩
  · have := length_putF l.name v fs; omega
  · rw [len_putF_old (by rw [h3]; exact hg)]; exact h2
def stG (K : PySem.W.Frag) (i : Nat) (l : Fl) (y : V) (N : Hp → Prop) (σ : St) (H : Hp) : Prop := tVar i σ H fun x H2 => ∃ a C dx fs, x = .ref a ∧ H2 a = some (.ins C dx fs) ∧ Cls K C ∧ NoAttr K C l.name ∧ fs.length < 1000 ∧ N (upd H2 a (.ins C dx (putF l.name y fs)))
theorem FrAt.st {T : Tx K mg} {n : Nat} {c : Kd} {H : Hp} {p : Addr} {g : Fl → Option V} (F : FrAt T n c H p g) (hn : n < 900) {l : Fl} {y : V} {N : Hp → Prop} {σ : St} {i : Nat} (hσ : σ[i]? = some (some (.ref p))) (k : ∀ H2, But p H H2 → FrAt T (n + 1) c H2 p (setG g l y) → N H2) : stG K i l y N σ H := by
  obtain ⟨dx, fs, h1, h2, h3, _⟩ := F.put l y
  exact ⟨_, hσ, p, _, dx, fs, rfl, h1, T.cl c, T.na c l, by omega, k _ (fun b o nb e => by rw [upd_ne nb]; exact e) h3⟩
theorem FrAt.re {T : Tx K mg} {n : Nat} {c : Kd} {H : Hp} {p : Addr} {g : Fl → Option V} (F : FrAt T n c H p g) (hn : n < 900) {l : Fl} {y : V} {N : Hp → Prop} {σ : St} {i : Nat} (hσ : σ[i]? = some (some (.ref p))) (hg : g l ≠ none) (k : ∀ H2, But p H H2 → FrAt T n c H2 p (setG g l y) → N H2) : stG K i l y N σ H := by
  obtain ⟨dx, fs, h1, h2, _, h3⟩ := F.put l y
  exact ⟨_, hσ, p, _, dx, fs, rfl, h1, T.cl c, T.na c l, by omega, k _ (fun b o nb e => by rw [upd_ne nb]; exact e) (h3 hg)⟩
structure Sf where
  ra : Addr
  rows : List V
  oa : Addr
  others : List V
  sc : V
  place : Nat
  left : Int
  fault : Str
  cleaning : Bool
  named : V
  held : V
def gOf (c : Kd) (s : Sf) : Fl → Option V
  | .rows => some (.ref s.ra)
  | .line => some (.int 4)
  | .scope => some s.sc
  | .begun => some (.int (s.place : Nat))
  | .named => some s.named
  | .held => some s.held
  | .left => if c = .rounds then some (.int s.left) else none
  | .fault => if c = .tried then some (.str s.fault) else none
  | .others => if c = .tried ∨ c = .cleaned ∨ c = .limited then some (.ref s.oa) else none
  | .cleaning => if c = .cleaned then some (.bl s.cleaning) else none
  | .told => if c = .grouped then some .non else none
structure FAt (T : Tx K mg) (c : Kd) (H : Hp) (p : Addr) (s : Sf) : Prop where
  fr : FrAt T 11 c H p (gOf c s)
  rs : H s.ra = some (.tup s.rows)
  os : H s.oa = some (.tup s.others)
  pl : s.place ≤ s.rows.length
  rl : s.rows.length ≤ 10
  ol : s.others.length ≤ 10
theorem FAt.same {T : Tx K mg} {c : Kd} {H H' : Hp} {p : Addr} {s : Sf} (F : FAt T c H p s) (e : Same H H') : FAt T c H' p s := ⟨F.fr.same e, e _ _ F.rs, e _ _ F.os, F.pl, F.rl, F.ol⟩
theorem FAt.but {T : Tx K mg} {c : Kd} {H H' : Hp} {p a : Addr} {s : Sf} {xs : List V} (F : FAt T c H p s) (b : But p H H') (h : H a = some (.tup xs)) : H' a = some (.tup xs) := by
  obtain ⟨dx, fs, h1, _⟩ := F.fr.ex
  exact b.tup h1 h
def hidesF (c : Kd) (s : Sf) : Bool := if c = .kept then true else if c = .cleaned then s.cleaning else false
def overF (c : Kd) (s : Sf) : Str := if c = .rounds then (if s.left < 1 then "out" else "on") else if c = .cleaned then (if s.cleaning = true then "out" else "clean") else if c = .grouped then "join" else "out"
def overS (c : Kd) (s : Sf) : Sf := if c = .rounds ∧ ¬ s.left < 1 then { s with left := s.left - 1, place := 0 } else s
theorem overS_no {c : Kd} {s : Sf} (h : c ≠ .rounds) : overS c s = s := by unfold overS; rw [if_neg (fun z => h z.1)]
inductive Sig where
  | strike (n : Int)
  | faults (a : Str) (r : List Str)
def SigAt (H : Hp) (t : Addr) : Sig → Prop
  | .strike n => H t = some (.tup [.str "strike", .int n])
  | .faults a r => ∃ u, H t = some (.tup [.str "faults", .ref u]) ∧ H u = some (.tup (.str a :: r.map V.str))
theorem SigAt.same {H H' : Hp} {t : Addr} {g : Sig} (h : SigAt H t g) (s : Same H H') : SigAt H' t g := by
  cases g with
  | strike n => exact s _ _ h
  | faults a r =>
    obtain ⟨u, h1, h2⟩ := h
    exact ⟨u, s _ _ h1, s _ _ h2⟩
def meetsF (c : Kd) (s : Sf) (g : Sig) : Str :=
  if c = .tried then (match g with
    | .faults a _ => if s.fault = "any" ∨ s.fault = a then "caught" else "out"
    | .strike _ => "out")
  else if c = .cleaned then (if s.cleaning = true then "out" else "clean")
  else if c = .limited then (match g with
    | .strike n => if s.sc = .int n then "late" else "out"
    | .faults _ _ => "out")
  else if c = .grouped then "halt" else "out"
def behindF (c : Kd) (s : Sf) : List V :=
  if c = .rounds ∧ 0 < s.left then s.rows
  else if c = .tried ∨ c = .limited ∨ (c = .cleaned ∧ s.cleaning = false) then s.rows.drop s.place ++ s.others
  else s.rows.drop s.place
def spFInit (T : Tx K mg) : Sp := fun vs H Q _ => ∃ (c : Kd) (p a : Addr) (xs : List V) (ln sc : V), vs = [.ref p, .ref a, ln, sc] ∧ FrAt T 0 c H p (fun _ => none) ∧ H a = some (.tup xs) ∧
  ∀ H', But p H H' → FrAt T 6 c H' p (fun l => match l with | .rows => some (.ref a) | .line => some ln | .scope => some sc | .begun => some (.int 0) | .named => some .non | .held => some .non | _ => none) → Q .non H'
def spNext (T : Tx K mg) : Sp := fun vs H Q _ => ∃ (c : Kd) (p : Addr) (s : Sf), vs = [.ref p] ∧ FAt T c H p s ∧ (s.place = s.rows.length → Q .non H) ∧ (∀ v, s.rows[s.place]? = some v → ∀ H', But p H H' → FAt T c H' p { s with place := s.place + 1 } → Q v H')
def spAnew (T : Tx K mg) : Sp := fun vs H Q _ => ∃ (c : Kd) (p a : Addr) (s : Sf) (xs : List V), vs = [.ref p, .ref a] ∧ FAt T c H p s ∧ H a = some (.tup xs) ∧ xs.length ≤ 10 ∧ ∀ H', But p H H' → FAt T c H' p { s with ra := a, rows := xs, place := 0 } → Q .non H'
def spHides (T : Tx K mg) (c : Kd) : Sp := fun vs H Q _ => ∃ (p : Addr) (s : Sf), vs = [.ref p] ∧ FAt T c H p s ∧ Q (.bl (hidesF c s)) H
def spOver (T : Tx K mg) (c : Kd) : Sp := fun vs H Q _ => ∃ (p : Addr) (s : Sf), vs = [.ref p] ∧ FAt T c H p s ∧ ∀ H', But p H H' → FAt T c H' p (overS c s) → Q (.str (overF c s)) H'
def spMeets (T : Tx K mg) (c : Kd) : Sp := fun vs H Q _ => ∃ (p t : Addr) (s : Sf) (g : Sig), vs = [.ref p, .ref t] ∧ FAt T c H p s ∧ SigAt H t g ∧ (c = .limited → ∃ n, s.sc = .int n) ∧ ∀ H', Same H H' → Q (.str (meetsF c s g)) H'
def spRest (T : Tx K mg) : Sp := fun vs H Q _ => ∃ (c : Kd) (p : Addr) (s : Sf), vs = [.ref p] ∧ FAt T c H p s ∧ ∀ l H', H l = none → Same H H' → H' l = some (.lst (s.rows.drop s.place)) → Q (.ref l) H'
def spBehind (T : Tx K mg) (c : Kd) : Sp := fun vs H Q _ => ∃ (p : Addr) (s : Sf), vs = [.ref p] ∧ FAt T c H p s ∧ ∀ l H', H l = none → Same H H' → H' l = some (.lst (behindF c s)) → Q (.ref l) H'
def spClean (T : Tx K mg) : Sp := fun vs H Q _ => ∃ (p : Addr) (s : Sf) (v : V), vs = [.ref p, v] ∧ FAt T .cleaned H p s ∧ ∀ H', But p H H' → FAt T .cleaned H' p { s with ra := s.oa, rows := s.others, place := 0, cleaning := true, held := v } → Q .non H'
theorem FAt.mt {T : Tx K mg} {c : Kd} {H : Hp} {p : Addr} {s : Sf} (F : FAt T c H p s) {m : Str} (hm : ∀ l : Fl, l.name ≠ m) {N : Prop} (k : N) : ∃ (x : Addr) (x_1 : List (Str × V)), H p = some (.ins (T.C c) x x_1) ∧ List.lookup m x_1 = none ∧ N := by
  obtain ⟨dx, fs, h1, _, _, h4⟩ := F.fr.ex
  exact ⟨dx, fs, h1, h4 m hm, k⟩
theorem nf_rest : ∀ l : Fl, l.name ≠ "rest" := by intro l; cases l <;> decide +kernel
theorem nf_anew : ∀ l : Fl, l.name ≠ "begin_anew" := by intro l; cases l <;> decide +kernel
theorem nf_next : ∀ l : Fl, l.name ≠ "next_row" := by intro l; cases l <;> decide +kernel
theorem nf_hides : ∀ l : Fl, l.name ≠ "hides" := by intro l; cases l <;> decide +kernel
theorem nf_over : ∀ l : Fl, l.name ≠ "over" := by intro l; cases l <;> decide +kernel
theorem nf_meets : ∀ l : Fl, l.name ≠ "meets" := by intro l; cases l <;> decide +kernel
theorem nf_behind : ∀ l : Fl, l.name ≠ "behind" := by intro l; cases l <;> decide +kernel
theorem nf_clean : ∀ l : Fl, l.name ≠ "clean" := by intro l; cases l <;> decide +kernel
theorem FAt.re {T : Tx K mg} {c : Kd} {H : Hp} {p : Addr} {s s' : Sf} (F : FAt T c H p s) {l : Fl} {y : V} {N : Hp → Prop} {σ : St} {i : Nat} (hσ : σ[i]? = some (some (.ref p))) (hg : gOf c s l ≠ none) (e : setG (gOf c s) l y = gOf c s')
    (h1 : H s'.ra = some (.tup s'.rows)) (h2 : H s'.oa = some (.tup s'.others)) (h3 : s'.place ≤ s'.rows.length) (h4 : s'.rows.length ≤ 10) (h5 : s'.others.length ≤ 10) (k : ∀ H2, But p H H2 → FAt T c H2 p s' → N H2) : stG K i l y N σ H :=
  F.fr.re (by decide) hσ hg fun H2 b2 F2 => k H2 b2 ⟨by rw [← e]; exact F2, F.but b2 h1, F.but b2 h2, h3, h4, h5⟩
theorem cut_from (xs : List V) (n : Nat) : cutV xs (some (n : Nat)) none = xs.drop n := by
  unfold cutV
  rw [HT.sIx_none, HT.sIx_nat, List.take_of_length_le (by rw [List.length_drop]; omega)]
  by_cases h : n ≤ xs.length
  · rw [Nat.min_eq_left h]
  · rw [Nat.min_eq_right (by omega), List.drop_eq_nil_of_le (by omega), List.drop_eq_nil_of_le (by omega)]
theorem slFrom {K : PySem.W.Frag} {G : Hp} {a : Addr} {xs : List V} {n : Nat} {R : VK} (h : G a = some (.tup xs)) (k : ∀ q G', Same G G' → G' q = some (.tup (xs.drop n)) → R (.ref q) G') : rSlTW K (.ref a) (some (n : Nat)) none G R := by
  refine ⟨a, xs, rfl, SqT.of h, fun hw => ?_, fun hw q hq => ?_⟩
  · rw [HT.sIx_none, HT.sIx_nat] at hw
    refine k a G (Same.refl G) ?_
    rw [h]
    have : n = 0 ∨ xs = [] := by
      by_cases e : xs = []
      · exact .inr e
      · have : 0 < xs.length := List.length_pos_iff.mpr e
        left; omega
    rcases this with e | e
    · rw [e]; rfl
    · rw [e]; simp
  · refine k q _ (Same.upd hq) ?_
    rw [upd_same, cut_from]
def newS (c : Kd) (s : Sf) : Prop := s.place = 0 ∧ s.held = .non ∧ (c ≠ .grouped → s.named = .non) ∧ (c = .rounds ∨ c = .tried ∨ c = .cleaned → s.sc = .non) ∧ (c = .cleaned → s.cleaning = false)
def argsI (c : Kd) (s : Sf) : List V :=
  match c with
  | .rounds => [.ref s.ra, .int 4, .int (s.left + 1)]
  | .tried => [.ref s.ra, .int 4, .str s.fault, .ref s.oa]
  | .cleaned => [.ref s.ra, .int 4, .ref s.oa]
  | .limited => [.ref s.ra, .int 4, s.sc, .ref s.oa]
  | .grouped => [.ref s.ra, .int 4, s.sc, s.named]
  | _ => [.ref s.ra, .int 4, s.sc]
def spI (T : Tx K mg) (c : Kd) : Sp := fun vs H Q _ => ∃ (p : Addr) (s : Sf), vs = .ref p :: argsI c s ∧ newS c s ∧ FrAt T 0 c H p (fun _ => none) ∧ H s.ra = some (.tup s.rows) ∧ H s.oa = some (.tup s.others) ∧ s.rows.length ≤ 10 ∧ s.others.length ≤ 10 ∧ ∀ H', But p H H' → FAt T c H' p s → Q .non H'
theorem FrAt.tup {T : Tx K mg} {n : Nat} {c : Kd} {H H' : Hp} {p a : Addr} {g : Fl → Option V} {xs : List V} (F : FrAt T n c H p g) (b : But p H H') (h : H a = some (.tup xs)) : H' a = some (.tup xs) := by
  obtain ⟨dx, fs, h1, _⟩ := F.ex
  exact b.tup h1 h
theorem mk_new {T : Tx K mg} {c : Kd} {H : Hp} {x dx : Addr} (nx : H x = none) (ndx : H dx = none) (nex : dx ≠ x) : FrAt T 0 c (upd (upd H dx (.own x)) x (.ins (T.C c) dx [])) x (fun _ => none) ∧ Same H (upd (upd H dx (.own x)) x (.ins (T.C c) dx [])) :=
  ⟨.new upd_same, (Same.upd ndx).trans (Same.upd (by rw [upd_ne (Ne.symm nex)]; exact nx))⟩
theorem same_new {H H1 H' : Hp} {x : Addr} (nx : H x = none) (s : Same H H1) (b : But x H1 H') : Same H H' := fun c o e => b c o (ne_of_none e nx) (s c o e)
def kd (k : Int) : Kd := if k = 0 then .frame else if k = 1 then .rounds else if k = 2 then .kept else if k = 3 then .tried else if k = 4 then .cleaned else if k = 5 then .limited else .grouped
def faultOf (m : Int) : Str := if m % 3 = 0 then "boom" else if m % 3 = 1 then "oops" else "any"
def s0 (kind many : Int) (ra : Addr) (rows : List V) (oa : Addr) (others : List V) : Sf :=
  { ra := ra, rows := rows, oa := oa, others := others, sc := if kind = 0 then (if many % 2 = 0 then .int many else .non) else if kind = 5 ∨ kind = 6 then .int many else .non, place := 0, left := many - 1, fault := faultOf many, cleaning := false, named := if kind = 6 then .str "ga" else .non, held := .non }
def spMade (T : Tx K mg) : Sp := fun vs H Q _ => ∃ (kind many : Int) (ra oa : Addr) (rows others : List V), vs = [.int kind, .ref ra, .ref oa, .int many] ∧ (0 ≤ kind ∧ kind < 7) ∧ H ra = some (.tup rows) ∧ H oa = some (.tup others) ∧ rows.length ≤ 10 ∧ others.length ≤ 10 ∧
  ∀ p H', H p = none → Same H H' → FAt T (kd kind) H' p (s0 kind many ra rows oa others) → Q (.ref p) H'
inductive Sl where
  | kind | many | rows | others | place | cleaning | left
deriving DecidableEq
def Sl.name : Sl → Str
  | .kind => "kind" | .many => "many" | .rows => "rows" | .others => "others" | .place => "place" | .cleaning => "cleaning" | .left => "left"
theorem sl_inj : ∀ a b : Sl, a.name = b.name → a = b := by
  intro a b
  cases a <;> cases b <;> first
    | (intro _; rfl)
    | (intro h; exact absurd h (by decide +kernel))
def sv (kind many : Int) (s : Sf) : Sl → V
  | .kind => .int kind | .many => .int many | .rows => .ref s.ra | .others => .ref s.oa | .place => .int (s.place : Nat) | .cleaning => .bl s.cleaning | .left => .int s.left
structure DAt (H : Hp) (d : Addr) (g : Sl → Option V) : Prop where
  ex : ∃ kvs, H d = some (.dK kvs) ∧ kvs.length ≤ 20 ∧ ∀ l : Sl, valV kvs (.inr l.name) = g l
abbrev DSt (H : Hp) (d : Addr) (kind many : Int) (s : Sf) : Prop := DAt H d (fun l => some (sv kind many s l))
theorem DAt.same {H H' : Hp} {d : Addr} {g : Sl → Option V} (D : DAt H d g) (e : Same H H') : DAt H' d g := by
  obtain ⟨kvs, h1, h2⟩ := D.ex
  exact ⟨kvs, e _ _ h1, h2⟩
theorem DAt.get {H : Hp} {d : Addr} {g : Sl → Option V} (D : DAt H d g) {l : Sl} {v : V} {σ : St} {i : Nat} {R : VK} (hσ : σ[i]? = some (some (.ref d))) (e : g l = some v) (k : R v H) : tDGet (tVar i) (tC (.str l.name)) σ H R := by
  obtain ⟨kvs, h1, _, h3⟩ := D.ex
  refine ⟨_, hσ, d, v, rfl, ?_, k⟩
  have := DGet.k (k := (.inr l.name : Key)) h1
  rw [h3 l, e] at this
  exact this
theorem len_putK {kvs : List (Key × V)} {k : Key} {v : V} (h : valV kvs k ≠ none) : (putK kvs k v).length = kvs.length := by
  unfold putK
  rw [valV_any]
  cases e : valV kvs k with
  | none => exact absurd e h
  | some x => rw [if_pos (by rfl), List.length_map]
def setD (g : Sl → Option V) (l : Sl) (v : V) : Sl → Option V := fun x => if x = l then some v else g x
def stD (i : Nat) (l : Sl) (y : V) (N : Hp → Prop) (σ : St) (H : Hp) : Prop := tVar i σ H fun x H2 => tC (.str l.name) σ H2 fun k H3 => ∃ a H4, x = .ref a ∧ DPut H3 a k y H4 ∧ N H4
theorem DAt.set {H : Hp} {d : Addr} {g : Sl → Option V} (D : DAt H d g) {l : Sl} {y : V} {N : Hp → Prop} {σ : St} {i : Nat} (hσ : σ[i]? = some (some (.ref d))) (hg : g l ≠ none) (k : ∀ H2, But d H H2 → DAt H2 d (setD g l y) → N H2) : stD i l y N σ H := by
  obtain ⟨kvs, h1, h2, h3⟩ := D.ex
  refine ⟨_, hσ, d, _, rfl, DPut.k (k := (.inr l.name : Key)) h1 (small1000 (by omega)), k _ (fun b o nb e => by rw [upd_ne nb]; exact e) ⟨_, upd_same, ?_, fun x => ?_⟩⟩
  · rw [len_putK (by rw [h3]; exact hg)]; exact h2
  · rw [valV_put, h3]
    unfold setD
    by_cases e : x = l
    · rw [if_pos (by rw [e]), if_pos e]
    · rw [if_neg (fun z => e (sl_inj _ _ (Sum.inr.inj z))), if_neg e]
structure Rel (kind many : Int) (s : Sf) : Prop where
  k0 : 0 ≤ kind ∧ kind < 7
  fa : s.fault = faultOf many
  sc : kind = 5 → s.sc = .int many
  cl : kind ≠ 4 → s.cleaning = false
def spMeetsL (K : PySem.W.Frag) : Sp := fun vs H Q _ => ∃ (kind many : Int) (s : Sf) (t : Addr) (g : Sig), vs = [.int kind, .int many, .bl s.cleaning, .ref t] ∧ Rel kind many s ∧ SigAt H t g ∧ ∀ H', Same H H' → Q (.str (meetsF (kd kind) s g)) H'
def RowsAt (H : Hp) (s : Sf) : Prop := H s.ra = some (.tup s.rows) ∧ H s.oa = some (.tup s.others) ∧ s.place ≤ s.rows.length ∧ s.rows.length ≤ 10 ∧ s.others.length ≤ 10
def spBehindL (K : PySem.W.Frag) : Sp := fun vs H Q _ => ∃ (d : Addr) (kind many : Int) (s : Sf), vs = [.ref d] ∧ Rel kind many s ∧ DSt H d kind many s ∧ RowsAt H s ∧ ∀ l H', H l = none → Same H H' → H' l = some (.lst (behindF (kd kind) s)) → Q (.ref l) H'
def spOverL (K : PySem.W.Frag) : Sp := fun vs H Q _ => ∃ (d : Addr) (kind many : Int) (s : Sf), vs = [.ref d] ∧ Rel kind many s ∧ DSt H d kind many s ∧ ∀ H' H0, But d H H0 → DSt H0 d kind many (overS (kd kind) s) → Same H0 H' → Q (.str (overF (kd kind) s)) H'
def cellF (ns : List Int) (k : Int) : Int := (ns[k.toNat]?).getD 0
def spCell (K : PySem.W.Frag) : Sp := fun vs H Q _ => ∃ (a : Addr) (ns : List Int) (k : Int), vs = [.ref a, .int k] ∧ SqL K H a (ns.map V.int) ∧ ns.length ≤ 63 ∧ 0 ≤ k ∧ Q (.int (cellF ns k)) H
def RowT (H : Hp) (y : V) : Prop := ∃ r xs, y = V.ref r ∧ H r = some (.tup xs) ∧ xs.all flatV = true ∧ xs.length ≤ 5
theorem RowT.same {H H' : Hp} {y : V} (h : RowT H y) (s : Same H H') : RowT H' y := by
  obtain ⟨r, xs, e1, e2, e3⟩ := h
  exact ⟨r, xs, e1, s _ _ e2, e3⟩
theorem RowT.keep {H H' : Hp} {y : V} {d : Addr} {o : HO} (h : RowT H y) (e : H d = some o) (ne : ∀ xs, o ≠ .tup xs) (b : But d H H') : RowT H' y := by
  obtain ⟨r, xs, e1, e2, e3⟩ := h
  exact ⟨r, xs, e1, b _ _ (ne_of e2 e (fun z => ne xs z.symm)) e2, e3⟩
def spMixed : Sp := fun vs H Q _ => ∃ (a k : Int), vs = [.int a, .int k] ∧ 0 ≤ k ∧ k ≤ 100 ∧ ∀ n : Int, Q (.int n) H

theorem seven {k : Int} (h : 0 ≤ k ∧ k < 7) : k = 0 ∨ k = 1 ∨ k = 2 ∨ k = 3 ∨ k = 4 ∨ k = 5 ∨ k = 6 := by omega
theorem spFI_of {T : Tx K mg} {c : Kd} {H : Hp} {x dx : Addr} {Q : VK} {E : XK} {s : Sf} {sc : V} (nx : H x = none) (ndx : H dx = none) (nex : dx ≠ x) (hc : c = .frame ∨ c = .kept) (hs : s.place = 0 ∧ s.held = .non ∧ s.named = .non ∧ s.sc = sc) (h1 : H s.ra = some (.tup s.rows)) (h2 : H s.oa = some (.tup s.others)) (l1 : s.rows.length ≤ 10) (l2 : s.others.length ≤ 10)
    (k : ∀ H', Same H H' → FAt T c H' x s → Q (.ref x) H') : spFInit T [V.ref x, V.ref s.ra, V.int 4, sc] (upd (upd H dx (HO.own x)) x (HO.ins (T.C c) dx [])) (fun v H2 => v = V.non ∧ Q (V.ref x) H2) E := by
  obtain ⟨F0, sN⟩ := mk_new (T := T) (c := c) nx ndx nex
  refine ⟨c, x, s.ra, s.rows, .int 4, sc, rfl, F0, sN _ _ h1, fun H' b F' => ⟨rfl, k H' (same_new nx sN b) ⟨?_, F0.tup b (sN _ _ h1), F0.tup b (sN _ _ h2), by rw [hs.1]; exact Nat.zero_le _, l1, l2⟩⟩⟩
  refine FrAt.mono ?_ (show 6 ≤ 11 by decide)
  refine cast ?_ F'
  obtain ⟨e1, e2, e3, e4⟩ := hs
  congr 1
  funext l
  rcases hc with rfl | rfl <;> cases l <;> simp [gOf, e1, e2, e3, e4]
theorem spI_of {T : Tx K mg} {c : Kd} {H : Hp} {x dx : Addr} {Q : VK} {E : XK} {s : Sf} {vs : List V} (nx : H x = none) (ndx : H dx = none) (nex : dx ≠ x) (hv : vs = .ref x :: argsI c s) (hs : newS c s) (h1 : H s.ra = some (.tup s.rows)) (h2 : H s.oa = some (.tup s.others)) (l1 : s.rows.length ≤ 10) (l2 : s.others.length ≤ 10)
    (k : ∀ H', Same H H' → FAt T c H' x s → Q (.ref x) H') : spI T c vs (upd (upd H dx (HO.own x)) x (HO.ins (T.C c) dx [])) (fun v H2 => v = V.non ∧ Q (V.ref x) H2) E := by
  obtain ⟨F0, sN⟩ := mk_new (T := T) (c := c) nx ndx nex
  exact ⟨x, s, hv, hs, F0, sN _ _ h1, sN _ _ h2, l1, l2, fun H' b F' => ⟨rfl, k H' (same_new nx sN b) F'⟩⟩
theorem sc_ii (a b : Int) : scal (.int a) (.int b) = true := rfl
theorem pickL {K : PySem.W.Frag} {H : Hp} {a b v : Str} {j : Int} {Q : VK} {A : Addr → Prop} (hv : atI [V.str a, V.str b] j = some (.str v)) (k : ∀ H', Same H H' → Q (.str v) H') : 2 ≤ sizeLine ∧ ∀ p : Addr, H p = none → A p ∨ rIxL K (V.ref p) (V.int j) (upd H p (HO.lst [V.str a, V.str b])) Q :=
  ⟨by decide, fun p hp => .inr ⟨p, _, _, _, rfl, rfl, SqL.of upd_same, hv, k _ (Same.upd hp)⟩⟩
def isStrike (m : Int) : Sig → Bool
  | .strike n => decide (m = n)
  | .faults _ _ => false
theorem strikeEq {K : PySem.W.Frag} {G : Hp} {t q : Addr} {g : Sig} {m : Int} {R : VK} (hg : SigAt G t g) (hq : G q = some (.tup [.str "strike", .int m])) (k : R (.bl (isStrike m g)) G) : rEqT K false (.ref t) (.ref q) G R := by
  cases g with
  | strike n =>
    have ht : G t = some (.tup [.str "strike", .int n]) := hg
    refine ⟨t, q, _, _, 0, fun i => eqV (([V.str "strike", V.int n] : List V)[i]?.getD .non) (([V.str "strike", V.int m] : List V)[i]?.getD .non), rfl, rfl, SqT.of ht, SqT.of hq, by decide, fun i x y ex ey => ?_, ?_⟩
    · show EqD _ _ _ _ _ (eqV (([V.str "strike", V.int n] : List V)[i]?.getD .non) (([V.str "strike", V.int m] : List V)[i]?.getD .non))
      rw [ex, ey]
      have fx : ∀ (j : Int), ∀ z ∈ ([V.str "strike", V.int j] : List V), flatV z = true := fun j z hz => by
        rcases List.mem_cons.mp hz with rfl | hz
        · rfl
        · rw [List.mem_singleton.mp hz]; rfl
      exact .flat (fx _ x (List.mem_of_getElem? ex)) (fx _ y (List.mem_of_getElem? ey))
    · have e : (false ^^ ((List.range (min 2 2)).all (fun i => eqV (([V.str "strike", V.int n] : List V)[i]?.getD .non) (([V.str "strike", V.int m] : List V)[i]?.getD .non)) && (2 == 2))) = isStrike m (.strike n) := by
        show (false ^^ (((("strike" : Str) == "strike") && ((n == m) && true)) && true)) = decide (m = n)
        by_cases e : m = n
        · subst e; simp
        · simp [e, Ne.symm e]
      show R (.bl (false ^^ ((List.range (min 2 2)).all (fun i => eqV (([V.str "strike", V.int n] : List V)[i]?.getD .non) (([V.str "strike", V.int m] : List V)[i]?.getD .non)) && (2 == 2)))) G
      rw [e]; exact k
  | faults a r =>
    obtain ⟨u, ht, hu2⟩ := hg
    refine ⟨t, q, _, _, 1, fun i => if i = 0 then false else false, rfl, rfl, SqT.of ht, SqT.of hq, by decide, fun i x y ex ey => ?_, k⟩
    match i, ex, ey with
    | 0, ex, ey =>
      cases ex; cases ey
      have z : eqV (.str "faults") (.str "strike") = false := by decide +kernel
      show EqD _ _ _ _ _ false
      rw [← z]
      exact .flat rfl rfl
    | 1, ex, ey =>
      cases ex; cases ey
      exact .tupF (SqT.of hu2) rfl
    | i + 2, ex, ey => cases ex
theorem sAny : ¬ (("boom" : Str) = "any") ∧ ¬ (("oops" : Str) = "any") := ⟨by decide +kernel, by decide +kernel⟩
theorem inD35 {K : PySem.W.Frag} {H : Hp} {q : Addr} {j : Int} {R : VK} (h : H q = some (.tup [V.int 3, V.int 5])) (k : R (.bl (decide (j = 3 ∨ j = 5))) H) : rIn K false (.int j) (.ref q) H R := by
  refine ⟨q, _, rfl, .inr (SqT.of h), rfl, rfl, ?_⟩
  have e : inV (.int j) [V.int 3, V.int 5] = decide (j = 3 ∨ j = 5) := by
    show ((3 : Int) == j || ((5 : Int) == j || false)) = _
    by_cases e1 : j = 3
    · subst e1; rfl
    · by_cases e2 : j = 5
      · subst e2; rfl
      · simp [e1, e2, Ne.symm e1, Ne.symm e2]
  show R (.bl (inV (.int j) [V.int 3, V.int 5])) H
  rw [e]; exact k

def PairAt (H : Hp) (h t : Addr) : Prop := ∃ (a b : Addr) (xs : List V), H t = some (.tup [.ref a, .ref b]) ∧ H a = some (.lst xs) ∧ H b = some (.lst xs) ∧ a ≠ h ∧ b ≠ h ∧ xs.length ≤ 30 ∧ ∀ x ∈ xs, x = .non ∨ ∃ r, x = V.ref r
def HeldAt (H : Hp) (h : Addr) (n : Nat) : Prop := ∃ ts : List Addr, H h = some (.lst (ts.map V.ref)) ∧ ts.length ≤ n ∧ ∀ t ∈ ts, PairAt H h t
theorem PairAt.keep {H H' : Hp} {h t : Addr} {ts : List V} (P : PairAt H h t) (e : H h = some (.lst ts)) (b : But h H H') : PairAt H' h t := by
  obtain ⟨a, c, xs, p1, p2, p3, p4, p5, p6⟩ := P
  exact ⟨a, c, xs, b _ _ (ne_of p1 e (fun z => nomatch z)) p1, b _ _ p4 p2, b _ _ p5 p3, p4, p5, p6⟩
theorem HeldAt.same {H H' : Hp} {h : Addr} {n : Nat} (A : HeldAt H h n) (s : Same H H') : HeldAt H' h n := by
  obtain ⟨ts, e, hl, hp⟩ := A
  exact ⟨ts, s _ _ e, hl, fun t ht => (hp t ht).keep e (But.of s)⟩
def refs (s : Sf) : Prop := (∀ x ∈ s.rows, ∃ r, x = V.ref r) ∧ ∀ x ∈ s.others, ∃ r, x = V.ref r
theorem behind_refs {c : Kd} {s : Sf} (h : refs s) : ∀ x ∈ behindF c s, ∃ r, x = V.ref r := by
  intro x hx
  unfold behindF at hx
  split at hx
  · exact h.1 x hx
  · split at hx
    · rcases List.mem_append.mp hx with hx | hx
      · exact h.1 x (List.mem_of_mem_drop hx)
      · exact h.2 x hx
    · exact h.1 x (List.mem_of_mem_drop hx)
theorem behind_len {c : Kd} {s : Sf} (h1 : s.rows.length ≤ 10) (h2 : s.others.length ≤ 10) : (behindF c s).length ≤ 20 := by
  unfold behindF
  split
  · omega
  · split
    · rw [List.length_append, List.length_drop]; omega
    · rw [List.length_drop]; omega
theorem neSame {K : PySem.W.Frag} {H : Hp} {a b : Addr} {xs : List V} {R : VK} (ha : H a = some (.lst xs)) (hb : H b = some (.lst xs)) (h : ∀ x ∈ xs, x = .non ∨ ∃ r, x = V.ref r) (k : R (.bl false) H) : rEqL K true (.ref a) (.ref b) H R := by
  refine ⟨a, b, _, _, 0, fun _ => true, rfl, rfl, SqL.of ha, SqL.of hb, by decide, fun i x y ex ey => ?_, ?_⟩
  · rw [ex] at ey
    cases ey
    rcases h x (List.mem_of_getElem? ex) with rfl | ⟨r, rfl⟩
    · exact .flat rfl rfl
    · exact .same
  · have e : ((List.range xs.length).all fun _ => true) = true := by rw [List.all_eq_true]; intros; rfl
    rw [e, decide_eq_true rfl]
    exact k
def spAsked (T : Tx K mg) : Sp := fun vs H Q _ => ∃ (p d h : Addr) (kind many pick : Int) (s : Sf) (n : Nat), vs = [.ref p, .ref d, .int pick, .ref h] ∧ FAt T (kd kind) H p s ∧ DSt H d kind many s ∧ Rel kind many s ∧ refs s ∧ HeldAt H h n ∧ n ≤ 100 ∧ ∀ H', But h H H' → HeldAt H' h (n + 1) → Q (.bl true) H'
def spHeld (K : PySem.W.Frag) : Sp := fun vs H Q _ => ∃ (h : Addr) (n : Nat), vs = [.ref h] ∧ HeldAt H h n ∧ ∀ H', Same H H' → Q (.bl true) H'
def spLaw (K : PySem.W.Frag) : Sp := fun vs H Q _ => ∃ (a : Addr) (ns : List Int), vs = [.ref a] ∧ SqL K H a (ns.map V.int) ∧ ns.length ≤ 63 ∧ ∀ H', Q (.bl true) H'

theorem kd_lim {k : Int} (h : 0 ≤ k ∧ k < 7) (e : kd k = .limited) : k = 5 := by
  rcases seven h with rfl | rfl | rfl | rfl | rfl | rfl | rfl <;> first | rfl | exact absurd e (by decide)
theorem hides_eq {kind many : Int} {s : Sf} (R : Rel kind many s) : hidesF (kd kind) s = if kind = 2 then true else s.cleaning := by
  have h := R.k0
  have c := R.cl
  rcases seven h with rfl | rfl | rfl | rfl | rfl | rfl | rfl
  · rw [c (by decide)]; rfl
  · rw [c (by decide)]; rfl
  · rfl
  · rw [c (by decide)]; rfl
  · rfl
  · rw [c (by decide)]; rfl
  · rw [c (by decide)]; rfl

theorem key_sl (a b : Sl) : ((Sum.inr a.name : Key) = Sum.inr b.name) = (a = b) := propext ⟨fun z => sl_inj _ _ (Sum.inr.inj z), fun z => by rw [z]⟩
theorem putK_le (kvs : List (Key × V)) (k : Key) (v : V) : (putK kvs k v).length ≤ kvs.length + 1 := by
  unfold putK
  split
  · rw [List.length_map]; exact Nat.le_succ _
  · rw [List.length_append]; exact Nat.le_refl _
theorem merge_le (more : List (Key × V)) : ∀ kvs : List (Key × V), (mergeK kvs more).length ≤ kvs.length + more.length := by
  induction more with
  | nil => intro kvs; exact Nat.le_refl _
  | cons x r ih =>
    intro kvs
    show (mergeK (putK kvs x.1 x.2) r).length ≤ kvs.length + (r.length + 1)
    have h1 := ih (putK kvs x.1 x.2)
    have h2 := putK_le kvs x.1 x.2
    omega
def kvs0 (kind many : Int) (ra oa : Addr) : List (Key × V) := [(.inr (Sl.name .kind), .int kind), (.inr (Sl.name .many), .int many), (.inr (Sl.name .rows), .ref ra), (.inr (Sl.name .others), .ref oa), (.inr (Sl.name .place), .int 0), (.inr (Sl.name .cleaning), .bl false)]
theorem state0 {H : Hp} {d : Addr} {kind many : Int} {ra oa : Addr} {rows others : List V} (h : H d = some (.dK (putK (mergeK [] (kvs0 kind many ra oa)) (.inr (Sl.name .left)) (.int (many - 1))))) : DSt H d kind many (s0 kind many ra rows oa others) := by
  refine ⟨_, h, ?_, fun l => ?_⟩
  · unfold mergeK kvs0
    simp only [List.foldl]
    have := putK_le
    refine Nat.le_trans (putK_le _ _ _) (Nat.succ_le_succ (Nat.le_trans (putK_le _ _ _) (Nat.succ_le_succ (Nat.le_trans (putK_le _ _ _) (Nat.succ_le_succ (Nat.le_trans (putK_le _ _ _) (Nat.succ_le_succ (Nat.le_trans (putK_le _ _ _) (Nat.succ_le_succ (Nat.le_trans (putK_le _ _ _) (Nat.succ_le_succ (Nat.le_trans (putK_le _ _ _) (Nat.succ_le_succ (show 0 ≤ 13 by decide))))))))))))))
  · unfold mergeK kvs0
    simp only [List.foldl, valV_put, key_sl]
    cases l <;> simp [sv, s0]
theorem FAt.keep {T : Tx K mg} {c : Kd} {G G' : Hp} {p x : Addr} {s : Sf} {o : HO} (F : FAt T c G p s) (e : G x = some o) (h1 : ∀ C dx fs, o ≠ .ins C dx fs) (h2 : ∀ xs, o ≠ .tup xs) (b : But x G G') : FAt T c G' p s := by
  have tp : ∀ {a : Addr} {xs : List V}, G a = some (.tup xs) → G' a = some (.tup xs) := fun q => b _ _ (ne_of q e (fun z => h2 _ z.symm)) q
  refine ⟨?_, tp F.rs, tp F.os, F.pl, F.rl, F.ol⟩
  obtain ⟨dx, fs, q1, q2⟩ := F.fr.ex
  exact ⟨dx, fs, b _ _ (ne_of q1 e (fun z => h1 _ _ _ z.symm)) q1, q2⟩
theorem DAt.keep {G G' : Hp} {d x : Addr} {g : Sl → Option V} {o : HO} (D : DAt G d g) (e : G x = some o) (h1 : ∀ kvs, o ≠ .dK kvs) (b : But x G G') : DAt G' d g := by
  obtain ⟨kvs, q1, q2⟩ := D.ex
  exact ⟨kvs, b _ _ (ne_of q1 e (fun z => h1 _ z.symm)) q1, q2⟩
theorem HeldAt.keepO {G G' : Hp} {h x : Addr} {n : Nat} {o : HO} (A : HeldAt G h n) (e : G x = some o) (h1 : ∀ xs, o ≠ .lst xs) (h2 : ∀ xs, o ≠ .tup xs) (b : But x G G') : HeldAt G' h n := by
  obtain ⟨ts, e1, e2, e3⟩ := A
  refine ⟨ts, b _ _ (ne_of e1 e (fun z => h1 _ z.symm)) e1, e2, fun t ht => ?_⟩
  obtain ⟨a, c, xs, p1, p2, p3, p4⟩ := e3 t ht
  exact ⟨a, c, xs, b _ _ (ne_of p1 e (fun z => h2 _ z.symm)) p1, b _ _ (ne_of p2 e (fun z => h1 _ z.symm)) p2, b _ _ (ne_of p3 e (fun z => h1 _ z.symm)) p3, p4⟩
structure Al (T : Tx K mg) (H : Hp) (c : Kd) (p d h : Addr) (kind many : Int) (n : Nat) (G : Hp) (s sd : Sf) : Prop where
  sm : Same H G
  f : FAt T c G p s
  d : DSt G d kind many sd
  r1 : ∀ y ∈ s.rows, RowT G y
  r2 : ∀ y ∈ s.others, RowT G y
  a : HeldAt G h n
theorem Al.byD {T : Tx K mg} {H : Hp} {c : Kd} {p d h : Addr} {kind many : Int} {n : Nat} {G G' : Hp} {s sd sd' : Sf} (A : Al T H c p d h kind many n G s sd) (hd : H d = none) (b : But d G G') (D : DSt G' d kind many sd') : Al T H c p d h kind many n G' s sd' := by
  obtain ⟨kvs, e, _⟩ := A.d.ex
  exact ⟨fun x o q => b x o (ne_of_none q hd) (A.sm x o q), A.f.keep e (fun _ _ _ z => nomatch z) (fun _ z => nomatch z) b, D, fun y hy => (A.r1 y hy).keep e (fun _ z => nomatch z) b, fun y hy => (A.r2 y hy).keep e (fun _ z => nomatch z) b, A.a.keepO e (fun _ z => nomatch z) (fun _ z => nomatch z) b⟩
theorem Al.byP {T : Tx K mg} {H : Hp} {c : Kd} {p d h : Addr} {kind many : Int} {n : Nat} {G G' : Hp} {s s' sd : Sf} (A : Al T H c p d h kind many n G s sd) (hp : H p = none) (b : But p G G') (F : FAt T c G' p s') (e1 : ∀ y ∈ s'.rows, y ∈ s.rows ∨ y ∈ s.others) (e2 : s'.others = s.others) : Al T H c p d h kind many n G' s' sd := by
  obtain ⟨dx, fs, e, _⟩ := A.f.fr.ex
  have k1 : ∀ {y : V}, RowT G y → RowT G' y := fun q => q.keep e (fun _ z => nomatch z) b
  refine ⟨fun x o q => b x o (ne_of_none q hp) (A.sm x o q), F, A.d.keep e (fun _ z => nomatch z) b, fun y hy => ?_, fun y hy => ?_, A.a.keepO e (fun _ z => nomatch z) (fun _ z => nomatch z) b⟩
  · rcases e1 y hy with q | q
    · exact k1 (A.r1 y q)
    · exact k1 (A.r2 y q)
  · rw [e2] at hy; exact k1 (A.r2 y hy)
theorem Al.same {T : Tx K mg} {H : Hp} {c : Kd} {p d h : Addr} {kind many : Int} {n : Nat} {G G' : Hp} {s sd : Sf} (A : Al T H c p d h kind many n G s sd) (t : Same G G') : Al T H c p d h kind many n G' s sd :=
  ⟨A.sm.trans t, A.f.same t, A.d.same t, fun y hy => (A.r1 y hy).same t, fun y hy => (A.r2 y hy).same t, A.a.same t⟩
theorem eqV_self {z : V} (h : flatV z = true) : eqV z z = true := by
  cases z with
  | non => rfl
  | bl b => show (b == b) = true; simp
  | int b => show (b == b) = true; simp
  | str b => show (b == b) = true; simp
  | byt b => cases h
  | flt b => cases h
  | ref b => cases h
  | ty b => cases h
theorem neT_row {K : PySem.W.Frag} {G : Hp} {v : V} {R : VK} (h : RowT G v) (k : R (.bl false) G) : rEqT K true v v G R := by
  obtain ⟨r, xs, rfl, e, f, _⟩ := h
  refine ⟨r, r, xs, xs, 0, fun i => eqV ((xs[i]?).getD .non) ((xs[i]?).getD .non), rfl, rfl, SqT.of e, SqT.of e, by decide, fun i x y ex ey => ?_, ?_⟩
  · show EqD K G 0 x y (eqV ((xs[i]?).getD .non) ((xs[i]?).getD .non))
    rw [ex] at ey
    cases ey
    rw [ex]
    have fx := List.all_eq_true.mp f x (List.mem_of_getElem? ex)
    exact .flat fx fx
  · have e1 : ((List.range (min xs.length xs.length)).all fun i => eqV ((xs[i]?).getD .non) ((xs[i]?).getD .non)) = true := by
      rw [List.all_eq_true]
      intro i hi
      have hil : i < xs.length := by have := List.mem_range.mp hi; omega
      rw [List.getElem?_eq_getElem hil]
      exact eqV_self (List.all_eq_true.mp f xs[i] (List.getElem_mem hil))
    rw [e1, show (xs.length == xs.length) = true by simp]
    exact k
theorem overS_eq (c : Kd) (s : Sf) : (overS c s).rows = s.rows ∧ (overS c s).others = s.others ∧ (overS c s).oa = s.oa ∧ (overS c s).sc = s.sc ∧ (overS c s).fault = s.fault ∧ (overS c s).cleaning = s.cleaning := by
  unfold overS
  split <;> exact ⟨rfl, rfl, rfl, rfl, rfl, rfl⟩
theorem Rel.over {kind many : Int} {s : Sf} {c : Kd} (R : Rel kind many s) : Rel kind many (overS c s) := by
  obtain ⟨_, _, _, e4, e5, e6⟩ := overS_eq c s
  exact ⟨R.k0, by rw [e5]; exact R.fa, fun z => by rw [e4]; exact R.sc z, fun z => by rw [e6]; exact R.cl z⟩
theorem RowT.ne {G : Hp} {v : V} (h : RowT G v) : v ≠ .non := by
  obtain ⟨r, xs, rfl, _⟩ := h
  exact fun z => nomatch z

theorem sc_Frame___init__ : FnScope ["self", "rows", "line", "scope"] ["self", "rows", "line", "scope"] (defScope (inClass (top 2) 0)) := ⟨rfl, rfl, rfl, by decide +kernel, rfl, by decide +kernel, by decide +kernel⟩
theorem ok_Frame___init__ (T : Tx K mg) {f : Addr} {fd : FuncData} {dV : Value} (F : FunD K "__init__" "Frame.__init__" (inClass (top 2) 0) dV f fd) : FnOk P w K mg base CX0 1 f fd ["self", "rows", "line", "scope"] (spFInit T) := by
  refine F.ok sc_Frame___init__ (fun vs H Q E h => ?_) (fun cdv A outer s H vs Q E hr h => ?_)
  · obtain ⟨c, p, a, xs, ln, sc, rfl, _⟩ := h
    rfl
  · obtain ⟨c, p, a, xs, ln, sc, rfl, F0, ha, k⟩ := h
    refine ⟨_, (pss_cons (ps_fld (pv 0) (pe_callTy call_tuple_of (by rfl) T.n_tuple bt_tuple (pa_cons (pv 1) pa_nil)) rfl)
    (pss_cons (ps_fld (pv 0) (pv 2) rfl)
    (pss_cons (ps_fld (pv 0) (pv 3) rfl)
    (pss_cons (ps_fld (pv 0) pe_int rfl)
    (pss_cons (ps_fld (pv 0) pe_non rfl)
    (pss_one (ps_fld (pv 0) pe_non rfl))))))), ?_⟩
    refine ⟨_, rfl, a, xs, rfl, .inr ⟨SqT.of ha, ?_⟩⟩
    refine F0.st (l := .rows) (by decide) rfl fun H1 b1 F1 => ?_
    refine ⟨_, rfl, F1.st (l := .line) (by decide) rfl fun H2 b2 F2 => ?_⟩
    refine ⟨_, rfl, F2.st (l := .scope) (by decide) rfl fun H3 b3 F3 => ?_⟩
    refine F3.st (l := .begun) (by decide) rfl fun H4 b4 F4 => ?_
    refine F4.st (l := .named) (by decide) rfl fun H5 b5 F5 => ?_
    refine F5.st (l := .held) (by decide) rfl fun H6 b6 F6 => ?_
    refine k H6 (b1.trans (b2.trans (b3.trans (b4.trans (b5.trans b6))))) ?_
    refine cast ?_ F6
    congr 1
    funext l
    cases l <;> rfl
theorem sc_Frame_next_row : FnScope ["self"] ["self"] (defScope (inClass (top 2) 1)) := ⟨rfl, rfl, rfl, by decide +kernel, rfl, by decide +kernel, by decide +kernel⟩
theorem ok_Frame_next_row (T : Tx K mg) {f : Addr} {fd : FuncData} (F : Fun K "next_row" "Frame.next_row" (inClass (top 2) 1) f fd) : FnOk P w K mg base CX0 1 f fd ["self"] (spNext T) := by
  refine F.ok sc_Frame_next_row (fun vs H Q E h => ?_) (fun cdv A outer s H vs Q E hr h => ?_)
  · obtain ⟨c, p, s, rfl, _⟩ := h
    rfl
  · obtain ⟨c, p, s, rfl, F, k1, k2⟩ := h
    refine ⟨_, (pss_cons (ps_if (pt_cmpR op_eq (pe_fld (pv 0) rfl) (pe_callB call_len (by rfl) T.n_len bt_len (pa_cons (pe_fld (pv 0) rfl) pa_nil)) (nomark _))
    (pss_one (ps_ret pe_non))
    pss_nil)
    (pss_cons (ps_fld (pv 0) (pe_op op_add (pe_fld (pv 0) rfl) pe_int) rfl)
    (pss_one (ps_ret (pe_ix ix_tup (pe_fld (pv 0) rfl) (pe_op op_sub (pe_fld (pv 0) rfl) pe_int) (fun _ _ => rfl)))))), ?_⟩
    (simp only [_root_.L2.start, cxOf_K, cxComp_K, tSeq, tAsg, gName, tRet, tRetN, tDrop, tIfS, tTest, tB, tNot, tAnd, tOr, tAndV, tOrV, tNotV, tOp, tUn, tVar, tC, tCons, tNil, tStrs, tCB, tCall, tChain, tBM, tBM0, tPart, tNoPart, tSl, tIf, tNext, tTrue, selS, Option.bind_none, Option.bind_some, Option.join_some, if_true, rI, rI0, rU, rEq, rNe, rStarts, rSlS, lenV_str, tyV, List.map_cons, List.map_nil, List.length_cons, List.length_nil, List.replicate, List.cons_append, List.nil_append, List.append_nil, Nat.reduceAdd, Nat.reduceSub, Nat.zero_add, Nat.add_zero, Nat.sub_self, List.getElem?_cons_zero, List.getElem?_cons_succ, List.set_cons_zero, List.set_cons_succ, Option.some.injEq, V.int.injEq, V.str.injEq, V.ref.injEq, V.bl.injEq, V.ty.injEq, List.cons.injEq, exists_eq_left, exists_eq_left', exists_eq_right, exists_and_left, exists_eq, and_true, true_and, and_self, and_assoc, tEither, tMeth, tMake, tCMeth, tDIn, tDNotIn, tDPop1, tNever])
    refine F.fr.fld (l := .begun) rfl rfl (F.fr.fld (l := .rows) rfl rfl ⟨_, .inr ⟨_, SqT.of F.rs, rfl⟩, rfl, ?_⟩)
    by_cases e : s.place = s.rows.length
    · exact ifT (by rw [e]) (k1 e)
    refine ifF (fun z => e (by have := V.int.inj z; omega)) ?_
    have hlt : s.place < s.rows.length := by have := F.pl; omega
    simp only [sFld, tOp, tC]
    refine F.fr.fld (l := .begun) rfl rfl ⟨_, _, rfl, rfl, ?_⟩
    refine F.re (s' := { s with place := s.place + 1 }) (l := .begun) rfl (fun z => nomatch z) (by funext l; cases l <;> rfl) F.rs F.os hlt F.rl F.ol fun H2 b2 F2 => ?_
    simp only [tRet]
    refine F2.fr.fld (l := .rows) rfl rfl (F2.fr.fld (l := .begun) rfl rfl ?_)
    refine ⟨_, _, rfl, rfl, s.ra, _, _, s.rows[s.place], rfl, rfl, SqT.of F2.rs, ?_, k2 _ (List.getElem?_eq_getElem hlt) H2 b2 F2⟩
    rw [show ((s.place + 1 : Nat) : Int) - 1 = (s.place : Int) by omega]
    exact atI_nat (List.getElem?_eq_getElem hlt)
theorem sc_Frame_begin_anew : FnScope ["self", "rows"] ["self", "rows"] (defScope (inClass (top 2) 2)) := ⟨rfl, rfl, rfl, by decide +kernel, rfl, by decide +kernel, by decide +kernel⟩
theorem ok_Frame_begin_anew (T : Tx K mg) {f : Addr} {fd : FuncData} (F : Fun K "begin_anew" "Frame.begin_anew" (inClass (top 2) 2) f fd) : FnOk P w K mg base CX0 1 f fd ["self", "rows"] (spAnew T) := by
  refine F.ok sc_Frame_begin_anew (fun vs H Q E h => ?_) (fun cdv A outer s H vs Q E hr h => ?_)
  · obtain ⟨c, p, a, s, xs, rfl, _⟩ := h
    rfl
  · obtain ⟨c, p, a, s, xs, rfl, F, ha, hx, k⟩ := h
    have hu := hu100 hr
    refine ⟨_, (pss_cons (ps_fld (pv 0) (pe_callTy call_tuple_of (by rfl) T.n_tuple bt_tuple (pa_cons (pv 1) pa_nil)) rfl)
    (pss_one (ps_fld (pv 0) pe_int rfl))), ?_⟩
    (simp only [_root_.L2.start, cxOf_K, cxComp_K, tSeq, tAsg, gName, tRet, tRetN, tDrop, tIfS, tTest, tB, tNot, tAnd, tOr, tAndV, tOrV, tNotV, tOp, tUn, tVar, tC, tCons, tNil, tStrs, tCB, tCall, tChain, tBM, tBM0, tPart, tNoPart, tSl, tIf, tNext, tTrue, selS, Option.bind_none, Option.bind_some, Option.join_some, if_true, rI, rI0, rU, rEq, rNe, rStarts, rSlS, lenV_str, tyV, List.map_cons, List.map_nil, List.length_cons, List.length_nil, List.replicate, List.cons_append, List.nil_append, List.append_nil, Nat.reduceAdd, Nat.reduceSub, Nat.zero_add, Nat.add_zero, Nat.sub_self, List.getElem?_cons_zero, List.getElem?_cons_succ, List.set_cons_zero, List.set_cons_succ, Option.some.injEq, V.int.injEq, V.str.injEq, V.ref.injEq, V.bl.injEq, V.ty.injEq, List.cons.injEq, exists_eq_left, exists_eq_left', exists_eq_right, exists_and_left, exists_eq, and_true, true_and, and_self, and_assoc, tEither, tMeth, tMake, tCMeth, tDIn, tDNotIn, tDPop1, tNever])
    refine ⟨_, rfl, a, rfl, xs, .inr ⟨SqT.of ha, ?_⟩⟩
    refine F.fr.re (l := .rows) (by decide) rfl (fun z => nomatch z) fun H1 b1 F1 => ?_
    refine F1.re (l := .begun) (by decide) rfl (fun z => nomatch z) fun H2 b2 F2 => ?_
    refine k H2 (b1.trans b2) ⟨?_, F.but (b1.trans b2) ha, F.but (b1.trans b2) F.os, Nat.zero_le _, hx, F.ol⟩
    refine cast ?_ F2
    congr 1
    funext l
    cases l <;> rfl
theorem sc_Frame_rest : FnScope ["self"] ["self"] (defScope (inClass (top 2) 6)) := ⟨rfl, rfl, rfl, by decide +kernel, rfl, by decide +kernel, by decide +kernel⟩
theorem ok_Frame_rest (T : Tx K mg) {f : Addr} {fd : FuncData} (F : Fun K "rest" "Frame.rest" (inClass (top 2) 6) f fd) : FnOk P w K mg base CX0 1 f fd ["self"] (spRest T) := by
  refine F.ok sc_Frame_rest (fun vs H Q E h => ?_) (fun cdv A outer s H vs Q E hr h => ?_)
  · obtain ⟨c, p, s, rfl, _⟩ := h
    rfl
  · obtain ⟨c, p, s, rfl, F, k⟩ := h
    have hu := hu100 hr
    refine ⟨_, (pss_one (ps_ret (pe_callTy call_list_of (by rfl) T.n_list bt_list (pa_cons (pe_slice sl_tupW (pe_fld (pv 0) rfl) (po_some (pe_fld (pv 0) rfl)) po_none) pa_nil)))), ?_⟩
    (simp only [_root_.L2.start, cxOf_K, cxComp_K, tSeq, tAsg, gName, tRet, tRetN, tDrop, tIfS, tTest, tB, tNot, tAnd, tOr, tAndV, tOrV, tNotV, tOp, tUn, tVar, tC, tCons, tNil, tStrs, tCB, tCall, tChain, tBM, tBM0, tPart, tNoPart, tSl, tIf, tNext, tTrue, selS, Option.bind_none, Option.bind_some, Option.join_some, if_true, rI, rI0, rU, rEq, rNe, rStarts, rSlS, lenV_str, tyV, List.map_cons, List.map_nil, List.length_cons, List.length_nil, List.replicate, List.cons_append, List.nil_append, List.append_nil, Nat.reduceAdd, Nat.reduceSub, Nat.zero_add, Nat.add_zero, Nat.sub_self, List.getElem?_cons_zero, List.getElem?_cons_succ, List.set_cons_zero, List.set_cons_succ, Option.some.injEq, V.int.injEq, V.str.injEq, V.ref.injEq, V.bl.injEq, V.ty.injEq, List.cons.injEq, exists_eq_left, exists_eq_left', exists_eq_right, exists_and_left, exists_eq, and_true, true_and, and_self, and_assoc, tEither, tMeth, tMake, tCMeth, tDIn, tDNotIn, tDPop1, tNever])
    refine F.fr.fld (l := .rows) rfl rfl (F.fr.fld (l := .begun) rfl rfl ⟨_, rfl, ?_⟩)
    refine slFrom F.rs fun q G1 s1 h1 => ⟨q, rfl, _, .inr (SqT.of h1), fun l hl => ?_⟩
    exact k l _ (s1.free hl) (s1.trans (Same.upd hl)) upd_same
theorem sc_Frame_hides : FnScope ["self"] ["self"] (defScope (inClass (top 2) 3)) := ⟨rfl, rfl, rfl, by decide +kernel, rfl, by decide +kernel, by decide +kernel⟩
theorem ok_Frame_hides (T : Tx K mg) {f : Addr} {fd : FuncData} (F : Fun K "hides" "Frame.hides" (inClass (top 2) 3) f fd) {c : Kd} (hh : ∀ s, hidesF c s = false) : FnOk P w K mg base CX0 1 f fd ["self"] (spHides T c) := by
  refine F.ok sc_Frame_hides (fun vs H Q E h => ?_) (fun cdv A outer s H vs Q E hr h => ?_)
  · obtain ⟨p, s, rfl, _⟩ := h
    rfl
  · obtain ⟨p, s, rfl, F, k⟩ := h
    have hu := hu100 hr
    refine ⟨_, (pss_one (ps_ret pe_bl)), ?_⟩
    (simp only [_root_.L2.start, cxOf_K, cxComp_K, tSeq, tAsg, gName, tRet, tRetN, tDrop, tIfS, tTest, tB, tNot, tAnd, tOr, tAndV, tOrV, tNotV, tOp, tUn, tVar, tC, tCons, tNil, tStrs, tCB, tCall, tChain, tBM, tBM0, tPart, tNoPart, tSl, tIf, tNext, tTrue, selS, Option.bind_none, Option.bind_some, Option.join_some, if_true, rI, rI0, rU, rEq, rNe, rStarts, rSlS, lenV_str, tyV, List.map_cons, List.map_nil, List.length_cons, List.length_nil, List.replicate, List.cons_append, List.nil_append, List.append_nil, Nat.reduceAdd, Nat.reduceSub, Nat.zero_add, Nat.add_zero, Nat.sub_self, List.getElem?_cons_zero, List.getElem?_cons_succ, List.set_cons_zero, List.set_cons_succ, Option.some.injEq, V.int.injEq, V.str.injEq, V.ref.injEq, V.bl.injEq, V.ty.injEq, List.cons.injEq, exists_eq_left, exists_eq_left', exists_eq_right, exists_and_left, exists_eq, and_true, true_and, and_self, and_assoc, tEither, tMeth, tMake, tCMeth, tDIn, tDNotIn, tDPop1, tNever])
    rw [hh] at k
    exact k
theorem sc_Kept_hides : FnScope ["self"] ["self"] (defScope (inClass (top 4) 0)) := ⟨rfl, rfl, rfl, by decide +kernel, rfl, by decide +kernel, by decide +kernel⟩
theorem ok_Kept_hides (T : Tx K mg) {f : Addr} {fd : FuncData} (F : Fun K "hides" "Kept.hides" (inClass (top 4) 0) f fd) : FnOk P w K mg base CX0 1 f fd ["self"] (spHides T .kept) := by
  refine F.ok sc_Kept_hides (fun vs H Q E h => ?_) (fun cdv A outer s H vs Q E hr h => ?_)
  · obtain ⟨p, s, rfl, _⟩ := h
    rfl
  · obtain ⟨p, s, rfl, F, k⟩ := h
    have hu := hu100 hr
    refine ⟨_, (pss_one (ps_ret pe_bl)), ?_⟩
    (simp only [_root_.L2.start, cxOf_K, cxComp_K, tSeq, tAsg, gName, tRet, tRetN, tDrop, tIfS, tTest, tB, tNot, tAnd, tOr, tAndV, tOrV, tNotV, tOp, tUn, tVar, tC, tCons, tNil, tStrs, tCB, tCall, tChain, tBM, tBM0, tPart, tNoPart, tSl, tIf, tNext, tTrue, selS, Option.bind_none, Option.bind_some, Option.join_some, if_true, rI, rI0, rU, rEq, rNe, rStarts, rSlS, lenV_str, tyV, List.map_cons, List.map_nil, List.length_cons, List.length_nil, List.replicate, List.cons_append, List.nil_append, List.append_nil, Nat.reduceAdd, Nat.reduceSub, Nat.zero_add, Nat.add_zero, Nat.sub_self, List.getElem?_cons_zero, List.getElem?_cons_succ, List.set_cons_zero, List.set_cons_succ, Option.some.injEq, V.int.injEq, V.str.injEq, V.ref.injEq, V.bl.injEq, V.ty.injEq, List.cons.injEq, exists_eq_left, exists_eq_left', exists_eq_right, exists_and_left, exists_eq, and_true, true_and, and_self, and_assoc, tEither, tMeth, tMake, tCMeth, tDIn, tDNotIn, tDPop1, tNever])
    exact k
theorem sc_Cleaned_hides : FnScope ["self"] ["self"] (defScope (inClass (top 6) 2)) := ⟨rfl, rfl, rfl, by decide +kernel, rfl, by decide +kernel, by decide +kernel⟩
theorem ok_Cleaned_hides (T : Tx K mg) {f : Addr} {fd : FuncData} (F : Fun K "hides" "Cleaned.hides" (inClass (top 6) 2) f fd) : FnOk P w K mg base CX0 1 f fd ["self"] (spHides T .cleaned) := by
  refine F.ok sc_Cleaned_hides (fun vs H Q E h => ?_) (fun cdv A outer s H vs Q E hr h => ?_)
  · obtain ⟨p, s, rfl, _⟩ := h
    rfl
  · obtain ⟨p, s, rfl, F, k⟩ := h
    have hu := hu100 hr
    refine ⟨_, (pss_one (ps_ret (pe_fld (pv 0) rfl))), ?_⟩
    (simp only [_root_.L2.start, cxOf_K, cxComp_K, tSeq, tAsg, gName, tRet, tRetN, tDrop, tIfS, tTest, tB, tNot, tAnd, tOr, tAndV, tOrV, tNotV, tOp, tUn, tVar, tC, tCons, tNil, tStrs, tCB, tCall, tChain, tBM, tBM0, tPart, tNoPart, tSl, tIf, tNext, tTrue, selS, Option.bind_none, Option.bind_some, Option.join_some, if_true, rI, rI0, rU, rEq, rNe, rStarts, rSlS, lenV_str, tyV, List.map_cons, List.map_nil, List.length_cons, List.length_nil, List.replicate, List.cons_append, List.nil_append, List.append_nil, Nat.reduceAdd, Nat.reduceSub, Nat.zero_add, Nat.add_zero, Nat.sub_self, List.getElem?_cons_zero, List.getElem?_cons_succ, List.set_cons_zero, List.set_cons_succ, Option.some.injEq, V.int.injEq, V.str.injEq, V.ref.injEq, V.bl.injEq, V.ty.injEq, List.cons.injEq, exists_eq_left, exists_eq_left', exists_eq_right, exists_and_left, exists_eq, and_true, true_and, and_self, and_assoc, tEither, tMeth, tMake, tCMeth, tDIn, tDNotIn, tDPop1, tNever])
    exact F.fr.fld (l := .cleaning) rfl rfl k
theorem sc_Frame_over : FnScope ["self"] ["self"] (defScope (inClass (top 2) 4)) := ⟨rfl, rfl, rfl, by decide +kernel, rfl, by decide +kernel, by decide +kernel⟩
theorem ok_Frame_over (T : Tx K mg) {f : Addr} {fd : FuncData} (F : Fun K "over" "Frame.over" (inClass (top 2) 4) f fd) {c : Kd} (ho : ∀ s, overF c s = "out" ∧ overS c s = s) : FnOk P w K mg base CX0 1 f fd ["self"] (spOver T c) := by
  refine F.ok sc_Frame_over (fun vs H Q E h => ?_) (fun cdv A outer s H vs Q E hr h => ?_)
  · obtain ⟨p, s, rfl, _⟩ := h
    rfl
  · obtain ⟨p, s, rfl, F, k⟩ := h
    have hu := hu100 hr
    refine ⟨_, (pss_one (ps_ret pe_str)), ?_⟩
    (simp only [_root_.L2.start, cxOf_K, cxComp_K, tSeq, tAsg, gName, tRet, tRetN, tDrop, tIfS, tTest, tB, tNot, tAnd, tOr, tAndV, tOrV, tNotV, tOp, tUn, tVar, tC, tCons, tNil, tStrs, tCB, tCall, tChain, tBM, tBM0, tPart, tNoPart, tSl, tIf, tNext, tTrue, selS, Option.bind_none, Option.bind_some, Option.join_some, if_true, rI, rI0, rU, rEq, rNe, rStarts, rSlS, lenV_str, tyV, List.map_cons, List.map_nil, List.length_cons, List.length_nil, List.replicate, List.cons_append, List.nil_append, List.append_nil, Nat.reduceAdd, Nat.reduceSub, Nat.zero_add, Nat.add_zero, Nat.sub_self, List.getElem?_cons_zero, List.getElem?_cons_succ, List.set_cons_zero, List.set_cons_succ, Option.some.injEq, V.int.injEq, V.str.injEq, V.ref.injEq, V.bl.injEq, V.ty.injEq, List.cons.injEq, exists_eq_left, exists_eq_left', exists_eq_right, exists_and_left, exists_eq, and_true, true_and, and_self, and_assoc, tEither, tMeth, tMake, tCMeth, tDIn, tDNotIn, tDPop1, tNever])
    have := k H (But.refl _ _)
    rw [(ho s).1, (ho s).2] at this
    exact this F
theorem sc_Rounds_over : FnScope ["self"] ["self"] (defScope (inClass (top 3) 1)) := ⟨rfl, rfl, rfl, by decide +kernel, rfl, by decide +kernel, by decide +kernel⟩
theorem ok_Rounds_over (T : Tx K mg) {f : Addr} {fd : FuncData} (F : Fun K "over" "Rounds.over" (inClass (top 3) 1) f fd) (G_begin_anew : ∀ c, FnOk P w K mg base CX0 1 (T.m_begin_anew c).f (T.m_begin_anew c).fd ["self", "rows"] (spAnew T)) : FnOk P w K mg base CX0 2 f fd ["self"] (spOver T .rounds) := by
  refine F.ok sc_Rounds_over (fun vs H Q E h => ?_) (fun cdv A outer s H vs Q E hr h => ?_)
  · obtain ⟨p, s, rfl, _⟩ := h
    rfl
  · obtain ⟨p, s, rfl, F, k⟩ := h
    have hu := hu100 hr
    refine ⟨_, (pss_cons (ps_if (pt_cmpR op_lt (pe_fld (pv 0) rfl) pe_int (nomark _))
    (pss_one (ps_ret pe_str))
    pss_nil)
    (pss_cons (ps_fld (pv 0) (pe_op op_sub (pe_fld (pv 0) rfl) pe_int) rfl)
    (pss_cons (ps_expr (pe_meth (pv 0) (T.cl .rounds) (T.m_begin_anew .rounds).me (G_begin_anew .rounds) (hr.mono (by omega)) (T.m_begin_anew .rounds).b .nil pass0 (pa_cons (pe_fld (pv 0) rfl) pa_nil)))
    (pss_one (ps_ret pe_str))))), ?_⟩
    (simp only [_root_.L2.start, cxOf_K, cxComp_K, tSeq, tAsg, gName, tRet, tRetN, tDrop, tIfS, tTest, tB, tNot, tAnd, tOr, tAndV, tOrV, tNotV, tOp, tUn, tVar, tC, tCons, tNil, tStrs, tCB, tCall, tChain, tBM, tBM0, tPart, tNoPart, tSl, tIf, tNext, tTrue, selS, Option.bind_none, Option.bind_some, Option.join_some, if_true, rI, rI0, rU, rEq, rNe, rStarts, rSlS, lenV_str, tyV, List.map_cons, List.map_nil, List.length_cons, List.length_nil, List.replicate, List.cons_append, List.nil_append, List.append_nil, Nat.reduceAdd, Nat.reduceSub, Nat.zero_add, Nat.add_zero, Nat.sub_self, List.getElem?_cons_zero, List.getElem?_cons_succ, List.set_cons_zero, List.set_cons_succ, Option.some.injEq, V.int.injEq, V.str.injEq, V.ref.injEq, V.bl.injEq, V.ty.injEq, List.cons.injEq, exists_eq_left, exists_eq_left', exists_eq_right, exists_and_left, exists_eq, and_true, true_and, and_self, and_assoc, tEither, tMeth, tMake, tCMeth, tDIn, tDNotIn, tDPop1, tNever])
    refine F.fr.fld (l := .left) rfl rfl ⟨_, rfl, ?_⟩
    by_cases e : s.left < 1
    · have e1 : overF .rounds s = "out" := by unfold overF; rw [if_pos rfl, if_pos e]
      have e2 : overS .rounds s = s := by unfold overS; rw [if_neg (fun z => z.2 e)]
      have := k H (But.refl _ _)
      rw [e1, e2] at this
      exact ifT e (this F)
    refine ifF e ?_
    have e1 : overF .rounds s = "on" := by unfold overF; rw [if_pos rfl, if_neg e]
    have e2 : overS .rounds s = { s with left := s.left - 1, place := 0 } := by unfold overS; rw [if_pos ⟨rfl, e⟩]
    rw [e1, e2] at k
    simp only [sFld, tOp, tC]
    refine F.fr.fld (l := .left) rfl rfl ⟨_, _, rfl, rfl, ?_⟩
    refine F.re (s' := { s with left := s.left - 1 }) (l := .left) rfl (fun z => nomatch z) (by funext l; cases l <;> rfl) F.rs F.os F.pl F.rl F.ol fun H2 b2 F2 => ?_
    obtain ⟨dx, fs, g1, _, _, g4⟩ := F2.fr.ex
    refine ⟨_, rfl, p, dx, fs, rfl, g1, g4 _ nf_anew, ?_⟩
    simp only [tCons]
    refine F2.fr.fld (l := .rows) rfl rfl ?_
    exact ⟨.rounds, p, _, _, _, rfl, F2, F2.rs, F2.rl, fun H3 b3 F3 => k H3 (b2.trans b3) F3⟩
theorem sc_Cleaned_over : FnScope ["self"] ["self"] (defScope (inClass (top 6) 3)) := ⟨rfl, rfl, rfl, by decide +kernel, rfl, by decide +kernel, by decide +kernel⟩
theorem ok_Cleaned_over (T : Tx K mg) {f : Addr} {fd : FuncData} (F : Fun K "over" "Cleaned.over" (inClass (top 6) 3) f fd) : FnOk P w K mg base CX0 1 f fd ["self"] (spOver T .cleaned) := by
  refine F.ok sc_Cleaned_over (fun vs H Q E h => ?_) (fun cdv A outer s H vs Q E hr h => ?_)
  · obtain ⟨p, s, rfl, _⟩ := h
    rfl
  · obtain ⟨p, s, rfl, F, k⟩ := h
    have hu := hu100 hr
    refine ⟨_, (pss_one (ps_ret (pe_ifExp (pt_val (pe_fld (pv 0) rfl)) pe_str pe_str))), ?_⟩
    (simp only [_root_.L2.start, cxOf_K, cxComp_K, tSeq, tAsg, gName, tRet, tRetN, tDrop, tIfS, tTest, tB, tNot, tAnd, tOr, tAndV, tOrV, tNotV, tOp, tUn, tVar, tC, tCons, tNil, tStrs, tCB, tCall, tChain, tBM, tBM0, tPart, tNoPart, tSl, tIf, tNext, tTrue, selS, Option.bind_none, Option.bind_some, Option.join_some, if_true, rI, rI0, rU, rEq, rNe, rStarts, rSlS, lenV_str, tyV, List.map_cons, List.map_nil, List.length_cons, List.length_nil, List.replicate, List.cons_append, List.nil_append, List.append_nil, Nat.reduceAdd, Nat.reduceSub, Nat.zero_add, Nat.add_zero, Nat.sub_self, List.getElem?_cons_zero, List.getElem?_cons_succ, List.set_cons_zero, List.set_cons_succ, Option.some.injEq, V.int.injEq, V.str.injEq, V.ref.injEq, V.bl.injEq, V.ty.injEq, List.cons.injEq, exists_eq_left, exists_eq_left', exists_eq_right, exists_and_left, exists_eq, and_true, true_and, and_self, and_assoc, tEither, tMeth, tMake, tCMeth, tDIn, tDNotIn, tDPop1, tNever])
    refine F.fr.fld (l := .cleaning) rfl rfl ⟨_, rfl, ?_⟩
    have := k H (But.refl _ _) F
    cases e : s.cleaning with
    | true =>
      rw [show overF .cleaned s = "out" by unfold overF; rw [if_neg (by decide), if_pos rfl, if_pos e]] at this
      exact iteT this
    | false =>
      rw [show overF .cleaned s = "clean" by unfold overF; rw [if_neg (by decide), if_pos rfl, if_neg (by rw [e]; exact Bool.false_ne_true)]] at this
      exact iteF this
theorem sc_Grouped_over : FnScope ["self"] ["self"] (defScope (inClass (top 8) 3)) := ⟨rfl, rfl, rfl, by decide +kernel, rfl, by decide +kernel, by decide +kernel⟩
theorem ok_Grouped_over (T : Tx K mg) {f : Addr} {fd : FuncData} (F : Fun K "over" "Grouped.over" (inClass (top 8) 3) f fd) : FnOk P w K mg base CX0 1 f fd ["self"] (spOver T .grouped) := by
  refine F.ok sc_Grouped_over (fun vs H Q E h => ?_) (fun cdv A outer s H vs Q E hr h => ?_)
  · obtain ⟨p, s, rfl, _⟩ := h
    rfl
  · obtain ⟨p, s, rfl, F, k⟩ := h
    have hu := hu100 hr
    refine ⟨_, (pss_one (ps_ret (pe_ifExp (pt_cmpR op_isN (pe_fld (pv 0) rfl) pe_non (nomark _)) pe_str pe_str))), ?_⟩
    (simp only [_root_.L2.start, cxOf_K, cxComp_K, tSeq, tAsg, gName, tRet, tRetN, tDrop, tIfS, tTest, tB, tNot, tAnd, tOr, tAndV, tOrV, tNotV, tOp, tUn, tVar, tC, tCons, tNil, tStrs, tCB, tCall, tChain, tBM, tBM0, tPart, tNoPart, tSl, tIf, tNext, tTrue, selS, Option.bind_none, Option.bind_some, Option.join_some, if_true, rI, rI0, rU, rEq, rNe, rStarts, rSlS, lenV_str, tyV, List.map_cons, List.map_nil, List.length_cons, List.length_nil, List.replicate, List.cons_append, List.nil_append, List.append_nil, Nat.reduceAdd, Nat.reduceSub, Nat.zero_add, Nat.add_zero, Nat.sub_self, List.getElem?_cons_zero, List.getElem?_cons_succ, List.set_cons_zero, List.set_cons_succ, Option.some.injEq, V.int.injEq, V.str.injEq, V.ref.injEq, V.bl.injEq, V.ty.injEq, List.cons.injEq, exists_eq_left, exists_eq_left', exists_eq_right, exists_and_left, exists_eq, and_true, true_and, and_self, and_assoc, tEither, tMeth, tMake, tCMeth, tDIn, tDNotIn, tDPop1, tNever])
    refine F.fr.fld (l := .told) rfl rfl (ifT rfl ?_)
    exact k H (But.refl _ _) F
theorem sc_Frame_meets : FnScope ["self", "signal"] ["self", "signal"] (defScope (inClass (top 2) 5)) := ⟨rfl, rfl, rfl, by decide +kernel, rfl, by decide +kernel, by decide +kernel⟩
theorem ok_Frame_meets (T : Tx K mg) {f : Addr} {fd : FuncData} (F : Fun K "meets" "Frame.meets" (inClass (top 2) 5) f fd) {c : Kd} (hm : ∀ s g, meetsF c s g = "out") : FnOk P w K mg base CX0 1 f fd ["self", "signal"] (spMeets T c) := by
  refine F.ok sc_Frame_meets (fun vs H Q E h => ?_) (fun cdv A outer s H vs Q E hr h => ?_)
  · obtain ⟨p, t, s, g, rfl, _⟩ := h
    rfl
  · obtain ⟨p, t, s, g, rfl, F, hg, hl, k⟩ := h
    have hu := hu100 hr
    refine ⟨_, (pss_one (ps_ret pe_str)), ?_⟩
    (simp only [_root_.L2.start, cxOf_K, cxComp_K, tSeq, tAsg, gName, tRet, tRetN, tDrop, tIfS, tTest, tB, tNot, tAnd, tOr, tAndV, tOrV, tNotV, tOp, tUn, tVar, tC, tCons, tNil, tStrs, tCB, tCall, tChain, tBM, tBM0, tPart, tNoPart, tSl, tIf, tNext, tTrue, selS, Option.bind_none, Option.bind_some, Option.join_some, if_true, rI, rI0, rU, rEq, rNe, rStarts, rSlS, lenV_str, tyV, List.map_cons, List.map_nil, List.length_cons, List.length_nil, List.replicate, List.cons_append, List.nil_append, List.append_nil, Nat.reduceAdd, Nat.reduceSub, Nat.zero_add, Nat.add_zero, Nat.sub_self, List.getElem?_cons_zero, List.getElem?_cons_succ, List.set_cons_zero, List.set_cons_succ, Option.some.injEq, V.int.injEq, V.str.injEq, V.ref.injEq, V.bl.injEq, V.ty.injEq, List.cons.injEq, exists_eq_left, exists_eq_left', exists_eq_right, exists_and_left, exists_eq, and_true, true_and, and_self, and_assoc, tEither, tMeth, tMake, tCMeth, tDIn, tDNotIn, tDPop1, tNever])
    have := k H (Same.refl _)
    rw [hm] at this
    exact this
theorem sc_Tried_meets : FnScope ["self", "signal"] ["self", "signal"] (defScope (inClass (top 5) 1)) := ⟨rfl, rfl, rfl, by decide +kernel, rfl, by decide +kernel, by decide +kernel⟩
theorem ok_Tried_meets (T : Tx K mg) {f : Addr} {fd : FuncData} (F : Fun K "meets" "Tried.meets" (inClass (top 5) 1) f fd) : FnOk P w K mg base CX0 1 f fd ["self", "signal"] (spMeets T .tried) := by
  refine F.ok sc_Tried_meets (fun vs H Q E h => ?_) (fun cdv A outer s H vs Q E hr h => ?_)
  · obtain ⟨p, t, s, g, rfl, _⟩ := h
    rfl
  · obtain ⟨p, t, s, g, rfl, F, hg, hl, k⟩ := h
    have hu := hu100 hr
    refine ⟨_, (pss_cons (ps_if (PW.pt (pw_and (pt_cmpR op_eq (pe_ix ix_tup (pv 1) pe_int (fun _ _ => rfl)) pe_str (nomark _)) (pw_and1 (pt_cmpR op_in_seq (pe_fld (pv 0) rfl) (pe_tup (pa_cons pe_str (pa_cons (pe_ix ix_tup (pe_ix ix_tup (pv 1) pe_int (fun _ _ => rfl)) pe_int (fun _ _ => rfl)) pa_nil))) (by with_unfolding_all rfl)))))
    (pss_one (ps_ret pe_str))
    pss_nil)
    (pss_one (ps_ret pe_str))), ?_⟩
    (simp only [tLst, tTup, tDNewK, _root_.L2.start, cxOf_K, cxComp_K, tSeq, tAsg, gName, tRet, tRetN, tDrop, tIfS, tTest, tB, tNot, tAnd, tOr, tAndV, tOrV, tNotV, tOp, tUn, tVar, tC, tCons, tNil, tStrs, tCB, tCall, tChain, tBM, tBM0, tPart, tNoPart, tSl, tIf, tNext, tTrue, selS, Option.bind_none, Option.bind_some, Option.join_some, if_true, rI, rI0, rU, rEq, rNe, rStarts, rSlS, lenV_str, tyV, List.map_cons, List.map_nil, List.length_cons, List.length_nil, List.replicate, List.cons_append, List.nil_append, List.append_nil, Nat.reduceAdd, Nat.reduceSub, Nat.zero_add, Nat.add_zero, Nat.sub_self, List.getElem?_cons_zero, List.getElem?_cons_succ, List.set_cons_zero, List.set_cons_succ, Option.some.injEq, V.int.injEq, V.str.injEq, V.ref.injEq, V.bl.injEq, V.ty.injEq, List.cons.injEq, exists_eq_left, exists_eq_left', exists_eq_right, exists_and_left, exists_eq, and_true, true_and, and_self, and_assoc, tEither, tMeth, tMake, tCMeth, tDIn, tDNotIn, tDPop1, tNever])
    cases g with
    | strike n =>
      have ht : H t = some (.tup [.str "strike", .int n]) := hg
      refine ⟨t, _, _, _, rfl, rfl, SqT.of ht, rfl, rfl, ifF (fun z => absurd (V.str.inj z) (by decide +kernel)) (iteF ?_)⟩
      exact k H (Same.refl _)
    | faults a r =>
      obtain ⟨u, ht, hu2⟩ := hg
      refine ⟨t, _, _, _, rfl, rfl, SqT.of ht, rfl, rfl, ifT rfl (F.fr.fld (l := .fault) rfl rfl ?_)⟩
      refine ⟨t, _, _, _, rfl, rfl, SqT.of ht, rfl, u, _, _, _, rfl, rfl, SqT.of hu2, atI_nat (j := 0) rfl, by decide, fun q hq => ?_⟩
      refine ⟨q, _, rfl, .inr (SqT.of upd_same), rfl, rfl, _, rfl, ?_⟩
      have e : inV (.str s.fault) [.str "any", .str a] = decide (s.fault = "any" ∨ s.fault = a) := by
        show (("any" : Str) == s.fault || (a == s.fault || false)) = _
        by_cases e1 : s.fault = "any"
        · rw [e1]; simp
        · by_cases e2 : s.fault = a
          · simp [e2]
          · simp [e1, e2, Ne.symm e1, Ne.symm e2]
      show if inV (.str s.fault) [.str "any", .str a] = true then _ else _
      rw [e]
      have kk := k (upd H q (.tup [V.str "any", V.str a])) (Same.upd hq)
      by_cases e2 : s.fault = "any" ∨ s.fault = a
      · rw [show meetsF .tried s (.faults a r) = "caught" by unfold meetsF; rw [if_pos rfl]; show (if _ then _ else _) = _; rw [if_pos e2]] at kk
        exact ifT e2 kk
      · rw [show meetsF .tried s (.faults a r) = "out" by unfold meetsF; rw [if_pos rfl]; show (if _ then _ else _) = _; rw [if_neg e2]] at kk
        exact ifF e2 kk
theorem sc_Cleaned_meets : FnScope ["self", "signal"] ["self", "signal"] (defScope (inClass (top 6) 4)) := ⟨rfl, rfl, rfl, by decide +kernel, rfl, by decide +kernel, by decide +kernel⟩
theorem ok_Cleaned_meets (T : Tx K mg) {f : Addr} {fd : FuncData} (F : Fun K "meets" "Cleaned.meets" (inClass (top 6) 4) f fd) : FnOk P w K mg base CX0 1 f fd ["self", "signal"] (spMeets T .cleaned) := by
  refine F.ok sc_Cleaned_meets (fun vs H Q E h => ?_) (fun cdv A outer s H vs Q E hr h => ?_)
  · obtain ⟨p, t, s, g, rfl, _⟩ := h
    rfl
  · obtain ⟨p, t, s, g, rfl, F, hg, hl, k⟩ := h
    have hu := hu100 hr
    refine ⟨_, (pss_one (ps_ret (pe_ifExp (pt_val (pe_fld (pv 0) rfl)) pe_str pe_str))), ?_⟩
    (simp only [_root_.L2.start, cxOf_K, cxComp_K, tSeq, tAsg, gName, tRet, tRetN, tDrop, tIfS, tTest, tB, tNot, tAnd, tOr, tAndV, tOrV, tNotV, tOp, tUn, tVar, tC, tCons, tNil, tStrs, tCB, tCall, tChain, tBM, tBM0, tPart, tNoPart, tSl, tIf, tNext, tTrue, selS, Option.bind_none, Option.bind_some, Option.join_some, if_true, rI, rI0, rU, rEq, rNe, rStarts, rSlS, lenV_str, tyV, List.map_cons, List.map_nil, List.length_cons, List.length_nil, List.replicate, List.cons_append, List.nil_append, List.append_nil, Nat.reduceAdd, Nat.reduceSub, Nat.zero_add, Nat.add_zero, Nat.sub_self, List.getElem?_cons_zero, List.getElem?_cons_succ, List.set_cons_zero, List.set_cons_succ, Option.some.injEq, V.int.injEq, V.str.injEq, V.ref.injEq, V.bl.injEq, V.ty.injEq, List.cons.injEq, exists_eq_left, exists_eq_left', exists_eq_right, exists_and_left, exists_eq, and_true, true_and, and_self, and_assoc, tEither, tMeth, tMake, tCMeth, tDIn, tDNotIn, tDPop1, tNever])
    refine F.fr.fld (l := .cleaning) rfl rfl ⟨_, rfl, ?_⟩
    have := k H (Same.refl _)
    cases e : s.cleaning with
    | true =>
      rw [show meetsF .cleaned s g = "out" by unfold meetsF; rw [if_neg (by decide), if_pos rfl, if_pos e]] at this
      exact iteT this
    | false =>
      rw [show meetsF .cleaned s g = "clean" by unfold meetsF; rw [if_neg (by decide), if_pos rfl, if_neg (by rw [e]; exact Bool.false_ne_true)]] at this
      exact iteF this
theorem sc_Limited_meets : FnScope ["self", "signal"] ["self", "signal"] (defScope (inClass (top 7) 1)) := ⟨rfl, rfl, rfl, by decide +kernel, rfl, by decide +kernel, by decide +kernel⟩
theorem ok_Limited_meets (T : Tx K mg) {f : Addr} {fd : FuncData} (F : Fun K "meets" "Limited.meets" (inClass (top 7) 1) f fd) : FnOk P w K mg base CX0 1 f fd ["self", "signal"] (spMeets T .limited) := by
  refine F.ok sc_Limited_meets (fun vs H Q E h => ?_) (fun cdv A outer s H vs Q E hr h => ?_)
  · obtain ⟨p, t, s, g, rfl, _⟩ := h
    rfl
  · obtain ⟨p, t, s, g, rfl, F, hg, hl, k⟩ := h
    have hu := hu100 hr
    refine ⟨_, (pss_one (ps_ret (pe_ifExp (pt_cmpR (op_eqT hu) (pv 1) (pe_tup (pa_cons pe_str (pa_cons (pe_fld (pv 0) rfl) pa_nil))) (nomark _)) pe_str pe_str))), ?_⟩
    (simp only [tLst, tTup, tDNewK, _root_.L2.start, cxOf_K, cxComp_K, tSeq, tAsg, gName, tRet, tRetN, tDrop, tIfS, tTest, tB, tNot, tAnd, tOr, tAndV, tOrV, tNotV, tOp, tUn, tVar, tC, tCons, tNil, tStrs, tCB, tCall, tChain, tBM, tBM0, tPart, tNoPart, tSl, tIf, tNext, tTrue, selS, Option.bind_none, Option.bind_some, Option.join_some, if_true, rI, rI0, rU, rEq, rNe, rStarts, rSlS, lenV_str, tyV, List.map_cons, List.map_nil, List.length_cons, List.length_nil, List.replicate, List.cons_append, List.nil_append, List.append_nil, Nat.reduceAdd, Nat.reduceSub, Nat.zero_add, Nat.add_zero, Nat.sub_self, List.getElem?_cons_zero, List.getElem?_cons_succ, List.set_cons_zero, List.set_cons_succ, Option.some.injEq, V.int.injEq, V.str.injEq, V.ref.injEq, V.bl.injEq, V.ty.injEq, List.cons.injEq, exists_eq_left, exists_eq_left', exists_eq_right, exists_and_left, exists_eq, and_true, true_and, and_self, and_assoc, tEither, tMeth, tMake, tCMeth, tDIn, tDNotIn, tDPop1, tNever])
    obtain ⟨m, hm⟩ := hl rfl
    refine F.fr.fld (l := .scope) rfl rfl ⟨by decide, fun q hq => ?_⟩
    have eL : ∀ n, (s.sc = .int n) = (m = n) := fun n => by rw [hm]; exact propext ⟨fun z => V.int.inj z, fun z => by rw [z]⟩
    have kk := k (upd H q (.tup [V.str "strike", s.sc])) (Same.upd hq)
    have s1 : Same H (upd H q (.tup [V.str "strike", s.sc])) := Same.upd hq
    rw [hm] at kk s1 ⊢
    cases g with
    | strike n =>
      have ht : H t = some (.tup [.str "strike", .int n]) := hg
      refine ⟨t, q, _, _, 0, fun i => eqV (([V.str "strike", V.int n] : List V)[i]?.getD .non) (([V.str "strike", V.int m] : List V)[i]?.getD .non), rfl, rfl, SqT.of (s1 _ _ ht), SqT.of upd_same, by decide, fun i x y ex ey => ?_, _, rfl, ?_⟩
      · show EqD _ _ _ _ _ (eqV (([V.str "strike", V.int n] : List V)[i]?.getD .non) (([V.str "strike", V.int m] : List V)[i]?.getD .non))
        rw [ex, ey]
        have fx : ∀ z ∈ ([V.str "strike", V.int n] : List V), flatV z = true := fun z hz => by
          rcases List.mem_cons.mp hz with rfl | hz
          · rfl
          · rw [List.mem_singleton.mp hz]; rfl
        have fy : ∀ z ∈ ([V.str "strike", V.int m] : List V), flatV z = true := fun z hz => by
          rcases List.mem_cons.mp hz with rfl | hz
          · rfl
          · rw [List.mem_singleton.mp hz]; rfl
        exact .flat (fx x (List.mem_of_getElem? ex)) (fy y (List.mem_of_getElem? ey))
      · have e : (false ^^ ((List.range (min 2 2)).all (fun i => eqV (([V.str "strike", V.int n] : List V)[i]?.getD .non) (([V.str "strike", V.int m] : List V)[i]?.getD .non)) && (2 == 2))) = decide (m = n) := by
          show (false ^^ (((("strike" : Str) == "strike") && ((n == m) && true)) && true)) = _
          by_cases e : m = n
          · subst e; simp
          · simp [e, Ne.symm e]
        show if (false ^^ ((List.range (min 2 2)).all (fun i => eqV (([V.str "strike", V.int n] : List V)[i]?.getD .non) (([V.str "strike", V.int m] : List V)[i]?.getD .non)) && (2 == 2))) = true then _ else _
        rw [e]
        have e2 : meetsF .limited s (.strike n) = if m = n then "late" else "out" := by
          unfold meetsF
          rw [if_neg (by decide), if_neg (by decide), if_pos rfl]
          show (if s.sc = .int n then _ else _) = _
          by_cases z : m = n
          · rw [if_pos (by rw [eL]; exact z), if_pos z]
          · rw [if_neg (by rw [eL]; exact z), if_neg z]
        rw [e2] at kk
        by_cases e3 : m = n
        · rw [if_pos e3] at kk; exact ifT e3 kk
        · rw [if_neg e3] at kk; exact ifF e3 kk
    | faults a r =>
      obtain ⟨u, ht, hu2⟩ := hg
      refine ⟨t, q, _, _, 1, fun i => if i = 0 then false else false, rfl, rfl, SqT.of (s1 _ _ ht), SqT.of upd_same, by decide, fun i x y ex ey => ?_, _, rfl, ?_⟩
      · match i, ex, ey with
        | 0, ex, ey =>
          cases ex; cases ey
          have z : eqV (.str "faults") (.str "strike") = false := by decide +kernel
          show EqD _ _ _ _ _ false
          rw [← z]
          exact .flat rfl rfl
        | 1, ex, ey =>
          cases ex; cases ey
          exact .tupF (SqT.of (s1 _ _ hu2)) rfl
        | i + 2, ex, ey => cases ex
      · exact iteF kk
theorem sc_Grouped_meets : FnScope ["self", "signal"] ["self", "signal"] (defScope (inClass (top 8) 4)) := ⟨rfl, rfl, rfl, by decide +kernel, rfl, by decide +kernel, by decide +kernel⟩
theorem ok_Grouped_meets (T : Tx K mg) {f : Addr} {fd : FuncData} (F : Fun K "meets" "Grouped.meets" (inClass (top 8) 4) f fd) : FnOk P w K mg base CX0 1 f fd ["self", "signal"] (spMeets T .grouped) := by
  refine F.ok sc_Grouped_meets (fun vs H Q E h => ?_) (fun cdv A outer s H vs Q E hr h => ?_)
  · obtain ⟨p, t, s, g, rfl, _⟩ := h
    rfl
  · obtain ⟨p, t, s, g, rfl, F, hg, hl, k⟩ := h
    have hu := hu100 hr
    refine ⟨_, (pss_one (ps_ret pe_str)), ?_⟩
    (simp only [_root_.L2.start, cxOf_K, cxComp_K, tSeq, tAsg, gName, tRet, tRetN, tDrop, tIfS, tTest, tB, tNot, tAnd, tOr, tAndV, tOrV, tNotV, tOp, tUn, tVar, tC, tCons, tNil, tStrs, tCB, tCall, tChain, tBM, tBM0, tPart, tNoPart, tSl, tIf, tNext, tTrue, selS, Option.bind_none, Option.bind_some, Option.join_some, if_true, rI, rI0, rU, rEq, rNe, rStarts, rSlS, lenV_str, tyV, List.map_cons, List.map_nil, List.length_cons, List.length_nil, List.replicate, List.cons_append, List.nil_append, List.append_nil, Nat.reduceAdd, Nat.reduceSub, Nat.zero_add, Nat.add_zero, Nat.sub_self, List.getElem?_cons_zero, List.getElem?_cons_succ, List.set_cons_zero, List.set_cons_succ, Option.some.injEq, V.int.injEq, V.str.injEq, V.ref.injEq, V.bl.injEq, V.ty.injEq, List.cons.injEq, exists_eq_left, exists_eq_left', exists_eq_right, exists_and_left, exists_eq, and_true, true_and, and_self, and_assoc, tEither, tMeth, tMake, tCMeth, tDIn, tDNotIn, tDPop1, tNever])
    exact k H (Same.refl _)
theorem sc_Frame_behind : FnScope ["self"] ["self"] (defScope (inClass (top 2) 7)) := ⟨rfl, rfl, rfl, by decide +kernel, rfl, by decide +kernel, by decide +kernel⟩
theorem ok_Frame_behind (T : Tx K mg) {f : Addr} {fd : FuncData} (F : Fun K "behind" "Frame.behind" (inClass (top 2) 7) f fd) {c : Kd} (hb : ∀ s, behindF c s = s.rows.drop s.place) (G_rest : ∀ c, FnOk P w K mg base CX0 1 (T.m_rest c).f (T.m_rest c).fd ["self"] (spRest T)) : FnOk P w K mg base CX0 2 f fd ["self"] (spBehind T c) := by
  refine F.ok sc_Frame_behind (fun vs H Q E h => ?_) (fun cdv A outer s H vs Q E hr h => ?_)
  · obtain ⟨p, s, rfl, _⟩ := h
    rfl
  · obtain ⟨p, s, rfl, F, k⟩ := h
    have hu := hu100 hr
    refine ⟨_, (pss_one (ps_ret (pe_meth0 (pv 0) (T.cl c) (T.m_rest c).me (G_rest c) (hr.mono (by omega)) (T.m_rest c).b .nil pass0))), ?_⟩
    (simp only [_root_.L2.start, cxOf_K, cxComp_K, tSeq, tAsg, gName, tRet, tRetN, tDrop, tIfS, tTest, tB, tNot, tAnd, tOr, tAndV, tOrV, tNotV, tOp, tUn, tVar, tC, tCons, tNil, tStrs, tCB, tCall, tChain, tBM, tBM0, tPart, tNoPart, tSl, tIf, tNext, tTrue, selS, Option.bind_none, Option.bind_some, Option.join_some, if_true, rI, rI0, rU, rEq, rNe, rStarts, rSlS, lenV_str, tyV, List.map_cons, List.map_nil, List.length_cons, List.length_nil, List.replicate, List.cons_append, List.nil_append, List.append_nil, Nat.reduceAdd, Nat.reduceSub, Nat.zero_add, Nat.add_zero, Nat.sub_self, List.getElem?_cons_zero, List.getElem?_cons_succ, List.set_cons_zero, List.set_cons_succ, Option.some.injEq, V.int.injEq, V.str.injEq, V.ref.injEq, V.bl.injEq, V.ty.injEq, List.cons.injEq, exists_eq_left, exists_eq_left', exists_eq_right, exists_and_left, exists_eq, and_true, true_and, and_self, and_assoc, tEither, tMeth, tMake, tCMeth, tDIn, tDNotIn, tDPop1, tNever])
    refine F.mt nf_rest ⟨c, p, s, rfl, F, fun l H' hl s' h' => k l H' hl s' ?_⟩
    rw [hb]; exact h'
theorem sc_Rounds_behind : FnScope ["self"] ["self"] (defScope (inClass (top 3) 2)) := ⟨rfl, rfl, rfl, by decide +kernel, rfl, by decide +kernel, by decide +kernel⟩
theorem ok_Rounds_behind (T : Tx K mg) {f : Addr} {fd : FuncData} (F : Fun K "behind" "Rounds.behind" (inClass (top 3) 2) f fd) (G_rest : ∀ c, FnOk P w K mg base CX0 1 (T.m_rest c).f (T.m_rest c).fd ["self"] (spRest T)) : FnOk P w K mg base CX0 2 f fd ["self"] (spBehind T .rounds) := by
  refine F.ok sc_Rounds_behind (fun vs H Q E h => ?_) (fun cdv A outer s H vs Q E hr h => ?_)
  · obtain ⟨p, s, rfl, _⟩ := h
    rfl
  · obtain ⟨p, s, rfl, F, k⟩ := h
    have hu := hu100 hr
    refine ⟨_, (pss_one (ps_ret (pe_ifExp (pt_cmpR op_gt (pe_fld (pv 0) rfl) pe_int (nomark _)) (pe_callTy call_list_of (by rfl) T.n_list bt_list (pa_cons (pe_fld (pv 0) rfl) pa_nil)) (pe_meth0 (pv 0) (T.cl .rounds) (T.m_rest .rounds).me (G_rest .rounds) (hr.mono (by omega)) (T.m_rest .rounds).b .nil pass0)))), ?_⟩
    (simp only [_root_.L2.start, cxOf_K, cxComp_K, tSeq, tAsg, gName, tRet, tRetN, tDrop, tIfS, tTest, tB, tNot, tAnd, tOr, tAndV, tOrV, tNotV, tOp, tUn, tVar, tC, tCons, tNil, tStrs, tCB, tCall, tChain, tBM, tBM0, tPart, tNoPart, tSl, tIf, tNext, tTrue, selS, Option.bind_none, Option.bind_some, Option.join_some, if_true, rI, rI0, rU, rEq, rNe, rStarts, rSlS, lenV_str, tyV, List.map_cons, List.map_nil, List.length_cons, List.length_nil, List.replicate, List.cons_append, List.nil_append, List.append_nil, Nat.reduceAdd, Nat.reduceSub, Nat.zero_add, Nat.add_zero, Nat.sub_self, List.getElem?_cons_zero, List.getElem?_cons_succ, List.set_cons_zero, List.set_cons_succ, Option.some.injEq, V.int.injEq, V.str.injEq, V.ref.injEq, V.bl.injEq, V.ty.injEq, List.cons.injEq, exists_eq_left, exists_eq_left', exists_eq_right, exists_and_left, exists_eq, and_true, true_and, and_self, and_assoc, tEither, tMeth, tMake, tCMeth, tDIn, tDNotIn, tDPop1, tNever])
    refine F.fr.fld (l := .left) rfl rfl ⟨_, rfl, ?_⟩
    by_cases e : 0 < s.left
    · refine ifT e (F.fr.fld (l := .rows) rfl rfl ⟨_, rfl, _, .inr (SqT.of F.rs), fun l hl => k l _ hl (Same.upd hl) ?_⟩)
      rw [upd_same, show behindF .rounds s = s.rows by unfold behindF; rw [if_pos ⟨rfl, e⟩]]
    · refine ifF e (F.mt nf_rest ⟨.rounds, p, s, rfl, F, fun l H' hl s' h' => k l H' hl s' ?_⟩)
      rw [show behindF .rounds s = s.rows.drop s.place by unfold behindF; rw [if_neg (fun z => e z.2), if_neg (by intro z; rcases z with z | z | z <;> simp at z)]]
      exact h'
theorem sc_Tried_behind : FnScope ["self"] ["self"] (defScope (inClass (top 5) 2)) := ⟨rfl, rfl, rfl, by decide +kernel, rfl, by decide +kernel, by decide +kernel⟩
theorem ok_Tried_behind (T : Tx K mg) {f : Addr} {fd : FuncData} (F : Fun K "behind" "Tried.behind" (inClass (top 5) 2) f fd) (G_rest : ∀ c, FnOk P w K mg base CX0 1 (T.m_rest c).f (T.m_rest c).fd ["self"] (spRest T)) : FnOk P w K mg base CX0 2 f fd ["self"] (spBehind T .tried) := by
  refine F.ok sc_Tried_behind (fun vs H Q E h => ?_) (fun cdv A outer s H vs Q E hr h => ?_)
  · obtain ⟨p, s, rfl, _⟩ := h
    rfl
  · obtain ⟨p, s, rfl, F, k⟩ := h
    have hu := hu100 hr
    refine ⟨_, (pss_one (ps_ret (pe_op op_cat (pe_meth0 (pv 0) (T.cl .tried) (T.m_rest .tried).me (G_rest .tried) (hr.mono (by omega)) (T.m_rest .tried).b .nil pass0) (pe_callTy call_list_of (by rfl) T.n_list bt_list (pa_cons (pe_fld (pv 0) rfl) pa_nil))))), ?_⟩
    (simp only [_root_.L2.start, cxOf_K, cxComp_K, tSeq, tAsg, gName, tRet, tRetN, tDrop, tIfS, tTest, tB, tNot, tAnd, tOr, tAndV, tOrV, tNotV, tOp, tUn, tVar, tC, tCons, tNil, tStrs, tCB, tCall, tChain, tBM, tBM0, tPart, tNoPart, tSl, tIf, tNext, tTrue, selS, Option.bind_none, Option.bind_some, Option.join_some, if_true, rI, rI0, rU, rEq, rNe, rStarts, rSlS, lenV_str, tyV, List.map_cons, List.map_nil, List.length_cons, List.length_nil, List.replicate, List.cons_append, List.nil_append, List.append_nil, Nat.reduceAdd, Nat.reduceSub, Nat.zero_add, Nat.add_zero, Nat.sub_self, List.getElem?_cons_zero, List.getElem?_cons_succ, List.set_cons_zero, List.set_cons_succ, Option.some.injEq, V.int.injEq, V.str.injEq, V.ref.injEq, V.bl.injEq, V.ty.injEq, List.cons.injEq, exists_eq_left, exists_eq_left', exists_eq_right, exists_and_left, exists_eq, and_true, true_and, and_self, and_assoc, tEither, tMeth, tMake, tCMeth, tDIn, tDNotIn, tDPop1, tNever])
    refine F.mt nf_rest ⟨.tried, p, s, rfl, F, fun l H1 hl s1 h1 => ?_⟩
    have F1 := F.same s1
    refine F1.fr.fld (l := .others) rfl rfl ⟨_, rfl, _, .inr (SqT.of F1.os), fun l2 hl2 => ?_⟩
    have t := Same.upd (o := .lst s.others) hl2
    refine ⟨l, l2, _, _, rfl, rfl, t _ _ h1, upd_same, ?_, fun q hq => k q _ (s1.free (t.free hq)) ((s1.trans t).trans (Same.upd hq)) ?_⟩
    · have := F.rl; have := F.ol; rw [List.length_drop]; exact Nat.le_of_lt (small1000 (by omega))
    · rw [upd_same, show behindF .tried s = s.rows.drop s.place ++ s.others by unfold behindF; rw [if_neg (by intro z; simp at z), if_pos (by simp)]]
theorem sc_Cleaned_behind : FnScope ["self"] ["self"] (defScope (inClass (top 6) 5)) := ⟨rfl, rfl, rfl, by decide +kernel, rfl, by decide +kernel, by decide +kernel⟩
theorem ok_Cleaned_behind (T : Tx K mg) {f : Addr} {fd : FuncData} (F : Fun K "behind" "Cleaned.behind" (inClass (top 6) 5) f fd) (G_rest : ∀ c, FnOk P w K mg base CX0 1 (T.m_rest c).f (T.m_rest c).fd ["self"] (spRest T)) : FnOk P w K mg base CX0 2 f fd ["self"] (spBehind T .cleaned) := by
  refine F.ok sc_Cleaned_behind (fun vs H Q E h => ?_) (fun cdv A outer s H vs Q E hr h => ?_)
  · obtain ⟨p, s, rfl, _⟩ := h
    rfl
  · obtain ⟨p, s, rfl, F, k⟩ := h
    have hu := hu100 hr
    refine ⟨_, (pss_one (ps_ret (pe_op op_cat (pe_meth0 (pv 0) (T.cl .cleaned) (T.m_rest .cleaned).me (G_rest .cleaned) (hr.mono (by omega)) (T.m_rest .cleaned).b .nil pass0) (pe_ifExp (pt_val (pe_fld (pv 0) rfl)) (pe_lst pa_nil) (pe_callTy call_list_of (by rfl) T.n_list bt_list (pa_cons (pe_fld (pv 0) rfl) pa_nil)))))), ?_⟩
    (simp only [_root_.L2.start, cxOf_K, cxComp_K, tSeq, tAsg, gName, tRet, tRetN, tDrop, tIfS, tTest, tB, tNot, tAnd, tOr, tAndV, tOrV, tNotV, tOp, tUn, tVar, tC, tCons, tNil, tStrs, tCB, tCall, tChain, tBM, tBM0, tPart, tNoPart, tSl, tIf, tNext, tTrue, selS, Option.bind_none, Option.bind_some, Option.join_some, if_true, rI, rI0, rU, rEq, rNe, rStarts, rSlS, lenV_str, tyV, List.map_cons, List.map_nil, List.length_cons, List.length_nil, List.replicate, List.cons_append, List.nil_append, List.append_nil, Nat.reduceAdd, Nat.reduceSub, Nat.zero_add, Nat.add_zero, Nat.sub_self, List.getElem?_cons_zero, List.getElem?_cons_succ, List.set_cons_zero, List.set_cons_succ, Option.some.injEq, V.int.injEq, V.str.injEq, V.ref.injEq, V.bl.injEq, V.ty.injEq, List.cons.injEq, exists_eq_left, exists_eq_left', exists_eq_right, exists_and_left, exists_eq, and_true, true_and, and_self, and_assoc, tEither, tMeth, tMake, tCMeth, tDIn, tDNotIn, tDPop1, tNever])
    refine F.mt nf_rest ⟨.cleaned, p, s, rfl, F, fun l H1 hl s1 h1 => ?_⟩
    have F1 := F.same s1
    refine F1.fr.fld (l := .cleaning) rfl rfl ⟨_, rfl, ?_⟩
    cases e : s.cleaning with
    | true =>
      refine iteT ⟨by decide, fun l2 hl2 => ?_⟩
      have t := Same.upd (o := .lst []) hl2
      refine ⟨l, l2, _, _, rfl, rfl, t _ _ h1, upd_same, ?_, fun q hq => k q _ (s1.free (t.free hq)) ((s1.trans t).trans (Same.upd hq)) ?_⟩
      · have := F.rl; rw [List.length_drop]; exact Nat.le_of_lt (small1000 (by simp; omega))
      · rw [upd_same, List.append_nil, show behindF .cleaned s = s.rows.drop s.place by unfold behindF; rw [if_neg (by intro z; simp at z), if_neg (by rw [e]; simp)]]
    | false =>
      refine iteF (F1.fr.fld (l := .others) rfl rfl ⟨_, rfl, _, .inr (SqT.of F1.os), fun l2 hl2 => ?_⟩)
      have t := Same.upd (o := .lst s.others) hl2
      refine ⟨l, l2, _, _, rfl, rfl, t _ _ h1, upd_same, ?_, fun q hq => k q _ (s1.free (t.free hq)) ((s1.trans t).trans (Same.upd hq)) ?_⟩
      · have := F.rl; have := F.ol; rw [List.length_drop]; exact Nat.le_of_lt (small1000 (by omega))
      · rw [upd_same, show behindF .cleaned s = s.rows.drop s.place ++ s.others by unfold behindF; rw [if_neg (by intro z; simp at z), if_pos (by rw [e]; simp)]]
theorem sc_Limited_behind : FnScope ["self"] ["self"] (defScope (inClass (top 7) 2)) := ⟨rfl, rfl, rfl, by decide +kernel, rfl, by decide +kernel, by decide +kernel⟩
theorem ok_Limited_behind (T : Tx K mg) {f : Addr} {fd : FuncData} (F : Fun K "behind" "Limited.behind" (inClass (top 7) 2) f fd) (G_rest : ∀ c, FnOk P w K mg base CX0 1 (T.m_rest c).f (T.m_rest c).fd ["self"] (spRest T)) : FnOk P w K mg base CX0 2 f fd ["self"] (spBehind T .limited) := by
  refine F.ok sc_Limited_behind (fun vs H Q E h => ?_) (fun cdv A outer s H vs Q E hr h => ?_)
  · obtain ⟨p, s, rfl, _⟩ := h
    rfl
  · obtain ⟨p, s, rfl, F, k⟩ := h
    have hu := hu100 hr
    refine ⟨_, (pss_one (ps_ret (pe_op op_cat (pe_meth0 (pv 0) (T.cl .limited) (T.m_rest .limited).me (G_rest .limited) (hr.mono (by omega)) (T.m_rest .limited).b .nil pass0) (pe_callTy call_list_of (by rfl) T.n_list bt_list (pa_cons (pe_fld (pv 0) rfl) pa_nil))))), ?_⟩
    (simp only [_root_.L2.start, cxOf_K, cxComp_K, tSeq, tAsg, gName, tRet, tRetN, tDrop, tIfS, tTest, tB, tNot, tAnd, tOr, tAndV, tOrV, tNotV, tOp, tUn, tVar, tC, tCons, tNil, tStrs, tCB, tCall, tChain, tBM, tBM0, tPart, tNoPart, tSl, tIf, tNext, tTrue, selS, Option.bind_none, Option.bind_some, Option.join_some, if_true, rI, rI0, rU, rEq, rNe, rStarts, rSlS, lenV_str, tyV, List.map_cons, List.map_nil, List.length_cons, List.length_nil, List.replicate, List.cons_append, List.nil_append, List.append_nil, Nat.reduceAdd, Nat.reduceSub, Nat.zero_add, Nat.add_zero, Nat.sub_self, List.getElem?_cons_zero, List.getElem?_cons_succ, List.set_cons_zero, List.set_cons_succ, Option.some.injEq, V.int.injEq, V.str.injEq, V.ref.injEq, V.bl.injEq, V.ty.injEq, List.cons.injEq, exists_eq_left, exists_eq_left', exists_eq_right, exists_and_left, exists_eq, and_true, true_and, and_self, and_assoc, tEither, tMeth, tMake, tCMeth, tDIn, tDNotIn, tDPop1, tNever])
    refine F.mt nf_rest ⟨.limited, p, s, rfl, F, fun l H1 hl s1 h1 => ?_⟩
    have F1 := F.same s1
    refine F1.fr.fld (l := .others) rfl rfl ⟨_, rfl, _, .inr (SqT.of F1.os), fun l2 hl2 => ?_⟩
    have t := Same.upd (o := .lst s.others) hl2
    refine ⟨l, l2, _, _, rfl, rfl, t _ _ h1, upd_same, ?_, fun q hq => k q _ (s1.free (t.free hq)) ((s1.trans t).trans (Same.upd hq)) ?_⟩
    · have := F.rl; have := F.ol; rw [List.length_drop]; exact Nat.le_of_lt (small1000 (by omega))
    · rw [upd_same, show behindF .limited s = s.rows.drop s.place ++ s.others by unfold behindF; rw [if_neg (by intro z; simp at z), if_pos (by simp)]]
theorem sc_Cleaned_clean : FnScope ["self", "signal"] ["self", "signal"] (defScope (inClass (top 6) 1)) := ⟨rfl, rfl, rfl, by decide +kernel, rfl, by decide +kernel, by decide +kernel⟩
theorem ok_Cleaned_clean (T : Tx K mg) {f : Addr} {fd : FuncData} (F : Fun K "clean" "Cleaned.clean" (inClass (top 6) 1) f fd) (G_begin_anew : ∀ c, FnOk P w K mg base CX0 1 (T.m_begin_anew c).f (T.m_begin_anew c).fd ["self", "rows"] (spAnew T)) : FnOk P w K mg base CX0 2 f fd ["self", "signal"] (spClean T) := by
  refine F.ok sc_Cleaned_clean (fun vs H Q E h => ?_) (fun cdv A outer s H vs Q E hr h => ?_)
  · obtain ⟨p, s, v, rfl, _⟩ := h
    rfl
  · obtain ⟨p, s, v, rfl, F, k⟩ := h
    have hu := hu100 hr
    refine ⟨_, (pss_cons (ps_expr (pe_meth (pv 0) (T.cl .cleaned) (T.m_begin_anew .cleaned).me (G_begin_anew .cleaned) (hr.mono (by omega)) (T.m_begin_anew .cleaned).b .nil pass0 (pa_cons (pe_fld (pv 0) rfl) pa_nil)))
    (pss_cons (ps_fld (pv 0) pe_bl rfl)
    (pss_one (ps_fld (pv 0) (pv 1) rfl)))), ?_⟩
    (simp only [_root_.L2.start, cxOf_K, cxComp_K, tSeq, tAsg, gName, tRet, tRetN, tDrop, tIfS, tTest, tB, tNot, tAnd, tOr, tAndV, tOrV, tNotV, tOp, tUn, tVar, tC, tCons, tNil, tStrs, tCB, tCall, tChain, tBM, tBM0, tPart, tNoPart, tSl, tIf, tNext, tTrue, selS, Option.bind_none, Option.bind_some, Option.join_some, if_true, rI, rI0, rU, rEq, rNe, rStarts, rSlS, lenV_str, tyV, List.map_cons, List.map_nil, List.length_cons, List.length_nil, List.replicate, List.cons_append, List.nil_append, List.append_nil, Nat.reduceAdd, Nat.reduceSub, Nat.zero_add, Nat.add_zero, Nat.sub_self, List.getElem?_cons_zero, List.getElem?_cons_succ, List.set_cons_zero, List.set_cons_succ, Option.some.injEq, V.int.injEq, V.str.injEq, V.ref.injEq, V.bl.injEq, V.ty.injEq, List.cons.injEq, exists_eq_left, exists_eq_left', exists_eq_right, exists_and_left, exists_eq, and_true, true_and, and_self, and_assoc, tEither, tMeth, tMake, tCMeth, tDIn, tDNotIn, tDPop1, tNever])
    refine F.mt nf_anew (F.fr.fld (l := .others) rfl rfl ⟨.cleaned, p, s.oa, s, s.others, rfl, F, F.os, F.ol, fun H1 b1 F1 => ?_⟩)
    refine F1.fr.re (l := .cleaning) (by decide) rfl (fun z => nomatch z) fun H2 b2 F2 => ?_
    refine ⟨_, rfl, F2.re (l := .held) (by decide) rfl (fun z => nomatch z) fun H3 b3 F3 => ?_⟩
    have b := b1.trans (b2.trans b3)
    refine k H3 b ⟨?_, F.but b F.os, F.but b F.os, Nat.zero_le _, F.ol, F.ol⟩
    refine cast ?_ F3
    congr 1
    funext l
    cases l <;> rfl
theorem sc_Rounds___init__ : FnScope ["self", "rows", "line", "many"] ["self", "rows", "line", "many"] (defScope (inClass (top 3) 0)) := ⟨rfl, rfl, rfl, by decide +kernel, rfl, by decide +kernel, by decide +kernel⟩
theorem ok_Rounds___init__ (T : Tx K mg) {f : Addr} {fd : FuncData} (F : Fun K "__init__" "Rounds.__init__" (inClass (top 3) 0) f fd) (G_i_frame : FnOk P w K mg base CX0 1 T.i_frame.f T.i_frame.fd ["self", "rows", "line", "scope"] (spFInit T)) : FnOk P w K mg base CX0 2 f fd ["self", "rows", "line", "many"] (spI T .rounds) := by
  refine F.ok sc_Rounds___init__ (fun vs H Q E h => ?_) (fun cdv A outer s H vs Q E hr h => ?_)
  · obtain ⟨p, s, rfl, _⟩ := h
    rfl
  · obtain ⟨p, s, rfl, ⟨n1, n2, n3, n4, n5⟩, F0, h1, h2, hr1, ho1, k⟩ := h
    refine ⟨_, (pss_cons (ps_expr (pe_cmeth (pe_glob (v := .ref (T.C .frame)) rfl T.h_frame rfl) T.i_frame.cm G_i_frame (hr.mono (by omega)) T.i_frame.b1 (show Vals [V.non] [Value.none] from .cons rfl .nil) pass0 (pa_cons (pv 0) (pa_cons (pv 1) (pa_cons (pv 2) pa_nil)))))
    (pss_one (ps_fld (pv 0) (pe_op op_sub (pv 3) pe_int) rfl))), ?_⟩
    refine ⟨rfl, _, rfl, _, rfl, _, rfl, .rounds, p, s.ra, s.rows, .int 4, .non, rfl, F0, h1, fun H1 b1 F1 => ?_⟩
    refine ⟨_, rfl, _, _, rfl, rfl, F1.st (l := .left) (by decide) rfl fun H2 b2 F2 => ?_⟩
    refine k H2 (b1.trans b2) ⟨?_, F0.tup (b1.trans b2) h1, F0.tup (b1.trans b2) h2, by rw [n1]; exact Nat.zero_le _, hr1, ho1⟩
    refine (FrAt.mono ?_ (show 7 ≤ 11 by decide))
    refine cast ?_ F2
    congr 1
    funext l
    cases l <;> simp [setG, gOf, n1, n2, n3, n4]
theorem sc_Tried___init__ : FnScope ["self", "rows", "line", "fault", "others"] ["self", "rows", "line", "fault", "others"] (defScope (inClass (top 5) 0)) := ⟨rfl, rfl, rfl, by decide +kernel, rfl, by decide +kernel, by decide +kernel⟩
theorem ok_Tried___init__ (T : Tx K mg) {f : Addr} {fd : FuncData} (F : Fun K "__init__" "Tried.__init__" (inClass (top 5) 0) f fd) (G_i_frame : FnOk P w K mg base CX0 1 T.i_frame.f T.i_frame.fd ["self", "rows", "line", "scope"] (spFInit T)) : FnOk P w K mg base CX0 2 f fd ["self", "rows", "line", "fault", "others"] (spI T .tried) := by
  refine F.ok sc_Tried___init__ (fun vs H Q E h => ?_) (fun cdv A outer s H vs Q E hr h => ?_)
  · obtain ⟨p, s, rfl, _⟩ := h
    rfl
  · obtain ⟨p, s, rfl, ⟨n1, n2, n3, n4, n5⟩, F0, h1, h2, hr1, ho1, k⟩ := h
    refine ⟨_, (pss_cons (ps_expr (pe_cmeth (pe_glob (v := .ref (T.C .frame)) rfl T.h_frame rfl) T.i_frame.cm G_i_frame (hr.mono (by omega)) T.i_frame.b1 (show Vals [V.non] [Value.none] from .cons rfl .nil) pass0 (pa_cons (pv 0) (pa_cons (pv 1) (pa_cons (pv 2) pa_nil)))))
    (pss_cons (ps_fld (pv 0) (pv 3) rfl)
    (pss_one (ps_fld (pv 0) (pe_callTy call_tuple_of (by rfl) T.n_tuple bt_tuple (pa_cons (pv 4) pa_nil)) rfl)))), ?_⟩
    refine ⟨rfl, _, rfl, _, rfl, _, rfl, .tried, p, s.ra, s.rows, .int 4, .non, rfl, F0, h1, fun H1 b1 F1 => ?_⟩
    refine ⟨_, rfl, F1.st (l := .fault) (by decide) rfl fun H2 b2 F2 => ?_⟩
    refine ⟨_, rfl, _, _, rfl, .inr ⟨SqT.of (F1.tup b2 (F0.tup b1 h2)), F2.st (l := .others) (by decide) rfl fun H3 b3 F3 => ?_⟩⟩
    refine k H3 ((b1.trans b2).trans b3) ⟨?_, F0.tup ((b1.trans b2).trans b3) h1, F0.tup ((b1.trans b2).trans b3) h2, by rw [n1]; exact Nat.zero_le _, hr1, ho1⟩
    refine (FrAt.mono ?_ (show 8 ≤ 11 by decide))
    refine cast ?_ F3
    congr 1
    funext l
    cases l <;> simp [setG, gOf, n1, n2, n3, n4]
theorem sc_Cleaned___init__ : FnScope ["self", "rows", "line", "others"] ["self", "rows", "line", "others"] (defScope (inClass (top 6) 0)) := ⟨rfl, rfl, rfl, by decide +kernel, rfl, by decide +kernel, by decide +kernel⟩
theorem ok_Cleaned___init__ (T : Tx K mg) {f : Addr} {fd : FuncData} (F : Fun K "__init__" "Cleaned.__init__" (inClass (top 6) 0) f fd) (G_i_frame : FnOk P w K mg base CX0 1 T.i_frame.f T.i_frame.fd ["self", "rows", "line", "scope"] (spFInit T)) : FnOk P w K mg base CX0 2 f fd ["self", "rows", "line", "others"] (spI T .cleaned) := by
  refine F.ok sc_Cleaned___init__ (fun vs H Q E h => ?_) (fun cdv A outer s H vs Q E hr h => ?_)
  · obtain ⟨p, s, rfl, _⟩ := h
    rfl
  · obtain ⟨p, s, rfl, ⟨n1, n2, n3, n4, n5⟩, F0, h1, h2, hr1, ho1, k⟩ := h
    refine ⟨_, (pss_cons (ps_expr (pe_cmeth (pe_glob (v := .ref (T.C .frame)) rfl T.h_frame rfl) T.i_frame.cm G_i_frame (hr.mono (by omega)) T.i_frame.b1 (show Vals [V.non] [Value.none] from .cons rfl .nil) pass0 (pa_cons (pv 0) (pa_cons (pv 1) (pa_cons (pv 2) pa_nil)))))
    (pss_cons (ps_fld (pv 0) (pe_callTy call_tuple_of (by rfl) T.n_tuple bt_tuple (pa_cons (pv 3) pa_nil)) rfl)
    (pss_one (ps_fld (pv 0) pe_bl rfl)))), ?_⟩
    refine ⟨rfl, _, rfl, _, rfl, _, rfl, .cleaned, p, s.ra, s.rows, .int 4, .non, rfl, F0, h1, fun H1 b1 F1 => ?_⟩
    refine ⟨_, rfl, _, _, rfl, .inr ⟨SqT.of (F0.tup b1 h2), F1.st (l := .others) (by decide) rfl fun H2 b2 F2 => ?_⟩⟩
    refine F2.st (l := .cleaning) (by decide) rfl fun H3 b3 F3 => ?_
    refine k H3 ((b1.trans b2).trans b3) ⟨?_, F0.tup ((b1.trans b2).trans b3) h1, F0.tup ((b1.trans b2).trans b3) h2, by rw [n1]; exact Nat.zero_le _, hr1, ho1⟩
    refine (FrAt.mono ?_ (show 8 ≤ 11 by decide))
    refine cast ?_ F3
    congr 1
    funext l
    cases l <;> simp [setG, gOf, n1, n2, n3, n4, n5]
theorem sc_Limited___init__ : FnScope ["self", "rows", "line", "scope", "others"] ["self", "rows", "line", "scope", "others"] (defScope (inClass (top 7) 0)) := ⟨rfl, rfl, rfl, by decide +kernel, rfl, by decide +kernel, by decide +kernel⟩
theorem ok_Limited___init__ (T : Tx K mg) {f : Addr} {fd : FuncData} (F : Fun K "__init__" "Limited.__init__" (inClass (top 7) 0) f fd) (G_i_frame : FnOk P w K mg base CX0 1 T.i_frame.f T.i_frame.fd ["self", "rows", "line", "scope"] (spFInit T)) : FnOk P w K mg base CX0 2 f fd ["self", "rows", "line", "scope", "others"] (spI T .limited) := by
  refine F.ok sc_Limited___init__ (fun vs H Q E h => ?_) (fun cdv A outer s H vs Q E hr h => ?_)
  · obtain ⟨p, s, rfl, _⟩ := h
    rfl
  · obtain ⟨p, s, rfl, ⟨n1, n2, n3, n4, n5⟩, F0, h1, h2, hr1, ho1, k⟩ := h
    refine ⟨_, (pss_cons (ps_expr (pe_cmeth (pe_glob (v := .ref (T.C .frame)) rfl T.h_frame rfl) T.i_frame.cm G_i_frame (hr.mono (by omega)) T.i_frame.b .nil pass0 (pa_cons (pv 0) (pa_cons (pv 1) (pa_cons (pv 2) (pa_cons (pv 3) pa_nil))))))
    (pss_one (ps_fld (pv 0) (pe_callTy call_tuple_of (by rfl) T.n_tuple bt_tuple (pa_cons (pv 4) pa_nil)) rfl))), ?_⟩
    refine ⟨rfl, _, rfl, _, rfl, _, rfl, _, rfl, .limited, p, s.ra, s.rows, .int 4, s.sc, rfl, F0, h1, fun H1 b1 F1 => ?_⟩
    refine ⟨_, rfl, _, _, rfl, .inr ⟨SqT.of (F0.tup b1 h2), F1.st (l := .others) (by decide) rfl fun H2 b2 F2 => ?_⟩⟩
    refine k H2 (b1.trans b2) ⟨?_, F0.tup (b1.trans b2) h1, F0.tup (b1.trans b2) h2, by rw [n1]; exact Nat.zero_le _, hr1, ho1⟩
    refine (FrAt.mono ?_ (show 7 ≤ 11 by decide))
    refine cast ?_ F2
    congr 1
    funext l
    cases l <;> simp [setG, gOf, n1, n2, n3]
theorem sc_Grouped___init__ : FnScope ["self", "rows", "line", "scope", "named"] ["self", "rows", "line", "scope", "named"] (defScope (inClass (top 8) 0)) := ⟨rfl, rfl, rfl, by decide +kernel, rfl, by decide +kernel, by decide +kernel⟩
theorem ok_Grouped___init__ (T : Tx K mg) {f : Addr} {fd : FuncData} (F : Fun K "__init__" "Grouped.__init__" (inClass (top 8) 0) f fd) (G_i_frame : FnOk P w K mg base CX0 1 T.i_frame.f T.i_frame.fd ["self", "rows", "line", "scope"] (spFInit T)) : FnOk P w K mg base CX0 2 f fd ["self", "rows", "line", "scope", "named"] (spI T .grouped) := by
  refine F.ok sc_Grouped___init__ (fun vs H Q E h => ?_) (fun cdv A outer s H vs Q E hr h => ?_)
  · obtain ⟨p, s, rfl, _⟩ := h
    rfl
  · obtain ⟨p, s, rfl, ⟨n1, n2, n3, n4, n5⟩, F0, h1, h2, hr1, ho1, k⟩ := h
    refine ⟨_, (pss_cons (ps_expr (pe_cmeth (pe_glob (v := .ref (T.C .frame)) rfl T.h_frame rfl) T.i_frame.cm G_i_frame (hr.mono (by omega)) T.i_frame.b .nil pass0 (pa_cons (pv 0) (pa_cons (pv 1) (pa_cons (pv 2) (pa_cons (pv 3) pa_nil))))))
    (pss_cons (ps_fld (pv 0) (pv 4) rfl)
    (pss_one (ps_fld (pv 0) pe_non rfl)))), ?_⟩
    refine ⟨rfl, _, rfl, _, rfl, _, rfl, _, rfl, .grouped, p, s.ra, s.rows, .int 4, s.sc, rfl, F0, h1, fun H1 b1 F1 => ?_⟩
    refine ⟨_, rfl, F1.re (l := .named) (by decide) rfl (fun z => nomatch z) fun H2 b2 F2 => ?_⟩
    refine F2.st (l := .told) (by decide) rfl fun H3 b3 F3 => ?_
    refine k H3 ((b1.trans b2).trans b3) ⟨?_, F0.tup ((b1.trans b2).trans b3) h1, F0.tup ((b1.trans b2).trans b3) h2, by rw [n1]; exact Nat.zero_le _, hr1, ho1⟩
    refine (FrAt.mono ?_ (show 7 ≤ 11 by decide))
    refine cast ?_ F3
    congr 1
    funext l
    cases l <;> simp [setG, gOf, n1, n2]
theorem ok_all_next_row (T : Tx K mg) : ∀ c, FnOk P w K mg base CX0 1 (T.m_next_row c).f (T.m_next_row c).fd ["self"] (spNext T) := fun c => ok_Frame_next_row T (T.m_next_row c).F
theorem ok_all_begin_anew (T : Tx K mg) : ∀ c, FnOk P w K mg base CX0 1 (T.m_begin_anew c).f (T.m_begin_anew c).fd ["self", "rows"] (spAnew T) := fun c => ok_Frame_begin_anew T (T.m_begin_anew c).F
theorem ok_all_rest (T : Tx K mg) : ∀ c, FnOk P w K mg base CX0 1 (T.m_rest c).f (T.m_rest c).fd ["self"] (spRest T) := fun c => ok_Frame_rest T (T.m_rest c).F
theorem ok_all_hides (T : Tx K mg) : ∀ c, FnOk P w K mg base CX0 1 (T.m_hides c).f (T.m_hides c).fd ["self"] (spHides T c)
  | .frame => ok_Frame_hides T (T.m_hides .frame).F (fun _ => rfl)
  | .rounds => ok_Frame_hides T (T.m_hides .rounds).F (fun _ => rfl)
  | .kept => ok_Kept_hides T (T.m_hides .kept).F
  | .tried => ok_Frame_hides T (T.m_hides .tried).F (fun _ => rfl)
  | .cleaned => ok_Cleaned_hides T (T.m_hides .cleaned).F
  | .limited => ok_Frame_hides T (T.m_hides .limited).F (fun _ => rfl)
  | .grouped => ok_Frame_hides T (T.m_hides .grouped).F (fun _ => rfl)
theorem ok_all_over (T : Tx K mg) : ∀ c, FnOk P w K mg base CX0 2 (T.m_over c).f (T.m_over c).fd ["self"] (spOver T c)
  | .frame => (ok_Frame_over T (c := .frame) (T.m_over .frame).F (fun _ => ⟨rfl, overS_no (by decide)⟩)).mono (by decide)
  | .rounds => ok_Rounds_over T (T.m_over .rounds).F (ok_all_begin_anew T)
  | .kept => (ok_Frame_over T (c := .kept) (T.m_over .kept).F (fun _ => ⟨rfl, overS_no (by decide)⟩)).mono (by decide)
  | .tried => (ok_Frame_over T (c := .tried) (T.m_over .tried).F (fun _ => ⟨rfl, overS_no (by decide)⟩)).mono (by decide)
  | .cleaned => (ok_Cleaned_over T (T.m_over .cleaned).F).mono (by decide)
  | .limited => (ok_Frame_over T (c := .limited) (T.m_over .limited).F (fun _ => ⟨rfl, overS_no (by decide)⟩)).mono (by decide)
  | .grouped => (ok_Grouped_over T (T.m_over .grouped).F).mono (by decide)
theorem ok_all_meets (T : Tx K mg) : ∀ c, FnOk P w K mg base CX0 1 (T.m_meets c).f (T.m_meets c).fd ["self", "signal"] (spMeets T c)
  | .frame => ok_Frame_meets T (T.m_meets .frame).F (fun _ _ => rfl)
  | .rounds => ok_Frame_meets T (T.m_meets .rounds).F (fun _ _ => rfl)
  | .kept => ok_Frame_meets T (T.m_meets .kept).F (fun _ _ => rfl)
  | .tried => ok_Tried_meets T (T.m_meets .tried).F
  | .cleaned => ok_Cleaned_meets T (T.m_meets .cleaned).F
  | .limited => ok_Limited_meets T (T.m_meets .limited).F
  | .grouped => ok_Grouped_meets T (T.m_meets .grouped).F
theorem behind_no {c : Kd} {s : Sf} (h : c = .frame ∨ c = .kept ∨ c = .grouped) : behindF c s = s.rows.drop s.place := by
  unfold behindF
  rcases h with rfl | rfl | rfl <;> simp
theorem ok_all_behind (T : Tx K mg) : ∀ c, FnOk P w K mg base CX0 2 (T.m_behind c).f (T.m_behind c).fd ["self"] (spBehind T c)
  | .frame => ok_Frame_behind T (c := .frame) (T.m_behind .frame).F (fun _ => behind_no (.inl rfl)) (ok_all_rest T)
  | .rounds => ok_Rounds_behind T (T.m_behind .rounds).F (ok_all_rest T)
  | .kept => ok_Frame_behind T (c := .kept) (T.m_behind .kept).F (fun _ => behind_no (.inr (.inl rfl))) (ok_all_rest T)
  | .tried => ok_Tried_behind T (T.m_behind .tried).F (ok_all_rest T)
  | .cleaned => ok_Cleaned_behind T (T.m_behind .cleaned).F (ok_all_rest T)
  | .limited => ok_Limited_behind T (T.m_behind .limited).F (ok_all_rest T)
  | .grouped => ok_Frame_behind T (c := .grouped) (T.m_behind .grouped).F (fun _ => behind_no (.inr (.inr rfl))) (ok_all_rest T)

theorem sc_l_cell_at : FnScope ["_law_script", "_law_k"] ["_law_script", "_law_k"] (defScope (top 10)) := ⟨rfl, rfl, rfl, by decide +kernel, rfl, by decide +kernel, by decide +kernel⟩
theorem ok_l_cell_at (T : Tx K mg) : FnOk P w K mg base CX0 1 T.d_l_cell_at.f T.d_l_cell_at.fd ["_law_script", "_law_k"] (spCell K) := by
  refine T.d_l_cell_at.F.ok sc_l_cell_at (fun vs H Q E h => ?_) (fun cdv A outer s H vs Q E hr h => ?_)
  · obtain ⟨a, ns, k, rfl, _⟩ := h
    rfl
  · obtain ⟨a, ns, i, rfl, hS, hl, h0, k⟩ := h
    refine ⟨_, (pss_cons (ps_if (pt_cmpR op_lt (pv 1) (pe_callB call_len (by rfl) T.n_len bt_len (pa_cons (pv 0) pa_nil)) (nomark _))
    (pss_one (ps_ret (pe_ix ix_list (pv 0) (pv 1) (fun _ _ => rfl))))
    pss_nil)
    (pss_one (ps_ret pe_int))), ?_⟩
    (simp only [_root_.L2.start, cxOf_K, cxComp_K, tSeq, tAsg, gName, tRet, tRetN, tDrop, tIfS, tTest, tB, tNot, tAnd, tOr, tAndV, tOrV, tNotV, tOp, tUn, tVar, tC, tCons, tNil, tStrs, tCB, tCall, tChain, tBM, tBM0, tPart, tNoPart, tSl, tIf, tNext, tTrue, selS, Option.bind_none, Option.bind_some, Option.join_some, if_true, rI, rI0, rU, rEq, rNe, rStarts, rSlS, lenV_str, tyV, List.map_cons, List.map_nil, List.length_cons, List.length_nil, List.replicate, List.cons_append, List.nil_append, List.append_nil, Nat.reduceAdd, Nat.reduceSub, Nat.zero_add, Nat.add_zero, Nat.sub_self, List.getElem?_cons_zero, List.getElem?_cons_succ, List.set_cons_zero, List.set_cons_succ, Option.some.injEq, V.int.injEq, V.str.injEq, V.ref.injEq, V.bl.injEq, V.ty.injEq, List.cons.injEq, exists_eq_left, exists_eq_left', exists_eq_right, exists_and_left, exists_eq, and_true, true_and, and_self, and_assoc, tEither, tMeth, tMake, tCMeth, tDIn, tDNotIn, tDPop1, tNever])
    refine ⟨_, .inl ⟨_, hS, rfl⟩, ?_⟩
    rw [List.length_map]
    by_cases hi : i < (ns.length : Int)
    · refine ifT hi ?_
      have hi2 : i.toNat < ns.length := by omega
      have e : cellF ns i = ns[i.toNat] := by unfold cellF; rw [List.getElem?_eq_getElem hi2]; rfl
      rw [e] at k
      refine ⟨a, _, i, .int ns[i.toNat], rfl, rfl, hS, ?_, k⟩
      have := atI_nat (xs := ns.map V.int) (j := i.toNat) (v := .int ns[i.toNat]) (by rw [List.getElem?_map]; simp [hi2])
      rwa [show ((i.toNat : Nat) : Int) = i by omega] at this
    · have e : cellF ns i = 0 := by unfold cellF; rw [List.getElem?_eq_none (by omega)]; rfl
      rw [e] at k
      exact ifF hi k
theorem sc_l_mixed : FnScope ["_law_cell", "_law_k", "_law_mixed_here"] ["_law_cell", "_law_k"] (defScope (top 12)) := ⟨rfl, rfl, rfl, by decide +kernel, rfl, by decide +kernel, by decide +kernel⟩
theorem ok_l_mixed (T : Tx K mg) : FnOk P w K mg base CX0 1 T.d_l_mixed.f T.d_l_mixed.fd ["_law_cell", "_law_k"] (spMixed) := by
  refine T.d_l_mixed.F.ok sc_l_mixed (fun vs H Q E h => ?_) (fun cdv A outer s H vs Q E hr h => ?_)
  · obtain ⟨a, i, rfl, _⟩ := h
    rfl
  · obtain ⟨a, i, rfl, h0, h1, k⟩ := h
    refine ⟨_, (pss_cons (ps_set (i := 2) sc_l_mixed.nd rfl (Or.inl rfl) (pe_op op_mod (pe_op op_mul (pe_op op_add (pe_op op_add (pv 0) (pe_op op_mul pe_int (pv 1))) (pe_op op_mul (pe_op op_mul pe_int (pv 1)) (pv 1))) pe_int) pe_int))
    (pss_one (ps_ret (pe_op op_mod (pe_op op_mul (pv 2) (pe_op op_add (pe_op op_add (pe_op op_mod (pv 2) pe_int) (pv 1)) pe_int)) pe_int)))), ?_⟩
    (simp only [_root_.L2.start, cxOf_K, cxComp_K, tSeq, tAsg, gName, tRet, tRetN, tDrop, tIfS, tTest, tB, tNot, tAnd, tOr, tAndV, tOrV, tNotV, tOp, tUn, tVar, tC, tCons, tNil, tStrs, tCB, tCall, tChain, tBM, tBM0, tPart, tNoPart, tSl, tIf, tNext, tTrue, selS, Option.bind_none, Option.bind_some, Option.join_some, if_true, rI, rI0, rU, rEq, rNe, rStarts, rSlS, lenV_str, tyV, List.map_cons, List.map_nil, List.length_cons, List.length_nil, List.replicate, List.cons_append, List.nil_append, List.append_nil, Nat.reduceAdd, Nat.reduceSub, Nat.zero_add, Nat.add_zero, Nat.sub_self, List.getElem?_cons_zero, List.getElem?_cons_succ, List.set_cons_zero, List.set_cons_succ, Option.some.injEq, V.int.injEq, V.str.injEq, V.ref.injEq, V.bl.injEq, V.ty.injEq, List.cons.injEq, exists_eq_left, exists_eq_left', exists_eq_right, exists_and_left, exists_eq, and_true, true_and, and_self, and_assoc, tEither, tMeth, tMake, tCMeth, tDIn, tDNotIn, tDPop1, tNever])
    have e1 := Int.emod_nonneg ((a + 7919 * i + 104729 * i * i) * 48271) (show (2147483647 : Int) ≠ 0 by decide)
    have e2 := Int.emod_lt_of_pos ((a + 7919 * i + 104729 * i * i) * 48271) (show (0 : Int) < 2147483647 by decide)
    exact ⟨.inl ⟨by decide, by decide⟩, .inl ⟨by decide, by decide⟩, .inr ⟨by omega, by omega⟩, .inr ⟨by decide, by decide⟩, by decide, by decide, .inl ⟨by omega, by omega⟩, by decide, k _⟩
theorem sc_l_made : FnScope ["_law_kind", "_law_rows", "_law_others", "_law_many"] ["_law_kind", "_law_rows", "_law_others", "_law_many"] (defScope (top 13)) := ⟨rfl, rfl, rfl, by decide +kernel, rfl, by decide +kernel, by decide +kernel⟩
theorem ok_l_made (T : Tx K mg) (G_i_frame : FnOk P w K mg base CX0 1 T.i_frame.f T.i_frame.fd ["self", "rows", "line", "scope"] (spFInit T)) (G_i_rounds : FnOk P w K mg base CX0 2 T.i_rounds.f T.i_rounds.fd ["self", "rows", "line", "many"] (spI T .rounds)) (G_i_kept : FnOk P w K mg base CX0 1 T.i_kept.f T.i_kept.fd ["self", "rows", "line", "scope"] (spFInit T)) (G_i_tried : FnOk P w K mg base CX0 2 T.i_tried.f T.i_tried.fd ["self", "rows", "line", "fault", "others"] (spI T .tried)) (G_i_cleaned : FnOk P w K mg base CX0 2 T.i_cleaned.f T.i_cleaned.fd ["self", "rows", "line", "others"] (spI T .cleaned)) (G_i_limited : FnOk P w K mg base CX0 2 T.i_limited.f T.i_limited.fd ["self", "rows", "line", "scope", "others"] (spI T .limited)) (G_i_grouped : FnOk P w K mg base CX0 2 T.i_grouped.f T.i_grouped.fd ["self", "rows", "line", "scope", "named"] (spI T .grouped)) : FnOk P w K mg base CX0 4 T.d_l_made.f T.d_l_made.fd ["_law_kind", "_law_rows", "_law_others", "_law_many"] (spMade T) := by
  refine T.d_l_made.F.ok sc_l_made (fun vs H Q E h => ?_) (fun cdv A outer s H vs Q E hr h => ?_)
  · obtain ⟨kind, many, ra, oa, rows, others, rfl, _⟩ := h
    rfl
  · obtain ⟨kind, many, ra, oa, rows, others, rfl, hk, h1, h2, l1, l2, k⟩ := h
    have hu := hu100 hr
    have hu1 := hu_of hr
    refine ⟨_, (pss_cons (ps_if (PW.pt (pw_and (pt_cmpR op_eq (pv 0) pe_int (nomark _)) (pw_and1 (pt_cmpR op_eq (pe_op op_mod (pv 3) pe_int) pe_int (nomark _)))))
    (pss_one (ps_ret (pe_make T.M_frame G_i_frame (hr.mono (by omega)) rfl T.h_frame T.i_frame.b .nil pass0 (pa_cons (pv 1) (pa_cons pe_int (pa_cons (pv 3) pa_nil))))))
    pss_nil)
    (pss_cons (ps_if (pt_cmpR op_eq (pv 0) pe_int (nomark _))
    (pss_one (ps_ret (pe_make T.M_frame G_i_frame (hr.mono (by omega)) rfl T.h_frame T.i_frame.b1 (show Vals [V.non] [Value.none] from .cons rfl .nil) pass0 (pa_cons (pv 1) (pa_cons pe_int pa_nil)))))
    pss_nil)
    (pss_cons (ps_if (pt_cmpR op_eq (pv 0) pe_int (nomark _))
    (pss_one (ps_ret (pe_make T.M_rounds G_i_rounds (hr.mono (by omega)) rfl T.h_rounds T.i_rounds.b .nil pass0 (pa_cons (pv 1) (pa_cons pe_int (pa_cons (pv 3) pa_nil))))))
    pss_nil)
    (pss_cons (ps_if (pt_cmpR op_eq (pv 0) pe_int (nomark _))
    (pss_one (ps_ret (pe_make T.M_kept G_i_kept (hr.mono (by omega)) rfl T.h_kept T.i_kept.b1 (show Vals [V.non] [Value.none] from .cons rfl .nil) pass0 (pa_cons (pv 1) (pa_cons pe_int pa_nil)))))
    pss_nil)
    (pss_cons (ps_if (pt_cmpR op_eq (pv 0) pe_int (nomark _))
    (pss_one (ps_ret (pe_make T.M_tried G_i_tried (hr.mono (by omega)) rfl T.h_tried T.i_tried.b .nil pass0 (pa_cons (pv 1) (pa_cons pe_int (pa_cons (pe_ix ix_list (pe_lst (pa_strs (zs := ["boom", "oops", "any"]) (by decide +kernel))) (pe_op op_mod (pv 3) pe_int) (fun _ _ => rfl)) (pa_cons (pv 2) pa_nil)))))))
    pss_nil)
    (pss_cons (ps_if (pt_cmpR op_eq (pv 0) pe_int (nomark _))
    (pss_one (ps_ret (pe_make T.M_cleaned G_i_cleaned (hr.mono (by omega)) rfl T.h_cleaned T.i_cleaned.b .nil pass0 (pa_cons (pv 1) (pa_cons pe_int (pa_cons (pv 2) pa_nil))))))
    pss_nil)
    (pss_cons (ps_if (pt_cmpR op_eq (pv 0) pe_int (nomark _))
    (pss_one (ps_ret (pe_make T.M_limited G_i_limited (hr.mono (by omega)) rfl T.h_limited T.i_limited.b .nil pass0 (pa_cons (pv 1) (pa_cons pe_int (pa_cons (pv 3) (pa_cons (pv 2) pa_nil)))))))
    pss_nil)
    (pss_one (ps_ret (pe_make T.M_grouped G_i_grouped (hr.mono (by omega)) rfl T.h_grouped T.i_grouped.b .nil pass0 (pa_cons (pv 1) (pa_cons pe_int (pa_cons (pv 3) (pa_cons pe_str pa_nil)))))))))))))), ?_⟩
    (simp only [tLst, tTup, tDNewK, _root_.L2.start, cxOf_K, cxComp_K, tSeq, tAsg, gName, tRet, tRetN, tDrop, tIfS, tTest, tB, tNot, tAnd, tOr, tAndV, tOrV, tNotV, tOp, tUn, tVar, tC, tCons, tNil, tStrs, tCB, tCall, tChain, tBM, tBM0, tPart, tNoPart, tSl, tIf, tNext, tTrue, selS, Option.bind_none, Option.bind_some, Option.join_some, if_true, rI, rI0, rU, rEq, rNe, rStarts, rSlS, lenV_str, tyV, List.map_cons, List.map_nil, List.length_cons, List.length_nil, List.replicate, List.cons_append, List.nil_append, List.append_nil, Nat.reduceAdd, Nat.reduceSub, Nat.zero_add, Nat.add_zero, Nat.sub_self, List.getElem?_cons_zero, List.getElem?_cons_succ, List.set_cons_zero, List.set_cons_succ, Option.some.injEq, V.int.injEq, V.str.injEq, V.ref.injEq, V.bl.injEq, V.ty.injEq, List.cons.injEq, exists_eq_left, exists_eq_left', exists_eq_right, exists_and_left, exists_eq, and_true, true_and, and_self, and_assoc, tEither, tMeth, tMake, tCMeth, tDIn, tDNotIn, tDPop1, tNever])
    rcases seven hk with rfl | rfl | rfl | rfl | rfl | rfl | rfl
    · (((repeat (first | refine bT rfl ?_ | refine bF rfl ?_ | refine ⟨rfl, ?_⟩)); try (simp only [sc_ii, decide_eq_true_eq, reduceIte, Int.reduceEq, Bool.false_eq_true, true_and, Bool.true_eq_false, Int.reduceLT])))
      by_cases e : many % 2 = 0
      · rw [if_pos e]
        intro x dx nx ndx nex
        exact spFI_of (c := .frame) (s := s0 0 many ra rows oa others) nx ndx nex (.inl rfl) ⟨rfl, rfl, by simp [s0], by simp [s0, e]⟩ h1 h2 l1 l2 fun H' s' F' => k x H' nx s' F'
      · rw [if_neg e]
        intro x dx nx ndx nex
        exact spFI_of (c := .frame) (s := s0 0 many ra rows oa others) nx ndx nex (.inl rfl) ⟨rfl, rfl, by simp [s0], by simp [s0, e]⟩ h1 h2 l1 l2 fun H' s' F' => k x H' nx s' F'
    · (((repeat (first | refine bT rfl ?_ | refine bF rfl ?_ | refine ⟨rfl, ?_⟩)); try (simp only [sc_ii, decide_eq_true_eq, reduceIte, Int.reduceEq, Bool.false_eq_true, true_and, Bool.true_eq_false, Int.reduceLT])))
      intro x dx nx ndx nex
      exact spI_of (c := .rounds) (s := s0 1 many ra rows oa others) nx ndx nex (by simp [argsI, s0]) ⟨rfl, rfl, by simp [s0], by simp [s0], by simp⟩ h1 h2 l1 l2 fun H' s' F' => k x H' nx s' F'
    · (((repeat (first | refine bT rfl ?_ | refine bF rfl ?_ | refine ⟨rfl, ?_⟩)); try (simp only [sc_ii, decide_eq_true_eq, reduceIte, Int.reduceEq, Bool.false_eq_true, true_and, Bool.true_eq_false, Int.reduceLT])))
      intro x dx nx ndx nex
      exact spFI_of (c := .kept) (s := s0 2 many ra rows oa others) nx ndx nex (.inr rfl) ⟨rfl, rfl, by simp [s0], by simp [s0]⟩ h1 h2 l1 l2 fun H' s' F' => k x H' nx s' F'
    · (((repeat (first | refine bT rfl ?_ | refine bF rfl ?_ | refine ⟨rfl, ?_⟩)); try (simp only [sc_ii, decide_eq_true_eq, reduceIte, Int.reduceEq, Bool.false_eq_true, true_and, Bool.true_eq_false, Int.reduceLT])))
      refine ⟨by decide, fun q hq => ?_⟩
      have e : rIxL K (V.ref q) (V.int (many % 3)) (upd H q (.lst [V.str "boom", V.str "oops", V.str "any"])) = fun R : VK => ∃ p xs i v, V.ref q = .ref p ∧ V.int (many % 3) = .int i ∧ SqL K (upd H q (.lst [V.str "boom", V.str "oops", V.str "any"])) p xs ∧ atI xs i = some v ∧ R v (upd H q (.lst [V.str "boom", V.str "oops", V.str "any"])) := rfl
      refine ⟨q, _, _, .str (faultOf many), rfl, rfl, SqL.of upd_same, ?_, ?_⟩
      · unfold faultOf
        rcases (by omega : many % 3 = 0 ∨ many % 3 = 1 ∨ many % 3 = 2) with z | z | z <;> rw [z] <;> rfl
      intro x dx nx ndx nex
      have t := Same.upd (o := .lst [V.str "boom", V.str "oops", V.str "any"]) hq
      exact spI_of (c := .tried) (s := s0 3 many ra rows oa others) nx ndx nex rfl ⟨rfl, rfl, by simp [s0], by simp [s0], by simp⟩ (t _ _ h1) (t _ _ h2) l1 l2 fun H' s' F' => k x H' (t.free nx) (t.trans s') F'
    · (((repeat (first | refine bT rfl ?_ | refine bF rfl ?_ | refine ⟨rfl, ?_⟩)); try (simp only [sc_ii, decide_eq_true_eq, reduceIte, Int.reduceEq, Bool.false_eq_true, true_and, Bool.true_eq_false, Int.reduceLT])))
      intro x dx nx ndx nex
      exact spI_of (c := .cleaned) (s := s0 4 many ra rows oa others) nx ndx nex rfl ⟨rfl, rfl, by simp [s0], by simp [s0], by simp [s0]⟩ h1 h2 l1 l2 fun H' s' F' => k x H' nx s' F'
    · (((repeat (first | refine bT rfl ?_ | refine bF rfl ?_ | refine ⟨rfl, ?_⟩)); try (simp only [sc_ii, decide_eq_true_eq, reduceIte, Int.reduceEq, Bool.false_eq_true, true_and, Bool.true_eq_false, Int.reduceLT])))
      intro x dx nx ndx nex
      exact spI_of (c := .limited) (s := s0 5 many ra rows oa others) nx ndx nex (by simp [argsI, s0]) ⟨rfl, rfl, by simp [s0], by simp, by simp⟩ h1 h2 l1 l2 fun H' s' F' => k x H' nx s' F'
    · (((repeat (first | refine bT rfl ?_ | refine bF rfl ?_ | refine ⟨rfl, ?_⟩)); try (simp only [sc_ii, decide_eq_true_eq, reduceIte, Int.reduceEq, Bool.false_eq_true, true_and, Bool.true_eq_false, Int.reduceLT])))
      intro x dx nx ndx nex
      exact spI_of (c := .grouped) (s := s0 6 many ra rows oa others) nx ndx nex (by simp [argsI, s0]) ⟨rfl, rfl, by simp, by simp, by simp⟩ h1 h2 l1 l2 fun H' s' F' => k x H' nx s' F'
theorem sc_l_meets : FnScope ["_law_kind", "_law_many", "_law_cleaning", "_law_signal"] ["_law_kind", "_law_many", "_law_cleaning", "_law_signal"] (defScope (top 14)) := ⟨rfl, rfl, rfl, by decide +kernel, rfl, by decide +kernel, by decide +kernel⟩
theorem ok_l_meets (T : Tx K mg) : FnOk P w K mg base CX0 1 T.d_l_meets.f T.d_l_meets.fd ["_law_kind", "_law_many", "_law_cleaning", "_law_signal"] (spMeetsL K) := by
  refine T.d_l_meets.F.ok sc_l_meets (fun vs H Q E h => ?_) (fun cdv A outer s H vs Q E hr h => ?_)
  · obtain ⟨kind, many, s, t, g, rfl, _⟩ := h
    rfl
  · obtain ⟨kind, many, s, t, g, rfl, R, hg, k⟩ := h
    have hu := hu100 hr
    have hu1 := hu_of hr
    refine ⟨_, (pss_cons (ps_if (PW.pt (pw_and (pt_cmpR op_eq (pv 0) pe_int (nomark _)) (pw_and (pt_cmpR op_eq (pe_ix ix_tup (pv 3) pe_int (fun _ _ => rfl)) pe_str (nomark _)) (pw_and1 (PW.pt (pw_or (pt_cmpR op_eq (pe_op op_mod (pv 1) pe_int) pe_int (nomark _)) (pw_or1 (pt_cmpR op_eq (pe_ix ix_tup (pe_ix ix_tup (pv 3) pe_int (fun _ _ => rfl)) pe_int (fun _ _ => rfl)) (pe_ix ix_list (pe_lst (pa_cons pe_str (pa_cons pe_str pa_nil))) (pe_op op_mod (pv 1) pe_int) (fun _ _ => rfl)) (nomark _)))))))))
    (pss_one (ps_ret pe_str))
    pss_nil)
    (pss_cons (ps_if (PW.pt (pw_and (pt_cmpR op_eq (pv 0) pe_int (nomark _)) (pw_and1 (pt_not (pt_val (pv 2))))))
    (pss_one (ps_ret pe_str))
    pss_nil)
    (pss_cons (ps_if (PW.pt (pw_and (pt_cmpR op_eq (pv 0) pe_int (nomark _)) (pw_and1 (pt_cmpR (op_eqT hu) (pv 3) (pe_tup (pa_cons pe_str (pa_cons (pv 1) pa_nil))) (nomark _)))))
    (pss_one (ps_ret pe_str))
    pss_nil)
    (pss_one (ps_ret (pe_ix ix_list (pe_lst (pa_cons pe_str (pa_cons pe_str pa_nil))) (pe_callTy call_int1 (by rfl) T.n_int bt_int (pa_cons (pe_cmpR op_eq (pv 0) pe_int (nomark _)) pa_nil)) (fun _ _ => rfl))))))), ?_⟩
    (simp only [tLst, tTup, tDNewK, _root_.L2.start, cxOf_K, cxComp_K, tSeq, tAsg, gName, tRet, tRetN, tDrop, tIfS, tTest, tB, tNot, tAnd, tOr, tAndV, tOrV, tNotV, tOp, tUn, tVar, tC, tCons, tNil, tStrs, tCB, tCall, tChain, tBM, tBM0, tPart, tNoPart, tSl, tIf, tNext, tTrue, selS, Option.bind_none, Option.bind_some, Option.join_some, if_true, rI, rI0, rU, rEq, rNe, rStarts, rSlS, lenV_str, tyV, List.map_cons, List.map_nil, List.length_cons, List.length_nil, List.replicate, List.cons_append, List.nil_append, List.append_nil, Nat.reduceAdd, Nat.reduceSub, Nat.zero_add, Nat.add_zero, Nat.sub_self, List.getElem?_cons_zero, List.getElem?_cons_succ, List.set_cons_zero, List.set_cons_succ, Option.some.injEq, V.int.injEq, V.str.injEq, V.ref.injEq, V.bl.injEq, V.ty.injEq, List.cons.injEq, exists_eq_left, exists_eq_left', exists_eq_right, exists_and_left, exists_eq, and_true, true_and, and_self, and_assoc, tEither, tMeth, tMake, tCMeth, tDIn, tDNotIn, tDPop1, tNever])
    rcases seven R.k0 with rfl | rfl | rfl | rfl | rfl | rfl | rfl
    all_goals (((repeat (first | refine bT rfl ?_ | refine bF rfl ?_ | refine ⟨rfl, ?_⟩)); try (simp only [sc_ii, decide_eq_true_eq, reduceIte, Int.reduceEq, Bool.false_eq_true, true_and, Bool.true_eq_false, Int.reduceLT])))
    · exact pickL rfl k
    · exact pickL rfl k
    · exact pickL rfl k
    · cases g with
      | strike n =>
        have ht : H t = some (.tup [.str "strike", .int n]) := hg
        refine ⟨t, _, _, _, rfl, rfl, SqT.of ht, rfl, rfl, ?_⟩
        rw [if_neg (fun z => absurd (V.str.inj z) (by decide +kernel))]
        exact pickL rfl k
      | faults a r =>
        obtain ⟨u, ht, hu2⟩ := hg
        refine ⟨t, _, _, _, rfl, rfl, SqT.of ht, rfl, rfl, ?_⟩
        rw [if_pos rfl]
        have em : meetsF (kd 3) s (.faults a r) = if faultOf many = "any" ∨ faultOf many = a then ("caught" : Str) else "out" := by
          show (if s.fault = "any" ∨ s.fault = a then _ else _) = _
          rw [R.fa]
        rw [em] at k
        by_cases e : many % 3 = 2
        · rw [if_pos e]
          have ef : faultOf many = "any" := by unfold faultOf; rw [if_neg (by omega), if_neg (by omega)]
          rw [if_pos (.inl ef)] at k
          exact k H (Same.refl H)
        · rw [if_neg e]
          refine ⟨t, _, _, _, rfl, rfl, SqT.of ht, rfl, u, _, _, _, rfl, rfl, SqT.of hu2, atI_nat (j := 0) rfl, by decide, fun q hq => ?_⟩
          refine ⟨q, _, _, .str (faultOf many), rfl, rfl, SqL.of upd_same, ?_, rfl, ?_⟩
          · unfold faultOf
            rcases (by omega : many % 3 = 0 ∨ many % 3 = 1) with z | z <;> rw [z] <;> rfl
          have ef : ¬ faultOf many = "any" := by
            unfold faultOf
            rcases (by omega : many % 3 = 0 ∨ many % 3 = 1) with z | z
            · rw [if_pos z]; exact sAny.1
            · rw [if_neg (by omega), if_pos z]; exact sAny.2
          by_cases e2 : a = faultOf many
          · rw [if_pos (by rw [e2])]
            rw [if_pos (.inr e2.symm)] at k
            exact k _ (Same.upd hq)
          · rw [if_neg (fun z => e2 (V.str.inj z))]
            rw [if_neg (fun z => z.elim ef (fun z => e2 z.symm))] at k
            exact pickL rfl fun H' s' => k H' ((Same.upd hq).trans s')
    · have em : meetsF (kd 4) s g = if s.cleaning = true then ("out" : Str) else "clean" := rfl
      rw [em] at k
      cases e : s.cleaning with
      | true =>
        rw [e, if_pos rfl] at k
        rw [if_neg (by decide)]
        exact pickL rfl k
      | false =>
        rw [e, if_neg (by decide)] at k
        rw [if_pos (by decide)]
        exact k H (Same.refl H)
    · refine ⟨by decide, fun q hq => strikeEq (hg.same (Same.upd hq)) upd_same ⟨_, rfl, ?_⟩⟩
      have hsc := R.sc rfl
      have em : meetsF (kd 5) s g = if isStrike many g = true then ("late" : Str) else "out" := by
        cases g with
        | strike n =>
          show (if s.sc = .int n then _ else _) = if decide (many = n) = true then _ else _
          rw [hsc]
          by_cases z : many = n
          · rw [if_pos (by rw [z]), if_pos (decide_eq_true z)]
          · rw [if_neg (fun y => z (V.int.inj y)), if_neg (by simp [z])]
        | faults a r => rfl
      rw [em] at k
      cases e : isStrike many g with
      | true =>
        rw [e, if_pos rfl] at k
        exact iteT (k _ (Same.upd hq))
      | false =>
        rw [e, if_neg (by decide)] at k
        exact iteF (pickL rfl fun H' s' => k H' ((Same.upd hq).trans s'))
    · exact pickL rfl k
theorem sc_l_behind : FnScope ["_law_state", "_law_kind", "_law_found"] ["_law_state"] (defScope (top 15)) := ⟨rfl, rfl, rfl, by decide +kernel, rfl, by decide +kernel, by decide +kernel⟩
theorem ok_l_behind (T : Tx K mg) : FnOk P w K mg base CX0 1 T.d_l_behind.f T.d_l_behind.fd ["_law_state"] (spBehindL K) := by
  refine T.d_l_behind.F.ok sc_l_behind (fun vs H Q E h => ?_) (fun cdv A outer s H vs Q E hr h => ?_)
  · obtain ⟨d, kind, many, s, rfl, _⟩ := h
    rfl
  · obtain ⟨d, kind, many, s, rfl, R, D, ⟨r1, r2, r3, r4, r5⟩, k⟩ := h
    have hu := hu100 hr
    have hu1 := hu_of hr
    refine ⟨_, (pss_cons (ps_set (i := 1) sc_l_behind.nd rfl (Or.inl rfl) (pe_dget hu1 (pv 0) pe_str (fun _ _ => rfl)))
    (pss_cons (ps_set (i := 2) sc_l_behind.nd rfl (Or.inl rfl) (pe_callTy call_list_of (by rfl) T.n_list bt_list (pa_cons (pe_slice sl_tupW (pe_dget hu1 (pv 0) pe_str (fun _ _ => rfl)) (po_some (pe_dget hu1 (pv 0) pe_str (fun _ _ => rfl))) po_none) pa_nil)))
    (pss_cons (ps_if (PW.pt (pw_and (pt_cmpR op_eq (pv 1) pe_int (nomark _)) (pw_and1 (pt_cmpR op_gt (pe_dget hu1 (pv 0) pe_str (fun _ _ => rfl)) pe_int (nomark _)))))
    (pss_one (ps_ret (pe_callTy call_list_of (by rfl) T.n_list bt_list (pa_cons (pe_dget hu1 (pv 0) pe_str (fun _ _ => rfl)) pa_nil))))
    pss_nil)
    (pss_cons (ps_if (PW.pt (pw_or (pt_cmpR op_in_seq (pv 1) (pe_tup (pa_cons pe_int (pa_cons pe_int pa_nil))) (by with_unfolding_all rfl)) (pw_or1 (PW.pt (pw_and (pt_cmpR op_eq (pv 1) pe_int (nomark _)) (pw_and1 (pt_not (pt_val (pe_dget hu1 (pv 0) pe_str (fun _ _ => rfl))))))))))
    (pss_one (ps_ret (pe_op op_cat (pv 2) (pe_callTy call_list_of (by rfl) T.n_list bt_list (pa_cons (pe_dget hu1 (pv 0) pe_str (fun _ _ => rfl)) pa_nil)))))
    pss_nil)
    (pss_one (ps_ret (pv 2))))))), ?_⟩
    (simp only [tLst, tTup, tDNewK, _root_.L2.start, cxOf_K, cxComp_K, tSeq, tAsg, gName, tRet, tRetN, tDrop, tIfS, tTest, tB, tNot, tAnd, tOr, tAndV, tOrV, tNotV, tOp, tUn, tVar, tC, tCons, tNil, tStrs, tCB, tCall, tChain, tBM, tBM0, tPart, tNoPart, tSl, tIf, tNext, tTrue, selS, Option.bind_none, Option.bind_some, Option.join_some, if_true, rI, rI0, rU, rEq, rNe, rStarts, rSlS, lenV_str, tyV, List.map_cons, List.map_nil, List.length_cons, List.length_nil, List.replicate, List.cons_append, List.nil_append, List.append_nil, Nat.reduceAdd, Nat.reduceSub, Nat.zero_add, Nat.add_zero, Nat.sub_self, List.getElem?_cons_zero, List.getElem?_cons_succ, List.set_cons_zero, List.set_cons_succ, Option.some.injEq, V.int.injEq, V.str.injEq, V.ref.injEq, V.bl.injEq, V.ty.injEq, List.cons.injEq, exists_eq_left, exists_eq_left', exists_eq_right, exists_and_left, exists_eq, and_true, true_and, and_self, and_assoc, tEither, tMeth, tMake, tCMeth, tDIn, tDNotIn, tDPop1, tNever])
    rcases seven R.k0 with rfl | rfl | rfl | rfl | rfl | rfl | rfl
    · refine D.get (l := .kind) rfl rfl (D.get (l := .rows) rfl rfl (D.get (l := .place) rfl rfl ⟨_, rfl, slFrom r1 fun q G1 s1 h1 => ⟨q, rfl, _, .inr (SqT.of h1), fun l hl => ⟨rfl, ?_⟩⟩⟩))
      have t1 := s1.trans (Same.upd (o := .lst (s.rows.drop s.place)) hl)
      have gl : (upd G1 l (.lst (s.rows.drop s.place))) l = some (.lst (s.rows.drop s.place)) := upd_same
      simp only [sv, V.int.injEq]
      (((repeat (first | refine bT rfl ?_ | refine bF rfl ?_ | refine ⟨rfl, ?_⟩)); try (simp only [sc_ii, decide_eq_true_eq, reduceIte, Int.reduceEq, Bool.false_eq_true, true_and, Bool.true_eq_false, Int.reduceLT])))
      generalize upd G1 l (.lst (s.rows.drop s.place)) = G2 at t1 gl
      have D2 := D.same t1
      refine ⟨by decide, fun q2 hq2 => inD35 upd_same ⟨_, rfl, ?_⟩⟩
      have t2 := t1.trans (Same.upd (o := .tup [V.int 3, V.int 5]) hq2)
      have g2 := (Same.upd (o := .tup [V.int 3, V.int 5]) hq2) _ _ gl
      generalize upd G2 q2 (.tup [V.int 3, V.int 5]) = G3 at t2 g2
      refine iteF (k l G3 (s1.free hl) t2 ?_)
      rw [g2]
      congr 2
    · refine D.get (l := .kind) rfl rfl (D.get (l := .rows) rfl rfl (D.get (l := .place) rfl rfl ⟨_, rfl, slFrom r1 fun q G1 s1 h1 => ⟨q, rfl, _, .inr (SqT.of h1), fun l hl => ⟨rfl, ?_⟩⟩⟩))
      have t1 := s1.trans (Same.upd (o := .lst (s.rows.drop s.place)) hl)
      have gl : (upd G1 l (.lst (s.rows.drop s.place))) l = some (.lst (s.rows.drop s.place)) := upd_same
      simp only [sv, V.int.injEq]
      (((repeat (first | refine bT rfl ?_ | refine bF rfl ?_ | refine ⟨rfl, ?_⟩)); try (simp only [sc_ii, decide_eq_true_eq, reduceIte, Int.reduceEq, Bool.false_eq_true, true_and, Bool.true_eq_false, Int.reduceLT])))
      generalize upd G1 l (.lst (s.rows.drop s.place)) = G2 at t1 gl
      have D2 := D.same t1
      refine D2.get (l := .left) rfl rfl ⟨_, rfl, ?_⟩
      by_cases e : 0 < s.left
      · rw [if_pos e]
        refine D2.get (l := .rows) rfl rfl ⟨_, rfl, _, .inr (SqT.of (t1 _ _ r1)), fun l2 hl2 => k l2 _ (t1.free hl2) (t1.trans (Same.upd hl2)) ?_⟩
        rw [upd_same, show behindF (kd 1) s = s.rows from if_pos ⟨rfl, e⟩]
      rw [if_neg e]
      have eb : behindF (kd 1) s = s.rows.drop s.place := by
        show behindF .rounds s = _
        unfold behindF
        rw [if_neg (fun z => e z.2), if_neg (by intro z; rcases z with z | z | z <;> simp at z)]
      rw [eb] at k
      refine ⟨by decide, fun q2 hq2 => inD35 upd_same ⟨_, rfl, ?_⟩⟩
      have t2 := t1.trans (Same.upd (o := .tup [V.int 3, V.int 5]) hq2)
      have g2 := (Same.upd (o := .tup [V.int 3, V.int 5]) hq2) _ _ gl
      generalize upd G2 q2 (.tup [V.int 3, V.int 5]) = G3 at t2 g2
      exact iteF (k l G3 (s1.free hl) t2 g2)
    · refine D.get (l := .kind) rfl rfl (D.get (l := .rows) rfl rfl (D.get (l := .place) rfl rfl ⟨_, rfl, slFrom r1 fun q G1 s1 h1 => ⟨q, rfl, _, .inr (SqT.of h1), fun l hl => ⟨rfl, ?_⟩⟩⟩))
      have t1 := s1.trans (Same.upd (o := .lst (s.rows.drop s.place)) hl)
      have gl : (upd G1 l (.lst (s.rows.drop s.place))) l = some (.lst (s.rows.drop s.place)) := upd_same
      simp only [sv, V.int.injEq]
      (((repeat (first | refine bT rfl ?_ | refine bF rfl ?_ | refine ⟨rfl, ?_⟩)); try (simp only [sc_ii, decide_eq_true_eq, reduceIte, Int.reduceEq, Bool.false_eq_true, true_and, Bool.true_eq_false, Int.reduceLT])))
      generalize upd G1 l (.lst (s.rows.drop s.place)) = G2 at t1 gl
      have D2 := D.same t1
      refine ⟨by decide, fun q2 hq2 => inD35 upd_same ⟨_, rfl, ?_⟩⟩
      have t2 := t1.trans (Same.upd (o := .tup [V.int 3, V.int 5]) hq2)
      have g2 := (Same.upd (o := .tup [V.int 3, V.int 5]) hq2) _ _ gl
      generalize upd G2 q2 (.tup [V.int 3, V.int 5]) = G3 at t2 g2
      refine iteF (k l G3 (s1.free hl) t2 ?_)
      rw [g2]
      congr 2
    · refine D.get (l := .kind) rfl rfl (D.get (l := .rows) rfl rfl (D.get (l := .place) rfl rfl ⟨_, rfl, slFrom r1 fun q G1 s1 h1 => ⟨q, rfl, _, .inr (SqT.of h1), fun l hl => ⟨rfl, ?_⟩⟩⟩))
      have t1 := s1.trans (Same.upd (o := .lst (s.rows.drop s.place)) hl)
      have gl : (upd G1 l (.lst (s.rows.drop s.place))) l = some (.lst (s.rows.drop s.place)) := upd_same
      simp only [sv, V.int.injEq]
      (((repeat (first | refine bT rfl ?_ | refine bF rfl ?_ | refine ⟨rfl, ?_⟩)); try (simp only [sc_ii, decide_eq_true_eq, reduceIte, Int.reduceEq, Bool.false_eq_true, true_and, Bool.true_eq_false, Int.reduceLT])))
      generalize upd G1 l (.lst (s.rows.drop s.place)) = G2 at t1 gl
      have D2 := D.same t1
      refine ⟨by decide, fun q2 hq2 => inD35 upd_same ⟨_, rfl, ?_⟩⟩
      have t2 := t1.trans (Same.upd (o := .tup [V.int 3, V.int 5]) hq2)
      have g2 := (Same.upd (o := .tup [V.int 3, V.int 5]) hq2) _ _ gl
      generalize upd G2 q2 (.tup [V.int 3, V.int 5]) = G3 at t2 g2
      refine iteT ?_
      refine (D.same t2).get (l := .others) rfl rfl ⟨_, rfl, _, .inr (SqT.of (t2 _ _ r2)), fun l2 hl2 => ?_⟩
      have t3 := Same.upd (o := .lst s.others) hl2
      refine ⟨l, l2, _, _, rfl, rfl, t3 _ _ g2, upd_same, ?_, fun q5 hq5 => k q5 _ (t2.free (t3.free hq5)) ((t2.trans t3).trans (Same.upd hq5)) ?_⟩
      · rw [List.length_drop]; exact Nat.le_of_lt (small1000 (by omega))
      · rw [upd_same]; congr 2
    · refine D.get (l := .kind) rfl rfl (D.get (l := .rows) rfl rfl (D.get (l := .place) rfl rfl ⟨_, rfl, slFrom r1 fun q G1 s1 h1 => ⟨q, rfl, _, .inr (SqT.of h1), fun l hl => ⟨rfl, ?_⟩⟩⟩))
      have t1 := s1.trans (Same.upd (o := .lst (s.rows.drop s.place)) hl)
      have gl : (upd G1 l (.lst (s.rows.drop s.place))) l = some (.lst (s.rows.drop s.place)) := upd_same
      simp only [sv, V.int.injEq]
      (((repeat (first | refine bT rfl ?_ | refine bF rfl ?_ | refine ⟨rfl, ?_⟩)); try (simp only [sc_ii, decide_eq_true_eq, reduceIte, Int.reduceEq, Bool.false_eq_true, true_and, Bool.true_eq_false, Int.reduceLT])))
      generalize upd G1 l (.lst (s.rows.drop s.place)) = G2 at t1 gl
      have D2 := D.same t1
      refine ⟨by decide, fun q2 hq2 => inD35 upd_same ⟨_, rfl, ?_⟩⟩
      have t2 := t1.trans (Same.upd (o := .tup [V.int 3, V.int 5]) hq2)
      have g2 := (Same.upd (o := .tup [V.int 3, V.int 5]) hq2) _ _ gl
      generalize upd G2 q2 (.tup [V.int 3, V.int 5]) = G3 at t2 g2
      refine iteF ((D.same t2).get (l := .cleaning) rfl rfl ⟨_, rfl, ?_⟩)
      cases e : s.cleaning with
      | true =>
        rw [if_neg (by decide)]
        have eb : behindF (kd 4) s = s.rows.drop s.place := by
          show behindF .cleaned s = _
          unfold behindF
          rw [if_neg (by intro z; simp at z), if_neg (by rw [e]; simp)]
        rw [eb] at k
        exact k l G3 (s1.free hl) t2 g2
      | false =>
        rw [if_pos (by decide)]
        refine (D.same t2).get (l := .others) rfl rfl ⟨_, rfl, _, .inr (SqT.of (t2 _ _ r2)), fun l2 hl2 => ?_⟩
        have t3 := Same.upd (o := .lst s.others) hl2
        refine ⟨l, l2, _, _, rfl, rfl, t3 _ _ g2, upd_same, ?_, fun q5 hq5 => k q5 _ (t2.free (t3.free hq5)) ((t2.trans t3).trans (Same.upd hq5)) ?_⟩
        · rw [List.length_drop]; exact Nat.le_of_lt (small1000 (by omega))
        · have eb : behindF (kd 4) s = s.rows.drop s.place ++ s.others := by
            show behindF .cleaned s = _
            unfold behindF
            rw [if_neg (by intro z; simp at z), if_pos (by rw [e]; simp)]
          rw [upd_same, eb]
    · refine D.get (l := .kind) rfl rfl (D.get (l := .rows) rfl rfl (D.get (l := .place) rfl rfl ⟨_, rfl, slFrom r1 fun q G1 s1 h1 => ⟨q, rfl, _, .inr (SqT.of h1), fun l hl => ⟨rfl, ?_⟩⟩⟩))
      have t1 := s1.trans (Same.upd (o := .lst (s.rows.drop s.place)) hl)
      have gl : (upd G1 l (.lst (s.rows.drop s.place))) l = some (.lst (s.rows.drop s.place)) := upd_same
      simp only [sv, V.int.injEq]
      (((repeat (first | refine bT rfl ?_ | refine bF rfl ?_ | refine ⟨rfl, ?_⟩)); try (simp only [sc_ii, decide_eq_true_eq, reduceIte, Int.reduceEq, Bool.false_eq_true, true_and, Bool.true_eq_false, Int.reduceLT])))
      generalize upd G1 l (.lst (s.rows.drop s.place)) = G2 at t1 gl
      have D2 := D.same t1
      refine ⟨by decide, fun q2 hq2 => inD35 upd_same ⟨_, rfl, ?_⟩⟩
      have t2 := t1.trans (Same.upd (o := .tup [V.int 3, V.int 5]) hq2)
      have g2 := (Same.upd (o := .tup [V.int 3, V.int 5]) hq2) _ _ gl
      generalize upd G2 q2 (.tup [V.int 3, V.int 5]) = G3 at t2 g2
      refine iteT ?_
      refine (D.same t2).get (l := .others) rfl rfl ⟨_, rfl, _, .inr (SqT.of (t2 _ _ r2)), fun l2 hl2 => ?_⟩
      have t3 := Same.upd (o := .lst s.others) hl2
      refine ⟨l, l2, _, _, rfl, rfl, t3 _ _ g2, upd_same, ?_, fun q5 hq5 => k q5 _ (t2.free (t3.free hq5)) ((t2.trans t3).trans (Same.upd hq5)) ?_⟩
      · rw [List.length_drop]; exact Nat.le_of_lt (small1000 (by omega))
      · rw [upd_same]; congr 2
    · refine D.get (l := .kind) rfl rfl (D.get (l := .rows) rfl rfl (D.get (l := .place) rfl rfl ⟨_, rfl, slFrom r1 fun q G1 s1 h1 => ⟨q, rfl, _, .inr (SqT.of h1), fun l hl => ⟨rfl, ?_⟩⟩⟩))
      have t1 := s1.trans (Same.upd (o := .lst (s.rows.drop s.place)) hl)
      have gl : (upd G1 l (.lst (s.rows.drop s.place))) l = some (.lst (s.rows.drop s.place)) := upd_same
      simp only [sv, V.int.injEq]
      (((repeat (first | refine bT rfl ?_ | refine bF rfl ?_ | refine ⟨rfl, ?_⟩)); try (simp only [sc_ii, decide_eq_true_eq, reduceIte, Int.reduceEq, Bool.false_eq_true, true_and, Bool.true_eq_false, Int.reduceLT])))
      generalize upd G1 l (.lst (s.rows.drop s.place)) = G2 at t1 gl
      have D2 := D.same t1
      refine ⟨by decide, fun q2 hq2 => inD35 upd_same ⟨_, rfl, ?_⟩⟩
      have t2 := t1.trans (Same.upd (o := .tup [V.int 3, V.int 5]) hq2)
      have g2 := (Same.upd (o := .tup [V.int 3, V.int 5]) hq2) _ _ gl
      generalize upd G2 q2 (.tup [V.int 3, V.int 5]) = G3 at t2 g2
      refine iteF (k l G3 (s1.free hl) t2 ?_)
      rw [g2]
      congr 2
theorem sc_l_over : FnScope ["_law_state", "_law_kind"] ["_law_state"] (defScope (top 16)) := ⟨rfl, rfl, rfl, by decide +kernel, rfl, by decide +kernel, by decide +kernel⟩
theorem ok_l_over (T : Tx K mg) : FnOk P w K mg base CX0 1 T.d_l_over.f T.d_l_over.fd ["_law_state"] (spOverL K) := by
  refine T.d_l_over.F.ok sc_l_over (fun vs H Q E h => ?_) (fun cdv A outer s H vs Q E hr h => ?_)
  · obtain ⟨d, kind, many, s, rfl, _⟩ := h
    rfl
  · obtain ⟨d, kind, many, s, rfl, R, D, k⟩ := h
    have hu := hu100 hr
    have hu1 := hu_of hr
    refine ⟨_, (pss_cons (ps_set (i := 1) sc_l_over.nd rfl (Or.inl rfl) (pe_dget hu1 (pv 0) pe_str (fun _ _ => rfl)))
    (pss_cons (ps_if (PW.pt (pw_and (pt_cmpR op_eq (pv 1) pe_int (nomark _)) (pw_and1 (pt_cmpR op_gt (pe_dget hu1 (pv 0) pe_str (fun _ _ => rfl)) pe_int (nomark _)))))
    (pss_cons (ps_dput hu1 (pv 0) pe_str (pe_op op_sub (pe_dget hu1 (pv 0) pe_str (fun _ _ => rfl)) pe_int) rfl)
    (pss_cons (ps_dput hu1 (pv 0) pe_str pe_int rfl)
    (pss_one (ps_ret pe_str))))
    pss_nil)
    (pss_cons (ps_if (pt_cmpR op_eq (pv 1) pe_int (nomark _))
    (pss_one (ps_ret pe_str))
    pss_nil)
    (pss_one (ps_ret (pe_ix ix_list (pe_lst (pa_cons pe_str (pa_cons pe_str pa_nil))) (pe_callTy call_int1 (by rfl) T.n_int bt_int (pa_cons (pe_and (pe_cmpR op_eq (pv 1) pe_int (nomark _)) (pe_one (pe_not (pe_dget hu1 (pv 0) pe_str (fun _ _ => rfl))))) pa_nil)) (fun _ _ => rfl))))))), ?_⟩
    (simp only [tLst, tTup, tDNewK, _root_.L2.start, cxOf_K, cxComp_K, tSeq, tAsg, gName, tRet, tRetN, tDrop, tIfS, tTest, tB, tNot, tAnd, tOr, tAndV, tOrV, tNotV, tOp, tUn, tVar, tC, tCons, tNil, tStrs, tCB, tCall, tChain, tBM, tBM0, tPart, tNoPart, tSl, tIf, tNext, tTrue, selS, Option.bind_none, Option.bind_some, Option.join_some, if_true, rI, rI0, rU, rEq, rNe, rStarts, rSlS, lenV_str, tyV, List.map_cons, List.map_nil, List.length_cons, List.length_nil, List.replicate, List.cons_append, List.nil_append, List.append_nil, Nat.reduceAdd, Nat.reduceSub, Nat.zero_add, Nat.add_zero, Nat.sub_self, List.getElem?_cons_zero, List.getElem?_cons_succ, List.set_cons_zero, List.set_cons_succ, Option.some.injEq, V.int.injEq, V.str.injEq, V.ref.injEq, V.bl.injEq, V.ty.injEq, List.cons.injEq, exists_eq_left, exists_eq_left', exists_eq_right, exists_and_left, exists_eq, and_true, true_and, and_self, and_assoc, tEither, tMeth, tMake, tCMeth, tDIn, tDNotIn, tDPop1, tNever])
    refine D.get (l := .kind) rfl rfl ⟨rfl, ?_⟩
    simp only [sv, V.int.injEq]
    have kk : ∀ H', Same H H' → ¬ kd kind = .rounds → Q (.str (overF (kd kind) s)) H' := fun H' s' hn => k H' H (But.refl _ _) (by rw [overS_no hn]; exact D) s'
    rcases seven R.k0 with rfl | rfl | rfl | rfl | rfl | rfl | rfl
    all_goals (((repeat (first | refine bT rfl ?_ | refine bF rfl ?_ | refine ⟨rfl, ?_⟩)); try (simp only [sc_ii, decide_eq_true_eq, reduceIte, Int.reduceEq, Bool.false_eq_true, true_and, Bool.true_eq_false, Int.reduceLT])))
    · exact pickL rfl fun H' s' => kk H' s' (by decide)
    · refine D.get (l := .left) rfl rfl ⟨_, rfl, ?_⟩
      by_cases e : 0 < s.left
      · rw [if_pos e]
        have e1 : overF (kd 1) s = "on" := by show (if s.left < 1 then _ else _) = _; rw [if_neg (by omega)]
        have e2 : overS (kd 1) s = { s with left := s.left - 1, place := 0 } := by show overS .rounds s = _; unfold overS; rw [if_pos ⟨rfl, by omega⟩]
        rw [e1, e2] at k
        simp only [sDPut, tOp, tC]
        refine D.get (l := .left) rfl rfl ⟨_, _, rfl, rfl, D.set (l := .left) rfl (fun z => nomatch z) fun H2 b2 D2 => ?_⟩
        simp only [tSeq, sDPut, tC]
        refine D2.set (l := .place) rfl (fun z => nomatch z) fun H3 b3 D3 => ?_
        refine k H3 H3 (b2.trans b3) ?_ (Same.refl _)
        refine cast ?_ D3
        congr 1
        funext l
        cases l <;> rfl
      · rw [if_neg e]
        have e1 : overF (kd 1) s = "out" := by show (if s.left < 1 then _ else _) = _; rw [if_pos (by omega)]
        have e2 : overS (kd 1) s = s := by show overS .rounds s = _; unfold overS; rw [if_neg (fun z => z.2 (by omega))]
        rw [e1, e2] at k
        exact pickL rfl fun H' s' => k H' H (But.refl _ _) D s'
    · exact pickL rfl fun H' s' => kk H' s' (by decide)
    · exact pickL rfl fun H' s' => kk H' s' (by decide)
    · refine ⟨by decide, fun q hq => ?_⟩
      have t := Same.upd (o := .lst [V.str "out", V.str "clean"]) hq
      refine (D.same t).get (l := .cleaning) rfl rfl ⟨_, rfl, .inr ?_⟩
      have k4 := kk (upd H q (.lst [V.str "out", V.str "clean"])) t (by decide)
      have em : overF (kd 4) s = if s.cleaning = true then ("out" : Str) else "clean" := rfl
      rw [em] at k4
      cases e : s.cleaning with
      | true =>
        rw [e, if_pos rfl] at k4
        exact ⟨q, _, _, _, rfl, rfl, SqL.of upd_same, rfl, k4⟩
      | false =>
        rw [e, if_neg (by decide)] at k4
        exact ⟨q, _, _, _, rfl, rfl, SqL.of upd_same, rfl, k4⟩
    · exact pickL rfl fun H' s' => kk H' s' (by decide)
    · exact kk H (Same.refl _) (by decide)
theorem sc_l_held : FnScope ["_law_held_here", "_law_pair"] ["_law_held_here"] (defScope (top 11)) := ⟨rfl, rfl, rfl, by decide +kernel, rfl, by decide +kernel, by decide +kernel⟩
theorem ok_l_held (T : Tx K mg) : FnOk P w K mg base CX0 1 T.d_l_held.f T.d_l_held.fd ["_law_held_here"] (spHeld K) := by
  refine T.d_l_held.F.ok sc_l_held (fun vs H Q E h => ?_) (fun cdv A outer s H vs Q E hr h => ?_)
  · obtain ⟨h, n, rfl, _⟩ := h
    rfl
  · obtain ⟨h, n, rfl, A, k⟩ := h
    have hu := hu100 hr
    obtain ⟨ts, e, hl, hp⟩ := A
    refine ⟨_, (pss_cons (ps_for PassesOwn.never rfl (pi_list (pv 0)) (pg_name (i := 1) sc_l_held.nd rfl (Or.inl rfl))
    (pss_one (ps_if (pt_cmpR (op_neL hu) (pe_ix ix_tup (pv 1) pe_int (fun _ _ => rfl)) (pe_ix ix_tup (pv 1) pe_int (fun _ _ => rfl)) (nomark _))
    (pss_one (ps_ret pe_bl))
    pss_nil)))
    (pss_one (ps_ret pe_bl))), ?_⟩
    refine ⟨_, rfl, h, rfl, ⟨_, SqL.of e⟩, ?_⟩
    refine for_list (K := K) (a := h) (xs := ts.map V.ref) (fun i σ G => ∃ v : Option V, σ = [some (.ref h), v] ∧ Same H G) ⟨_, rfl, Same.refl _⟩ (fun i σ G _ ⟨_, _, sG⟩ => SqL.of (sG _ _ e)) ?_ ?_
    · rintro i y σ G hi ⟨v, rfl, sG⟩
      rw [List.getElem?_map] at hi
      cases et : ts[i]? with
      | none => rw [et] at hi; cases hi
      | some t =>
        rw [et] at hi
        cases hi
        obtain ⟨a, b, xs, p1, p2, p3, _, _, _, p6⟩ := hp t (List.mem_of_getElem? et)
        (simp only [_root_.L2.start, cxOf_K, cxComp_K, tSeq, tAsg, gName, tRet, tRetN, tDrop, tIfS, tTest, tB, tNot, tAnd, tOr, tAndV, tOrV, tNotV, tOp, tUn, tVar, tC, tCons, tNil, tStrs, tCB, tCall, tChain, tBM, tBM0, tPart, tNoPart, tSl, tIf, tNext, tTrue, selS, Option.bind_none, Option.bind_some, Option.join_some, if_true, rI, rI0, rU, rEq, rNe, rStarts, rSlS, lenV_str, tyV, List.map_cons, List.map_nil, List.length_cons, List.length_nil, List.replicate, List.cons_append, List.nil_append, List.append_nil, Nat.reduceAdd, Nat.reduceSub, Nat.zero_add, Nat.add_zero, Nat.sub_self, List.getElem?_cons_zero, List.getElem?_cons_succ, List.set_cons_zero, List.set_cons_succ, Option.some.injEq, V.int.injEq, V.str.injEq, V.ref.injEq, V.bl.injEq, V.ty.injEq, List.cons.injEq, exists_eq_left, exists_eq_left', exists_eq_right, exists_and_left, exists_eq, and_true, true_and, and_self, and_assoc, tEither, tMeth, tMake, tCMeth, tDIn, tDNotIn, tDPop1, tNever])
        refine ⟨t, _, _, _, rfl, rfl, SqT.of (sG _ _ p1), atI_nat (j := 0) rfl, t, _, _, _, rfl, rfl, SqT.of (sG _ _ p1), atI_nat (j := 1) rfl, ?_⟩
        exact neSame (sG _ _ p2) (sG _ _ p3) p6 ⟨_, rfl, iteF sG⟩
    · rintro σ G ⟨v, rfl, sG⟩
      exact k G sG
theorem sc_l_asked : FnScope ["_law_frame", "_law_state", "_law_pick", "_law_held_here", "_law_signal", "_law_hides", "_law_found"] ["_law_frame", "_law_state", "_law_pick", "_law_held_here"] (defScope (top 17)) := ⟨rfl, rfl, rfl, by decide +kernel, rfl, by decide +kernel, by decide +kernel⟩
theorem ok_l_asked (T : Tx K mg) (G_meets : ∀ c, FnOk P w K mg base CX0 1 (T.m_meets c).f (T.m_meets c).fd ["self", "signal"] (spMeets T c)) (G_hides : ∀ c, FnOk P w K mg base CX0 1 (T.m_hides c).f (T.m_hides c).fd ["self"] (spHides T c)) (G_behind : ∀ c, FnOk P w K mg base CX0 2 (T.m_behind c).f (T.m_behind c).fd ["self"] (spBehind T c))
    (G_l_meets : FnOk P w K mg base CX0 1 T.d_l_meets.f T.d_l_meets.fd ["_law_kind", "_law_many", "_law_cleaning", "_law_signal"] (spMeetsL K))
    (G_l_behind : FnOk P w K mg base CX0 1 T.d_l_behind.f T.d_l_behind.fd ["_law_state"] (spBehindL K)) : FnOk P w K mg base CX0 3 T.d_l_asked.f T.d_l_asked.fd ["_law_frame", "_law_state", "_law_pick", "_law_held_here"] (spAsked T) := by
  refine T.d_l_asked.F.ok sc_l_asked (fun vs H Q E h => ?_) (fun cdv A outer s H vs Q E hr h => ?_)
  · obtain ⟨p, d, h, kind, many, pick, s, n, rfl, _⟩ := h
    rfl
  · obtain ⟨p, d, h, kind, many, pick, s, n, rfl, F, D, R, rf, A, hn, k⟩ := h
    have hu := hu100 hr
    have hu1 := hu_of hr
    obtain ⟨c, hc⟩ : ∃ c, c = kd kind := ⟨_, rfl⟩
    rw [← hc] at F
    refine ⟨_, (pss_cons (ps_set (i := 4) sc_l_asked.nd rfl (Or.inl rfl) (pe_ix ix_list (pe_lst (pa_cons (pe_tup (pa_cons pe_str (pa_cons (pe_dget hu1 (pv 1) pe_str (fun _ _ => rfl)) pa_nil))) (pa_cons (pe_tup (pa_cons pe_str (pa_cons (pe_op op_add (pe_dget hu1 (pv 1) pe_str (fun _ _ => rfl)) pe_int) pa_nil))) (pa_cons (pe_tup (pa_cons pe_str (pa_cons (pe_tup (pa_cons pe_str pa_nil)) pa_nil))) (pa_cons (pe_tup (pa_cons pe_str (pa_cons (pe_tup (pa_cons pe_str (pa_cons pe_str pa_nil))) pa_nil))) (pa_cons (pe_tup (pa_cons pe_str (pa_cons (pe_tup (pa_cons pe_str (pa_cons pe_str pa_nil))) pa_nil))) pa_nil)))))) (pe_op op_mod (pe_op op_fdiv (pv 2) pe_int) pe_int) (fun _ _ => rfl)))
    (pss_cons (ps_if (pt_cmpR op_ne (pe_meth (pv 0) (T.cl c) (T.m_meets c).me (G_meets c) (hr.mono (by omega)) (T.m_meets c).b .nil pass0 (pa_cons (pv 4) pa_nil)) (pe_call G_l_meets (hr.mono (by omega)) rfl T.d_l_meets.hm T.d_l_meets.F.kp T.d_l_meets.b .nil pass0 (pa_cons (pe_dget hu1 (pv 1) pe_str (fun _ _ => rfl)) (pa_cons (pe_dget hu1 (pv 1) pe_str (fun _ _ => rfl)) (pa_cons (pe_dget hu1 (pv 1) pe_str (fun _ _ => rfl)) (pa_cons (pv 4) pa_nil))))) (nomark _))
    (pss_one (ps_ret pe_bl))
    pss_nil)
    (pss_cons (ps_set (i := 5) sc_l_asked.nd rfl (Or.inl rfl) (pe_meth0 (pv 0) (T.cl c) (T.m_hides c).me (G_hides c) (hr.mono (by omega)) (T.m_hides c).b .nil pass0))
    (pss_cons (ps_if (PW.pt (pw_or (pt_not (pt_val (pe_callB call_isinst (by rfl) T.n_isinstance bt_isinstance (pa_cons (pv 5) (pa_cons (pe_bltn (v := .ty "bool") rfl T.n_bool bt_bool rfl) pa_nil))))) (pw_or1 (pt_cmpR op_ne (pv 5) (pe_or (pe_cmpR op_eq (pe_dget hu1 (pv 1) pe_str (fun _ _ => rfl)) pe_int (nomark _)) (pe_one (pe_dget hu1 (pv 1) pe_str (fun _ _ => rfl)))) (nomark _)))))
    (pss_one (ps_ret pe_bl))
    pss_nil)
    (pss_cons (ps_set (i := 6) sc_l_asked.nd rfl (Or.inl rfl) (pe_meth0 (pv 0) (T.cl c) (T.m_behind c).me (G_behind c) (hr.mono (by omega)) (T.m_behind c).b .nil pass0))
    (pss_cons (ps_if (PW.pt (pw_or (pt_not (pt_val (pe_callB call_isinst (by rfl) T.n_isinstance bt_isinstance (pa_cons (pv 6) (pa_cons (pe_bltn (v := .ty "list") rfl T.n_list bt_list rfl) pa_nil))))) (pw_or1 (pt_cmpR (op_neL hu) (pv 6) (pe_call G_l_behind (hr.mono (by omega)) rfl T.d_l_behind.hm T.d_l_behind.F.kp T.d_l_behind.b .nil pass0 (pa_cons (pv 1) pa_nil)) (nomark _)))))
    (pss_one (ps_ret pe_bl))
    pss_nil)
    (pss_cons (ps_expr (pe_bm PySem.F.plainAttrs_list PySem.F.slot_list_append PySem.F.type_list_append mt_append (pv 6) (pa_cons pe_non pa_nil)))
    (pss_cons (ps_expr (pe_bm PySem.F.plainAttrs_list PySem.F.slot_list_append PySem.F.type_list_append mt_append (pv 3) (pa_cons (pe_tup (pa_cons (pv 6) (pa_cons (pe_callTy call_list_of (by rfl) T.n_list bt_list (pa_cons (pv 6) pa_nil)) pa_nil))) pa_nil)))
    (pss_one (ps_ret pe_bl)))))))))), ?_⟩
    refine seq_hold fun U hU => ?_
    (simp only [tLst, tTup, tDNewK, _root_.L2.start, cxOf_K, cxComp_K, tSeq, tAsg, gName, tRet, tRetN, tDrop, tIfS, tTest, tB, tNot, tAnd, tOr, tAndV, tOrV, tNotV, tOp, tUn, tVar, tC, tCons, tNil, tStrs, tCB, tCall, tChain, tBM, tBM0, tPart, tNoPart, tSl, tIf, tNext, tTrue, selS, Option.bind_none, Option.bind_some, Option.join_some, if_true, rI, rI0, rU, rEq, rNe, rStarts, rSlS, lenV_str, tyV, List.map_cons, List.map_nil, List.length_cons, List.length_nil, List.replicate, List.cons_append, List.nil_append, List.append_nil, Nat.reduceAdd, Nat.reduceSub, Nat.zero_add, Nat.add_zero, Nat.sub_self, List.getElem?_cons_zero, List.getElem?_cons_succ, List.set_cons_zero, List.set_cons_succ, Option.some.injEq, V.int.injEq, V.str.injEq, V.ref.injEq, V.bl.injEq, V.ty.injEq, List.cons.injEq, exists_eq_left, exists_eq_left', exists_eq_right, exists_and_left, exists_eq, and_true, true_and, and_self, and_assoc, tEither, tMeth, tMake, tCMeth, tDIn, tDNotIn, tDPop1, tNever])
    refine D.get (l := .many) rfl rfl ⟨by decide, fun q1 h1 => ?_⟩
    simp only [sv]
    have t1 := Same.upd (o := .tup [V.str "strike", V.int many]) h1
    have a1 : (upd H q1 (.tup [V.str "strike", V.int many])) q1 = some (.tup [V.str "strike", V.int many]) := upd_same
    generalize upd H q1 (.tup [V.str "strike", V.int many]) = G1 at t1 a1 ⊢
    refine (D.same t1).get (l := .many) rfl rfl ⟨_, rfl, by decide, fun q2 h2 => ?_⟩
    have u2 := Same.upd (o := .tup [V.str "strike", V.int (many + 1)]) h2
    have a2 : (upd G1 q2 (.tup [V.str "strike", V.int (many + 1)])) q2 = some (.tup [V.str "strike", V.int (many + 1)]) := upd_same
    have t2 := t1.trans u2
    generalize upd G1 q2 (.tup [V.str "strike", V.int (many + 1)]) = G2 at u2 a2 t2 ⊢
    refine ⟨by decide, fun q3 h3 => ?_⟩
    have u3 := Same.upd (o := .tup [V.str "boom"]) h3
    have a3 : (upd G2 q3 (.tup [V.str "boom"])) q3 = some (.tup [V.str "boom"]) := upd_same
    have t3 := t2.trans u3
    generalize upd G2 q3 (.tup [V.str "boom"]) = G3 at u3 a3 t3 ⊢
    refine ⟨by decide, fun q4 h4 => ?_⟩
    have u4 := Same.upd (o := .tup [V.str "faults", V.ref q3]) h4
    have a4 : (upd G3 q4 (.tup [V.str "faults", V.ref q3])) q4 = some (.tup [V.str "faults", V.ref q3]) := upd_same
    have t4 := t3.trans u4
    generalize upd G3 q4 (.tup [V.str "faults", V.ref q3]) = G4 at u4 a4 t4 ⊢
    refine ⟨by decide, fun q5 h5 => ?_⟩
    have u5 := Same.upd (o := .tup [V.str "oops", V.str "boom"]) h5
    have a5 : (upd G4 q5 (.tup [V.str "oops", V.str "boom"])) q5 = some (.tup [V.str "oops", V.str "boom"]) := upd_same
    have t5 := t4.trans u5
    generalize upd G4 q5 (.tup [V.str "oops", V.str "boom"]) = G5 at u5 a5 t5 ⊢
    refine ⟨by decide, fun q6 h6 => ?_⟩
    have u6 := Same.upd (o := .tup [V.str "faults", V.ref q5]) h6
    have a6 : (upd G5 q6 (.tup [V.str "faults", V.ref q5])) q6 = some (.tup [V.str "faults", V.ref q5]) := upd_same
    have t6 := t5.trans u6
    generalize upd G5 q6 (.tup [V.str "faults", V.ref q5]) = G6 at u6 a6 t6 ⊢
    refine ⟨by decide, fun q7 h7 => ?_⟩
    have u7 := Same.upd (o := .tup [V.str "boom", V.str "oops"]) h7
    have a7 : (upd G6 q7 (.tup [V.str "boom", V.str "oops"])) q7 = some (.tup [V.str "boom", V.str "oops"]) := upd_same
    have t7 := t6.trans u7
    generalize upd G6 q7 (.tup [V.str "boom", V.str "oops"]) = G7 at u7 a7 t7 ⊢
    refine ⟨by decide, fun q8 h8 => ?_⟩
    have u8 := Same.upd (o := .tup [V.str "faults", V.ref q7]) h8
    have a8 : (upd G7 q8 (.tup [V.str "faults", V.ref q7])) q8 = some (.tup [V.str "faults", V.ref q7]) := upd_same
    have t8 := t7.trans u8
    generalize upd G7 q8 (.tup [V.str "faults", V.ref q7]) = G8 at u8 a8 t8 ⊢
    refine ⟨by decide, fun q9 h9 => ?_⟩
    have u9 := Same.upd (o := .lst [V.ref q1, V.ref q2, V.ref q4, V.ref q6, V.ref q8]) h9
    have a9 : (upd G8 q9 (.lst [V.ref q1, V.ref q2, V.ref q4, V.ref q6, V.ref q8])) q9 = some (.lst [V.ref q1, V.ref q2, V.ref q4, V.ref q6, V.ref q8]) := upd_same
    have t9 := t8.trans u9
    generalize upd G8 q9 (.lst [V.ref q1, V.ref q2, V.ref q4, V.ref q6, V.ref q8]) = G9 at u9 a9 t9 ⊢
    refine ⟨⟨by decide, by decide⟩, by decide, ?_⟩
    have v8 := u9
    have v7 := u8.trans v8
    have v6 := u7.trans v7
    have v5 := u6.trans v6
    have v4 := u5.trans v5
    have v3 := u4.trans v4
    have v2 := u3.trans v3
    have v1 := u2.trans v2
    obtain ⟨tg, g, hat, hg⟩ : ∃ (tg : Addr) (g : Sig), atI [V.ref q1, V.ref q2, V.ref q4, V.ref q6, V.ref q8] (pick / 8 % 5) = some (V.ref tg) ∧ SigAt G9 tg g := by
      rcases (by omega : pick / 8 % 5 = 0 ∨ pick / 8 % 5 = 1 ∨ pick / 8 % 5 = 2 ∨ pick / 8 % 5 = 3 ∨ pick / 8 % 5 = 4) with z | z | z | z | z <;> rw [z]
      · exact ⟨q1, .strike many, rfl, v1 _ _ a1⟩
      · exact ⟨q2, .strike (many + 1), rfl, v2 _ _ a2⟩
      · exact ⟨q4, .faults "boom" [], rfl, q3, v4 _ _ a4, v3 _ _ a3⟩
      · exact ⟨q6, .faults "oops" ["boom"], rfl, q5, v6 _ _ a6, v5 _ _ a5⟩
      · exact ⟨q8, .faults "boom" ["oops"], rfl, q7, v8 _ _ a8, v7 _ _ a7⟩
    refine ⟨q9, _, _, _, rfl, rfl, SqL.of a9, hat, hU _ _ ?_⟩
    (simp only [tLst, tTup, tDNewK, _root_.L2.start, cxOf_K, cxComp_K, tSeq, tAsg, gName, tRet, tRetN, tDrop, tIfS, tTest, tB, tNot, tAnd, tOr, tAndV, tOrV, tNotV, tOp, tUn, tVar, tC, tCons, tNil, tStrs, tCB, tCall, tChain, tBM, tBM0, tPart, tNoPart, tSl, tIf, tNext, tTrue, selS, Option.bind_none, Option.bind_some, Option.join_some, if_true, rI, rI0, rU, rEq, rNe, rStarts, rSlS, lenV_str, tyV, List.map_cons, List.map_nil, List.length_cons, List.length_nil, List.replicate, List.cons_append, List.nil_append, List.append_nil, Nat.reduceAdd, Nat.reduceSub, Nat.zero_add, Nat.add_zero, Nat.sub_self, List.getElem?_cons_zero, List.getElem?_cons_succ, List.set_cons_zero, List.set_cons_succ, Option.some.injEq, V.int.injEq, V.str.injEq, V.ref.injEq, V.bl.injEq, V.ty.injEq, List.cons.injEq, exists_eq_left, exists_eq_left', exists_eq_right, exists_and_left, exists_eq, and_true, true_and, and_self, and_assoc, tEither, tMeth, tMake, tCMeth, tDIn, tDNotIn, tDPop1, tNever])
    clear v1 v2 v3 v4 v5 v6 v7 v8 a1 a2 a3 a4 a5 a6 a7 a8 a9 u2 u3 u4 u5 u6 u7 u8 u9 hat
    have F9 := F.same t9
    have D9 := D.same t9
    refine F9.mt nf_meets ⟨p, tg, s, g, rfl, F9, hg, fun z => ⟨many, R.sc (kd_lim R.k0 (hc.symm.trans z))⟩, fun G10 t10 => ?_⟩
    have D10 := D9.same t10
    refine D10.get (l := .kind) rfl rfl (D10.get (l := .many) rfl rfl (D10.get (l := .cleaning) rfl rfl ⟨kind, many, s, tg, g, rfl, R, hg.same t10, fun G11 t11 => ⟨rfl, iteNS (by rw [hc]) ?_⟩⟩))
    have F11 := F9.same (t10.trans t11)
    have D11 := D10.same t11
    have s11 := t9.trans (t10.trans t11)
    refine F11.mt nf_hides ⟨p, s, rfl, F11, _, .bl _, true, rfl, ?_⟩
    rw [if_neg (show ¬ ((!true) = true) by decide)]
    have eh := hides_eq R
    rw [← hc] at eh
    refine D11.get (l := .kind) rfl rfl ⟨rfl, ?_⟩
    by_cases e : kind = 2
    · rw [if_pos e] at eh
      refine ifT (by rw [e]; rfl) ⟨rfl, iteNS (by rw [eh]) ?_⟩
      refine F11.mt nf_behind ⟨p, s, rfl, F11, fun l G12 hl t12 hL => ⟨_, .lst hL, true, rfl, ?_⟩⟩
      rw [if_neg (show ¬ ((!true) = true) by decide)]
      have s12 := s11.trans t12
      refine ⟨d, kind, many, s, rfl, R, D11.same t12, ⟨s12 _ _ F.rs, s12 _ _ F.os, F.pl, F.rl, F.ol⟩, fun l2 G13 hl2 t13 hL2 => ?_⟩
      rw [← hc] at hL2
      have hbr := behind_refs (c := c) rf
      have hbl := behind_len (c := c) F.rl F.ol
      have s13 := s12.trans t13
      have hlH : H l = none := s11.free hl
      refine neSame (t13 _ _ hL) hL2 (fun x hx => .inr (hbr x hx)) ⟨_, rfl, iteF ⟨.inl ⟨_, SqL.of (t13 _ _ hL)⟩, ?_⟩⟩
      refine ⟨l, _, _, rfl, rfl, t13 _ _ hL, small1000 (by omega), ?_⟩
      have s14 : Same H (upd G13 l (.lst (behindF c s ++ [V.non]))) := fun b o z => by rw [upd_ne (ne_of_none z hlH)]; exact s13 b o z
      have gl : (upd G13 l (.lst (behindF c s ++ [V.non]))) l = some (.lst (behindF c s ++ [V.non])) := upd_same
      generalize upd G13 l (.lst (behindF c s ++ [V.non])) = G14 at s14 gl
      have nlh : l ≠ h := by
        obtain ⟨ts, e1, _⟩ := A
        exact fun z => by rw [z, e1] at hlH; cases hlH
      have A14 := A.same s14
      refine ⟨.inl (by obtain ⟨ts, e1, _⟩ := A14; exact ⟨_, SqL.of e1⟩), l, rfl, _, .inl (SqL.of gl), fun l3 hl3 => ⟨by decide, fun q hq => ?_⟩⟩
      have t15 : Same G14 (upd (upd G14 l3 (.lst (behindF c s ++ [V.non]))) q (.tup [V.ref l, V.ref l3])) := (Same.upd hl3).trans (Same.upd hq)
      have nql : l3 ≠ q := ne_of_none upd_same hq
      have g3 : (upd (upd G14 l3 (.lst (behindF c s ++ [V.non]))) q (.tup [V.ref l, V.ref l3])) l3 = some (.lst (behindF c s ++ [V.non])) := by rw [upd_ne nql, upd_same]
      have gq : (upd (upd G14 l3 (.lst (behindF c s ++ [V.non]))) q (.tup [V.ref l, V.ref l3])) q = some (.tup [V.ref l, V.ref l3]) := upd_same
      have gl' := t15 _ _ gl
      have nl3 : l3 ≠ h := by
        obtain ⟨ts, e1, _⟩ := A14
        exact fun z => by rw [z, e1] at hl3; cases hl3
      have A15 := A14.same t15
      have s15 := s14.trans t15
      generalize upd (upd G14 l3 (.lst (behindF c s ++ [V.non]))) q (.tup [V.ref l, V.ref l3]) = G15 at t15 g3 gq gl' A15 s15
      obtain ⟨ts, e1, e2, e3⟩ := A15
      have bt : But h G15 (upd G15 h (.lst (ts.map V.ref ++ [V.ref q]))) := fun b o nb z => by rw [upd_ne nb]; exact z
      refine ⟨h, _, _, rfl, rfl, e1, by rw [List.length_map]; exact small1000 (by omega), k _ (fun b o nb z => bt b o nb (s15 b o z)) ⟨ts ++ [q], by rw [upd_same, List.map_append]; rfl, by rw [List.length_append]; exact Nat.add_le_add_right e2 1, fun t ht => ?_⟩⟩
      rcases List.mem_append.mp ht with ht | ht
      · exact (e3 t ht).keep e1 bt
      · rw [List.mem_singleton.mp ht]
        refine ⟨l, l3, _, bt _ _ (ne_of gq e1 (fun z => nomatch z)) gq, bt _ _ nlh gl', bt _ _ nl3 g3, nlh, nl3, by rw [List.length_append]; exact Nat.le_trans (Nat.add_le_add_right hbl 1) (by decide), fun x hx => ?_⟩
        rcases List.mem_append.mp hx with hx | hx
        · exact .inr (hbr x hx)
        · exact .inl (List.mem_singleton.mp hx)
    · rw [if_neg e] at eh
      refine ifF (fun z => e (V.int.inj z)) (D11.get (l := .cleaning) rfl rfl ⟨rfl, iteNS (by rw [eh]; rfl) ?_⟩)
      refine F11.mt nf_behind ⟨p, s, rfl, F11, fun l G12 hl t12 hL => ⟨_, .lst hL, true, rfl, ?_⟩⟩
      rw [if_neg (show ¬ ((!true) = true) by decide)]
      have s12 := s11.trans t12
      refine ⟨d, kind, many, s, rfl, R, D11.same t12, ⟨s12 _ _ F.rs, s12 _ _ F.os, F.pl, F.rl, F.ol⟩, fun l2 G13 hl2 t13 hL2 => ?_⟩
      rw [← hc] at hL2
      have hbr := behind_refs (c := c) rf
      have hbl := behind_len (c := c) F.rl F.ol
      have s13 := s12.trans t13
      have hlH : H l = none := s11.free hl
      refine neSame (t13 _ _ hL) hL2 (fun x hx => .inr (hbr x hx)) ⟨_, rfl, iteF ⟨.inl ⟨_, SqL.of (t13 _ _ hL)⟩, ?_⟩⟩
      refine ⟨l, _, _, rfl, rfl, t13 _ _ hL, small1000 (by omega), ?_⟩
      have s14 : Same H (upd G13 l (.lst (behindF c s ++ [V.non]))) := fun b o z => by rw [upd_ne (ne_of_none z hlH)]; exact s13 b o z
      have gl : (upd G13 l (.lst (behindF c s ++ [V.non]))) l = some (.lst (behindF c s ++ [V.non])) := upd_same
      generalize upd G13 l (.lst (behindF c s ++ [V.non])) = G14 at s14 gl
      have nlh : l ≠ h := by
        obtain ⟨ts, e1, _⟩ := A
        exact fun z => by rw [z, e1] at hlH; cases hlH
      have A14 := A.same s14
      refine ⟨.inl (by obtain ⟨ts, e1, _⟩ := A14; exact ⟨_, SqL.of e1⟩), l, rfl, _, .inl (SqL.of gl), fun l3 hl3 => ⟨by decide, fun q hq => ?_⟩⟩
      have t15 : Same G14 (upd (upd G14 l3 (.lst (behindF c s ++ [V.non]))) q (.tup [V.ref l, V.ref l3])) := (Same.upd hl3).trans (Same.upd hq)
      have nql : l3 ≠ q := ne_of_none upd_same hq
      have g3 : (upd (upd G14 l3 (.lst (behindF c s ++ [V.non]))) q (.tup [V.ref l, V.ref l3])) l3 = some (.lst (behindF c s ++ [V.non])) := by rw [upd_ne nql, upd_same]
      have gq : (upd (upd G14 l3 (.lst (behindF c s ++ [V.non]))) q (.tup [V.ref l, V.ref l3])) q = some (.tup [V.ref l, V.ref l3]) := upd_same
      have gl' := t15 _ _ gl
      have nl3 : l3 ≠ h := by
        obtain ⟨ts, e1, _⟩ := A14
        exact fun z => by rw [z, e1] at hl3; cases hl3
      have A15 := A14.same t15
      have s15 := s14.trans t15
      generalize upd (upd G14 l3 (.lst (behindF c s ++ [V.non]))) q (.tup [V.ref l, V.ref l3]) = G15 at t15 g3 gq gl' A15 s15
      obtain ⟨ts, e1, e2, e3⟩ := A15
      have bt : But h G15 (upd G15 h (.lst (ts.map V.ref ++ [V.ref q]))) := fun b o nb z => by rw [upd_ne nb]; exact z
      refine ⟨h, _, _, rfl, rfl, e1, by rw [List.length_map]; exact small1000 (by omega), k _ (fun b o nb z => bt b o nb (s15 b o z)) ⟨ts ++ [q], by rw [upd_same, List.map_append]; rfl, by rw [List.length_append]; exact Nat.add_le_add_right e2 1, fun t ht => ?_⟩⟩
      rcases List.mem_append.mp ht with ht | ht
      · exact (e3 t ht).keep e1 bt
      · rw [List.mem_singleton.mp ht]
        refine ⟨l, l3, _, bt _ _ (ne_of gq e1 (fun z => nomatch z)) gq, bt _ _ nlh gl', bt _ _ nl3 g3, nlh, nl3, by rw [List.length_append]; exact Nat.le_trans (Nat.add_le_add_right hbl 1) (by decide), fun x hx => ?_⟩
        rcases List.mem_append.mp hx with hx | hx
        · exact .inr (hbr x hx)
        · exact .inl (List.mem_singleton.mp hx)
theorem sc_law : FnScope ["_law_script", "_law_kind", "_law_many", "_law_rows", "_law_others", "_law_state", "_law_frame", "_law_held_here", "_law_k", "_law_pick", "_law_due", "_law_found"] ["_law_script"] (defScope (top 18)) := ⟨rfl, rfl, rfl, by decide +kernel, rfl, by decide +kernel, by decide +kernel⟩
theorem ok_law (T : Tx K mg) {f : Addr} {fd : FuncData} (F : Fun K "law" "law" (top 18) f fd) (G_next_row : ∀ c, FnOk P w K mg base CX0 1 (T.m_next_row c).f (T.m_next_row c).fd ["self"] (spNext T)) (G_over : ∀ c, FnOk P w K mg base CX0 2 (T.m_over c).f (T.m_over c).fd ["self"] (spOver T c)) (G_clean : FnOk P w K mg base CX0 2 T.m_clean.f T.m_clean.fd ["self", "signal"] (spClean T))
    (G_l_cell_at : FnOk P w K mg base CX0 1 T.d_l_cell_at.f T.d_l_cell_at.fd ["_law_script", "_law_k"] (spCell K))
    (G_l_mixed : FnOk P w K mg base CX0 1 T.d_l_mixed.f T.d_l_mixed.fd ["_law_cell", "_law_k"] (spMixed))
    (G_l_made : FnOk P w K mg base CX0 4 T.d_l_made.f T.d_l_made.fd ["_law_kind", "_law_rows", "_law_others", "_law_many"] (spMade T))
    (G_l_over : FnOk P w K mg base CX0 1 T.d_l_over.f T.d_l_over.fd ["_law_state"] (spOverL K))
    (G_l_held : FnOk P w K mg base CX0 1 T.d_l_held.f T.d_l_held.fd ["_law_held_here"] (spHeld K))
    (G_l_asked : FnOk P w K mg base CX0 3 T.d_l_asked.f T.d_l_asked.fd ["_law_frame", "_law_state", "_law_pick", "_law_held_here"] (spAsked T)) : FnOk P w K mg base CX0 6 f fd ["_law_script"] (spLaw K) := by
  refine F.ok sc_law (fun vs H Q E h => ?_) (fun cdv A outer s H vs Q E hr h => ?_)
  · obtain ⟨a, ns, rfl, _⟩ := h
    rfl
  · obtain ⟨a, ns, rfl, ha, hns, k⟩ := h
    have hu := hu100 hr
    have hu1 := hu_of hr
    obtain ⟨c, hc⟩ : ∃ c : Kd, c = kd (cellF ns 0 % 7) := ⟨_, rfl⟩
    refine ⟨_, (pss_cons (ps_set (i := 1) sc_law.nd rfl (Or.inl rfl) (pe_op op_mod (pe_call G_l_cell_at (hr.mono (by omega)) rfl T.d_l_cell_at.hm T.d_l_cell_at.F.kp T.d_l_cell_at.b .nil pass0 (pa_cons (pv 0) (pa_cons pe_int pa_nil))) pe_int))
    (pss_cons (ps_set (i := 2) sc_law.nd rfl (Or.inl rfl) (pe_op op_add pe_int (pe_op op_mod (pe_call G_l_cell_at (hr.mono (by omega)) rfl T.d_l_cell_at.hm T.d_l_cell_at.F.kp T.d_l_cell_at.b .nil pass0 (pa_cons (pv 0) (pa_cons pe_int pa_nil))) pe_int)))
    (pss_cons (ps_set (i := 3) sc_law.nd rfl (Or.inl rfl) (pe_callTy call_tuple_of (by rfl) T.n_tuple bt_tuple (pa_cons (pe_lc (N' := ["_law_k"]) (sel := [none]) rfl rfl rfl (pi_range1 rfl T.n_range (pa_cons (pe_op op_mod (pe_op op_fdiv (pe_call G_l_cell_at (hr.mono (by omega)) rfl T.d_l_cell_at.hm T.d_l_cell_at.F.kp T.d_l_cell_at.b .nil pass0 (pa_cons (pv 0) (pa_cons pe_int pa_nil))) pe_int) pe_int) pa_nil)) (gk_name rfl) (fun _ _ _ _ _ => ⟨(pg_name (i := 0) (show (["_law_k"] : List Str).Nodup by decide +kernel) rfl (Or.inl rfl)), pts_nil, (pe_tup (pa_cons pe_str (pa_cons (pe_op op_add pe_int (pv 0)) (pa_cons (pe_op op_add pe_int (pv 0)) pa_nil))))⟩)) pa_nil)))
    (pss_cons (ps_set (i := 4) sc_law.nd rfl (Or.inl rfl) (pe_callTy call_tuple_of (by rfl) T.n_tuple bt_tuple (pa_cons (pe_lc (N' := ["_law_k"]) (sel := [none]) rfl rfl rfl (pi_range1 rfl T.n_range (pa_cons (pe_op op_mod (pe_op op_fdiv (pe_call G_l_cell_at (hr.mono (by omega)) rfl T.d_l_cell_at.hm T.d_l_cell_at.F.kp T.d_l_cell_at.b .nil pass0 (pa_cons (pv 0) (pa_cons pe_int pa_nil))) pe_int) pe_int) pa_nil)) (gk_name rfl) (fun _ _ _ _ _ => ⟨(pg_name (i := 0) (show (["_law_k"] : List Str).Nodup by decide +kernel) rfl (Or.inl rfl)), pts_nil, (pe_tup (pa_cons pe_str (pa_cons (pe_op op_add pe_int (pv 0)) (pa_cons pe_str pa_nil))))⟩)) pa_nil)))
    (pss_cons (ps_set (i := 5) sc_law.nd rfl (Or.inl rfl) (pe_disp (pps_cons pe_str (pv 1) (pps_cons pe_str (pv 2) (pps_cons pe_str (pv 3) (pps_cons pe_str (pv 4) (pps_cons pe_str pe_int (pps_cons pe_str pe_bl pps_nil)))))) rfl rfl (by simp) (by decide)))
    (pss_cons (ps_dput hu1 (pv 5) pe_str (pe_op op_sub (pv 2) pe_int) rfl)
    (pss_cons (ps_set (i := 6) sc_law.nd rfl (Or.inl rfl) (pe_call G_l_made (hr.mono (by omega)) rfl T.d_l_made.hm T.d_l_made.F.kp T.d_l_made.b .nil pass0 (pa_cons (pv 1) (pa_cons (pv 3) (pa_cons (pv 4) (pa_cons (pv 2) pa_nil))))))
    (pss_cons (ps_set (i := 7) sc_law.nd rfl (Or.inl rfl) (pe_lst pa_nil))
    (pss_cons (ps_for PassesOwn.never rfl (pi_range2 rfl T.n_range (pa_cons pe_int (pa_cons (pe_callB (call_min2 rfl) (by rfl) T.n_min bt_min (pa_cons (pe_callB call_len (by rfl) T.n_len bt_len (pa_cons (pv 0) pa_nil)) (pa_cons pe_int pa_nil))) pa_nil))) (pg_name (i := 8) sc_law.nd rfl (Or.inl rfl))
    (pss_cons (ps_set (i := 9) sc_law.nd rfl (Or.inl rfl) (pe_call G_l_mixed (hr.mono (by omega)) rfl T.d_l_mixed.hm T.d_l_mixed.F.kp T.d_l_mixed.b .nil pass0 (pa_cons (pe_ix ix_list (pv 0) (pv 8) (fun _ _ => rfl)) (pa_cons (pv 8) pa_nil))))
    (pss_cons (ps_set (i := 10) sc_law.nd rfl (Or.inl rfl) pe_non)
    (pss_mid (ps_if (pt_cmpR op_lt (pe_dget hu1 (pv 5) pe_str (fun _ _ => rfl)) (pe_callB call_len (by rfl) T.n_len bt_len (pa_cons (pe_dget hu1 (pv 5) pe_str (fun _ _ => rfl)) pa_nil)) (nomark _))
    (pss_cons (ps_set (i := 10) sc_law.nd rfl (Or.inl rfl) (pe_ix ix_tup (pe_dget hu1 (pv 5) pe_str (fun _ _ => rfl)) (pe_dget hu1 (pv 5) pe_str (fun _ _ => rfl)) (fun _ _ => rfl)))
    (pss_one (ps_dput hu1 (pv 5) pe_str (pe_op op_add (pe_dget hu1 (pv 5) pe_str (fun _ _ => rfl)) pe_int) rfl)))
    pss_nil)
    (pss_cons (ps_set (i := 11) sc_law.nd rfl (Or.inl rfl) (pe_meth0 (pv 6) (T.cl c) (T.m_next_row c).me (G_next_row c) (hr.mono (by omega)) (T.m_next_row c).b .nil pass0))
    (pss_mid (ps_if (PW.pt (pw_or (pt_cmpR (op_neM hu) (pv 11) (pv 10) (nomark _)) (pw_or1 (pt_cmpR op_ne (pe_cmpR op_isN (pv 11) pe_non (nomark _)) (pe_cmpR op_isN (pv 10) pe_non (nomark _)) (nomark _)))))
    (pss_one (ps_ret pe_bl))
    pss_nil)
    (pss_mid (ps_if (PW.pt (pw_and (pt_cmpR op_isN (pv 10) pe_non (nomark _)) (pw_and1 (pt_cmpR op_ne (pe_meth0 (pv 6) (T.cl c) (T.m_over c).me (G_over c) (hr.mono (by omega)) (T.m_over c).b .nil pass0) (pe_call G_l_over (hr.mono (by omega)) rfl T.d_l_over.hm T.d_l_over.F.kp T.d_l_over.b .nil pass0 (pa_cons (pv 5) pa_nil)) (nomark _)))))
    (pss_one (ps_ret pe_bl))
    pss_nil)
    (pss_mid (ps_if (PW.pt (pw_and (pt_cmpR op_eq (pv 1) pe_int (nomark _)) (pw_and (pt_not (pt_val (pe_dget hu1 (pv 5) pe_str (fun _ _ => rfl)))) (pw_and1 (pt_cmpR op_eq (pe_op op_mod (pv 9) pe_int) pe_int (nomark _))))))
    (pss_cons (ps_either (ps_expr (pe_meth (pv 6) (T.cl .cleaned) T.m_clean.me G_clean (hr.mono (by omega)) T.m_clean.b .nil pass0 (pa_cons (pe_ix ix_list (pe_lst (pa_cons pe_non (pa_cons (pe_tup (pa_cons pe_str (pa_cons pe_int pa_nil))) pa_nil))) (pe_op op_mod (pe_op op_fdiv (pv 9) pe_int) pe_int) (fun _ _ => rfl)) pa_nil))) ps_never)
    (pss_cons (ps_dput hu1 (pv 5) pe_str pe_bl rfl)
    (pss_cons (ps_dput hu1 (pv 5) pe_str (pv 4) rfl)
    (pss_one (ps_dput hu1 (pv 5) pe_str pe_int rfl)))))
    pss_nil)
    (pss_one (ps_if (pt_not (pt_val (pe_call G_l_asked (hr.mono (by omega)) rfl T.d_l_asked.hm T.d_l_asked.F.kp T.d_l_asked.b .nil pass0 (pa_cons (pv 6) (pa_cons (pv 5) (pa_cons (pv 9) (pa_cons (pv 7) pa_nil)))))))
    (pss_one (ps_ret pe_bl))
    pss_nil))))))))))
    (pss_mid (ps_if (PW.pt (pw_or (pt_cmpR op_ne (pe_fld (pv 6) rfl) pe_int (nomark _)) (pw_or1 (pt_cmpR op_ne (pe_fld (pv 6) rfl) (pe_ix ix_list (pe_lst (pa_cons pe_non (pa_cons (pv 2) pa_nil))) (pe_callTy call_int1 (by rfl) T.n_int bt_int (pa_cons (pe_or (pe_cmpR op_gt (pv 1) pe_int (nomark _)) (pe_one (pe_and (pe_cmpR op_eq (pv 1) pe_int (nomark _)) (pe_one (pe_cmpR op_eq (pe_op op_mod (pv 2) pe_int) pe_int (nomark _)))))) pa_nil)) (fun _ _ => rfl)) (nomark _)))))
    (pss_one (ps_ret pe_bl))
    pss_nil)
    (pss_one (ps_ret (pe_call G_l_held (hr.mono (by omega)) rfl T.d_l_held.hm T.d_l_held.F.kp T.d_l_held.b .nil pass0 (pa_cons (pv 7) pa_nil)))))))))))))), ?_⟩
    refine seq_hold fun U1 k1 => ?_
    (simp only [tLst, tTup, tDNewK, _root_.L2.start, cxOf_K, cxComp_K, tSeq, tAsg, gName, tRet, tRetN, tDrop, tIfS, tTest, tB, tNot, tAnd, tOr, tAndV, tOrV, tNotV, tOp, tUn, tVar, tC, tCons, tNil, tStrs, tCB, tCall, tChain, tBM, tBM0, tPart, tNoPart, tSl, tIf, tNext, tTrue, selS, Option.bind_none, Option.bind_some, Option.join_some, if_true, rI, rI0, rU, rEq, rNe, rStarts, rSlS, lenV_str, tyV, List.map_cons, List.map_nil, List.length_cons, List.length_nil, List.replicate, List.cons_append, List.nil_append, List.append_nil, Nat.reduceAdd, Nat.reduceSub, Nat.zero_add, Nat.add_zero, Nat.sub_self, List.getElem?_cons_zero, List.getElem?_cons_succ, List.set_cons_zero, List.set_cons_succ, Option.some.injEq, V.int.injEq, V.str.injEq, V.ref.injEq, V.bl.injEq, V.ty.injEq, List.cons.injEq, exists_eq_left, exists_eq_left', exists_eq_right, exists_and_left, exists_eq, and_true, true_and, and_self, and_assoc, tEither, tMeth, tMake, tCMeth, tDIn, tDNotIn, tDPop1, tNever])
    refine ⟨a, ns, 0, rfl, ha, hns, by decide, _, rfl, by decide, k1 _ _ (seq_hold fun U2 k2 => ?_)⟩
    (simp only [tLst, tTup, tDNewK, _root_.L2.start, cxOf_K, cxComp_K, tSeq, tAsg, gName, tRet, tRetN, tDrop, tIfS, tTest, tB, tNot, tAnd, tOr, tAndV, tOrV, tNotV, tOp, tUn, tVar, tC, tCons, tNil, tStrs, tCB, tCall, tChain, tBM, tBM0, tPart, tNoPart, tSl, tIf, tNext, tTrue, selS, Option.bind_none, Option.bind_some, Option.join_some, if_true, rI, rI0, rU, rEq, rNe, rStarts, rSlS, lenV_str, tyV, List.map_cons, List.map_nil, List.length_cons, List.length_nil, List.replicate, List.cons_append, List.nil_append, List.append_nil, Nat.reduceAdd, Nat.reduceSub, Nat.zero_add, Nat.add_zero, Nat.sub_self, List.getElem?_cons_zero, List.getElem?_cons_succ, List.set_cons_zero, List.set_cons_succ, Option.some.injEq, V.int.injEq, V.str.injEq, V.ref.injEq, V.bl.injEq, V.ty.injEq, List.cons.injEq, exists_eq_left, exists_eq_left', exists_eq_right, exists_and_left, exists_eq, and_true, true_and, and_self, and_assoc, tEither, tMeth, tMake, tCMeth, tDIn, tDNotIn, tDPop1, tNever])
    refine ⟨a, ns, 1, rfl, ha, hns, by decide, _, rfl, by decide, k2 _ _ (seq_hold fun U3 k3 => ?_)⟩
    (simp only [tLst, tTup, tDNewK, tLc, iList, iStr, iTup, _root_.L2.start, cxOf_K, cxComp_K, tSeq, tAsg, gName, tRet, tRetN, tDrop, tIfS, tTest, tB, tNot, tAnd, tOr, tAndV, tOrV, tNotV, tOp, tUn, tVar, tC, tCons, tNil, tStrs, tCB, tCall, tChain, tBM, tBM0, tPart, tNoPart, tSl, tIf, tNext, tTrue, selS, Option.bind_none, Option.bind_some, Option.join_some, if_true, rI, rI0, rU, rEq, rNe, rStarts, rSlS, lenV_str, tyV, List.map_cons, List.map_nil, List.length_cons, List.length_nil, List.replicate, List.cons_append, List.nil_append, List.append_nil, Nat.reduceAdd, Nat.reduceSub, Nat.zero_add, Nat.add_zero, Nat.sub_self, List.getElem?_cons_zero, List.getElem?_cons_succ, List.set_cons_zero, List.set_cons_succ, Option.some.injEq, V.int.injEq, V.str.injEq, V.ref.injEq, V.bl.injEq, V.ty.injEq, List.cons.injEq, exists_eq_left, exists_eq_left', exists_eq_right, exists_and_left, exists_eq, and_true, true_and, and_self, and_assoc, tEither, tMeth, tMake, tCMeth, tDIn, tDNotIn, tDPop1, tNever])
    simp only [iRng1]
    (simp only [tLst, tTup, tDNewK, tLc, iList, iStr, iTup, _root_.L2.start, cxOf_K, cxComp_K, tSeq, tAsg, gName, tRet, tRetN, tDrop, tIfS, tTest, tB, tNot, tAnd, tOr, tAndV, tOrV, tNotV, tOp, tUn, tVar, tC, tCons, tNil, tStrs, tCB, tCall, tChain, tBM, tBM0, tPart, tNoPart, tSl, tIf, tNext, tTrue, selS, Option.bind_none, Option.bind_some, Option.join_some, if_true, rI, rI0, rU, rEq, rNe, rStarts, rSlS, lenV_str, tyV, List.map_cons, List.map_nil, List.length_cons, List.length_nil, List.replicate, List.cons_append, List.nil_append, List.append_nil, Nat.reduceAdd, Nat.reduceSub, Nat.zero_add, Nat.add_zero, Nat.sub_self, List.getElem?_cons_zero, List.getElem?_cons_succ, List.set_cons_zero, List.set_cons_succ, Option.some.injEq, V.int.injEq, V.str.injEq, V.ref.injEq, V.bl.injEq, V.ty.injEq, List.cons.injEq, exists_eq_left, exists_eq_left', exists_eq_right, exists_and_left, exists_eq, and_true, true_and, and_self, and_assoc, tEither, tMeth, tMake, tCMeth, tDIn, tDNotIn, tDPop1, tNever])
    refine ⟨a, ns, 0, rfl, ha, hns, by decide, _, rfl, ⟨by decide, by decide⟩, by decide, by omega, by omega, ?_⟩
    refine lc_range (fun i ys G => Same H G ∧ ys.length = i ∧ ∀ y ∈ ys, RowT G y) ⟨Same.refl _, rfl, fun y hy => by cases hy⟩ (fun i ys G _ ⟨_, e, _⟩ => by omega) (Nat.le_of_lt (small1000 (by omega))) ?_ ?_
    · rintro i ys G hi ⟨sG, hl, hR⟩
      (simp only [tLst, tTup, tDNewK, _root_.L2.start, cxOf_K, cxComp_K, tSeq, tAsg, gName, tRet, tRetN, tDrop, tIfS, tTest, tB, tNot, tAnd, tOr, tAndV, tOrV, tNotV, tOp, tUn, tVar, tC, tCons, tNil, tStrs, tCB, tCall, tChain, tBM, tBM0, tPart, tNoPart, tSl, tIf, tNext, tTrue, selS, Option.bind_none, Option.bind_some, Option.join_some, if_true, rI, rI0, rU, rEq, rNe, rStarts, rSlS, lenV_str, tyV, List.map_cons, List.map_nil, List.length_cons, List.length_nil, List.replicate, List.cons_append, List.nil_append, List.append_nil, Nat.reduceAdd, Nat.reduceSub, Nat.zero_add, Nat.add_zero, Nat.sub_self, List.getElem?_cons_zero, List.getElem?_cons_succ, List.set_cons_zero, List.set_cons_succ, Option.some.injEq, V.int.injEq, V.str.injEq, V.ref.injEq, V.bl.injEq, V.ty.injEq, List.cons.injEq, exists_eq_left, exists_eq_left', exists_eq_right, exists_and_left, exists_eq, and_true, true_and, and_self, and_assoc, tEither, tMeth, tMake, tCMeth, tDIn, tDNotIn, tDPop1, tNever])
      refine ⟨by decide, fun p hp => ⟨sG.trans (Same.upd hp), by rw [List.length_append, hl]; rfl, fun y hy => ?_⟩⟩
      rcases List.mem_append.mp hy with hy | hy
      · exact (hR y hy).same (Same.upd hp)
      · rw [List.mem_singleton.mp hy]
        exact ⟨p, _, rfl, upd_same, rfl, show 3 ≤ 5 by decide⟩
    rintro rows G1 ⟨sG1, hl1, hR1⟩ D1 hD1
    refine ⟨_, .inl ⟨SqL.of upd_same, fun ra hra => k3 _ _ (seq_hold fun U4 k4 => ?_)⟩⟩
    (simp only [tLst, tTup, tDNewK, tLc, iList, iStr, iTup, _root_.L2.start, cxOf_K, cxComp_K, tSeq, tAsg, gName, tRet, tRetN, tDrop, tIfS, tTest, tB, tNot, tAnd, tOr, tAndV, tOrV, tNotV, tOp, tUn, tVar, tC, tCons, tNil, tStrs, tCB, tCall, tChain, tBM, tBM0, tPart, tNoPart, tSl, tIf, tNext, tTrue, selS, Option.bind_none, Option.bind_some, Option.join_some, if_true, rI, rI0, rU, rEq, rNe, rStarts, rSlS, lenV_str, tyV, List.map_cons, List.map_nil, List.length_cons, List.length_nil, List.replicate, List.cons_append, List.nil_append, List.append_nil, Nat.reduceAdd, Nat.reduceSub, Nat.zero_add, Nat.add_zero, Nat.sub_self, List.getElem?_cons_zero, List.getElem?_cons_succ, List.set_cons_zero, List.set_cons_succ, Option.some.injEq, V.int.injEq, V.str.injEq, V.ref.injEq, V.bl.injEq, V.ty.injEq, List.cons.injEq, exists_eq_left, exists_eq_left', exists_eq_right, exists_and_left, exists_eq, and_true, true_and, and_self, and_assoc, tEither, tMeth, tMake, tCMeth, tDIn, tDNotIn, tDPop1, tNever])
    simp only [iRng1]
    (simp only [tLst, tTup, tDNewK, tLc, iList, iStr, iTup, _root_.L2.start, cxOf_K, cxComp_K, tSeq, tAsg, gName, tRet, tRetN, tDrop, tIfS, tTest, tB, tNot, tAnd, tOr, tAndV, tOrV, tNotV, tOp, tUn, tVar, tC, tCons, tNil, tStrs, tCB, tCall, tChain, tBM, tBM0, tPart, tNoPart, tSl, tIf, tNext, tTrue, selS, Option.bind_none, Option.bind_some, Option.join_some, if_true, rI, rI0, rU, rEq, rNe, rStarts, rSlS, lenV_str, tyV, List.map_cons, List.map_nil, List.length_cons, List.length_nil, List.replicate, List.cons_append, List.nil_append, List.append_nil, Nat.reduceAdd, Nat.reduceSub, Nat.zero_add, Nat.add_zero, Nat.sub_self, List.getElem?_cons_zero, List.getElem?_cons_succ, List.set_cons_zero, List.set_cons_succ, Option.some.injEq, V.int.injEq, V.str.injEq, V.ref.injEq, V.bl.injEq, V.ty.injEq, List.cons.injEq, exists_eq_left, exists_eq_left', exists_eq_right, exists_and_left, exists_eq, and_true, true_and, and_self, and_assoc, tEither, tMeth, tMake, tCMeth, tDIn, tDNotIn, tDPop1, tNever])
    have u1 := (Same.upd (o := .lst rows) hD1).trans (Same.upd (o := .tup rows) hra)
    have s1 := sG1.trans u1
    have gra : (upd (upd G1 D1 (.lst rows)) ra (.tup rows)) ra = some (.tup rows) := upd_same
    replace hR1 : ∀ y ∈ rows, RowT (upd (upd G1 D1 (.lst rows)) ra (.tup rows)) y := fun y hy => (hR1 y hy).same u1
    generalize upd (upd G1 D1 (.lst rows)) ra (.tup rows) = G2 at s1 gra hR1
    clear u1
    refine ⟨a, ns, 1, rfl, s1.seq ha, hns, by decide, _, rfl, ⟨by decide, by decide⟩, by decide, by omega, by omega, ?_⟩
    refine lc_range (fun i ys G => Same G2 G ∧ ys.length = i ∧ ∀ y ∈ ys, RowT G y) ⟨Same.refl _, rfl, fun y hy => by cases hy⟩ (fun i ys G _ ⟨_, e, _⟩ => by omega) (Nat.le_of_lt (small1000 (by omega))) ?_ ?_
    · rintro i ys G hi ⟨sG, hl, hR⟩
      (simp only [tLst, tTup, tDNewK, _root_.L2.start, cxOf_K, cxComp_K, tSeq, tAsg, gName, tRet, tRetN, tDrop, tIfS, tTest, tB, tNot, tAnd, tOr, tAndV, tOrV, tNotV, tOp, tUn, tVar, tC, tCons, tNil, tStrs, tCB, tCall, tChain, tBM, tBM0, tPart, tNoPart, tSl, tIf, tNext, tTrue, selS, Option.bind_none, Option.bind_some, Option.join_some, if_true, rI, rI0, rU, rEq, rNe, rStarts, rSlS, lenV_str, tyV, List.map_cons, List.map_nil, List.length_cons, List.length_nil, List.replicate, List.cons_append, List.nil_append, List.append_nil, Nat.reduceAdd, Nat.reduceSub, Nat.zero_add, Nat.add_zero, Nat.sub_self, List.getElem?_cons_zero, List.getElem?_cons_succ, List.set_cons_zero, List.set_cons_succ, Option.some.injEq, V.int.injEq, V.str.injEq, V.ref.injEq, V.bl.injEq, V.ty.injEq, List.cons.injEq, exists_eq_left, exists_eq_left', exists_eq_right, exists_and_left, exists_eq, and_true, true_and, and_self, and_assoc, tEither, tMeth, tMake, tCMeth, tDIn, tDNotIn, tDPop1, tNever])
      refine ⟨by decide, fun p hp => ⟨sG.trans (Same.upd hp), by rw [List.length_append, hl]; rfl, fun y hy => ?_⟩⟩
      rcases List.mem_append.mp hy with hy | hy
      · exact (hR y hy).same (Same.upd hp)
      · rw [List.mem_singleton.mp hy]
        exact ⟨p, _, rfl, upd_same, rfl, show 3 ≤ 5 by decide⟩
    rintro others G3 ⟨sG3, hl3, hR3⟩ D3 hD3
    refine ⟨_, .inl ⟨SqL.of upd_same, fun oa hoa => k4 _ _ ?_⟩⟩
    (simp only [tLst, tTup, tDNewK, tLc, iList, iStr, iTup, _root_.L2.start, cxOf_K, cxComp_K, tSeq, tAsg, gName, tRet, tRetN, tDrop, tIfS, tTest, tB, tNot, tAnd, tOr, tAndV, tOrV, tNotV, tOp, tUn, tVar, tC, tCons, tNil, tStrs, tCB, tCall, tChain, tBM, tBM0, tPart, tNoPart, tSl, tIf, tNext, tTrue, selS, Option.bind_none, Option.bind_some, Option.join_some, if_true, rI, rI0, rU, rEq, rNe, rStarts, rSlS, lenV_str, tyV, List.map_cons, List.map_nil, List.length_cons, List.length_nil, List.replicate, List.cons_append, List.nil_append, List.append_nil, Nat.reduceAdd, Nat.reduceSub, Nat.zero_add, Nat.add_zero, Nat.sub_self, List.getElem?_cons_zero, List.getElem?_cons_succ, List.set_cons_zero, List.set_cons_succ, Option.some.injEq, V.int.injEq, V.str.injEq, V.ref.injEq, V.bl.injEq, V.ty.injEq, List.cons.injEq, exists_eq_left, exists_eq_left', exists_eq_right, exists_and_left, exists_eq, and_true, true_and, and_self, and_assoc, tEither, tMeth, tMake, tCMeth, tDIn, tDNotIn, tDPop1, tNever])
    have u3 := (Same.upd (o := .lst others) hD3).trans (Same.upd (o := .tup others) hoa)
    have s3 := s1.trans (sG3.trans u3)
    have goa : (upd (upd G3 D3 (.lst others)) oa (.tup others)) oa = some (.tup others) := upd_same
    replace gra := u3 _ _ (sG3 _ _ gra)
    replace hR1 : ∀ y ∈ rows, RowT (upd (upd G3 D3 (.lst others)) oa (.tup others)) y := fun y hy => (hR1 y hy).same (sG3.trans u3)
    replace hR3 : ∀ y ∈ others, RowT (upd (upd G3 D3 (.lst others)) oa (.tup others)) y := fun y hy => (hR3 y hy).same u3
    generalize upd (upd G3 D3 (.lst others)) oa (.tup others) = G4 at s3 gra hR1 goa hR3
    clear u3
    intro d hd
    refine ⟨_, rfl, _, rfl, _, rfl, _, rfl, upd_same, kvs0 (cellF ns 0 % 7) (1 + cellF ns 1 % 9) ra oa, rfl, show 6 ≤ 15 by decide, ?_⟩
    simp only [sDPut, tOp, tC]
    refine ⟨_, rfl, _, _, rfl, rfl, _, rfl, d, _, rfl, DPut.k (k := (.inr (Sl.name .left) : Key)) upd_same (small1000 (Nat.le_trans (merge_le _ []) (show 0 + 6 ≤ 1000 by decide))), ?_⟩
    have hk : 0 ≤ cellF ns 0 % 7 ∧ cellF ns 0 % 7 < 7 := by omega
    have u5 : Same G4 (upd (upd (upd G4 d (.dK [])) d (.dK (mergeK [] (kvs0 (cellF ns 0 % 7) (1 + cellF ns 1 % 9) ra oa)))) d (.dK (putK (mergeK [] (kvs0 (cellF ns 0 % 7) (1 + cellF ns 1 % 9) ra oa)) (.inr (Sl.name .left)) ((fun i j => V.int (i - j)) (1 + cellF ns 1 % 9) 1)))) := fun b o e => by
      have nb := ne_of_none e hd
      rw [upd_ne nb, upd_ne nb, upd_ne nb]; exact e
    have D5 : DSt (upd (upd (upd G4 d (.dK [])) d (.dK (mergeK [] (kvs0 (cellF ns 0 % 7) (1 + cellF ns 1 % 9) ra oa)))) d (.dK (putK (mergeK [] (kvs0 (cellF ns 0 % 7) (1 + cellF ns 1 % 9) ra oa)) (.inr (Sl.name .left)) ((fun i j => V.int (i - j)) (1 + cellF ns 1 % 9) 1)))) d (cellF ns 0 % 7) (1 + cellF ns 1 % 9) (s0 (cellF ns 0 % 7) (1 + cellF ns 1 % 9) ra rows oa others) := state0 upd_same
    generalize upd (upd (upd G4 d (.dK [])) d (.dK (mergeK [] (kvs0 (cellF ns 0 % 7) (1 + cellF ns 1 % 9) ra oa)))) d (.dK (putK (mergeK [] (kvs0 (cellF ns 0 % 7) (1 + cellF ns 1 % 9) ra oa)) (.inr (Sl.name .left)) ((fun i j => V.int (i - j)) (1 + cellF ns 1 % 9) 1))) = G5 at u5 D5
    have hlr : rows.length ≤ 10 := by omega
    have hlo : others.length ≤ 10 := by omega
    generalize cellF ns 0 % 7 = kind at *
    generalize 1 + cellF ns 1 % 9 = many at *
    refine ⟨_, rfl, _, rfl, _, rfl, _, rfl, kind, many, ra, oa, rows, others, rfl, hk, u5 _ _ gra, u5 _ _ goa, hlr, hlo, fun p G6 hp t6 F6 => ?_⟩
    refine ⟨by decide, fun h hh => ?_⟩
    have s6 := s3.trans (u5.trans t6)
    have D6 := D5.same t6
    have hR1' : ∀ y ∈ rows, RowT G6 y := fun y hy => (hR1 y hy).same (u5.trans t6)
    have hR3' : ∀ y ∈ others, RowT G6 y := fun y hy => (hR3 y hy).same (u5.trans t6)
    have t7 := Same.upd (o := .lst []) hh
    have s7 := s6.trans t7
    have F7 := F6.same t7
    have D7 := D6.same t7
    have A7 : HeldAt (upd G6 h (.lst [])) h 0 := ⟨[], upd_same, Nat.le_refl _, fun t ht => by cases ht⟩
    have R7 : (∀ y ∈ rows, RowT (upd G6 h (.lst [])) y) ∧ ∀ y ∈ others, RowT (upd G6 h (.lst [])) y := ⟨fun y hy => (hR1' y hy).same t7, fun y hy => (hR3' y hy).same t7⟩
    have hpH : H p = none := s3.free (u5.free hp)
    have hhH : H h = none := s6.free hh
    have hdH : H d = none := s3.free hd
    rw [← hc] at F7
    generalize upd G6 h (.lst []) = G7 at s7 F7 D7 A7 R7
    have R0 : Rel kind many (s0 kind many ra rows oa others) := ⟨hk, rfl, fun z => by simp [s0, z], fun _ => rfl⟩
    refine ⟨_, rfl, _, rfl, _, .inl ⟨_, s7.seq ha, rfl⟩, _, _, rfl, _, _, rfl, ⟨by decide, by decide, ?_, ?_⟩, ?_⟩
    · rw [List.length_map]; split <;> omega
    · rw [List.length_map]; split <;> omega
    refine for_range (fun i σ G => ∃ (v8 v9 v10 v11 : Option V) (s : Sf), σ = [some (.ref a), some (.int kind), some (.int many), some (.ref ra), some (.ref oa), some (.ref d), some (.ref p), some (.ref h), v8, v9, v10, v11] ∧ Same H G ∧ FAt T c G p s ∧ DSt G d kind many s ∧ Rel kind many s ∧ ((∀ y ∈ s.rows, RowT G y) ∧ ∀ y ∈ s.others, RowT G y) ∧ HeldAt G h i ∧ s.oa = oa ∧ s.sc = (s0 kind many ra rows oa others).sc)
      ⟨none, none, none, none, _, rfl, s7, F7, D7, R0, R7, A7, rfl, rfl⟩ ?_ ?_
    · rintro i σ G hi ⟨v8, v9, v10, v11, s, rfl, sG, F, D, R, RT, A, hoa, hsc⟩
      have L0 : Al T H c p d h kind many i G s s := ⟨sG, F, D, RT.1, RT.2, A⟩
      rw [List.length_map] at hi
      have hin : 2 + i < ns.length ∧ i ≤ 30 := by
        split at hi <;> omega
      (simp only [tLst, tTup, tDNewK, _root_.L2.start, cxOf_K, cxComp_K, tSeq, tAsg, gName, tRet, tRetN, tDrop, tIfS, tTest, tB, tNot, tAnd, tOr, tAndV, tOrV, tNotV, tOp, tUn, tVar, tC, tCons, tNil, tStrs, tCB, tCall, tChain, tBM, tBM0, tPart, tNoPart, tSl, tIf, tNext, tTrue, selS, Option.bind_none, Option.bind_some, Option.join_some, if_true, rI, rI0, rU, rEq, rNe, rStarts, rSlS, lenV_str, tyV, List.map_cons, List.map_nil, List.length_cons, List.length_nil, List.replicate, List.cons_append, List.nil_append, List.append_nil, Nat.reduceAdd, Nat.reduceSub, Nat.zero_add, Nat.add_zero, Nat.sub_self, List.getElem?_cons_zero, List.getElem?_cons_succ, List.set_cons_zero, List.set_cons_succ, Option.some.injEq, V.int.injEq, V.str.injEq, V.ref.injEq, V.bl.injEq, V.ty.injEq, List.cons.injEq, exists_eq_left, exists_eq_left', exists_eq_right, exists_and_left, exists_eq, and_true, true_and, and_self, and_assoc, tEither, tMeth, tMake, tCMeth, tDIn, tDNotIn, tDPop1, tNever])
      refine ⟨a, _, _, .int ns[2 + i], rfl, rfl, sG.seq ha, ?_, ?_⟩
      · rw [show (2 : Int) + (i : Int) = ((2 + i : Nat) : Int) by omega]
        exact atI_nat (by rw [List.getElem?_map, List.getElem?_eq_getElem hin.1]; rfl)
      refine ⟨_, _, rfl, by omega, by omega, fun pick => ?_⟩
      obtain ⟨M1, hM1⟩ : ∃ M : St → Hp → Prop, M = fun σ' G' => ∃ (vd : V) (sd : Sf), σ' = [some (.ref a), some (.int kind), some (.int many), some (.ref ra), some (.ref oa), some (.ref d), some (.ref p), some (.ref h), some (V.int (2 + (i : Int))), some (.int pick), some vd, v11] ∧ Al T H c p d h kind many i G' s sd ∧ ((s.place = s.rows.length ∧ vd = .non ∧ sd = s) ∨ (s.rows[s.place]? = some vd ∧ sd = { s with place := s.place + 1 })) := ⟨_, rfl⟩
      refine ⟨M1, ?_, ?_⟩
      · (simp only [tLst, tTup, tDNewK, _root_.L2.start, cxOf_K, cxComp_K, tSeq, tAsg, gName, tRet, tRetN, tDrop, tIfS, tTest, tB, tNot, tAnd, tOr, tAndV, tOrV, tNotV, tOp, tUn, tVar, tC, tCons, tNil, tStrs, tCB, tCall, tChain, tBM, tBM0, tPart, tNoPart, tSl, tIf, tNext, tTrue, selS, Option.bind_none, Option.bind_some, Option.join_some, if_true, rI, rI0, rU, rEq, rNe, rStarts, rSlS, lenV_str, tyV, List.map_cons, List.map_nil, List.length_cons, List.length_nil, List.replicate, List.cons_append, List.nil_append, List.append_nil, Nat.reduceAdd, Nat.reduceSub, Nat.zero_add, Nat.add_zero, Nat.sub_self, List.getElem?_cons_zero, List.getElem?_cons_succ, List.set_cons_zero, List.set_cons_succ, Option.some.injEq, V.int.injEq, V.str.injEq, V.ref.injEq, V.bl.injEq, V.ty.injEq, List.cons.injEq, exists_eq_left, exists_eq_left', exists_eq_right, exists_and_left, exists_eq, and_true, true_and, and_self, and_assoc, tEither, tMeth, tMake, tCMeth, tDIn, tDNotIn, tDPop1, tNever])
        refine D.get (l := .place) rfl rfl (D.get (l := .rows) rfl rfl ⟨_, .inr ⟨_, SqT.of F.rs, rfl⟩, _, rfl, ?_⟩)
        by_cases e : s.place < s.rows.length
        · have he : s.rows[s.place]? = some s.rows[s.place] := List.getElem?_eq_getElem e
          refine ifT (by omega) (D.get (l := .rows) rfl rfl (D.get (l := .place) rfl rfl ⟨s.ra, _, _, s.rows[s.place], rfl, rfl, SqT.of F.rs, atI_nat he, ?_⟩))
          simp only [sDPut, tOp, tC]
          refine D.get (l := .place) rfl rfl ⟨_, _, rfl, rfl, D.set (l := .place) rfl (fun z => nomatch z) fun G' b' D' => ?_⟩
          show M1 _ G'
          rw [hM1]
          refine ⟨_, { s with place := s.place + 1 }, rfl, L0.byD hdH b' ?_, .inr ⟨he, rfl⟩⟩
          refine cast ?_ D'
          congr 1
          funext l
          cases l <;> rfl
        · refine ifF (by omega) ?_
          show M1 _ G
          rw [hM1]
          exact ⟨_, s, rfl, L0, .inl ⟨by have := F.pl; omega, rfl, rfl⟩⟩
      rintro σ1 G1 hm1
      rw [hM1] at hm1
      obtain ⟨vd, sd, rfl, L1, hv⟩ := hm1
      (simp only [tLst, tTup, tDNewK, _root_.L2.start, cxOf_K, cxComp_K, tSeq, tAsg, gName, tRet, tRetN, tDrop, tIfS, tTest, tB, tNot, tAnd, tOr, tAndV, tOrV, tNotV, tOp, tUn, tVar, tC, tCons, tNil, tStrs, tCB, tCall, tChain, tBM, tBM0, tPart, tNoPart, tSl, tIf, tNext, tTrue, selS, Option.bind_none, Option.bind_some, Option.join_some, if_true, rI, rI0, rU, rEq, rNe, rStarts, rSlS, lenV_str, tyV, List.map_cons, List.map_nil, List.length_cons, List.length_nil, List.replicate, List.cons_append, List.nil_append, List.append_nil, Nat.reduceAdd, Nat.reduceSub, Nat.zero_add, Nat.add_zero, Nat.sub_self, List.getElem?_cons_zero, List.getElem?_cons_succ, List.set_cons_zero, List.set_cons_succ, Option.some.injEq, V.int.injEq, V.str.injEq, V.ref.injEq, V.bl.injEq, V.ty.injEq, List.cons.injEq, exists_eq_left, exists_eq_left', exists_eq_right, exists_and_left, exists_eq, and_true, true_and, and_self, and_assoc, tEither, tMeth, tMake, tCMeth, tDIn, tDNotIn, tDPop1, tNever])
      refine L1.f.mt nf_next ?_
      refine (show ∀ (KK : VK), (∀ s2 G2, Al T H c p d h kind many i G2 s2 s2 → Rel kind many s2 → s2.oa = oa → s2.sc = (s0 kind many ra rows oa others).sc → (vd = .non ∨ RowT G2 vd) → KK vd G2) → spNext T [V.ref p] G1 KK E0 from ?_) _ (fun s2 G2 L2 R2 ho2 hs2 hvd => ?_)
      · intro KK hK
        refine ⟨c, p, s, rfl, L1.f, fun hpl => ?_, fun v hv2 G2 b2 F2 => ?_⟩
        · rcases hv with ⟨_, e2, e3⟩ | ⟨e1, _⟩
          · rw [← e2]
            rw [e3] at L1
            exact hK s G1 L1 R hoa hsc (.inl e2)
          · rw [hpl, List.getElem?_eq_none (Nat.le_refl _)] at e1; cases e1
        · rcases hv with ⟨e1, _, _⟩ | ⟨e1, e3⟩
          · rw [e1, List.getElem?_eq_none (Nat.le_refl _)] at hv2; cases hv2
          · rw [e1] at hv2
            cases hv2
            have L2 := L1.byP hpH b2 F2 (fun y hy => .inl hy) rfl
            rw [e3] at L2
            exact hK { s with place := s.place + 1 } G2 L2 ⟨R.k0, R.fa, R.sc, R.cl⟩ hoa hsc (.inr (L2.r1 _ (List.mem_of_getElem? e1)))
      clear L1 hv L0 F D R RT A hoa hsc sG
      obtain ⟨M2, hM2⟩ : ∃ M : St → Hp → Prop, M = fun σ' G' => σ' = [some (.ref a), some (.int kind), some (.int many), some (.ref ra), some (.ref oa), some (.ref d), some (.ref p), some (.ref h), some (V.int (2 + (i : Int))), some (.int pick), some vd, some vd] ∧ G' = G2 := ⟨_, rfl⟩
      refine ⟨M2, ?_, ?_⟩
      · (simp only [tLst, tTup, tDNewK, _root_.L2.start, cxOf_K, cxComp_K, tSeq, tAsg, gName, tRet, tRetN, tDrop, tIfS, tTest, tB, tNot, tAnd, tOr, tAndV, tOrV, tNotV, tOp, tUn, tVar, tC, tCons, tNil, tStrs, tCB, tCall, tChain, tBM, tBM0, tPart, tNoPart, tSl, tIf, tNext, tTrue, selS, Option.bind_none, Option.bind_some, Option.join_some, if_true, rI, rI0, rU, rEq, rNe, rStarts, rSlS, lenV_str, tyV, List.map_cons, List.map_nil, List.length_cons, List.length_nil, List.replicate, List.cons_append, List.nil_append, List.append_nil, Nat.reduceAdd, Nat.reduceSub, Nat.zero_add, Nat.add_zero, Nat.sub_self, List.getElem?_cons_zero, List.getElem?_cons_succ, List.set_cons_zero, List.set_cons_succ, Option.some.injEq, V.int.injEq, V.str.injEq, V.ref.injEq, V.bl.injEq, V.ty.injEq, List.cons.injEq, exists_eq_left, exists_eq_left', exists_eq_right, exists_and_left, exists_eq, and_true, true_and, and_self, and_assoc, tEither, tMeth, tMake, tCMeth, tDIn, tDNotIn, tDPop1, tNever])
        have fin : M2 [some (.ref a), some (.int kind), some (.int many), some (.ref ra), some (.ref oa), some (.ref d), some (.ref p), some (.ref h), some (V.int (2 + (i : Int))), some (.int pick), some vd, some vd] G2 := by rw [hM2]; exact ⟨rfl, rfl⟩
        rcases hvd with e | hr
        · refine .inl ⟨by rw [e]; rfl, ?_⟩
          rw [if_neg (by simp)]
          refine ⟨rfl, ?_⟩
          rw [if_neg (by simp)]
          exact fin
        · refine .inr (neT_row hr ⟨_, rfl, iteF ⟨rfl, ?_⟩⟩)
          rw [if_neg (by simp)]
          exact fin
      rintro σ2 G2' hm2
      rw [hM2] at hm2
      obtain ⟨rfl, rfl⟩ := hm2
      obtain ⟨M3, hM3⟩ : ∃ M : St → Hp → Prop, M = fun σ' G' => σ' = [some (.ref a), some (.int kind), some (.int many), some (.ref ra), some (.ref oa), some (.ref d), some (.ref p), some (.ref h), some (V.int (2 + (i : Int))), some (.int pick), some vd, some vd] ∧ ∃ s3, Al T H c p d h kind many i G' s3 s3 ∧ Rel kind many s3 ∧ s3.oa = oa ∧ s3.sc = (s0 kind many ra rows oa others).sc := ⟨_, rfl⟩
      refine ⟨M3, ?_, ?_⟩
      · (simp only [tLst, tTup, tDNewK, _root_.L2.start, cxOf_K, cxComp_K, tSeq, tAsg, gName, tRet, tRetN, tDrop, tIfS, tTest, tB, tNot, tAnd, tOr, tAndV, tOrV, tNotV, tOp, tUn, tVar, tC, tCons, tNil, tStrs, tCB, tCall, tChain, tBM, tBM0, tPart, tNoPart, tSl, tIf, tNext, tTrue, selS, Option.bind_none, Option.bind_some, Option.join_some, if_true, rI, rI0, rU, rEq, rNe, rStarts, rSlS, lenV_str, tyV, List.map_cons, List.map_nil, List.length_cons, List.length_nil, List.replicate, List.cons_append, List.nil_append, List.append_nil, Nat.reduceAdd, Nat.reduceSub, Nat.zero_add, Nat.add_zero, Nat.sub_self, List.getElem?_cons_zero, List.getElem?_cons_succ, List.set_cons_zero, List.set_cons_succ, Option.some.injEq, V.int.injEq, V.str.injEq, V.ref.injEq, V.bl.injEq, V.ty.injEq, List.cons.injEq, exists_eq_left, exists_eq_left', exists_eq_right, exists_and_left, exists_eq, and_true, true_and, and_self, and_assoc, tEither, tMeth, tMake, tCMeth, tDIn, tDNotIn, tDPop1, tNever])
        by_cases e : vd = .non
        · refine ifT e (L2.f.mt nf_over ⟨p, s2, rfl, L2.f, fun G3 b3 F3 => ?_⟩)
          obtain ⟨o1, o2, o3, o4, _, _⟩ := overS_eq c s2
          have L3 := L2.byP hpH b3 F3 (fun y hy => .inl (by rw [o1] at hy; exact hy)) o2
          refine ⟨d, kind, many, s2, rfl, R2, L3.d, fun G5 G4 b4 D4 t5 => ⟨rfl, iteNS (by rw [hc]) ?_⟩⟩
          rw [← hc] at D4
          rw [hM3]
          exact ⟨rfl, overS c s2, (L3.byD hdH b4 D4).same t5, R2.over, by rw [o3]; exact ho2, by rw [o4]; exact hs2⟩
        · refine ifF e (iteF ?_)
          rw [hM3]
          exact ⟨rfl, s2, L2, R2, ho2, hs2⟩
      rintro σ3 G3 hm3
      rw [hM3] at hm3
      obtain ⟨rfl, s3, L3, R3, ho3, hs3⟩ := hm3
      refine ⟨M3, ?_, ?_⟩
      · (simp only [tLst, tTup, tDNewK, _root_.L2.start, cxOf_K, cxComp_K, tSeq, tAsg, gName, tRet, tRetN, tDrop, tIfS, tTest, tB, tNot, tAnd, tOr, tAndV, tOrV, tNotV, tOp, tUn, tVar, tC, tCons, tNil, tStrs, tCB, tCall, tChain, tBM, tBM0, tPart, tNoPart, tSl, tIf, tNext, tTrue, selS, Option.bind_none, Option.bind_some, Option.join_some, if_true, rI, rI0, rU, rEq, rNe, rStarts, rSlS, lenV_str, tyV, List.map_cons, List.map_nil, List.length_cons, List.length_nil, List.replicate, List.cons_append, List.nil_append, List.append_nil, Nat.reduceAdd, Nat.reduceSub, Nat.zero_add, Nat.add_zero, Nat.sub_self, List.getElem?_cons_zero, List.getElem?_cons_succ, List.set_cons_zero, List.set_cons_succ, Option.some.injEq, V.int.injEq, V.str.injEq, V.ref.injEq, V.bl.injEq, V.ty.injEq, List.cons.injEq, exists_eq_left, exists_eq_left', exists_eq_right, exists_and_left, exists_eq, and_true, true_and, and_self, and_assoc, tEither, tMeth, tMake, tCMeth, tDIn, tDNotIn, tDPop1, tNever])
        by_cases hcl : c = .cleaned
        · have k4 : kind = 4 := by
            rcases seven R3.k0 with z | z | z | z | z | z | z
            all_goals first
              | exact z
              | (rw [hcl, z] at hc; exact absurd hc (by decide))
          refine ⟨rfl, ifT k4 (L3.d.get (l := .cleaning) rfl rfl ⟨_, rfl, ?_⟩)⟩
          have fin : M3 [some (.ref a), some (.int kind), some (.int many), some (.ref ra), some (.ref oa), some (.ref d), some (.ref p), some (.ref h), some (V.int (2 + (i : Int))), some (.int pick), some vd, some vd] G3 := by
            rw [hM3]
            exact ⟨rfl, s3, L3, R3, ho3, hs3⟩
          cases ecl : s3.cleaning with
          | true =>
            rw [if_neg (by decide)]
            exact iteF fin
          | false =>
            rw [if_pos (by decide)]
            refine ⟨by decide, rfl, ?_⟩
            by_cases e7 : pick % 8 = 7
            · refine ifT e7 (.inl ?_)
              have F3 := L3.f
              rw [hcl] at F3
              refine F3.mt nf_clean ⟨by decide, fun q1 h1 => ⟨by decide, fun q2 h2 => ⟨⟨by decide, by decide⟩, by decide, ?_⟩⟩⟩
              obtain ⟨v, hat⟩ : ∃ v, atI [V.non, V.ref q1] (pick / 40 % 2) = some v := by
                rcases (by omega : pick / 40 % 2 = 0 ∨ pick / 40 % 2 = 1) with z | z <;> rw [z] <;> exact ⟨_, rfl⟩
              refine ⟨q2, _, _, v, rfl, rfl, SqL.of upd_same, hat, ?_⟩
              have t := (Same.upd (o := .tup [V.str "strike", V.int 0]) h1).trans (Same.upd (o := .lst [V.non, V.ref q1]) h2)
              have L4 := L3.same t
              generalize upd (upd G3 q1 (.tup [V.str "strike", V.int 0])) q2 (.lst [V.non, V.ref q1]) = G4 at L4
              have F4 := L4.f
              rw [hcl] at F4
              refine ⟨p, s3, v, rfl, F4, fun G5 b5 F5 => ?_⟩
              rw [← hcl] at F5
              have L5 := L4.byP hpH b5 F5 (fun y hy => .inr hy) rfl
              simp only [sDPut, tC]
              refine L5.d.set (l := .cleaning) rfl (fun z => nomatch z) fun G6 b6 D6 => ?_
              simp only [tSeq, sDPut, tC]
              refine ⟨_, rfl, D6.set (l := .rows) rfl (fun z => nomatch z) fun G7 b7 D7 => ?_⟩
              refine D7.set (l := .place) rfl (fun z => nomatch z) fun G8 b8 D8 => ?_
              show M3 _ G8
              rw [hM3]
              refine ⟨rfl, { s3 with ra := s3.oa, rows := s3.others, place := 0, cleaning := true, held := v }, L5.byD hdH (b6.trans (b7.trans b8)) ?_, ⟨R3.k0, R3.fa, R3.sc, fun z => absurd k4 z⟩, ho3, hs3⟩
              rw [← ho3] at D8
              refine cast ?_ D8
              congr 1
              funext l
              cases l <;> rfl
            · exact ifF e7 fin
        · refine ⟨rfl, ifF (fun z => hcl (by rw [hc, z]; rfl)) (iteF ?_)⟩
          rw [hM3]
          exact ⟨rfl, s3, L3, R3, ho3, hs3⟩
      rintro σ4 G4' hm4
      rw [hM3] at hm4
      obtain ⟨rfl, s4, L4, R4, ho4, hs4⟩ := hm4
      (simp only [tLst, tTup, tDNewK, _root_.L2.start, cxOf_K, cxComp_K, tSeq, tAsg, gName, tRet, tRetN, tDrop, tIfS, tTest, tB, tNot, tAnd, tOr, tAndV, tOrV, tNotV, tOp, tUn, tVar, tC, tCons, tNil, tStrs, tCB, tCall, tChain, tBM, tBM0, tPart, tNoPart, tSl, tIf, tNext, tTrue, selS, Option.bind_none, Option.bind_some, Option.join_some, if_true, rI, rI0, rU, rEq, rNe, rStarts, rSlS, lenV_str, tyV, List.map_cons, List.map_nil, List.length_cons, List.length_nil, List.replicate, List.cons_append, List.nil_append, List.append_nil, Nat.reduceAdd, Nat.reduceSub, Nat.zero_add, Nat.add_zero, Nat.sub_self, List.getElem?_cons_zero, List.getElem?_cons_succ, List.set_cons_zero, List.set_cons_succ, Option.some.injEq, V.int.injEq, V.str.injEq, V.ref.injEq, V.bl.injEq, V.ty.injEq, List.cons.injEq, exists_eq_left, exists_eq_left', exists_eq_right, exists_and_left, exists_eq, and_true, true_and, and_self, and_assoc, tEither, tMeth, tMake, tCMeth, tDIn, tDNotIn, tDPop1, tNever])
      refine ⟨p, d, h, kind, many, pick, s4, i, rfl, by rw [← hc]; exact L4.f, L4.d, R4, ⟨fun y hy => ?_, fun y hy => ?_⟩, L4.a, by omega, fun G5 b5 A5 => ⟨true, rfl, ?_⟩⟩
      · obtain ⟨r, _, e, _⟩ := L4.r1 y hy
        exact ⟨r, e⟩
      · obtain ⟨r, _, e, _⟩ := L4.r2 y hy
        exact ⟨r, e⟩
      rw [if_neg (by decide)]
      obtain ⟨ts, e, _⟩ := L4.a
      exact ⟨fun x o q => b5 x o (ne_of_none q hhH) (L4.sm x o q), s4, L4.f.keep e (fun _ _ _ z => nomatch z) (fun _ z => nomatch z) b5, L4.d.keep e (fun _ z => nomatch z) b5, R4, fun y hy => (L4.r1 y hy).keep e (fun _ z => nomatch z) b5, fun y hy => (L4.r2 y hy).keep e (fun _ z => nomatch z) b5, A5, ho4, hs4⟩
    · rintro σ G ⟨v8, v9, v10, v11, s, rfl, sG, F, D, R, RT, A, hoa, hsc⟩
      obtain ⟨M5, hM5⟩ : ∃ M : St → Hp → Prop, M = fun σ' G' => σ' = [some (.ref a), some (.int kind), some (.int many), some (.ref ra), some (.ref oa), some (.ref d), some (.ref p), some (.ref h), v8, v9, v10, v11] ∧ Same G G' := ⟨_, rfl⟩
      refine ⟨M5, ?_, ?_⟩
      · (simp only [tLst, tTup, tDNewK, _root_.L2.start, cxOf_K, cxComp_K, tSeq, tAsg, gName, tRet, tRetN, tDrop, tIfS, tTest, tB, tNot, tAnd, tOr, tAndV, tOrV, tNotV, tOp, tUn, tVar, tC, tCons, tNil, tStrs, tCB, tCall, tChain, tBM, tBM0, tPart, tNoPart, tSl, tIf, tNext, tTrue, selS, Option.bind_none, Option.bind_some, Option.join_some, if_true, rI, rI0, rU, rEq, rNe, rStarts, rSlS, lenV_str, tyV, List.map_cons, List.map_nil, List.length_cons, List.length_nil, List.replicate, List.cons_append, List.nil_append, List.append_nil, Nat.reduceAdd, Nat.reduceSub, Nat.zero_add, Nat.add_zero, Nat.sub_self, List.getElem?_cons_zero, List.getElem?_cons_succ, List.set_cons_zero, List.set_cons_succ, Option.some.injEq, V.int.injEq, V.str.injEq, V.ref.injEq, V.bl.injEq, V.ty.injEq, List.cons.injEq, exists_eq_left, exists_eq_left', exists_eq_right, exists_and_left, exists_eq, and_true, true_and, and_self, and_assoc, tEither, tMeth, tMake, tCMeth, tDIn, tDNotIn, tDPop1, tNever])
        refine F.fr.fld (l := .line) rfl rfl ⟨rfl, iteNS rfl (F.fr.fld (l := .scope) rfl rfl ⟨by decide, fun q hq => ?_⟩)⟩
        have pk : ∀ (j : Int) (v : V), atI [V.non, V.int many] j = some v → s.sc = v → rIxL K (.ref q) (.int j) (upd G q (.lst [V.non, V.int many])) (fun y H2 => scal s.sc y = true ∧ if (!decide (s.sc = y)) = true then Q (V.bl false) H2 else M5 [some (.ref a), some (.int kind), some (.int many), some (.ref ra), some (.ref oa), some (.ref d), some (.ref p), some (.ref h), v8, v9, v10, v11] H2) := by
          intro j v hat hv
          refine ⟨q, _, _, v, rfl, rfl, SqL.of upd_same, hat, ?_, iteNS hv (by rw [hM5]; exact ⟨rfl, Same.upd hq⟩)⟩
          rw [hv]
          have : v = .non ∨ v = .int many := by
            unfold atI at hat
            cases ej : ixN [V.non, V.int many].length j with
            | none => rw [ej] at hat; cases hat
            | some n =>
              rw [ej] at hat
              have hat : [V.non, V.int many][n]? = some v := hat
              have := List.mem_of_getElem? hat
              rcases List.mem_cons.mp this with z | z
              · exact .inl z
              · exact .inr (List.mem_singleton.mp z)
          rcases this with z | z <;> rw [z] <;> rfl
        by_cases e4 : 4 < kind
        · refine ifT e4 (.inr (pk 1 (.int many) rfl ?_))
          rw [hsc]
          show (if kind = 0 then _ else if kind = 5 ∨ kind = 6 then _ else _) = _
          rw [if_neg (by omega), if_pos (by omega)]
        refine ifF e4 ⟨rfl, ?_⟩
        by_cases e0 : kind = 0
        · refine ifT e0 ⟨by decide, rfl, .inr ?_⟩
          by_cases e2 : many % 2 = 0
          · rw [if_pos (decide_eq_true e2)]
            refine pk 1 (.int many) rfl ?_
            rw [hsc]
            show (if kind = 0 then (if many % 2 = 0 then _ else _) else _) = _
            rw [if_pos e0, if_pos e2]
          · rw [if_neg (by simp [e2])]
            refine pk 0 .non rfl ?_
            rw [hsc]
            show (if kind = 0 then (if many % 2 = 0 then _ else _) else _) = _
            rw [if_pos e0, if_neg e2]
        · refine ifF e0 (.inr ?_)
          rw [if_neg (by decide)]
          refine pk 0 .non rfl ?_
          rw [hsc]
          show (if kind = 0 then _ else if kind = 5 ∨ kind = 6 then _ else _) = _
          rw [if_neg e0, if_neg (by omega)]
      · rintro σ5 G5 hm5
        rw [hM5] at hm5
        obtain ⟨rfl, t5⟩ := hm5
        exact ⟨_, rfl, h, _, rfl, A.same t5, fun G6 _ => k G6⟩
theorem law_fn {l : PySem.W.OpenLaw} {h : Heap} {fa : Addr} (X : K.In h) (G : h.Ns mainGlobals mg) (hfa : mg "law" = some (.ref fa))
    (i10 : InK K "_law_cell_at" (top 10))
    (i12 : InK K "_law_mixed" (top 12))
    (i13 : InK K "_law_made" (top 13))
    (i14 : InK K "_law_meets" (top 14))
    (i15 : InK K "_law_behind" (top 15))
    (i16 : InK K "_law_over" (top 16))
    (i11 : InK K "_law_held" (top 11))
    (i17 : InK K "_law_asked" (top 17))
    (i18 : InK K "law" (top 18))
    
    
    
    
    
    
    
    
    
    
    
    
    
    
    
    
    
    
    
    
    
    
    
    
    
    
    
    
    
    
    
    
    {C_frame : Addr} (c_frame : InC K "Frame" C_frame)
    (na_frame : ∀ l : Fl, PySem.W.findIn K (.ref C_frame) (Fl.name l) = some none)
    (im_next_row_frame : InM K C_frame "next_row" "Frame.next_row" (inClass (top 2) 1))
    (im_begin_anew_frame : InM K C_frame "begin_anew" "Frame.begin_anew" (inClass (top 2) 2))
    (im_rest_frame : InM K C_frame "rest" "Frame.rest" (inClass (top 2) 6))
    (im_hides_frame : InM K C_frame "hides" "Frame.hides" (inClass (top 2) 3))
    (im_over_frame : InM K C_frame "over" "Frame.over" (inClass (top 2) 4))
    (im_meets_frame : InM K C_frame "meets" "Frame.meets" (inClass (top 2) 5))
    (im_behind_frame : InM K C_frame "behind" "Frame.behind" (inClass (top 2) 7))
    (im_init_frame : InMD K C_frame "__init__" "Frame.__init__" (inClass (top 2) 0))
    {C_rounds : Addr} (c_rounds : InC K "Rounds" C_rounds)
    (na_rounds : ∀ l : Fl, PySem.W.findIn K (.ref C_rounds) (Fl.name l) = some none)
    (im_next_row_rounds : InM K C_rounds "next_row" "Frame.next_row" (inClass (top 2) 1))
    (im_begin_anew_rounds : InM K C_rounds "begin_anew" "Frame.begin_anew" (inClass (top 2) 2))
    (im_rest_rounds : InM K C_rounds "rest" "Frame.rest" (inClass (top 2) 6))
    (im_hides_rounds : InM K C_rounds "hides" "Frame.hides" (inClass (top 2) 3))
    (im_over_rounds : InM K C_rounds "over" "Rounds.over" (inClass (top 3) 1))
    (im_meets_rounds : InM K C_rounds "meets" "Frame.meets" (inClass (top 2) 5))
    (im_behind_rounds : InM K C_rounds "behind" "Rounds.behind" (inClass (top 3) 2))
    (im___init___rounds : InM K C_rounds "__init__" "Rounds.__init__" (inClass (top 3) 0))
    {C_kept : Addr} (c_kept : InC K "Kept" C_kept)
    (na_kept : ∀ l : Fl, PySem.W.findIn K (.ref C_kept) (Fl.name l) = some none)
    (im_next_row_kept : InM K C_kept "next_row" "Frame.next_row" (inClass (top 2) 1))
    (im_begin_anew_kept : InM K C_kept "begin_anew" "Frame.begin_anew" (inClass (top 2) 2))
    (im_rest_kept : InM K C_kept "rest" "Frame.rest" (inClass (top 2) 6))
    (im_hides_kept : InM K C_kept "hides" "Kept.hides" (inClass (top 4) 0))
    (im_over_kept : InM K C_kept "over" "Frame.over" (inClass (top 2) 4))
    (im_meets_kept : InM K C_kept "meets" "Frame.meets" (inClass (top 2) 5))
    (im_behind_kept : InM K C_kept "behind" "Frame.behind" (inClass (top 2) 7))
    (im_init_kept : InMD K C_kept "__init__" "Frame.__init__" (inClass (top 2) 0))
    {C_tried : Addr} (c_tried : InC K "Tried" C_tried)
    (na_tried : ∀ l : Fl, PySem.W.findIn K (.ref C_tried) (Fl.name l) = some none)
    (im_next_row_tried : InM K C_tried "next_row" "Frame.next_row" (inClass (top 2) 1))
    (im_begin_anew_tried : InM K C_tried "begin_anew" "Frame.begin_anew" (inClass (top 2) 2))
    (im_rest_tried : InM K C_tried "rest" "Frame.rest" (inClass (top 2) 6))
    (im_hides_tried : InM K C_tried "hides" "Frame.hides" (inClass (top 2) 3))
    (im_over_tried : InM K C_tried "over" "Frame.over" (inClass (top 2) 4))
    (im_meets_tried : InM K C_tried "meets" "Tried.meets" (inClass (top 5) 1))
    (im_behind_tried : InM K C_tried "behind" "Tried.behind" (inClass (top 5) 2))
    (im___init___tried : InM K C_tried "__init__" "Tried.__init__" (inClass (top 5) 0))
    {C_cleaned : Addr} (c_cleaned : InC K "Cleaned" C_cleaned)
    (na_cleaned : ∀ l : Fl, PySem.W.findIn K (.ref C_cleaned) (Fl.name l) = some none)
    (im_next_row_cleaned : InM K C_cleaned "next_row" "Frame.next_row" (inClass (top 2) 1))
    (im_begin_anew_cleaned : InM K C_cleaned "begin_anew" "Frame.begin_anew" (inClass (top 2) 2))
    (im_rest_cleaned : InM K C_cleaned "rest" "Frame.rest" (inClass (top 2) 6))
    (im_hides_cleaned : InM K C_cleaned "hides" "Cleaned.hides" (inClass (top 6) 2))
    (im_over_cleaned : InM K C_cleaned "over" "Cleaned.over" (inClass (top 6) 3))
    (im_meets_cleaned : InM K C_cleaned "meets" "Cleaned.meets" (inClass (top 6) 4))
    (im_behind_cleaned : InM K C_cleaned "behind" "Cleaned.behind" (inClass (top 6) 5))
    (im_clean_cleaned : InM K C_cleaned "clean" "Cleaned.clean" (inClass (top 6) 1))
    (im___init___cleaned : InM K C_cleaned "__init__" "Cleaned.__init__" (inClass (top 6) 0))
    {C_limited : Addr} (c_limited : InC K "Limited" C_limited)
    (na_limited : ∀ l : Fl, PySem.W.findIn K (.ref C_limited) (Fl.name l) = some none)
    (im_next_row_limited : InM K C_limited "next_row" "Frame.next_row" (inClass (top 2) 1))
    (im_begin_anew_limited : InM K C_limited "begin_anew" "Frame.begin_anew" (inClass (top 2) 2))
    (im_rest_limited : InM K C_limited "rest" "Frame.rest" (inClass (top 2) 6))
    (im_hides_limited : InM K C_limited "hides" "Frame.hides" (inClass (top 2) 3))
    (im_over_limited : InM K C_limited "over" "Frame.over" (inClass (top 2) 4))
    (im_meets_limited : InM K C_limited "meets" "Limited.meets" (inClass (top 7) 1))
    (im_behind_limited : InM K C_limited "behind" "Limited.behind" (inClass (top 7) 2))
    (im___init___limited : InM K C_limited "__init__" "Limited.__init__" (inClass (top 7) 0))
    {C_grouped : Addr} (c_grouped : InC K "Grouped" C_grouped)
    (na_grouped : ∀ l : Fl, PySem.W.findIn K (.ref C_grouped) (Fl.name l) = some none)
    (im_next_row_grouped : InM K C_grouped "next_row" "Frame.next_row" (inClass (top 2) 1))
    (im_begin_anew_grouped : InM K C_grouped "begin_anew" "Frame.begin_anew" (inClass (top 2) 2))
    (im_rest_grouped : InM K C_grouped "rest" "Frame.rest" (inClass (top 2) 6))
    (im_hides_grouped : InM K C_grouped "hides" "Frame.hides" (inClass (top 2) 3))
    (im_over_grouped : InM K C_grouped "over" "Grouped.over" (inClass (top 8) 3))
    (im_meets_grouped : InM K C_grouped "meets" "Grouped.meets" (inClass (top 8) 4))
    (im_behind_grouped : InM K C_grouped "behind" "Frame.behind" (inClass (top 2) 7))
    (im___init___grouped : InM K C_grouped "__init__" "Grouped.__init__" (inClass (top 8) 0))
    (z_len : PySem.W.nsIn K mainGlobals "len" = some none)
    (z_range : PySem.W.nsIn K mainGlobals "range" = some none)
    (z_tuple : PySem.W.nsIn K mainGlobals "tuple" = some none)
    (z_list : PySem.W.nsIn K mainGlobals "list" = some none)
    (z_int : PySem.W.nsIn K mainGlobals "int" = some none)
    (z_bool : PySem.W.nsIn K mainGlobals "bool" = some none)
    (z_isinstance : PySem.W.nsIn K mainGlobals "isinstance" = some none)
    (z_min : PySem.W.nsIn K mainGlobals "min" = some none)
    : ∃ fd : FuncData, (∀ (s : Shared) (v : Value), BindsTo s fd ⟨[v], []⟩ [("_law_script", v)]) ∧ ∀ base : Heap, K.In base → base.Ns mainGlobals mg → FnOk l.prog w K mg base CX0 6 fa fd ["_law_script"] (spLaw K) := by
  obtain ⟨d10⟩ := i10.def (ps := ["_law_script", "_law_k"]) X G fun _ _ _ _ _ _ us hl => by obtain ⟨_, r0, rfl, h0⟩ := lenS hl; obtain ⟨_, r1, rfl, h1⟩ := lenS h0; obtain rfl := List.eq_nil_of_length_eq_zero h1; rfl
  obtain ⟨d12⟩ := i12.def (ps := ["_law_cell", "_law_k"]) X G fun _ _ _ _ _ _ us hl => by obtain ⟨_, r0, rfl, h0⟩ := lenS hl; obtain ⟨_, r1, rfl, h1⟩ := lenS h0; obtain rfl := List.eq_nil_of_length_eq_zero h1; rfl
  obtain ⟨d13⟩ := i13.def (ps := ["_law_kind", "_law_rows", "_law_others", "_law_many"]) X G fun _ _ _ _ _ _ us hl => by obtain ⟨_, r0, rfl, h0⟩ := lenS hl; obtain ⟨_, r1, rfl, h1⟩ := lenS h0; obtain ⟨_, r2, rfl, h2⟩ := lenS h1; obtain ⟨_, r3, rfl, h3⟩ := lenS h2; obtain rfl := List.eq_nil_of_length_eq_zero h3; rfl
  obtain ⟨d14⟩ := i14.def (ps := ["_law_kind", "_law_many", "_law_cleaning", "_law_signal"]) X G fun _ _ _ _ _ _ us hl => by obtain ⟨_, r0, rfl, h0⟩ := lenS hl; obtain ⟨_, r1, rfl, h1⟩ := lenS h0; obtain ⟨_, r2, rfl, h2⟩ := lenS h1; obtain ⟨_, r3, rfl, h3⟩ := lenS h2; obtain rfl := List.eq_nil_of_length_eq_zero h3; rfl
  obtain ⟨d15⟩ := i15.def (ps := ["_law_state"]) X G fun _ _ _ _ _ _ us hl => by obtain ⟨_, r0, rfl, h0⟩ := lenS hl; obtain rfl := List.eq_nil_of_length_eq_zero h0; rfl
  obtain ⟨d16⟩ := i16.def (ps := ["_law_state"]) X G fun _ _ _ _ _ _ us hl => by obtain ⟨_, r0, rfl, h0⟩ := lenS hl; obtain rfl := List.eq_nil_of_length_eq_zero h0; rfl
  obtain ⟨d11⟩ := i11.def (ps := ["_law_held_here"]) X G fun _ _ _ _ _ _ us hl => by obtain ⟨_, r0, rfl, h0⟩ := lenS hl; obtain rfl := List.eq_nil_of_length_eq_zero h0; rfl
  obtain ⟨d17⟩ := i17.def (ps := ["_law_frame", "_law_state", "_law_pick", "_law_held_here"]) X G fun _ _ _ _ _ _ us hl => by obtain ⟨_, r0, rfl, h0⟩ := lenS hl; obtain ⟨_, r1, rfl, h1⟩ := lenS h0; obtain ⟨_, r2, rfl, h2⟩ := lenS h1; obtain ⟨_, r3, rfl, h3⟩ := lenS h2; obtain rfl := List.eq_nil_of_length_eq_zero h3; rfl
  obtain ⟨e_next_row_frame⟩ := im_next_row_frame.def (ps := ["self"]) fun _ _ _ _ _ _ us hl => by obtain ⟨_, r0, rfl, h0⟩ := lenS hl; obtain rfl := List.eq_nil_of_length_eq_zero h0; rfl
  obtain ⟨e_begin_anew_frame⟩ := im_begin_anew_frame.def (ps := ["self", "rows"]) fun _ _ _ _ _ _ us hl => by obtain ⟨_, r0, rfl, h0⟩ := lenS hl; obtain ⟨_, r1, rfl, h1⟩ := lenS h0; obtain rfl := List.eq_nil_of_length_eq_zero h1; rfl
  obtain ⟨e_rest_frame⟩ := im_rest_frame.def (ps := ["self"]) fun _ _ _ _ _ _ us hl => by obtain ⟨_, r0, rfl, h0⟩ := lenS hl; obtain rfl := List.eq_nil_of_length_eq_zero h0; rfl
  obtain ⟨e_hides_frame⟩ := im_hides_frame.def (ps := ["self"]) fun _ _ _ _ _ _ us hl => by obtain ⟨_, r0, rfl, h0⟩ := lenS hl; obtain rfl := List.eq_nil_of_length_eq_zero h0; rfl
  obtain ⟨e_over_frame⟩ := im_over_frame.def (ps := ["self"]) fun _ _ _ _ _ _ us hl => by obtain ⟨_, r0, rfl, h0⟩ := lenS hl; obtain rfl := List.eq_nil_of_length_eq_zero h0; rfl
  obtain ⟨e_meets_frame⟩ := im_meets_frame.def (ps := ["self", "signal"]) fun _ _ _ _ _ _ us hl => by obtain ⟨_, r0, rfl, h0⟩ := lenS hl; obtain ⟨_, r1, rfl, h1⟩ := lenS h0; obtain rfl := List.eq_nil_of_length_eq_zero h1; rfl
  obtain ⟨e_behind_frame⟩ := im_behind_frame.def (ps := ["self"]) fun _ _ _ _ _ _ us hl => by obtain ⟨_, r0, rfl, h0⟩ := lenS hl; obtain rfl := List.eq_nil_of_length_eq_zero h0; rfl
  obtain ⟨e_init_frame⟩ := im_init_frame.def (ps := ["self", "rows", "line", "scope"]) (fun _ _ _ _ _ _ _ us hl => match us, hl with | [_, _, _, _], _ => ⟨_, rfl, rfl⟩) (fun _ _ _ _ _ _ _ us hl => match us, hl with | [_, _, _], _ => ⟨_, rfl, rfl⟩)
  obtain ⟨e_next_row_rounds⟩ := im_next_row_rounds.def (ps := ["self"]) fun _ _ _ _ _ _ us hl => by obtain ⟨_, r0, rfl, h0⟩ := lenS hl; obtain rfl := List.eq_nil_of_length_eq_zero h0; rfl
  obtain ⟨e_begin_anew_rounds⟩ := im_begin_anew_rounds.def (ps := ["self", "rows"]) fun _ _ _ _ _ _ us hl => by obtain ⟨_, r0, rfl, h0⟩ := lenS hl; obtain ⟨_, r1, rfl, h1⟩ := lenS h0; obtain rfl := List.eq_nil_of_length_eq_zero h1; rfl
  obtain ⟨e_rest_rounds⟩ := im_rest_rounds.def (ps := ["self"]) fun _ _ _ _ _ _ us hl => by obtain ⟨_, r0, rfl, h0⟩ := lenS hl; obtain rfl := List.eq_nil_of_length_eq_zero h0; rfl
  obtain ⟨e_hides_rounds⟩ := im_hides_rounds.def (ps := ["self"]) fun _ _ _ _ _ _ us hl => by obtain ⟨_, r0, rfl, h0⟩ := lenS hl; obtain rfl := List.eq_nil_of_length_eq_zero h0; rfl
  obtain ⟨e_over_rounds⟩ := im_over_rounds.def (ps := ["self"]) fun _ _ _ _ _ _ us hl => by obtain ⟨_, r0, rfl, h0⟩ := lenS hl; obtain rfl := List.eq_nil_of_length_eq_zero h0; rfl
  obtain ⟨e_meets_rounds⟩ := im_meets_rounds.def (ps := ["self", "signal"]) fun _ _ _ _ _ _ us hl => by obtain ⟨_, r0, rfl, h0⟩ := lenS hl; obtain ⟨_, r1, rfl, h1⟩ := lenS h0; obtain rfl := List.eq_nil_of_length_eq_zero h1; rfl
  obtain ⟨e_behind_rounds⟩ := im_behind_rounds.def (ps := ["self"]) fun _ _ _ _ _ _ us hl => by obtain ⟨_, r0, rfl, h0⟩ := lenS hl; obtain rfl := List.eq_nil_of_length_eq_zero h0; rfl
  obtain ⟨e_init_rounds⟩ := im___init___rounds.def (ps := ["self", "rows", "line", "many"]) fun _ _ _ _ _ _ us hl => by obtain ⟨_, r0, rfl, h0⟩ := lenS hl; obtain ⟨_, r1, rfl, h1⟩ := lenS h0; obtain ⟨_, r2, rfl, h2⟩ := lenS h1; obtain ⟨_, r3, rfl, h3⟩ := lenS h2; obtain rfl := List.eq_nil_of_length_eq_zero h3; rfl
  obtain ⟨e_next_row_kept⟩ := im_next_row_kept.def (ps := ["self"]) fun _ _ _ _ _ _ us hl => by obtain ⟨_, r0, rfl, h0⟩ := lenS hl; obtain rfl := List.eq_nil_of_length_eq_zero h0; rfl
  obtain ⟨e_begin_anew_kept⟩ := im_begin_anew_kept.def (ps := ["self", "rows"]) fun _ _ _ _ _ _ us hl => by obtain ⟨_, r0, rfl, h0⟩ := lenS hl; obtain ⟨_, r1, rfl, h1⟩ := lenS h0; obtain rfl := List.eq_nil_of_length_eq_zero h1; rfl
  obtain ⟨e_rest_kept⟩ := im_rest_kept.def (ps := ["self"]) fun _ _ _ _ _ _ us hl => by obtain ⟨_, r0, rfl, h0⟩ := lenS hl; obtain rfl := List.eq_nil_of_length_eq_zero h0; rfl
  obtain ⟨e_hides_kept⟩ := im_hides_kept.def (ps := ["self"]) fun _ _ _ _ _ _ us hl => by obtain ⟨_, r0, rfl, h0⟩ := lenS hl; obtain rfl := List.eq_nil_of_length_eq_zero h0; rfl
  obtain ⟨e_over_kept⟩ := im_over_kept.def (ps := ["self"]) fun _ _ _ _ _ _ us hl => by obtain ⟨_, r0, rfl, h0⟩ := lenS hl; obtain rfl := List.eq_nil_of_length_eq_zero h0; rfl
  obtain ⟨e_meets_kept⟩ := im_meets_kept.def (ps := ["self", "signal"]) fun _ _ _ _ _ _ us hl => by obtain ⟨_, r0, rfl, h0⟩ := lenS hl; obtain ⟨_, r1, rfl, h1⟩ := lenS h0; obtain rfl := List.eq_nil_of_length_eq_zero h1; rfl
  obtain ⟨e_behind_kept⟩ := im_behind_kept.def (ps := ["self"]) fun _ _ _ _ _ _ us hl => by obtain ⟨_, r0, rfl, h0⟩ := lenS hl; obtain rfl := List.eq_nil_of_length_eq_zero h0; rfl
  obtain ⟨e_init_kept⟩ := im_init_kept.def (ps := ["self", "rows", "line", "scope"]) (fun _ _ _ _ _ _ _ us hl => match us, hl with | [_, _, _, _], _ => ⟨_, rfl, rfl⟩) (fun _ _ _ _ _ _ _ us hl => match us, hl with | [_, _, _], _ => ⟨_, rfl, rfl⟩)
  obtain ⟨e_next_row_tried⟩ := im_next_row_tried.def (ps := ["self"]) fun _ _ _ _ _ _ us hl => by obtain ⟨_, r0, rfl, h0⟩ := lenS hl; obtain rfl := List.eq_nil_of_length_eq_zero h0; rfl
  obtain ⟨e_begin_anew_tried⟩ := im_begin_anew_tried.def (ps := ["self", "rows"]) fun _ _ _ _ _ _ us hl => by obtain ⟨_, r0, rfl, h0⟩ := lenS hl; obtain ⟨_, r1, rfl, h1⟩ := lenS h0; obtain rfl := List.eq_nil_of_length_eq_zero h1; rfl
  obtain ⟨e_rest_tried⟩ := im_rest_tried.def (ps := ["self"]) fun _ _ _ _ _ _ us hl => by obtain ⟨_, r0, rfl, h0⟩ := lenS hl; obtain rfl := List.eq_nil_of_length_eq_zero h0; rfl
  obtain ⟨e_hides_tried⟩ := im_hides_tried.def (ps := ["self"]) fun _ _ _ _ _ _ us hl => by obtain ⟨_, r0, rfl, h0⟩ := lenS hl; obtain rfl := List.eq_nil_of_length_eq_zero h0; rfl
  obtain ⟨e_over_tried⟩ := im_over_tried.def (ps := ["self"]) fun _ _ _ _ _ _ us hl => by obtain ⟨_, r0, rfl, h0⟩ := lenS hl; obtain rfl := List.eq_nil_of_length_eq_zero h0; rfl
  obtain ⟨e_meets_tried⟩ := im_meets_tried.def (ps := ["self", "signal"]) fun _ _ _ _ _ _ us hl => by obtain ⟨_, r0, rfl, h0⟩ := lenS hl; obtain ⟨_, r1, rfl, h1⟩ := lenS h0; obtain rfl := List.eq_nil_of_length_eq_zero h1; rfl
  obtain ⟨e_behind_tried⟩ := im_behind_tried.def (ps := ["self"]) fun _ _ _ _ _ _ us hl => by obtain ⟨_, r0, rfl, h0⟩ := lenS hl; obtain rfl := List.eq_nil_of_length_eq_zero h0; rfl
  obtain ⟨e_init_tried⟩ := im___init___tried.def (ps := ["self", "rows", "line", "fault", "others"]) fun _ _ _ _ _ _ us hl => by obtain ⟨_, r0, rfl, h0⟩ := lenS hl; obtain ⟨_, r1, rfl, h1⟩ := lenS h0; obtain ⟨_, r2, rfl, h2⟩ := lenS h1; obtain ⟨_, r3, rfl, h3⟩ := lenS h2; obtain ⟨_, r4, rfl, h4⟩ := lenS h3; obtain rfl := List.eq_nil_of_length_eq_zero h4; rfl
  obtain ⟨e_next_row_cleaned⟩ := im_next_row_cleaned.def (ps := ["self"]) fun _ _ _ _ _ _ us hl => by obtain ⟨_, r0, rfl, h0⟩ := lenS hl; obtain rfl := List.eq_nil_of_length_eq_zero h0; rfl
  obtain ⟨e_begin_anew_cleaned⟩ := im_begin_anew_cleaned.def (ps := ["self", "rows"]) fun _ _ _ _ _ _ us hl => by obtain ⟨_, r0, rfl, h0⟩ := lenS hl; obtain ⟨_, r1, rfl, h1⟩ := lenS h0; obtain rfl := List.eq_nil_of_length_eq_zero h1; rfl
  obtain ⟨e_rest_cleaned⟩ := im_rest_cleaned.def (ps := ["self"]) fun _ _ _ _ _ _ us hl => by obtain ⟨_, r0, rfl, h0⟩ := lenS hl; obtain rfl := List.eq_nil_of_length_eq_zero h0; rfl
  obtain ⟨e_hides_cleaned⟩ := im_hides_cleaned.def (ps := ["self"]) fun _ _ _ _ _ _ us hl => by obtain ⟨_, r0, rfl, h0⟩ := lenS hl; obtain rfl := List.eq_nil_of_length_eq_zero h0; rfl
  obtain ⟨e_over_cleaned⟩ := im_over_cleaned.def (ps := ["self"]) fun _ _ _ _ _ _ us hl => by obtain ⟨_, r0, rfl, h0⟩ := lenS hl; obtain rfl := List.eq_nil_of_length_eq_zero h0; rfl
  obtain ⟨e_meets_cleaned⟩ := im_meets_cleaned.def (ps := ["self", "signal"]) fun _ _ _ _ _ _ us hl => by obtain ⟨_, r0, rfl, h0⟩ := lenS hl; obtain ⟨_, r1, rfl, h1⟩ := lenS h0; obtain rfl := List.eq_nil_of_length_eq_zero h1; rfl
  obtain ⟨e_behind_cleaned⟩ := im_behind_cleaned.def (ps := ["self"]) fun _ _ _ _ _ _ us hl => by obtain ⟨_, r0, rfl, h0⟩ := lenS hl; obtain rfl := List.eq_nil_of_length_eq_zero h0; rfl
  obtain ⟨e_clean_cleaned⟩ := im_clean_cleaned.def (ps := ["self", "signal"]) fun _ _ _ _ _ _ us hl => by obtain ⟨_, r0, rfl, h0⟩ := lenS hl; obtain ⟨_, r1, rfl, h1⟩ := lenS h0; obtain rfl := List.eq_nil_of_length_eq_zero h1; rfl
  obtain ⟨e_init_cleaned⟩ := im___init___cleaned.def (ps := ["self", "rows", "line", "others"]) fun _ _ _ _ _ _ us hl => by obtain ⟨_, r0, rfl, h0⟩ := lenS hl; obtain ⟨_, r1, rfl, h1⟩ := lenS h0; obtain ⟨_, r2, rfl, h2⟩ := lenS h1; obtain ⟨_, r3, rfl, h3⟩ := lenS h2; obtain rfl := List.eq_nil_of_length_eq_zero h3; rfl
  obtain ⟨e_next_row_limited⟩ := im_next_row_limited.def (ps := ["self"]) fun _ _ _ _ _ _ us hl => by obtain ⟨_, r0, rfl, h0⟩ := lenS hl; obtain rfl := List.eq_nil_of_length_eq_zero h0; rfl
  obtain ⟨e_begin_anew_limited⟩ := im_begin_anew_limited.def (ps := ["self", "rows"]) fun _ _ _ _ _ _ us hl => by obtain ⟨_, r0, rfl, h0⟩ := lenS hl; obtain ⟨_, r1, rfl, h1⟩ := lenS h0; obtain rfl := List.eq_nil_of_length_eq_zero h1; rfl
  obtain ⟨e_rest_limited⟩ := im_rest_limited.def (ps := ["self"]) fun _ _ _ _ _ _ us hl => by obtain ⟨_, r0, rfl, h0⟩ := lenS hl; obtain rfl := List.eq_nil_of_length_eq_zero h0; rfl
  obtain ⟨e_hides_limited⟩ := im_hides_limited.def (ps := ["self"]) fun _ _ _ _ _ _ us hl => by obtain ⟨_, r0, rfl, h0⟩ := lenS hl; obtain rfl := List.eq_nil_of_length_eq_zero h0; rfl
  obtain ⟨e_over_limited⟩ := im_over_limited.def (ps := ["self"]) fun _ _ _ _ _ _ us hl => by obtain ⟨_, r0, rfl, h0⟩ := lenS hl; obtain rfl := List.eq_nil_of_length_eq_zero h0; rfl
  obtain ⟨e_meets_limited⟩ := im_meets_limited.def (ps := ["self", "signal"]) fun _ _ _ _ _ _ us hl => by obtain ⟨_, r0, rfl, h0⟩ := lenS hl; obtain ⟨_, r1, rfl, h1⟩ := lenS h0; obtain rfl := List.eq_nil_of_length_eq_zero h1; rfl
  obtain ⟨e_behind_limited⟩ := im_behind_limited.def (ps := ["self"]) fun _ _ _ _ _ _ us hl => by obtain ⟨_, r0, rfl, h0⟩ := lenS hl; obtain rfl := List.eq_nil_of_length_eq_zero h0; rfl
  obtain ⟨e_init_limited⟩ := im___init___limited.def (ps := ["self", "rows", "line", "scope", "others"]) fun _ _ _ _ _ _ us hl => by obtain ⟨_, r0, rfl, h0⟩ := lenS hl; obtain ⟨_, r1, rfl, h1⟩ := lenS h0; obtain ⟨_, r2, rfl, h2⟩ := lenS h1; obtain ⟨_, r3, rfl, h3⟩ := lenS h2; obtain ⟨_, r4, rfl, h4⟩ := lenS h3; obtain rfl := List.eq_nil_of_length_eq_zero h4; rfl
  obtain ⟨e_next_row_grouped⟩ := im_next_row_grouped.def (ps := ["self"]) fun _ _ _ _ _ _ us hl => by obtain ⟨_, r0, rfl, h0⟩ := lenS hl; obtain rfl := List.eq_nil_of_length_eq_zero h0; rfl
  obtain ⟨e_begin_anew_grouped⟩ := im_begin_anew_grouped.def (ps := ["self", "rows"]) fun _ _ _ _ _ _ us hl => by obtain ⟨_, r0, rfl, h0⟩ := lenS hl; obtain ⟨_, r1, rfl, h1⟩ := lenS h0; obtain rfl := List.eq_nil_of_length_eq_zero h1; rfl
  obtain ⟨e_rest_grouped⟩ := im_rest_grouped.def (ps := ["self"]) fun _ _ _ _ _ _ us hl => by obtain ⟨_, r0, rfl, h0⟩ := lenS hl; obtain rfl := List.eq_nil_of_length_eq_zero h0; rfl
  obtain ⟨e_hides_grouped⟩ := im_hides_grouped.def (ps := ["self"]) fun _ _ _ _ _ _ us hl => by obtain ⟨_, r0, rfl, h0⟩ := lenS hl; obtain rfl := List.eq_nil_of_length_eq_zero h0; rfl
  obtain ⟨e_over_grouped⟩ := im_over_grouped.def (ps := ["self"]) fun _ _ _ _ _ _ us hl => by obtain ⟨_, r0, rfl, h0⟩ := lenS hl; obtain rfl := List.eq_nil_of_length_eq_zero h0; rfl
  obtain ⟨e_meets_grouped⟩ := im_meets_grouped.def (ps := ["self", "signal"]) fun _ _ _ _ _ _ us hl => by obtain ⟨_, r0, rfl, h0⟩ := lenS hl; obtain ⟨_, r1, rfl, h1⟩ := lenS h0; obtain rfl := List.eq_nil_of_length_eq_zero h1; rfl
  obtain ⟨e_behind_grouped⟩ := im_behind_grouped.def (ps := ["self"]) fun _ _ _ _ _ _ us hl => by obtain ⟨_, r0, rfl, h0⟩ := lenS hl; obtain rfl := List.eq_nil_of_length_eq_zero h0; rfl
  obtain ⟨e_init_grouped⟩ := im___init___grouped.def (ps := ["self", "rows", "line", "scope", "named"]) fun _ _ _ _ _ _ us hl => by obtain ⟨_, r0, rfl, h0⟩ := lenS hl; obtain ⟨_, r1, rfl, h1⟩ := lenS h0; obtain ⟨_, r2, rfl, h2⟩ := lenS h1; obtain ⟨_, r3, rfl, h3⟩ := lenS h2; obtain ⟨_, r4, rfl, h4⟩ := lenS h3; obtain rfl := List.eq_nil_of_length_eq_zero h4; rfl
  obtain ⟨f, oc, od, kV, doc, pm, an, cdv, ct, osl, a, lk, c, kp⟩ := i18.ex
  have F := fun_mk (x := "law") (qual := "law") (st := top 18) lk c kp
  have e := hfa.symm.trans (PySem.W.mg_of X G a)
  cases e
  have T : Tx K mg := ⟨d10, d12, d13, d14, d15, d16, d11, d17, (fun c => match c with | .frame => C_frame | .rounds => C_rounds | .kept => C_kept | .tried => C_tried | .cleaned => C_cleaned | .limited => C_limited | .grouped => C_grouped), (fun c => match c with | .frame => c_frame.cls | .rounds => c_rounds.cls | .kept => c_kept.cls | .tried => c_tried.cls | .cleaned => c_cleaned.cls | .limited => c_limited.cls | .grouped => c_grouped.cls), (fun c => match c with | .frame => na_frame | .rounds => na_rounds | .kept => na_kept | .tried => na_tried | .cleaned => na_cleaned | .limited => na_limited | .grouped => na_grouped), (fun c => match c with | .frame => e_next_row_frame | .rounds => e_next_row_rounds | .kept => e_next_row_kept | .tried => e_next_row_tried | .cleaned => e_next_row_cleaned | .limited => e_next_row_limited | .grouped => e_next_row_grouped), (fun c => match c with | .frame => e_begin_anew_frame | .rounds => e_begin_anew_rounds | .kept => e_begin_anew_kept | .tried => e_begin_anew_tried | .cleaned => e_begin_anew_cleaned | .limited => e_begin_anew_limited | .grouped => e_begin_anew_grouped), (fun c => match c with | .frame => e_rest_frame | .rounds => e_rest_rounds | .kept => e_rest_kept | .tried => e_rest_tried | .cleaned => e_rest_cleaned | .limited => e_rest_limited | .grouped => e_rest_grouped), (fun c => match c with | .frame => e_hides_frame | .rounds => e_hides_rounds | .kept => e_hides_kept | .tried => e_hides_tried | .cleaned => e_hides_cleaned | .limited => e_hides_limited | .grouped => e_hides_grouped), (fun c => match c with | .frame => e_over_frame | .rounds => e_over_rounds | .kept => e_over_kept | .tried => e_over_tried | .cleaned => e_over_cleaned | .limited => e_over_limited | .grouped => e_over_grouped), (fun c => match c with | .frame => e_meets_frame | .rounds => e_meets_rounds | .kept => e_meets_kept | .tried => e_meets_tried | .cleaned => e_meets_cleaned | .limited => e_meets_limited | .grouped => e_meets_grouped), (fun c => match c with | .frame => e_behind_frame | .rounds => e_behind_rounds | .kept => e_behind_kept | .tried => e_behind_tried | .cleaned => e_behind_cleaned | .limited => e_behind_limited | .grouped => e_behind_grouped), e_clean_cleaned, PySem.W.mg_of X G c_frame.a, PySem.W.mg_of X G c_rounds.a, PySem.W.mg_of X G c_kept.a, PySem.W.mg_of X G c_tried.a, PySem.W.mg_of X G c_cleaned.a, PySem.W.mg_of X G c_limited.a, PySem.W.mg_of X G c_grouped.a, e_init_frame, e_init_rounds, e_init_kept, e_init_tried, e_init_cleaned, e_init_limited, e_init_grouped, ⟨c_frame.mak, e_init_frame.me.at_, e_init_frame.me.fn, c_frame.kp⟩, ⟨c_rounds.mak, e_init_rounds.me.at_, e_init_rounds.me.fn, c_rounds.kp⟩, ⟨c_kept.mak, e_init_kept.me.at_, e_init_kept.me.fn, c_kept.kp⟩, ⟨c_tried.mak, e_init_tried.me.at_, e_init_tried.me.fn, c_tried.kp⟩, ⟨c_cleaned.mak, e_init_cleaned.me.at_, e_init_cleaned.me.fn, c_cleaned.kp⟩, ⟨c_limited.mak, e_init_limited.me.at_, e_init_limited.me.fn, c_limited.kp⟩, ⟨c_grouped.mak, e_init_grouped.me.at_, e_init_grouped.me.fn, c_grouped.kp⟩, PySem.W.mg_none_of X G z_len, PySem.W.mg_none_of X G z_range, PySem.W.mg_none_of X G z_tuple, PySem.W.mg_none_of X G z_list, PySem.W.mg_none_of X G z_int, PySem.W.mg_none_of X G z_bool, PySem.W.mg_none_of X G z_isinstance, PySem.W.mg_none_of X G z_min⟩
  refine ⟨PySem.W.fnOf "law" "law" (defArgs (top 18)) (defBody (top 18)) (defScope (top 18)) .none kV doc pm an cdv ct, fun s v => .of_eq rfl, fun base _ _ => ?_⟩
  have g_l_cell_at := ok_l_cell_at (P := l.prog) (w := w) (base := base) T  
  have g_l_mixed := ok_l_mixed (P := l.prog) (w := w) (base := base) T  
  have g_l_made := ok_l_made (P := l.prog) (w := w) (base := base) T (ok_Frame___init__ T T.i_frame.F) (ok_Rounds___init__ T T.i_rounds.F (ok_Frame___init__ T T.i_frame.F)) (ok_Frame___init__ T T.i_kept.F) (ok_Tried___init__ T T.i_tried.F (ok_Frame___init__ T T.i_frame.F)) (ok_Cleaned___init__ T T.i_cleaned.F (ok_Frame___init__ T T.i_frame.F)) (ok_Limited___init__ T T.i_limited.F (ok_Frame___init__ T T.i_frame.F)) (ok_Grouped___init__ T T.i_grouped.F (ok_Frame___init__ T T.i_frame.F)) 
  have g_l_meets := ok_l_meets (P := l.prog) (w := w) (base := base) T  
  have g_l_behind := ok_l_behind (P := l.prog) (w := w) (base := base) T  
  have g_l_over := ok_l_over (P := l.prog) (w := w) (base := base) T  
  have g_l_held := ok_l_held (P := l.prog) (w := w) (base := base) T  
  have g_l_asked := ok_l_asked (P := l.prog) (w := w) (base := base) T (ok_all_meets T) (ok_all_hides T) (ok_all_behind T) g_l_meets g_l_behind
  exact ok_law T F (ok_all_next_row T) (ok_all_over T) (ok_Cleaned_clean T T.m_clean.F (ok_all_begin_anew T)) g_l_cell_at g_l_mixed g_l_made g_l_over g_l_held g_l_asked

end
end K50
open PySem PySem.W PyProof.Rows
set_option maxRecDepth 100000 in
set_option maxHeartbeats 0 in
theorem PySem.Challenge.cw_nightwatch_k50_frames_holds : PySem.Challenge.rw_nightwatch_k50_frames.Holds := by
  w_on; o_law; k_head; (case hw => w_witness2)
  k_fill
  refine L2.walk_ofK (l := PySem.Challenge.rw_nightwatch_k50_frames) (n := 63) (k := 6) (x := "_law_script") (CX := L2.CX0) (sp := K50.spLaw) rfl (by decide) rfl ⟨rfl, by decide, by decide⟩ (fun w h Y => PySem.W.kIn_of Y) ?F (fun K H a ns hl _ hS => ⟨a, ns, rfl, hS, hl, fun _ => rfl⟩) (fun _ _ _ _ z => z)
  case F =>
    intro w mg fa h KX G hmg
    refine' K50.law_fn KX G hmg ?i10 ?i12 ?i13 ?i14 ?i15 ?i16 ?i11 ?i17 ?i18 ?c_frame ?na_frame ?im_next_row_frame ?im_begin_anew_frame ?im_rest_frame ?im_hides_frame ?im_over_frame ?im_meets_frame ?im_behind_frame ?im_init_frame ?c_rounds ?na_rounds ?im_next_row_rounds ?im_begin_anew_rounds ?im_rest_rounds ?im_hides_rounds ?im_over_rounds ?im_meets_rounds ?im_behind_rounds ?im___init___rounds ?c_kept ?na_kept ?im_next_row_kept ?im_begin_anew_kept ?im_rest_kept ?im_hides_kept ?im_over_kept ?im_meets_kept ?im_behind_kept ?im_init_kept ?c_tried ?na_tried ?im_next_row_tried ?im_begin_anew_tried ?im_rest_tried ?im_hides_tried ?im_over_tried ?im_meets_tried ?im_behind_tried ?im___init___tried ?c_cleaned ?na_cleaned ?im_next_row_cleaned ?im_begin_anew_cleaned ?im_rest_cleaned ?im_hides_cleaned ?im_over_cleaned ?im_meets_cleaned ?im_behind_cleaned ?im_clean_cleaned ?im___init___cleaned ?c_limited ?na_limited ?im_next_row_limited ?im_begin_anew_limited ?im_rest_limited ?im_hides_limited ?im_over_limited ?im_meets_limited ?im_behind_limited ?im___init___limited ?c_grouped ?na_grouped ?im_next_row_grouped ?im_begin_anew_grouped ?im_rest_grouped ?im_hides_grouped ?im_over_grouped ?im_meets_grouped ?im_behind_grouped ?im___init___grouped ?z_len ?z_range ?z_tuple ?z_list ?z_int ?z_bool ?z_isinstance ?z_min
    case i10 =>
      refine' L2.InK.of ?a ?l ?c ?k
      (case a => k_is); (case l => k_is); (case c => k_is); (case k => k_is)
    case i12 =>
      refine' L2.InK.of ?a ?l ?c ?k
      (case a => k_is); (case l => k_is); (case c => k_is); (case k => k_is)
    case i13 =>
      refine' L2.InK.of ?a ?l ?c ?k
      (case a => k_is); (case l => k_is); (case c => k_is); (case k => k_is)
    case i14 =>
      refine' L2.InK.of ?a ?l ?c ?k
      (case a => k_is); (case l => k_is); (case c => k_is); (case k => k_is)
    case i15 =>
      refine' L2.InK.of ?a ?l ?c ?k
      (case a => k_is); (case l => k_is); (case c => k_is); (case k => k_is)
    case i16 =>
      refine' L2.InK.of ?a ?l ?c ?k
      (case a => k_is); (case l => k_is); (case c => k_is); (case k => k_is)
    case i11 =>
      refine' L2.InK.of ?a ?l ?c ?k
      (case a => k_is); (case l => k_is); (case c => k_is); (case k => k_is)
    case i17 =>
      refine' L2.InK.of ?a ?l ?c ?k
      (case a => k_is); (case l => k_is); (case c => k_is); (case k => k_is)
    case i18 =>
      refine' L2.InK.of ?a ?l ?c ?k
      (case a => k_is); (case l => k_is); (case c => k_is); (case k => k_is)
    case c_frame =>
      refine' L2.InC.mk ?a ?b ?c ?d ?e ?f ?g
      (case a => k_is); (case b => k_is); (case c => k_is); (case d => k_is); (case e => k_is); (case f => k_is); (case g => k_is)
    case na_frame =>
      intro l
      cases l <;> dsimp only [K50.Fl.name] <;> k_is
    case im_next_row_frame =>
      refine' L2.InM.of ?a ?i ?l ?c ?k
      (case a => k_is); (case i => k_is); (case l => k_is); (case c => k_is); (case k => k_is)
    case im_begin_anew_frame =>
      refine' L2.InM.of ?a ?i ?l ?c ?k
      (case a => k_is); (case i => k_is); (case l => k_is); (case c => k_is); (case k => k_is)
    case im_rest_frame =>
      refine' L2.InM.of ?a ?i ?l ?c ?k
      (case a => k_is); (case i => k_is); (case l => k_is); (case c => k_is); (case k => k_is)
    case im_hides_frame =>
      refine' L2.InM.of ?a ?i ?l ?c ?k
      (case a => k_is); (case i => k_is); (case l => k_is); (case c => k_is); (case k => k_is)
    case im_over_frame =>
      refine' L2.InM.of ?a ?i ?l ?c ?k
      (case a => k_is); (case i => k_is); (case l => k_is); (case c => k_is); (case k => k_is)
    case im_meets_frame =>
      refine' L2.InM.of ?a ?i ?l ?c ?k
      (case a => k_is); (case i => k_is); (case l => k_is); (case c => k_is); (case k => k_is)
    case im_behind_frame =>
      refine' L2.InM.of ?a ?i ?l ?c ?k
      (case a => k_is); (case i => k_is); (case l => k_is); (case c => k_is); (case k => k_is)
    case im_init_frame =>
      refine' L2.InMD.of ?a ?i ?l ?c ?k ?d ?ga ?rd ?fi
      (case a => k_is); (case i => k_is); (case l => k_is); (case c => k_is); (case k => k_is); (case d => k_is); (case ga => k_is); (case rd => k_is); (case fi => k_is)
    case c_rounds =>
      refine' L2.InC.mk ?a ?b ?c ?d ?e ?f ?g
      (case a => k_is); (case b => k_is); (case c => k_is); (case d => k_is); (case e => k_is); (case f => k_is); (case g => k_is)
    case na_rounds =>
      intro l
      cases l <;> dsimp only [K50.Fl.name] <;> k_is
    case im_next_row_rounds =>
      refine' L2.InM.of ?a ?i ?l ?c ?k
      (case a => k_is); (case i => k_is); (case l => k_is); (case c => k_is); (case k => k_is)
    case im_begin_anew_rounds =>
      refine' L2.InM.of ?a ?i ?l ?c ?k
      (case a => k_is); (case i => k_is); (case l => k_is); (case c => k_is); (case k => k_is)
    case im_rest_rounds =>
      refine' L2.InM.of ?a ?i ?l ?c ?k
      (case a => k_is); (case i => k_is); (case l => k_is); (case c => k_is); (case k => k_is)
    case im_hides_rounds =>
      refine' L2.InM.of ?a ?i ?l ?c ?k
      (case a => k_is); (case i => k_is); (case l => k_is); (case c => k_is); (case k => k_is)
    case im_over_rounds =>
      refine' L2.InM.of ?a ?i ?l ?c ?k
      (case a => k_is); (case i => k_is); (case l => k_is); (case c => k_is); (case k => k_is)
    case im_meets_rounds =>
      refine' L2.InM.of ?a ?i ?l ?c ?k
      (case a => k_is); (case i => k_is); (case l => k_is); (case c => k_is); (case k => k_is)
    case im_behind_rounds =>
      refine' L2.InM.of ?a ?i ?l ?c ?k
      (case a => k_is); (case i => k_is); (case l => k_is); (case c => k_is); (case k => k_is)
    case im___init___rounds =>
      refine' L2.InM.of ?a ?i ?l ?c ?k
      (case a => k_is); (case i => k_is); (case l => k_is); (case c => k_is); (case k => k_is)
    case c_kept =>
      refine' L2.InC.mk ?a ?b ?c ?d ?e ?f ?g
      (case a => k_is); (case b => k_is); (case c => k_is); (case d => k_is); (case e => k_is); (case f => k_is); (case g => k_is)
    case na_kept =>
      intro l
      cases l <;> dsimp only [K50.Fl.name] <;> k_is
    case im_next_row_kept =>
      refine' L2.InM.of ?a ?i ?l ?c ?k
      (case a => k_is); (case i => k_is); (case l => k_is); (case c => k_is); (case k => k_is)
    case im_begin_anew_kept =>
      refine' L2.InM.of ?a ?i ?l ?c ?k
      (case a => k_is); (case i => k_is); (case l => k_is); (case c => k_is); (case k => k_is)
    case im_rest_kept =>
      refine' L2.InM.of ?a ?i ?l ?c ?k
      (case a => k_is); (case i => k_is); (case l => k_is); (case c => k_is); (case k => k_is)
    case im_hides_kept =>
      refine' L2.InM.of ?a ?i ?l ?c ?k
      (case a => k_is); (case i => k_is); (case l => k_is); (case c => k_is); (case k => k_is)
    case im_over_kept =>
      refine' L2.InM.of ?a ?i ?l ?c ?k
      (case a => k_is); (case i => k_is); (case l => k_is); (case c => k_is); (case k => k_is)
    case im_meets_kept =>
      refine' L2.InM.of ?a ?i ?l ?c ?k
      (case a => k_is); (case i => k_is); (case l => k_is); (case c => k_is); (case k => k_is)
    case im_behind_kept =>
      refine' L2.InM.of ?a ?i ?l ?c ?k
      (case a => k_is); (case i => k_is); (case l => k_is); (case c => k_is); (case k => k_is)
    case im_init_kept =>
      refine' L2.InMD.of ?a ?i ?l ?c ?k ?d ?ga ?rd ?fi
      (case a => k_is); (case i => k_is); (case l => k_is); (case c => k_is); (case k => k_is); (case d => k_is); (case ga => k_is); (case rd => k_is); (case fi => k_is)
    case c_tried =>
      refine' L2.InC.mk ?a ?b ?c ?d ?e ?f ?g
      (case a => k_is); (case b => k_is); (case c => k_is); (case d => k_is); (case e => k_is); (case f => k_is); (case g => k_is)
    case na_tried =>
      intro l
      cases l <;> dsimp only [K50.Fl.name] <;> k_is
    case im_next_row_tried =>
      refine' L2.InM.of ?a ?i ?l ?c ?k
      (case a => k_is); (case i => k_is); (case l => k_is); (case c => k_is); (case k => k_is)
    case im_begin_anew_tried =>
      refine' L2.InM.of ?a ?i ?l ?c ?k
      (case a => k_is); (case i => k_is); (case l => k_is); (case c => k_is); (case k => k_is)
    case im_rest_tried =>
      refine' L2.InM.of ?a ?i ?l ?c ?k
      (case a => k_is); (case i => k_is); (case l => k_is); (case c => k_is); (case k => k_is)
    case im_hides_tried =>
      refine' L2.InM.of ?a ?i ?l ?c ?k
      (case a => k_is); (case i => k_is); (case l => k_is); (case c => k_is); (case k => k_is)
    case im_over_tried =>
      refine' L2.InM.of ?a ?i ?l ?c ?k
      (case a => k_is); (case i => k_is); (case l => k_is); (case c => k_is); (case k => k_is)
    case im_meets_tried =>
      refine' L2.InM.of ?a ?i ?l ?c ?k
      (case a => k_is); (case i => k_is); (case l => k_is); (case c => k_is); (case k => k_is)
    case im_behind_tried =>
      refine' L2.InM.of ?a ?i ?l ?c ?k
      (case a => k_is); (case i => k_is); (case l => k_is); (case c => k_is); (case k => k_is)
    case im___init___tried =>
      refine' L2.InM.of ?a ?i ?l ?c ?k
      (case a => k_is); (case i => k_is); (case l => k_is); (case c => k_is); (case k => k_is)
    case c_cleaned =>
      refine' L2.InC.mk ?a ?b ?c ?d ?e ?f ?g
      (case a => k_is); (case b => k_is); (case c => k_is); (case d => k_is); (case e => k_is); (case f => k_is); (case g => k_is)
    case na_cleaned =>
      intro l
      cases l <;> dsimp only [K50.Fl.name] <;> k_is
    case im_next_row_cleaned =>
      refine' L2.InM.of ?a ?i ?l ?c ?k
      (case a => k_is); (case i => k_is); (case l => k_is); (case c => k_is); (case k => k_is)
    case im_begin_anew_cleaned =>
      refine' L2.InM.of ?a ?i ?l ?c ?k
      (case a => k_is); (case i => k_is); (case l => k_is); (case c => k_is); (case k => k_is)
    case im_rest_cleaned =>
      refine' L2.InM.of ?a ?i ?l ?c ?k
      (case a => k_is); (case i => k_is); (case l => k_is); (case c => k_is); (case k => k_is)
    case im_hides_cleaned =>
      refine' L2.InM.of ?a ?i ?l ?c ?k
      (case a => k_is); (case i => k_is); (case l => k_is); (case c => k_is); (case k => k_is)
    case im_over_cleaned =>
      refine' L2.InM.of ?a ?i ?l ?c ?k
      (case a => k_is); (case i => k_is); (case l => k_is); (case c => k_is); (case k => k_is)
    case im_meets_cleaned =>
      refine' L2.InM.of ?a ?i ?l ?c ?k
      (case a => k_is); (case i => k_is); (case l => k_is); (case c => k_is); (case k => k_is)
    case im_behind_cleaned =>
      refine' L2.InM.of ?a ?i ?l ?c ?k
      (case a => k_is); (case i => k_is); (case l => k_is); (case c => k_is); (case k => k_is)
    case im_clean_cleaned =>
      refine' L2.InM.of ?a ?i ?l ?c ?k
      (case a => k_is); (case i => k_is); (case l => k_is); (case c => k_is); (case k => k_is)
    case im___init___cleaned =>
      refine' L2.InM.of ?a ?i ?l ?c ?k
      (case a => k_is); (case i => k_is); (case l => k_is); (case c => k_is); (case k => k_is)
    case c_limited =>
      refine' L2.InC.mk ?a ?b ?c ?d ?e ?f ?g
      (case a => k_is); (case b => k_is); (case c => k_is); (case d => k_is); (case e => k_is); (case f => k_is); (case g => k_is)
    case na_limited =>
      intro l
      cases l <;> dsimp only [K50.Fl.name] <;> k_is
    case im_next_row_limited =>
      refine' L2.InM.of ?a ?i ?l ?c ?k
      (case a => k_is); (case i => k_is); (case l => k_is); (case c => k_is); (case k => k_is)
    case im_begin_anew_limited =>
      refine' L2.InM.of ?a ?i ?l ?c ?k
      (case a => k_is); (case i => k_is); (case l => k_is); (case c => k_is); (case k => k_is)
    case im_rest_limited =>
      refine' L2.InM.of ?a ?i ?l ?c ?k
      (case a => k_is); (case i => k_is); (case l => k_is); (case c => k_is); (case k => k_is)
    case im_hides_limited =>
      refine' L2.InM.of ?a ?i ?l ?c ?k
      (case a => k_is); (case i => k_is); (case l => k_is); (case c => k_is); (case k => k_is)
    case im_over_limited =>
      refine' L2.InM.of ?a ?i ?l ?c ?k
      (case a => k_is); (case i => k_is); (case l => k_is); (case c => k_is); (case k => k_is)
    case im_meets_limited =>
      refine' L2.InM.of ?a ?i ?l ?c ?k
      (case a => k_is); (case i => k_is); (case l => k_is); (case c => k_is); (case k => k_is)
    case im_behind_limited =>
      refine' L2.InM.of ?a ?i ?l ?c ?k
      (case a => k_is); (case i => k_is); (case l => k_is); (case c => k_is); (case k => k_is)
    case im___init___limited =>
      refine' L2.InM.of ?a ?i ?l ?c ?k
      (case a => k_is); (case i => k_is); (case l => k_is); (case c => k_is); (case k => k_is)
    case c_grouped =>
      refine' L2.InC.mk ?a ?b ?c ?d ?e ?f ?g
      (case a => k_is); (case b => k_is); (case c => k_is); (case d => k_is); (case e => k_is); (case f => k_is); (case g => k_is)
    case na_grouped =>
      intro l
      cases l <;> dsimp only [K50.Fl.name] <;> k_is
    case im_next_row_grouped =>
      refine' L2.InM.of ?a ?i ?l ?c ?k
      (case a => k_is); (case i => k_is); (case l => k_is); (case c => k_is); (case k => k_is)
    case im_begin_anew_grouped =>
      refine' L2.InM.of ?a ?i ?l ?c ?k
      (case a => k_is); (case i => k_is); (case l => k_is); (case c => k_is); (case k => k_is)
    case im_rest_grouped =>
      refine' L2.InM.of ?a ?i ?l ?c ?k
      (case a => k_is); (case i => k_is); (case l => k_is); (case c => k_is); (case k => k_is)
    case im_hides_grouped =>
      refine' L2.InM.of ?a ?i ?l ?c ?k
      (case a => k_is); (case i => k_is); (case l => k_is); (case c => k_is); (case k => k_is)
    case im_over_grouped =>
      refine' L2.InM.of ?a ?i ?l ?c ?k
      (case a => k_is); (case i => k_is); (case l => k_is); (case c => k_is); (case k => k_is)
    case im_meets_grouped =>
      refine' L2.InM.of ?a ?i ?l ?c ?k
      (case a => k_is); (case i => k_is); (case l => k_is); (case c => k_is); (case k => k_is)
    case im_behind_grouped =>
      refine' L2.InM.of ?a ?i ?l ?c ?k
      (case a => k_is); (case i => k_is); (case l => k_is); (case c => k_is); (case k => k_is)
    case im___init___grouped =>
      refine' L2.InM.of ?a ?i ?l ?c ?k
      (case a => k_is); (case i => k_is); (case l => k_is); (case c => k_is); (case k => k_is)
    (case z_len => k_is)
    (case z_range => k_is)
    (case z_tuple => k_is)
    (case z_list => k_is)
    (case z_int => k_is)
    (case z_bool => k_is)
    (case z_isinstance => k_is)
    (case z_min => k_is)
#print axioms PySem.Challenge.cw_nightwatch_k50_frames_holds

