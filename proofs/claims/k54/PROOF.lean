import PyProof.Rows.All
import Wide.All
import OpenK.AllK
import Wide.FinOn
import Lean
import PyProof.EqAt
import PyProof.EqKinds
import PyProof.NeKinds
import PyProof.TupleCall
import KE.KPairComp
import PySem.Challenge.RW_nightwatch_k54_faults_go_out
set_option Elab.async false
set_option linter.all false
set_option genSizeOf false
set_option maxRecDepth 100000
namespace L2
open PySem PySem.Spec PyProof.Rows

abbrev Key := Sum Int Str
def keyIs : Key → Value → Bool
  | .inl k, v => Value.isInt k v
  | .inr x, v => Value.isStrOf x v
def keyH (w : World) : Key → Int
  | .inl k => hashInt k
  | .inr x => hashStr w x
theorem keyIs_shape : ∀ {k : Key} {v : Value}, keyIs k v = true → (∃ i t, k = Sum.inl i ∧ v = Value.int i t) ∨ (∃ x t, k = Sum.inr x ∧ v = Value.str x t)
  | .inl i, v, h => by
    obtain ⟨t, e⟩ := Value.isInt_shape (k := i) (v := v) h
    exact .inl ⟨i, t, rfl, e⟩
  | .inr x, v, h => by
    obtain ⟨t, e⟩ := Value.isStrOf_shape (x := x) (v := v) h
    exact .inr ⟨x, t, rfl, e⟩
theorem keyIs_int (i : Int) (t : Tok) : keyIs (.inl i) (.int i t) = true := by simp [keyIs, Value.isInt]
theorem keyIs_str (x : Str) (t : Tok) : keyIs (.inr x) (.str x t) = true := by simp [keyIs, Value.isStrOf]
theorem key_ll (a b : Int) : decide ((Sum.inl a : Key) = Sum.inl b) = (a == b) := by
  by_cases e : a = b
  · subst e; simp
  · have h : ¬ (Sum.inl a : Key) = Sum.inl b := fun q => e (Sum.inl.inj q)
    rw [decide_eq_false h]
    exact (beq_eq_false_iff_ne.mpr e).symm
theorem key_rr (a b : Str) : decide ((Sum.inr a : Key) = Sum.inr b) = decide (a = b) := by
  by_cases e : a = b
  · subst e; simp
  · have h : ¬ (Sum.inr a : Key) = Sum.inr b := fun q => e (Sum.inr.inj q)
    rw [decide_eq_false h, decide_eq_false e]
theorem key_lr (a : Int) (b : Str) : decide ((Sum.inl a : Key) = Sum.inr b) = false := decide_eq_false (fun q => nomatch q)
theorem key_rl (a : Str) (b : Int) : decide ((Sum.inr a : Key) = Sum.inl b) = false := decide_eq_false (fun q => nomatch q)

def mixKind (prog : Program) (w : World) : PySem.KeyKind prog w Key where
  is := keyIs
  hash := keyH w
  inj := fun v a b ha hb => by
    rcases keyIs_shape ha with ⟨i, t, rfl, rfl⟩ | ⟨x, t, rfl, rfl⟩
    · rcases keyIs_shape hb with ⟨j, u, rfl, e⟩ | ⟨y, u, rfl, e⟩
      · injection e with e1 _; rw [e1]
      · exact nomatch e
    · rcases keyIs_shape hb with ⟨j, u, rfl, e⟩ | ⟨y, u, rfl, e⟩
      · exact nomatch e
      · injection e with e1 _; rw [e1]
  byValue := fun k v h => by
    rcases keyIs_shape h with ⟨i, t, rfl, rfl⟩ | ⟨x, t, rfl, rfl⟩ <;> rfl
  pyHash := fun hv h => by
    rcases keyIs_shape hv with ⟨i, t, rfl, rfl⟩ | ⟨x, t, rfl, rfl⟩
    · exact wpAny_pyHash_int h
    · exact wpAny_pyHash_str h
  eqBool := fun hu hv h => by
    rcases keyIs_shape hu with ⟨i, t, rfl, rfl⟩ | ⟨x, t, rfl, rfl⟩
    · rcases keyIs_shape hv with ⟨j, u, rfl, rfl⟩ | ⟨y, u, rfl, rfl⟩
      · rw [key_ll] at h; exact wpAny_eqBool_int h
      · rw [key_lr] at h; exact SeqAt.EqAt.int_str i t y u _ _ _ _ h
    · rcases keyIs_shape hv with ⟨j, u, rfl, rfl⟩ | ⟨y, u, rfl, rfl⟩
      · rw [key_rl] at h; exact SeqAt.EqAt.str_int x t j u _ _ _ _ h
      · rw [key_rr] at h; exact wpAny_eqBool_str h
  «strs» := fun k x t v h => by
    rcases keyIs_shape h with ⟨i, u, rfl, e⟩ | ⟨y, u, rfl, e⟩
    · exact nomatch e
    · injection e with e1 _
      subst e1
      cases v <;> rfl

theorem mixKind_int (prog : Program) (w : World) (i : Int) (t : Tok) : (mixKind prog w).is (.inl i) (.int i t) = true := keyIs_int i t
theorem mixKind_str (prog : Program) (w : World) (x : Str) (t : Tok) : (mixKind prog w).is (.inr x) (.str x t) = true := keyIs_str x t
end L2

namespace L2
open PySem PySem.Spec PyProof.Rows

inductive V where
  | non | bl (b : Bool) | int (i : Int) | str (x : Str) | byt (b : Array UInt8) | flt (b : UInt64) | ref (a : Addr) | ty (n : String)
  deriving DecidableEq

def RelV : V → Value → Prop
  | .non, u => u = Value.none
  | .bl b, u => u = Value.bool b
  | .int i, u => ∃ t, u = Value.int i t
  | .str x, u => ∃ t, u = Value.str x t
  | .byt b, u => ∃ t, u = Value.bytes b t
  | .flt b, u => ∃ t, u = Value.float b t
  | .ref a, u => u = Value.ref a
  | .ty n, u => u = Value.type n

abbrev Vals : List V → List Value → Prop := Paired RelV
theorem Vals.length {xs : List V} {us : List Value} (r : Vals xs us) : xs.length = us.length := Paired.length r
theorem Vals.get : ∀ {xs : List V} {us : List Value} {i : Nat} {x : V}, Vals xs us → xs[i]? = some x → ∃ u, us[i]? = some u ∧ RelV x u
  | _, _, _, _, .nil, e => by simp at e
  | _, _, 0, _, .cons r _, e => by simp at e; subst e; exact ⟨_, rfl, r⟩
  | _, _, i + 1, x, .cons _ t, e => by
    obtain ⟨u, h1, h2⟩ := Vals.get (i := i) (x := x) t (by simpa using e)
    exact ⟨u, by simpa using h1, h2⟩
theorem Vals.set {x : V} {u : Value} (r : RelV x u) : ∀ {xs : List V} {us : List Value} (i : Nat), Vals xs us → Vals (xs.set i x) (us.set i u)
  | _, _, _, .nil => .nil
  | _, _, 0, .cons _ t => .cons r t
  | _, _, i + 1, .cons q t => .cons q (Vals.set r i t)
theorem Vals.append : ∀ {xs ys : List V} {us ws : List Value}, Vals xs us → Vals ys ws → Vals (xs ++ ys) (us ++ ws)
  | _, _, _, _, .nil, s => s
  | _, _, _, _, .cons r t, s => .cons r (Vals.append t s)
theorem Vals.take : ∀ {xs : List V} {us : List Value} (n : Nat), Vals xs us → Vals (xs.take n) (us.take n)
  | _, _, 0, _ => .nil
  | _, _, _ + 1, .nil => .nil
  | _, _, n + 1, .cons r t => .cons r (Vals.take n t)
theorem Vals.drop : ∀ {xs : List V} {us : List Value} (n : Nat), Vals xs us → Vals (xs.drop n) (us.drop n)
  | _, _, 0, r => r
  | _, _, _ + 1, .nil => .nil
  | _, _, n + 1, .cons _ t => Vals.drop n t
theorem Vals.none_of : ∀ {xs : List V} {us : List Value} {i : Nat}, Vals xs us → xs[i]? = none → us[i]? = none := fun {xs us i} r e => by
  have h1 := r.length
  have h2 : xs.length ≤ i := List.getElem?_eq_none_iff.mp e
  exact List.getElem?_eq_none_iff.mpr (by omega)

def RelO : Option V → Option Value → Prop
  | some v, some u => RelV v u
  | none, none => True
  | _, _ => False
def KV {κ : Type} : List (κ × V) → List (κ × Value) → Prop := Paired fun (p : κ × V) (q : κ × Value) => p.1 = q.1 ∧ RelV p.2 q.2

def kV : Key → V
  | .inl i => .int i
  | .inr x => .str x

inductive HO where
  | lst (xs : List V)
  | tup (xs : List V)
  | dK (kvs : List (Key × V)) | dT (kvs : List (List Key × V))
  | set (S : Int → Bool) (n : Nat)
  | ins (C dx : Addr) (fs : List (Str × V))
  | own (x : Addr)
  | xd (fs : List (Str × V))
  | met (f x : Addr)
  | rng (lo hi : Int)
  | frz (o : Obj) (u : HO)
  | tbl (ps : Array Value)
  | ext (φ : Heap → Prop)

abbrev Hp := Addr → Option HO
def upd (H : Hp) (a : Addr) (o : HO) : Hp := fun b => if b = a then some o else H b
theorem upd_same {H : Hp} {a : Addr} {o : HO} : upd H a o a = some o := by unfold upd; rw [if_pos rfl]
theorem upd_ne {H : Hp} {a b : Addr} {o : HO} (h : b ≠ a) : upd H a o b = H b := by unfold upd; rw [if_neg h]
theorem ne_of {H : Hp} {a b : Addr} {o u : HO} (h : H a = some o) (h' : H b = some u) (d : o ≠ u) : a ≠ b := by
  intro e; subst e; rw [h] at h'; exact d (Option.some.inj h')
theorem ne_of_none {H : Hp} {a b : Addr} {o : HO} (h : H a = some o) (h' : H b = none) : a ≠ b := by
  intro e; subst e; rw [h] at h'; cases h'

section
variable (P : Program) (w : World)
def ObjOk (H : Hp) (h : Heap) (a : Addr) : HO → Prop
  | .lst xs => xs.length ≤ sizeLine ∧ ∃ (its : List Value) (n : Nat), Vals xs its ∧ h.get? a = some { cls := .type "list", data := .seq its.toArray n }
  | .tup xs => xs.length ≤ sizeLine ∧ ∃ its : List Value, Vals xs its ∧ IsTup h a its.toArray
  | .dK kvs => kvs.length ≤ sizeLine ∧ (a == sysModules) = false ∧ ∃ vs, KV kvs vs ∧ h.DictOf (mixKind P w) a vs
  | .dT kvs => kvs.length ≤ sizeLine ∧ (a == sysModules) = false ∧ ∃ xs : List (List Key × Addr × Value),
      Paired (fun (p : List Key × V) (q : List Key × Addr × Value) => p.1 = q.1 ∧ H q.2.1 = some (.tup (p.1.map kV)) ∧ RelV p.2 q.2.2) kvs xs ∧
      ∃ o es ep, h.get? a = some o ∧ o.ExactDict ∧ o.data = .dict es ep ∧ es.toList = xs.map (entryOfKey (tupleKind (mixKind P w))) ∧ (xs.map (·.1)).Nodup
  | .set S n => h.SetOf (intKind P w) a S n
  | .ins C dx fs => H dx = some (.own a) ∧ fs.length ≤ 1000 ∧ dx ≠ a ∧ h.get? a = some (PySem.W.instObj C dx) ∧
      ∃ mA, h.Ns1 dx mA ∧ (∀ f, RelO (fs.lookup f) (mA f)) ∧ PySem.Within mA (fs.map (·.1))
  | .own _ => ∃ o, h.get? a = some o
  | .xd fs => ∃ mA, h.Ns1 a mA ∧ ∀ f, RelO (fs.lookup f) (mA f)
  | .rng lo hi => ∃ t u v, h.get? a = some { cls := .type "range", data := .fields #[.int lo t, .int hi u, .int 1 v] }
  | .frz o u => h.get? a = some o ∧ ObjOk H h a u
  | .tbl ps => h.get? a = some { cls := .none, data := .fields ps }
  | .met f x => h.get? a = some (PySem.W.methodObj (.ref f) (.ref x))
  | .ext φ => φ h ∧ (∃ o, h.get? a = some o) ∧ ∀ h1 h2 : Heap, φ h1 → (∀ o, h1.get? a = some o → h2.get? a = some o) → φ h2
def HOk (H : Hp) (h : Heap) : Prop := ∀ a o, H a = some o → ObjOk P w H h a o
end

section
variable {P : Program} {w : World} {H H' : Hp} {h h' : Heap} {a : Addr} {o : HO}
theorem ObjOk.lt (x : ObjOk P w H h a o) : a < h.objs.size := by
  cases o with
  | lst xs => obtain ⟨_, _, _, _, e⟩ := x; exact Heap.lt_size e
  | tup xs => obtain ⟨_, _, _, p⟩ := x; exact p.lt
  | dK kvs => obtain ⟨_, _, _, _, o, _, _, e, _⟩ := x; exact Heap.lt_size e
  | dT kvs => obtain ⟨_, _, _, _, o, _, _, e, _⟩ := x; exact Heap.lt_size e
  | set S n => obtain ⟨o, _, _, _, e, _⟩ := x; exact Heap.lt_size e
  | ins C dx fs => obtain ⟨_, _, _, e, _⟩ := x; exact Heap.lt_size e
  | own y => obtain ⟨_, e⟩ := x; exact Heap.lt_size e
  | xd fs => obtain ⟨_, ⟨_, _, _, e, _⟩, _⟩ := x; exact Heap.lt_size e
  | rng lo hi => obtain ⟨_, _, _, e⟩ := x; exact Heap.lt_size e
  | frz ob u => obtain ⟨e, _⟩ := x; exact Heap.lt_size e
  | tbl ps => exact Heap.lt_size (show h.get? a = some _ from x)
  | met f y => exact Heap.lt_size (show h.get? a = some _ from x)
  | ext φ => obtain ⟨_, ⟨_, e⟩, _⟩ := x; exact Heap.lt_size e
theorem Paired.mapP {α β : Type} {F G : α → β → Prop} : ∀ {l₁ : List α} {l₂ : List β}, Paired F l₁ l₂ → (∀ a b, F a b → G a b) → Paired G l₁ l₂
  | _, _, .nil, _ => .nil
  | _, _, .cons r t, f => .cons (f _ _ r) (Paired.mapP t f)
theorem ObjOk.stay (x : ObjOk P w H h a o) (k : ∀ b u, (b = a ∨ H b = some (.own a)) → h.get? b = some u → h'.get? b = some u)
    (ho : ∀ b, H b = some (.own a) → H' b = some (.own a)) (ht : ∀ b xs, H b = some (.tup xs) → H' b = some (.tup xs)) : ObjOk P w H' h' a o := by
  induction o with
  | lst xs => obtain ⟨z, its, n, r, e⟩ := x; exact ⟨z, its, n, r, k _ _ (.inl rfl) e⟩
  | tup xs => obtain ⟨z, its, r, ob, e, c⟩ := x; exact ⟨z, its, r, ob, k _ _ (.inl rfl) e, c⟩
  | dK kvs => obtain ⟨z, y, vs, r, ob, es, ep, e, c⟩ := x; exact ⟨z, y, vs, r, ob, es, ep, k _ _ (.inl rfl) e, c⟩
  | dT kvs =>
    obtain ⟨z, y, xs, r, ob, es, ep, e, c⟩ := x
    exact ⟨z, y, xs, Paired.mapP r fun p q z => ⟨z.1, ht _ _ z.2.1, z.2.2⟩, ob, es, ep, k _ _ (.inl rfl) e, c⟩
  | set S n => obtain ⟨ob, es, ep, t, e, c⟩ := x; exact ⟨ob, es, ep, t, k _ _ (.inl rfl) e, c⟩
  | ins C dx fs =>
    obtain ⟨d, z, ne, e, mA, ⟨od, es, ep, e2, c⟩, r⟩ := x
    exact ⟨ho _ d, z, ne, k _ _ (.inl rfl) e, mA, ⟨od, es, ep, k _ _ (.inr d) e2, c⟩, r⟩
  | own y => obtain ⟨ob, e⟩ := x; exact ⟨ob, k _ _ (.inl rfl) e⟩
  | xd fs => obtain ⟨mA, ⟨od, es, ep, e, c⟩, r⟩ := x; exact ⟨mA, ⟨od, es, ep, k _ _ (.inl rfl) e, c⟩, r⟩
  | rng lo hi => obtain ⟨t, u, v, e⟩ := x; exact ⟨t, u, v, k _ _ (.inl rfl) e⟩
  | frz ob u ih => obtain ⟨e, q⟩ := x; exact ⟨k _ _ (.inl rfl) e, ih q⟩
  | tbl ps =>
    have e : h.get? a = some { cls := .none, data := .fields ps } := x
    show h'.get? a = some { cls := .none, data := .fields ps }
    exact k a _ (.inl rfl) e
  | met f y =>
    have e : h.get? a = some (PySem.W.methodObj (.ref f) (.ref y)) := x
    show h'.get? a = some (PySem.W.methodObj (.ref f) (.ref y))
    exact k a _ (.inl rfl) e
  | ext φ => obtain ⟨p, ⟨o, e⟩, st⟩ := x; exact ⟨st _ _ p fun o q => k _ _ (.inl rfl) q, ⟨o, k _ _ (.inl rfl) e⟩, st⟩
theorem HOk.lt (x : HOk P w H h) (e : H a = some o) : a < h.objs.size := (x a o e).lt
theorem HOk.fresh (x : HOk P w H h) (e : h.objs.size ≤ a) : H a = none := by
  cases q : H a with
  | none => rfl
  | some u => exact absurd (Nat.lt_of_lt_of_le (x.lt q) e) (Nat.lt_irrefl _)
theorem HOk.kept (x : HOk P w H h) (k : ∀ b u, h.get? b = some u → h'.get? b = some u) : HOk P w H h' := fun a o e =>
  (x a o e).stay (fun b u _ q => k b u q) (fun _ q => q) fun _ _ q => q
theorem HOk.laid (x : HOk P w H h) (k : ∀ b u, h.get? b = some u → h'.get? b = some u) (hp : h.objs.size ≤ a) (new : ObjOk P w (upd H a o) h' a o) : HOk P w (upd H a o) h' := fun b u e => by
  have hn := x.fresh hp
  by_cases hb : b = a
  · subst hb; rw [upd_same] at e; cases e; exact new
  · rw [upd_ne hb] at e
    exact (x b u e).stay (fun c v _ q => k c v q) (fun c q => by rw [upd_ne (ne_of_none q hn)]; exact q) fun c xs q => by rw [upd_ne (ne_of_none q hn)]; exact q
end

def Rd (H : Hp) (a : Addr) (u : HO) : Prop := H a = some u ∨ ∃ o, H a = some (.frz o u)
theorem Rd.of {H : Hp} {a : Addr} {u : HO} (h : H a = some u) : Rd H a u := .inl h
theorem Rd.ok {P : Program} {w : World} {H : Hp} {h : Heap} {a : Addr} {u : HO} (r : Rd H a u) (x : HOk P w H h) : ObjOk P w H h a u := by
  rcases r with r | ⟨o, r⟩
  · exact x a u r
  · obtain ⟨_, q⟩ := x a _ r
    exact q
def Mut : Option HO → Prop
  | some (.lst _) => True
  | some (.dK _) => True
  | some (.dT _) => True
  | some (.set _ _) => True
  | some (.ins _ _ _) => True
  | some (.ext _) => True
  | _ => False
section
variable {P : Program} {w : World} {H : Hp} {h h' : Heap} {x e : Addr} {o' : HO}
theorem HOk.write (ok : HOk P w H h) (mu : Mut (H x)) (he : e = x ∨ H e = some (.own x)) (k : ∀ b u, b ≠ e → h.get? b = some u → h'.get? b = some u) (heo : ∃ u, h'.get? e = some u)
    (new : ObjOk P w (upd H x o') h' x o') : HOk P w (upd H x o') h' := fun b u q => by
  have nown : ∀ c y, H c = some (.own y) → c ≠ x := fun c y r z => by subst z; rw [r] at mu; exact mu
  have ntup : ∀ c xs, H c = some (.tup xs) → c ≠ x := fun c xs r z => by subst z; rw [r] at mu; exact mu
  by_cases hb : b = x
  · subst hb; rw [upd_same] at q; cases q; exact new
  · rw [upd_ne hb] at q
    by_cases hbe : b = e
    · have q' : H b = some (.own x) := by
        rcases he with z | z
        · exact absurd (hbe.trans z) hb
        · rw [hbe]; exact z
      rw [q] at q'; cases q'
      obtain ⟨v, hv⟩ := heo
      exact ⟨v, by rw [hbe]; exact hv⟩
    · refine (ok b u q).stay (fun c v hc r => k c v ?_ r) (fun c r => by rw [upd_ne (nown c b r)]; exact r) fun c xs r => by rw [upd_ne (ntup c xs r)]; exact r
      rcases hc with rfl | hc
      · exact hbe
      · rintro rfl
        rcases he with z | z
        · exact nown c b hc z
        · rw [hc] at z; cases z; exact hb rfl
end

structure Un (fs ex : List Addr) (H H' : Hp) (h h' : Heap) : Prop where
  keep : ∀ b o, h.get? b = some o → H b = none → b ∉ fs → b ∉ ex → h'.get? b = some o
  slot : ∀ b o, h.get? b = some o → H b = none → b ∈ fs → b ∉ ex → ∃ sl, h'.get? b = some { o with slots := sl }
  free : ∀ b o, h.get? b = some o → H b = none → b ∉ ex → H' b = none
  there : ∀ b o, h.get? b = some o → b ∉ ex → ∃ o', h'.get? b = some o'
  tups : ∀ b xs, H b = some (.tup xs) → H' b = some (.tup xs)
  frzs : ∀ b o u, H b = some (.frz o u) → H' b = some (.frz o u)
  tbls : ∀ b ps, H b = some (.tbl ps) → ∃ more, H' b = some (.tbl (ps ++ more))
section
variable {fs fs' ex ex' : List Addr} {H H1 H2 : Hp} {h h1 h2 h' : Heap} {a x e : Addr} {o : HO}
theorem Un.any (u : Un fs ex H H1 h h1) {b : Addr} {ob : Obj} (q : h.get? b = some ob) (n : H b = none) (hx : b ∉ ex) : ∃ sl, h1.get? b = some { ob with slots := sl } := by
  by_cases hb : b ∈ fs
  · exact u.slot b ob q n hb hx
  · exact ⟨ob.slots, u.keep b ob q n hb hx⟩
theorem Un.trans (a : Un fs ex H H1 h h1) (b : Un fs ex H1 H2 h1 h2) : Un fs ex H H2 h h2 where
  keep := fun c ob q n hc hx => b.keep c ob (a.keep c ob q n hc hx) (a.free c ob q n hx) hc hx
  slot := fun c ob q n hc hx => by
    obtain ⟨sl, e1⟩ := a.slot c ob q n hc hx
    obtain ⟨sl', e2⟩ := b.slot c _ e1 (a.free c ob q n hx) hc hx
    exact ⟨sl', e2⟩
  free := fun c ob q n hx => by
    obtain ⟨o', e1⟩ := a.there c ob q hx
    exact b.free c o' e1 (a.free c ob q n hx) hx
  there := fun c ob q hx => by
    obtain ⟨o', e1⟩ := a.there c ob q hx
    exact b.there c o' e1 hx
  tups := fun c xs q => b.tups c xs (a.tups c xs q)
  frzs := fun c ob xs q => b.frzs c ob xs (a.frzs c ob xs q)
  tbls := fun c ps q => by
    obtain ⟨m1, e1⟩ := a.tbls c ps q
    obtain ⟨m2, e2⟩ := b.tbls c _ e1
    exact ⟨m1 ++ m2, by rw [e2, Array.append_assoc]⟩
theorem Un.kept (k : ∀ b u, h.get? b = some u → h'.get? b = some u) : Un fs ex H H h h' :=
  ⟨fun b ob q _ _ _ => k b ob q, fun b ob q _ _ _ => ⟨ob.slots, k b ob q⟩, fun _ _ _ n _ => n, fun b ob q _ => ⟨ob, k b ob q⟩, fun _ _ q => q, fun _ _ _ q => q, fun _ ps q => ⟨#[], by rw [q]; simp⟩⟩
theorem Un.refl : Un fs ex H H h h := Un.kept fun _ _ q => q
theorem Un.laid (k : ∀ b u, h.get? b = some u → h'.get? b = some u) (hp : h.objs.size ≤ a) (hn : H a = none) : Un fs ex H (upd H a o) h h' where
  keep := fun b u q _ _ _ => k b u q
  slot := fun b u q _ _ _ => ⟨u.slots, k b u q⟩
  free := fun b u q n _ => by rw [upd_ne (Nat.ne_of_lt (Nat.lt_of_lt_of_le (Heap.lt_size q) hp))]; exact n
  there := fun b u q _ => ⟨u, k b u q⟩
  tups := fun b xs q => by rw [upd_ne (ne_of_none q hn)]; exact q
  frzs := fun b u xs q => by rw [upd_ne (ne_of_none q hn)]; exact q
  tbls := fun b ps q => ⟨#[], by rw [upd_ne (ne_of_none q hn), q]; simp⟩
theorem Un.write (mu : Mut (H x)) (he : e = x ∨ H e = some (.own x)) (k : ∀ b u, b ≠ e → h.get? b = some u → h'.get? b = some u) (heo : ∃ u, h'.get? e = some u) : Un fs ex H (upd H x o) h h' := by
  have hx : ∀ b, H b = none → b ≠ x := fun b n z => by subst z; rw [n] at mu; exact mu
  have hb : ∀ b, H b = none → b ≠ e := fun b n z => by
    subst z
    rcases he with r | r
    · exact hx b n r
    · rw [n] at r; cases r
  have hm : ∀ b u, H b = some u → ¬ Mut (some u) → b ≠ x := fun b u q nm z => by subst z; rw [q] at mu; exact nm mu
  refine ⟨fun b u q n _ _ => k b u (hb b n) q, fun b u q n _ _ => ⟨u.slots, k b u (hb b n) q⟩, fun b u q n _ => by rw [upd_ne (hx b n)]; exact n, fun b u q _ => ?_,
    fun b xs q => by rw [upd_ne (hm b _ q fun z => z)]; exact q, fun b u xs q => by rw [upd_ne (hm b _ q fun z => z)]; exact q, fun b ps q => ⟨#[], by rw [upd_ne (hm b _ q fun z => z), q]; simp⟩⟩
  by_cases hbe : b = e
  · subst hbe; exact heo
  · exact ⟨u, k b u hbe q⟩
theorem Un.mono (u : Un fs ex H H1 h h1) (hs : ∀ b ∈ fs, b ∈ fs') (hx : ∀ b ∈ ex, b ∈ ex') : Un fs' ex' H H1 h h1 :=
  ⟨fun b ob q n hb he => u.keep b ob q n (fun z => hb (hs b z)) fun z => he (hx b z), fun _ _ q n _ he => u.any q n fun z => he (hx _ z), fun b ob q n he => u.free b ob q n fun z => he (hx b z), fun b ob q he => u.there b ob q fun z => he (hx b z), u.tups, u.frzs, u.tbls⟩
end

def trk (h : Heap) (H : Hp) : List Addr := (List.range h.objs.size).filter fun a => (H a).isSome
def hidT (h : Heap) (H : Hp) : Heap := PySem.W.hideAll h (trk h H)
theorem hidT_size (h : Heap) (H : Hp) : (hidT h H).objs.size = h.objs.size := PySem.W.hideAll_size _ _
theorem hidT_get {h : Heap} {H : Hp} {b : Addr} {o : Obj} (e : h.get? b = some o) (n : H b = none) : (hidT h H).get? b = some o :=
  PySem.W.hideAll_get _ e fun hm => by
    have q : (H b).isSome = true := (List.mem_filter.mp hm).2
    rw [n] at q; simp at q
theorem of_hidT {h : Heap} {H : Hp} {b : Addr} {o : Obj} (e : (hidT h H).get? b = some o) : h.get? b = some o ∧ H b = none := by
  have e' : h.get? b = some o := PySem.W.of_hideAll (trk h H) e
  refine ⟨e', ?_⟩
  cases q : H b with
  | none => rfl
  | some x =>
    have hm : b ∈ trk h H := List.mem_filter.mpr ⟨List.mem_range.mpr (Heap.lt_size e'), by simp [q]⟩
    have z : (hidT h H).get? b = none := PySem.W.hideAll_none (trk h H) hm
    rw [z] at e; cases e

def allNews (g h : Heap) (L : Addr) : List (Addr × Obj) := (List.range h.objs.size).filterMap fun a => if a = L ∨ (g.get? a).isSome = true then none else (h.get? a).map fun o => (a, o)
def rest (g h : Heap) (L d : Addr) : List (Addr × Obj) := (allNews g h L).filter fun p => decide (p.1 ≠ d)
end L2

namespace L2
open PySem PySem.Spec PyProof.Rows

structure Mod (K : PySem.W.Frag) (mg : Str → Option Value) (base : Heap) : Prop where
  kin : K.In base
  glob : base.Ns mainGlobals mg
  blt : ∃ mb, base.Ns builtinsNs mb ∧ ∀ x : Str, x ≠ "__name__" → mb x = bootBuiltins x
  nolimit : base.NoLimit

set_option genInjectivity false in
structure Cx where
  prog : Program
  w : World
  K : PySem.W.Frag
  mg : Str → Option Value
  base : Heap
  A : Around
  N : List Str
  s₀ : Shared
  H₀ : Hp
  env : Env
  outer : List Env
  stack : List Env
  ex : List Addr
  fn : Str → Bool
  calm : Bool
  pn : List (Addr × Obj)
  xe : Value → Shared → Prop
def frs (l : List Env) : List Addr := l.filterMap (·.frame)
abbrev Cx.fs (X : Cx) : List Addr := frs X.outer

def Vis (sc : Scope) (x : Str) : Prop := sc.names.lookup x = some .local ∨ sc.names.lookup x = some .cell ∨ sc.names.lookup x = some .free
def Loc (sc : Scope) (x : Str) : Prop := sc.names.lookup x = some .local ∨ sc.names.lookup x = some .cell
def Look (env : Env) (h : Heap) (m : Str → Option Value) (x : Str) (u : Value) : Prop :=
  (env.kindOf x = some .local ∧ m x = some u) ∨ ((env.kindOf x = some .cell ∨ env.kindOf x = some .free) ∧ ∃ c, env.cells.lookup x = some c ∧ h.IsCell c (some u))

structure Cx.Ok (X : Cx) : Prop where
  mod : Mod X.K X.mg X.base
  kind : X.env.scope.kind = .function
  glob : X.env.globals = mainGlobals
  blt : X.env.builtins = builtinsNs
  above : X.s₀.heap.objs.size ≤ X.env.locals
  inj : ∀ x y c, X.env.cells.lookup x = some c → X.env.cells.lookup y = some c → x = y
  has : ∀ x, (X.env.kindOf x = some .cell ∨ X.env.kindOf x = some .free) → ∃ c, X.env.cells.lookup x = some c
  cab : ∀ x c, X.fn x = true → X.env.cells.lookup x = some c → X.s₀.heap.objs.size ≤ c
  hd : X.calm = true → X.A.handled = none
  frames : X.A.frames = some X.stack
  stk : X.stack = X.outer ∨ (X.stack = X.env :: X.outer ∧ X.env.frame = some X.env.locals)
  exf : ∀ b ∈ X.ex, b ≠ X.env.locals ∧ ∀ x c, X.env.cells.lookup x = some c → c ≠ b
  bs : ∀ b o, X.base.get? b = some o → X.s₀.heap.get? b = some o ∧ X.H₀ b = none
  bsz : X.base.objs.size ≤ X.s₀.heap.objs.size
  noex : ∀ b o, X.base.get? b = some o → b ∉ X.ex
  exfs : ∀ b ∈ X.ex, b ∉ X.fs
  funs : X.s₀.heap.FunFrames X.base X.outer
  frf : ∀ b ∈ X.fs, X.H₀ b = none

structure Inv (X : Cx) (pins : List (Addr × Obj)) (σ : List (Option V)) (H : Hp) (s : Shared) : Prop where
  ok : X.Ok
  os : s.os = X.s₀.os
  bare : AllBare s.gens
  base : Un X.fs X.ex X.H₀ H X.s₀.heap s.heap
  loc : ∃ m, s.heap.Ns X.env.locals m ∧ ∀ (i : Nat) (x : Str) (v : V), X.N[i]? = some x → σ[i]? = some (some v) → Vis X.env.scope x → ∃ u, RelV v u ∧ Look X.env s.heap m x u
  cell : ∀ x c, X.env.cells.lookup x = some c → ∃ v, s.heap.IsCell c v
  free : H X.env.locals = none
  freeC : ∀ x c, X.env.cells.lookup x = some c → H c = none
  pin : ∀ p ∈ X.pn ++ pins, s.heap.get? p.1 = some p.2 ∧ H p.1 = none ∧ p.1 ≠ X.env.locals ∧ p.1 ∉ X.fs ∧ ∀ v, p.2.data ≠ .cell v
  hok : HOk X.prog X.w H s.heap
  len : σ.length = X.N.length

section
variable {X : Cx} {pins : List (Addr × Obj)} {σ : List (Option V)} {H H' : Hp} {s : Shared} {h' : Heap}

theorem Cx.Ok.nofr (ok : X.Ok) {b : Addr} {o : Obj} (e : X.base.get? b = some o) : b ∉ X.fs := fun hb => by
  have := (ok.funs.mem hb).1
  rw [e] at this; cases this
theorem Inv.bs (I : Inv X pins σ H s) : ∀ b o, X.base.get? b = some o → s.heap.get? b = some o ∧ H b = none := fun b o e =>
  ⟨I.base.keep b o (I.ok.bs b o e).1 (I.ok.bs b o e).2 (I.ok.nofr e) (I.ok.noex b o e), I.base.free b o (I.ok.bs b o e).1 (I.ok.bs b o e).2 (I.ok.noex b o e)⟩
theorem Inv.bk (I : Inv X pins σ H s) : ∀ b o, X.base.get? b = some o → s.heap.get? b = some o := fun b o e => (I.bs b o e).1
theorem Inv.mod (I : Inv X pins σ H s) : Mod X.K X.mg X.base := I.ok.mod
theorem Inv.kIn (I : Inv X pins σ H s) : X.K.In s.heap := I.ok.mod.kin.keeps I.bk
theorem Inv.nolimit (I : Inv X pins σ H s) : s.heap.NoLimit := I.ok.mod.nolimit.keeps I.bk
theorem Inv.fr (I : Inv X pins σ H s) : ∃ m, Fr X.base X.env.locals s.heap m :=
  let ⟨m, hn, _⟩ := I.loc
  ⟨m, hn, I.bk, Nat.le_trans I.ok.bsz I.ok.above⟩
theorem Inv.lt (I : Inv X pins σ H s) : X.env.locals < s.heap.objs.size := let ⟨_, hn, _⟩ := I.loc; hn.lt
theorem Inv.sz (I : Inv X pins σ H s) : X.s₀.heap.objs.size ≤ s.heap.objs.size := Nat.le_trans I.ok.above (Nat.le_of_lt I.lt)
theorem Inv.nofs (I : Inv X pins σ H s) {a : Addr} (h : s.heap.objs.size ≤ a) : a ∉ X.fs := fun hb => by
  obtain ⟨_, o, ho, _⟩ := I.ok.funs.mem hb
  exact absurd (Nat.lt_of_lt_of_le (Heap.lt_size ho) (Nat.le_trans I.sz h)) (Nat.lt_irrefl _)
theorem Inv.cne (I : Inv X pins σ H s) : ∀ x c, X.env.cells.lookup x = some c → c ≠ X.env.locals := fun x c e z => by
  obtain ⟨v, o, ho, hd⟩ := I.cell x c e
  obtain ⟨m, ⟨o', es, ep, ho', hd', _⟩, _⟩ := I.loc
  rw [z, ho'] at ho; cases ho; rw [hd'] at hd; cases hd
theorem Inv.funs (I : Inv X pins σ H s) : s.heap.FunFrames X.base X.outer := by
  have all : ∀ (l : List Env), (∀ b ∈ frs l, b ∈ X.fs) → X.s₀.heap.FunFrames X.base l → s.heap.FunFrames X.base l := by
    intro l
    induction l with
    | nil => intro _ _; trivial
    | cons env r ih =>
      intro hs hl
      obtain ⟨hk, ⟨L, o, hf, hn, ho, hd⟩, hr⟩ := hl
      have hL : L ∈ X.fs := hs L (by unfold frs; rw [List.filterMap_cons, hf]; exact List.mem_cons_self)
      obtain ⟨sl, e⟩ := I.base.slot L o ho (I.ok.frf L hL) hL fun z => I.ok.exfs L z hL
      exact ⟨hk, ⟨L, _, hf, hn, e, hd⟩, ih (fun b hb => hs b (by unfold frs; rw [List.filterMap_cons, hf]; exact List.mem_cons_of_mem _ hb)) hr⟩
  exact all X.outer (fun _ hb => hb) I.ok.funs

theorem Inv.stack (I : Inv X pins σ H s) : s.heap.FunFrames X.base X.stack := by
  rcases I.ok.stk with e | ⟨e, hf⟩
  · rw [e]; exact I.funs
  · rw [e]
    obtain ⟨m, hn, _⟩ := I.loc
    refine .cons (by rw [I.ok.kind]; decide) hf hn ?_ I.funs
    exact Heap.get?_none_of_le (Nat.le_trans I.ok.bsz I.ok.above)
theorem Inv.stkSub (I : Inv X pins σ H s) : ∀ b ∈ frs X.stack, b ∈ X.env.locals :: X.fs := fun b hb => by
  rcases I.ok.stk with e | ⟨e, hf⟩
  · rw [e] at hb; exact List.mem_cons_of_mem _ hb
  · rw [e] at hb
    unfold frs at hb
    rw [List.filterMap_cons, hf] at hb
    exact hb
theorem Inv.stkFree (I : Inv X pins σ H s) : ∀ b ∈ frs X.stack, H b = none := fun b hb => by
  rcases List.mem_cons.mp (I.stkSub b hb) with e | hb
  · rw [e]; exact I.free
  · obtain ⟨_, o, ho, _⟩ := I.ok.funs.mem hb
    exact I.base.free b o ho (I.ok.frf b hb) fun z => I.ok.exfs b z hb

theorem Inv.step {g' : Array GenState} {t' : Nat} {d' : Drawn} {ch : List Addr} (I : Inv X pins σ H s)
    (hch : ∀ b ∈ ch, (b ∈ X.ex ∨ X.s₀.heap.objs.size ≤ b) ∧ b ≠ X.env.locals ∧ (∀ x c, X.env.cells.lookup x = some c → c ≠ b) ∧ ∀ p ∈ X.pn ++ pins, p.1 ≠ b)
    (keep : ∀ b o, b ≠ X.env.locals → b ∉ X.fs → b ∉ ch → s.heap.get? b = some o → H b = none → h'.get? b = some o)
    (slot : ∀ b o, b ≠ X.env.locals → b ∈ X.fs → b ∉ ch → s.heap.get? b = some o → H b = none → ∃ sl, h'.get? b = some { o with slots := sl }) (free : ∀ b o, b ∉ ch → s.heap.get? b = some o → H b = none → H' b = none)
    (there : ∀ b o, b ∉ ch → s.heap.get? b = some o → ∃ o', h'.get? b = some o')
    (tups : ∀ b xs, H b = some (.tup xs) → H' b = some (.tup xs)) (frzs : ∀ b o u, H b = some (.frz o u) → H' b = some (.frz o u)) (tbls : ∀ b ps, H b = some (.tbl ps) → ∃ more, H' b = some (.tbl (ps ++ more)))
    (ns : ∀ m, s.heap.Ns X.env.locals m → h'.Ns X.env.locals m) (hok : HOk X.prog X.w H' h') (hg : AllBare g') :
    Inv X pins σ H' { s with heap := h', gens := g', drawn := d', toks := t' } := by
  have neL : ∀ b o, X.s₀.heap.get? b = some o → b ≠ X.env.locals := fun b o e => Nat.ne_of_lt (Nat.lt_of_lt_of_le (Heap.lt_size e) I.ok.above)
  have neC : ∀ b o, X.s₀.heap.get? b = some o → b ∉ X.ex → b ∉ ch := fun b o e hx hb => by
    rcases (hch b hb).1 with z | z
    · exact hx z
    · exact absurd (Nat.lt_of_lt_of_le (Heap.lt_size e) z) (Nat.lt_irrefl _)
  have cellK : ∀ x c, X.env.cells.lookup x = some c → ∀ v, s.heap.IsCell c v → h'.IsCell c v := fun x c e v ⟨o, ho, hd⟩ => by
    have nch : c ∉ ch := fun z => (hch c z).2.2.1 x c e rfl
    by_cases hc : c ∈ X.fs
    · obtain ⟨sl, q⟩ := slot c o (I.cne x c e) hc nch ho (I.freeC x c e)
      exact ⟨_, q, hd⟩
    · exact ⟨o, keep c o (I.cne x c e) hc nch ho (I.freeC x c e), hd⟩
  refine ⟨I.ok, I.os, hg, ⟨fun b o e n hb hx => ?_, fun b o e n hb hx => ?_, fun b o e n hx => ?_, fun b o e hx => ?_, fun b xs e => tups b xs (I.base.tups b xs e), fun b o xs e => frzs b o xs (I.base.frzs b o xs e), fun b ps e => ?_⟩, ?_, fun x c e => ?_, ?_, fun x c e => ?_, fun p hp => ?_, hok, I.len⟩
  · exact keep b o (neL b o e) hb (neC b o e hx) (I.base.keep b o e n hb hx) (I.base.free b o e n hx)
  · obtain ⟨sl, e1⟩ := I.base.slot b o e n hb hx
    obtain ⟨sl', e2⟩ := slot b _ (neL b o e) hb (neC b o e hx) e1 (I.base.free b o e n hx)
    exact ⟨sl', e2⟩
  · obtain ⟨o', e1⟩ := I.base.there b o e hx
    exact free b o' (neC b o e hx) e1 (I.base.free b o e n hx)
  · obtain ⟨o', e1⟩ := I.base.there b o e hx
    exact there b o' (neC b o e hx) e1
  · obtain ⟨m1, e1⟩ := I.base.tbls b ps e
    obtain ⟨m2, e2⟩ := tbls b _ e1
    exact ⟨m1 ++ m2, by rw [e2, Array.append_assoc]⟩
  · obtain ⟨m, hn, hl⟩ := I.loc
    refine ⟨m, ns m hn, fun i x v e1 e2 e3 => ?_⟩
    obtain ⟨u, r, l⟩ := hl i x v e1 e2 e3
    refine ⟨u, r, ?_⟩
    rcases l with l | ⟨k, c, e, z⟩
    · exact .inl l
    · exact .inr ⟨k, c, e, cellK x c e _ z⟩
  · obtain ⟨v, z⟩ := I.cell x c e
    exact ⟨v, cellK x c e v z⟩
  · obtain ⟨m, ⟨o, _, _, ho, _⟩, _⟩ := I.loc
    exact free _ o (fun z => (hch _ z).2.1 rfl) ho I.free
  · obtain ⟨v, o, ho, hd⟩ := I.cell x c e
    exact free c o (fun z => (hch c z).2.2.1 x c e rfl) ho (I.freeC x c e)
  · obtain ⟨e, n, ne, nf, d⟩ := I.pin p hp
    have nch : p.1 ∉ ch := fun z => (hch p.1 z).2.2.2 p hp rfl
    exact ⟨keep p.1 p.2 ne nf nch e n, free p.1 p.2 nch e n, ne, nf, d⟩
theorem Inv.un {t' : Nat} (I : Inv X pins σ H s) (u : Un X.fs [] H H' s.heap h') (hok : HOk X.prog X.w H' h') : Inv X pins σ H' { s with heap := h', toks := t' } := by
  obtain ⟨m, ⟨o, es, ep, ho, r⟩, _⟩ := id I.loc
  obtain ⟨sl, hL⟩ := u.any ho I.free (by simp)
  exact I.step (g' := s.gens) (d' := s.drawn) (ch := []) (fun _ z => nomatch z) (fun b o _ hb _ e n => u.keep b o e n hb (by simp)) (fun b o _ hb _ e n => u.slot b o e n hb (by simp)) (fun b o _ e n => u.free b o e n (by simp)) (fun b o _ e => u.there b o e (by simp)) u.tups u.frzs u.tbls (fun m' hm => by
    obtain ⟨o', es', ep', ho', r'⟩ := hm
    rw [ho] at ho'; cases ho'
    exact ⟨_, es', ep', hL, r'⟩) hok I.bare
theorem Inv.call {g' : Array GenState} {t' : Nat} {d' : Drawn} {ch : List Addr} (I : Inv X pins σ H s) (u : Un (frs X.stack) ch H H' s.heap h') (hok : HOk X.prog X.w H' h') (hg : AllBare g')
    (hch : ∀ b ∈ ch, (b ∈ X.ex ∨ X.s₀.heap.objs.size ≤ b) ∧ b ≠ X.env.locals ∧ (∀ x c, X.env.cells.lookup x = some c → c ≠ b) ∧ ∀ p ∈ X.pn ++ pins, p.1 ≠ b) :
    Inv X pins σ H' { s with heap := h', gens := g', drawn := d', toks := t' } := by
  obtain ⟨m, ⟨o, es, ep, ho, r⟩, _⟩ := id I.loc
  obtain ⟨sl, hL⟩ := u.any ho I.free fun z => (hch _ z).2.1 rfl
  exact I.step (ch := ch) hch (fun b o hL hb hc e n => u.keep b o e n (fun z => (List.mem_cons.mp (I.stkSub b z)).elim hL hb) hc) (fun b o _ _ hc e n => u.any e n hc) (fun b o hc e n => u.free b o e n hc) (fun b o hc e => u.there b o e hc) u.tups u.frzs u.tbls (fun m' hm => by
    obtain ⟨o', es', ep', ho', r'⟩ := hm
    rw [ho] at ho'; cases ho'
    exact ⟨_, es', ep', hL, r'⟩) hok hg
theorem Inv.turned {t' : Nat} {it : Addr} (I : Inv X pins σ H s) (k : ∀ b o, b ≠ it → s.heap.get? b = some o → h'.get? b = some o) (hn : H it = none) (hL : it ≠ X.env.locals)
    (h1 : it ∈ X.ex ∨ X.s₀.heap.objs.size ≤ it) (h2 : ∀ x c, X.env.cells.lookup x = some c → c ≠ it) (h3 : ∀ p ∈ X.pn ++ pins, p.1 ≠ it) : Inv X pins σ H { s with heap := h', toks := t' } := by
  have nit : ∀ b u, H b = some u → b ≠ it := fun b u e z => by rw [z, hn] at e; cases e
  refine I.step (g' := s.gens) (d' := s.drawn) (ch := [it]) (fun b hb => ?_) (fun b o _ _ hc e _ => k b o (fun z => hc (by simp [z])) e) (fun b o _ _ hc e _ => ⟨o.slots, k b o (fun z => hc (by simp [z])) e⟩) (fun _ _ _ _ n => n)
    (fun b o hc e => ⟨o, k b o (fun z => hc (by simp [z])) e⟩) (fun _ _ e => e) (fun _ _ _ e => e) (fun b ps e => ⟨#[], by rw [e]; simp⟩) (fun m hm => ?_) (fun b u e => ?_) I.bare
  · have e : b = it := by simpa using hb
    subst e
    exact ⟨h1, hL, h2, h3⟩
  · obtain ⟨o, es, ep, ho, r⟩ := hm
    exact ⟨o, es, ep, k _ o (Ne.symm hL) ho, r⟩
  · refine (I.hok b u e).stay (fun c v hc q => k c v ?_ q) (fun _ q => q) fun _ _ q => q
    rcases hc with z | z
    · rw [z]; exact nit b u e
    · exact nit c _ z
theorem Inv.tok (I : Inv X pins σ H s) (t : Nat) : Inv X pins σ H { s with toks := t } := I.un (h' := s.heap) (t' := t) Un.refl I.hok
theorem Inv.kept {t' : Nat} (I : Inv X pins σ H s) (k : ∀ b u, s.heap.get? b = some u → h'.get? b = some u) : Inv X pins σ H { s with heap := h', toks := t' } := I.un (Un.kept k) (I.hok.kept k)
theorem Inv.laid {a : Addr} {o : HO} {t' : Nat} (I : Inv X pins σ H s) (k : ∀ b u, s.heap.get? b = some u → h'.get? b = some u) (hp : s.heap.objs.size ≤ a) (new : ObjOk X.prog X.w (upd H a o) h' a o) :
    Inv X pins σ (upd H a o) { s with heap := h', toks := t' } := I.un (Un.laid k hp (I.hok.fresh hp)) (I.hok.laid k hp new)
theorem Inv.write {x e : Addr} {o : HO} {t' : Nat} (I : Inv X pins σ H s) (mu : Mut (H x)) (he : e = x ∨ H e = some (.own x)) (k : ∀ b u, b ≠ e → s.heap.get? b = some u → h'.get? b = some u) (heo : ∃ u, h'.get? e = some u)
    (new : ObjOk X.prog X.w (upd H x o) h' x o) : Inv X pins σ (upd H x o) { s with heap := h', toks := t' } := I.un (Un.write mu he k heo) (I.hok.write mu he k heo new)
theorem Inv.weak {σ' : List (Option V)} (I : Inv X pins σ H s) (hl : σ'.length = σ.length) (w : ∀ (i : Nat) v, σ'[i]? = some (some v) → σ[i]? = some (some v)) : Inv X pins σ' H s :=
  ⟨I.ok, I.os, I.bare, I.base, let ⟨m, hn, hl'⟩ := I.loc; ⟨m, hn, fun i x v e1 e2 e3 => hl' i x v e1 (w i v e2) e3⟩, I.cell, I.free, I.freeC, I.pin, I.hok, hl.trans I.len⟩
theorem Inv.pins_of {pins' : List (Addr × Obj)} (I : Inv X pins σ H s) (h : ∀ p ∈ pins', s.heap.get? p.1 = some p.2 ∧ H p.1 = none ∧ p.1 ≠ X.env.locals ∧ p.1 ∉ X.fs ∧ ∀ v, p.2.data ≠ .cell v) : Inv X pins' σ H s :=
  ⟨I.ok, I.os, I.bare, I.base, I.loc, I.cell, I.free, I.freeC, fun p hp => (List.mem_append.mp hp).elim (fun z => I.pin p (List.mem_append_left _ z)) (h p), I.hok, I.len⟩

theorem nodup_ix {N : List Str} (hN : N.Nodup) {i j : Nat} {x : Str} (a : N[i]? = some x) (b : N[j]? = some x) : i = j := by
  obtain ⟨h1, e1⟩ := List.getElem?_eq_some_iff.mp a
  obtain ⟨h2, e2⟩ := List.getElem?_eq_some_iff.mp b
  exact (List.getElem_inj hN).mp (e1.trans e2.symm)

theorem store_ok2 {M : Model} {A : Around} {E : Value → Shared → Prop} {i : Nat} {x : Str} {v : V} {u : Value} {Q : Unit → Shared → Prop} (I : Inv X pins σ H s) (hN : X.N.Nodup) (hi : X.N[i]? = some x) (hx : Loc X.env.scope x) (r : RelV v u)
    (h : ∀ s', Inv X pins (σ.set i (some v)) H s' → (∃ a, Heap.SameBut a s.heap s'.heap ∧ (a = X.env.locals ∨ X.env.cells.lookup x = some a)) → Q () s') (hf : X.fn x = true ∨ X.env.scope.names.lookup x = some .local := by first | exact .inl rfl | exact .inr rfl | assumption) : wpAny M A (storeName X.env x u) Q E s := by
  obtain ⟨m, hn, hl⟩ := id I.loc
  have hcls : (X.env.scope.kind == .class || (X.env.scope.kind == .module && X.env.locals != X.env.globals)) = false := by rw [I.ok.kind]; rfl
  have hiσ : i < σ.length := by rw [I.len]; exact (List.getElem?_eq_some_iff.mp hi).1
  have cne := I.cne
  have tracked : ∀ {a : Addr} {h' : Heap}, (∃ o, s.heap.get? a = some o ∧ H a = none) → Heap.SameBut a s.heap h' → HOk X.prog X.w H h' := fun {a h'} ha hs b ob e => by
    obtain ⟨_, _, hfree⟩ := ha
    refine (I.hok b ob e).stay (fun c w' hc q => (hs.2 c ?_).trans q) (fun _ q => q) fun _ _ q => q
    rintro rfl
    rcases hc with rfl | hc
    · rw [hfree] at e; cases e
    · rw [hfree] at hc; cases hc
  rcases hx with hk | hk
  · refine wpAny_storeName_local hk hn (fun h' hn' hs => ?_) hcls
    obtain ⟨oL, _, _, hoL, _⟩ := id hn
    refine h _ ⟨I.ok, I.os, I.bare, ⟨fun b o e n hb hx => ?_, fun b o e n hb hx => ?_, I.base.free, fun b o e hx => ?_, I.base.tups, I.base.frzs, I.base.tbls⟩, ⟨_, hn', fun j y v' e1 e2 e3 => ?_⟩, fun y c e => ?_, I.free, I.freeC, fun p hp => ?_, tracked ⟨oL, hoL, I.free⟩ hs, by simpa using I.len⟩ ⟨_, hs, .inl rfl⟩
    · exact (hs.2 b (Nat.ne_of_lt (Nat.lt_of_lt_of_le (Heap.lt_size e) I.ok.above))).trans (I.base.keep b o e n hb hx)
    · obtain ⟨sl, e1⟩ := I.base.slot b o e n hb hx
      exact ⟨sl, (hs.2 b (Nat.ne_of_lt (Nat.lt_of_lt_of_le (Heap.lt_size e) I.ok.above))).trans e1⟩
    · obtain ⟨o', e1⟩ := I.base.there b o e hx
      exact ⟨o', (hs.2 b (Nat.ne_of_lt (Nat.lt_of_lt_of_le (Heap.lt_size e) I.ok.above))).trans e1⟩
    · by_cases hj : j = i
      · subst hj
        rw [hi] at e1; cases e1
        rw [List.getElem?_set_self hiσ] at e2
        cases e2
        exact ⟨u, r, .inl ⟨hk, by simp⟩⟩
      · rw [List.getElem?_set_ne (Ne.symm hj)] at e2
        obtain ⟨u', r', q⟩ := hl j y v' e1 e2 e3
        refine ⟨u', r', ?_⟩
        rcases q with ⟨k, e⟩ | ⟨k, c, e, z⟩
        · refine .inl ⟨k, ?_⟩
          have : y ≠ x := fun e => hj (nodup_ix hN e1 (e ▸ hi))
          simp [this, e]
        · exact .inr ⟨k, c, e, z.sameBut hs (cne y c e)⟩
    · obtain ⟨w', z⟩ := I.cell y c e
      exact ⟨w', z.sameBut hs (cne y c e)⟩
    · obtain ⟨e, n, ne, nf, d⟩ := I.pin p hp
      exact ⟨(hs.2 p.1 ne).trans e, n, ne, nf, d⟩
  · have hfn : X.fn x = true := by
      rcases hf with z | z
      · exact z
      · rw [z] at hk; cases hk
    obtain ⟨c, hc⟩ := I.ok.has x (.inl hk)
    obtain ⟨w', z⟩ := I.cell x c hc
    refine wpAny_storeName_cell I.ok.kind hk hc z (fun h' hc' hs => ?_)
    obtain ⟨oc, hoc, hocd⟩ := id z
    refine h { s with heap := h' } ⟨I.ok, I.os, I.bare, ⟨fun b o e n hb hx => ?_, fun b o e n hb hx => ?_, I.base.free, fun b o e hx => ?_, I.base.tups, I.base.frzs, I.base.tbls⟩, ⟨m, hn.sameBut hs (Ne.symm (cne x c hc)), fun j y v' e1 e2 e3 => ?_⟩, fun y c' e => ?_, I.free, I.freeC, fun p hp => ?_, tracked ⟨oc, hoc, I.freeC x c hc⟩ hs, by simpa using I.len⟩ ⟨c, hs, .inr hc⟩
    · exact (hs.2 b (Nat.ne_of_lt (Nat.lt_of_lt_of_le (Heap.lt_size e) (I.ok.cab x c hfn hc)))).trans (I.base.keep b o e n hb hx)
    · obtain ⟨sl, e1⟩ := I.base.slot b o e n hb hx
      exact ⟨sl, (hs.2 b (Nat.ne_of_lt (Nat.lt_of_lt_of_le (Heap.lt_size e) (I.ok.cab x c hfn hc)))).trans e1⟩
    · obtain ⟨o', e1⟩ := I.base.there b o e hx
      exact ⟨o', (hs.2 b (Nat.ne_of_lt (Nat.lt_of_lt_of_le (Heap.lt_size e) (I.ok.cab x c hfn hc)))).trans e1⟩
    · by_cases hj : j = i
      · subst hj
        rw [hi] at e1; cases e1
        rw [List.getElem?_set_self hiσ] at e2
        cases e2
        exact ⟨u, r, .inr ⟨.inl hk, c, hc, hc'⟩⟩
      · rw [List.getElem?_set_ne (Ne.symm hj)] at e2
        obtain ⟨u', r', q⟩ := hl j y v' e1 e2 e3
        refine ⟨u', r', ?_⟩
        rcases q with q | ⟨k, c', e, z'⟩
        · exact .inl q
        · refine .inr ⟨k, c', e, z'.sameBut hs ?_⟩
          rintro rfl
          exact hj (nodup_ix hN e1 (I.ok.inj _ _ _ e hc ▸ hi))
    · by_cases hcc : c' = c
      · subst hcc; exact ⟨_, hc'⟩
      · obtain ⟨w2, z2⟩ := I.cell y c' e
        exact ⟨w2, z2.sameBut hs hcc⟩
    · obtain ⟨e, n, ne, nf, d⟩ := I.pin p hp
      refine ⟨(hs.2 p.1 ?_).trans e, n, ne, nf, d⟩
      intro q
      rw [q, hoc] at e
      have q' : oc = p.2 := Option.some.inj e
      exact d w' (by rw [← q']; exact hocd)
theorem store_ok {M : Model} {A : Around} {E : Value → Shared → Prop} {i : Nat} {x : Str} {v : V} {u : Value} {Q : Unit → Shared → Prop} (I : Inv X pins σ H s) (hN : X.N.Nodup) (hi : X.N[i]? = some x) (hx : Loc X.env.scope x) (r : RelV v u)
    (h : ∀ s', Inv X pins (σ.set i (some v)) H s' → Q () s') (hf : X.fn x = true ∨ X.env.scope.names.lookup x = some .local := by first | exact .inl rfl | exact .inr rfl | assumption) : wpAny M A (storeName X.env x u) Q E s :=
  store_ok2 I hN hi hx r (fun s' I' _ => h s' I') hf
theorem Inv.call' {s' : Shared} {ch : List Addr} (I : Inv X pins σ H s) (ho : s'.os = s.os) (u : Un (frs X.stack) ch H H' s.heap s'.heap) (hok : HOk X.prog X.w H' s'.heap) (hg : AllBare s'.gens)
    (hch : ∀ b ∈ ch, (b ∈ X.ex ∨ X.s₀.heap.objs.size ≤ b) ∧ b ≠ X.env.locals ∧ (∀ x c, X.env.cells.lookup x = some c → c ≠ b) ∧ ∀ p ∈ X.pn ++ pins, p.1 ≠ b) : Inv X pins σ H' s' := by
  obtain ⟨h', g', d', t', o'⟩ := s'
  have e : o' = s.os := ho
  subst e
  exact I.call (g' := g') (t' := t') (d' := d') u hok hg hch
end

abbrev XK := Value → Option Addr → Hp → Prop
abbrev St := List (Option V)
abbrev VK := V → Hp → Prop
abbrev TE := St → Hp → VK → Prop
abbrev TT := St → Hp → (Bool → Hp → Prop) → Prop
abbrev TA := St → Hp → (List V → Hp → Prop) → Prop
set_option genInjectivity false in
structure Ends where
  nx : St → Hp → Prop
  rt : VK
  bk : St → Hp → Prop := fun _ _ => False
  ct : St → Hp → Prop := fun _ _ => False
abbrev TS := Ends → St → Hp → Prop

def EP (X : Cx) (pins : List (Addr × Obj)) (σ : St) (Q : VK) (u : Value) (s' : Shared) : Prop := ∃ v H', Inv X pins σ H' s' ∧ RelV v u ∧ Q v H'
def TP (X : Cx) (pins : List (Addr × Obj)) (σ : St) (Q : Bool → Hp → Prop) (b : Bool) (s' : Shared) : Prop := ∃ H', Inv X pins σ H' s' ∧ Q b H'
def AP (X : Cx) (pins : List (Addr × Obj)) (σ : St) (Q : List V → Hp → Prop) (us : List Value) (s' : Shared) : Prop := ∃ vs H', Inv X pins σ H' s' ∧ Vals vs us ∧ Q vs H'
def SP (X : Cx) (pins : List (Addr × Obj)) (D : Ends) (f : Flow) (s' : Shared) : Prop :=
  match f with
  | .next => ∃ σ' H', Inv X pins σ' H' s' ∧ D.nx σ' H'
  | .brk => ∃ σ' H', Inv X pins σ' H' s' ∧ D.bk σ' H'
  | .cont => ∃ σ' H', Inv X pins σ' H' s' ∧ D.ct σ' H'
  | .ret u => ∃ v σ' H', Inv X pins σ' H' s' ∧ RelV v u ∧ D.rt v H'

def PE (X : Cx) (e : Expr) (t : TE) : Prop :=
  ∀ (pins : List (Addr × Obj)) (s : Shared) (σ : St) (H : Hp) (Q : VK), Inv X pins σ H s → t σ H Q → wpAny (model X.prog X.w) X.A (eval e X.env) (EP X pins σ Q) X.xe s
def PT (X : Cx) (e : Expr) (t : TT) : Prop :=
  ∀ (pins : List (Addr × Obj)) (s : Shared) (σ : St) (H : Hp) (Q : Bool → Hp → Prop), Inv X pins σ H s → t σ H Q → wpAny (model X.prog X.w) X.A (isTrue e X.env (eval e X.env)) (TP X pins σ Q) X.xe s
def PW (X : Cx) (e : Expr) (t : TT) : Prop :=
  ∀ (whole : Sem Value) (pins : List (Addr × Obj)) (s : Shared) (σ : St) (H : Hp) (Q : Bool → Hp → Prop), Inv X pins σ H s → t σ H Q → wpAny (model X.prog X.w) X.A (isTrue e X.env whole) (TP X pins σ Q) X.xe s
theorem PW.pt {X : Cx} {e : Expr} {t : TT} (h : PW X e t) : PT X e t := h _
def PA (X : Cx) (es : List Expr) (t : TA) : Prop :=
  ∀ (pos : Pos) (pins : List (Addr × Obj)) (s : Shared) (σ : St) (H : Hp) (Q : List V → Hp → Prop), Inv X pins σ H s → t σ H Q → wpAny (model X.prog X.w) X.A (spliced (backTo pos (starEach es X.env))) (AP X pins σ Q) X.xe s
def PS (X : Cx) (st : Stmt) (t : TS) : Prop :=
  ∀ (pins : List (Addr × Obj)) (s : Shared) (σ : St) (H : Hp) (D : Ends), Inv X pins σ H s → t D σ H → wpAny (model X.prog X.w) X.A (exec st X.env) (SP X pins D) X.xe s
def PSs (X : Cx) (st : List Stmt) (t : TS) : Prop :=
  ∀ (pins : List (Addr × Obj)) (s : Shared) (σ : St) (H : Hp) (D : Ends), Inv X pins σ H s → t D σ H → wpAny (model X.prog X.w) X.A (execs st X.env) (SP X pins D) X.xe s
theorem thn {α : Type} {t : Sem α} {Q Q' : α → Shared → Prop} {M : Model} {A : Around} {E : Value → Shared → Prop} {s : Shared} (h : wpAny M A t Q E s) (hQ : ∀ a s, Q a s → Q' a s) : wpAny M A t Q' E s := wpAny_mono h hQ fun _ _ x => x
end L2

namespace L2
open PySem PySem.Spec PyProof.Rows
section
variable {X : Cx}

def tVar (i : Nat) : TE := fun σ H Q => ∃ v, σ[i]? = some (some v) ∧ Q v H
def tC (v : V) : TE := fun _ H Q => Q v H
theorem pe_var {i : Nat} {x : Str} {pos : Pos} (hN : X.N[i]? = some x) (hv : Vis X.env.scope x) (hd : (x == ("__debug__" : Str)) = false := by decide) (hcd : (x == ("__classdict__" : Str)) = false := by decide) : PE X (.Name x pos) (tVar i) := by
  intro pins s σ H Q I h
  obtain ⟨v, e, h⟩ := h
  obtain ⟨m, hn, hl⟩ := I.loc
  obtain ⟨u, r, l⟩ := hl i x v hN e hv
  have fin : EP X pins σ Q u s := ⟨v, H, I, r, h⟩
  rcases l with ⟨hk, hm⟩ | ⟨hk, c, hc, hcell⟩
  · exact wpAny_Name (wpAny_loadName_local I.ok.kind hk hn hm fin) hd
  · rcases hk with hk | hk
    · exact wpAny_Name (wpAny_loadName_cell I.ok.kind hk hc hcell fin) hd
    · exact wpAny_Name (wpAny_loadName_free I.ok.kind hk hc hcell fin hcd) hd
theorem pe_int {i j pos} : PE X (.Constant (.int i) j pos) (tC (.int i)) := fun _ _ _ H _ I h => wpAny_Constant_int ⟨.int i, H, I.tok _, ⟨_, rfl⟩, h⟩
theorem pe_bl {b j pos} : PE X (.Constant (.bool b) j pos) (tC (.bl b)) := fun _ _ _ H _ I h => Constant_bool ⟨.bl b, H, I, rfl, h⟩
theorem pe_non {j pos} : PE X (.Constant .none j pos) (tC .non) := fun _ _ _ H _ I h => Constant_none ⟨.non, H, I, rfl, h⟩
theorem pe_str {x j pos} : PE X (.Constant (.str x) j pos) (tC (.str x)) := fun _ _ _ H _ I h => Calls.Constant_str ⟨.str x, H, I.tok _, ⟨_, rfl⟩, h⟩

def Gl (X : Cx) (x : Str) : Prop := X.env.kindOf x = some .globalImplicit
theorem ld_glob {E : Value → Shared → Prop} {pins : List (Addr × Obj)} {s : Shared} {σ : St} {H : Hp} {x : Str} {u : Value} {pos : Pos} {Q : Value → Shared → Prop} (I : Inv X pins σ H s) (hg : Gl X x) (hm : X.mg x = some u) (h : Q u s)
    (hd : (x == ("__debug__" : Str)) = false := by decide) : wpAny (model X.prog X.w) X.A (eval (.Name x pos) X.env) Q E s :=
  Calls.Name_function_global I.ok.kind hg (Calls.loadGlobal_global (by rw [I.ok.glob]; exact I.mod.glob.keeps I.bk) hm h) hd
theorem ld_blt {E : Value → Shared → Prop} {pins : List (Addr × Obj)} {s : Shared} {σ : St} {H : Hp} {x : Str} {u : Value} {pos : Pos} {Q : Value → Shared → Prop} (I : Inv X pins σ H s) (hg : Gl X x) (hm : X.mg x = none) (hv : bootBuiltins x = some u) (h : Q u s)
    (hn : x ≠ "__name__" := by decide) (hd : (x == ("__debug__" : Str)) = false := by decide) : wpAny (model X.prog X.w) X.A (eval (.Name x pos) X.env) Q E s := by
  obtain ⟨mb, h1, h2⟩ := I.mod.blt
  exact Calls.Name_function_global I.ok.kind hg (Calls.loadGlobal_builtin (by rw [I.ok.glob]; exact I.mod.glob.keeps I.bk) hm (by rw [I.ok.blt]; exact h1.keeps I.bk) ((h2 x hn).trans hv) h) hd
theorem pe_glob {x : Str} {v : V} {u : Value} {pos : Pos} (hg : Gl X x) (hm : X.mg x = some u) (r : RelV v u) (hd : (x == ("__debug__" : Str)) = false := by decide) : PE X (.Name x pos) (tC v) :=
  fun _ _ _ H _ I h => ld_glob I hg hm ⟨v, H, I, r, h⟩ hd
theorem pe_bltn {x : Str} {v : V} {u : Value} {pos : Pos} (hg : Gl X x) (hm : X.mg x = none) (hv : bootBuiltins x = some u) (r : RelV v u) (hn : x ≠ "__name__" := by decide) (hd : (x == ("__debug__" : Str)) = false := by decide) : PE X (.Name x pos) (tC v) :=
  fun _ _ _ H _ I h => ld_blt I hg hm hv ⟨v, H, I, r, h⟩ hn hd

variable {a b : Expr} {ta tb : TE} {pos : Pos}
def PC (X : Cx) (op : CmpOp) (a b : Expr) (t : TE) : Prop :=
  ∀ (pins : List (Addr × Obj)) (s : Shared) (σ : St) (H : Hp) (Q : VK), Inv X pins σ H s → t σ H Q →
    wpAny (model X.prog X.w) X.A (eval a X.env) (fun v s₁ => wpAny (model X.prog X.w) X.A (eval b X.env) (fun u s₂ => wpAny (model X.prog X.w) X.A (compareOp op v u) (EP X pins σ Q) X.xe s₂) X.xe s₁) X.xe s
theorem nobehind (b : Expr) {op : CmpOp} (h : op ≠ .In) (h2 : op ≠ .NotIn) : behindInMarks op b = false := by
  have e1 : (op == CmpOp.In) = false := by cases op <;> first | rfl | exact absurd rfl h
  have e2 : (op == CmpOp.NotIn) = false := by cases op <;> first | rfl | exact absurd rfl h2
  cases b <;> simp [behindInMarks, e1, e2]
def tB (t : TE) : TT := fun σ H Q => t σ H fun x H1 => ∃ c, x = .bl c ∧ Q c H1
theorem pt_cmp {op : CmpOp} {t : TE} (h : PC X op a b t) (h1 : behindInMarks op b = false := by first | exact nobehind _ (by decide) (by decide) | rfl) : PT X (.Compare a [op] [b] pos) (tB t) := by
  intro pins s σ H Q I hw
  refine wpAny_isTrue_Compare1 (thn (h pins s σ H _ I hw) fun v s1 h1 => thn h1 fun u s2 h2 => thn h2 fun c s3 ⟨x, H1, I1, r1, q1⟩ => ?_) h1
  obtain ⟨d, rfl, q⟩ := q1
  cases r1
  exact wpAny_truthy_bool ⟨H1, I1, q⟩
theorem pt_val {e : Expr} {t : TE} (h : PE X e t) (he : ∀ whole, isTrue e X.env whole = (do let v ← whole; standAt e.pos; holding [v] (truthy v)) := by intro _; rfl) : PT X e (tB t) := by
  intro pins s σ H Q I hw
  refine isTrue_plain (thn (h pins s σ H _ I hw) fun v s1 ⟨x, H1, I1, r1, q1⟩ => ?_) (he _)
  obtain ⟨d, rfl, q⟩ := q1
  cases r1
  exact wpAny_truthy_bool ⟨H1, I1, q⟩

variable {tA tB' : TT} {rest : List Expr}
def tAnd (t u : TT) : TT := fun σ H Q => t σ H fun c H1 => if c = true then u σ H1 Q else Q false H1
def tOr (t u : TT) : TT := fun σ H Q => t σ H fun c H1 => if c = true then Q true H1 else u σ H1 Q
def tNot (t : TT) : TT := fun σ H Q => t σ H fun c H1 => Q (!c) H1
theorem pw_and1 (ha : PT X a tA) : PW X (.BoolOp .And [a] pos) tA := by
  intro wh pins s σ H Q I h
  refine isTrue_and (thn (ha pins s σ H Q I h) fun c s1 e => ?_)
  cases c with
  | true => exact isTrue_and_nil e
  | false => exact e
theorem pw_or1 (ha : PT X a tA) : PW X (.BoolOp .Or [a] pos) tA := by
  intro wh pins s σ H Q I h
  refine isTrue_or (thn (ha pins s σ H Q I h) fun c s1 e => ?_)
  cases c with
  | false => exact isTrue_or_nil e
  | true => exact e
theorem pw_and (ha : PT X a tA) (hb : PW X (.BoolOp .And (b :: rest) pos) tB') : PW X (.BoolOp .And (a :: b :: rest) pos) (tAnd tA tB') := by
  intro wh pins s σ H Q I h
  refine isTrue_and (thn (ha pins s σ H _ I h) fun c s1 ⟨H1, I1, q1⟩ => ?_)
  cases c with
  | true => exact hb wh pins s1 σ H1 Q I1 q1
  | false => exact ⟨H1, I1, q1⟩
theorem pw_or (ha : PT X a tA) (hb : PW X (.BoolOp .Or (b :: rest) pos) tB') : PW X (.BoolOp .Or (a :: b :: rest) pos) (tOr tA tB') := by
  intro wh pins s σ H Q I h
  refine isTrue_or (thn (ha pins s σ H _ I h) fun c s1 ⟨H1, I1, q1⟩ => ?_)
  cases c with
  | true => exact ⟨H1, I1, q1⟩
  | false => exact hb wh pins s1 σ H1 Q I1 q1
theorem pt_not (ha : PT X a tA) : PT X (.UnaryOp .Not a pos) (tNot tA) := by
  intro pins s σ H Q I h
  exact isTrue_not (ha pins s σ H (fun c H1 => Q (!c) H1) I h)
def tAndV (ta tb : TE) : TE := fun σ H Q => ta σ H fun x H1 => ∃ c, x = .bl c ∧ if c = true then tb σ H1 Q else Q (.bl false) H1
def tOrV (ta tb : TE) : TE := fun σ H Q => ta σ H fun x H1 => ∃ c, x = .bl c ∧ if c = true then Q (.bl true) H1 else tb σ H1 Q
def tNotV (ta : TE) : TE := fun σ H Q => ta σ H fun x H1 => ∃ c, x = .bl c ∧ Q (.bl (!c)) H1
theorem pe_one {op} {t : TE} (h : PE X a t) : PE X (.BoolOp op [a] pos) t := fun pins s σ H Q I hw => BoolOp_one (h pins s σ H Q I hw)
theorem pe_and (ha : PE X a ta) (hb : PE X (.BoolOp .And (b :: rest) pos) tb) : PE X (.BoolOp .And (a :: b :: rest) pos) (tAndV ta tb) := by
  intro pins s σ H Q I h
  refine BoolOp_and (thn (ha pins s σ H _ I h) fun v s1 ⟨x, H1, I1, r1, q1⟩ => ?_)
  obtain ⟨c, rfl, q1⟩ := q1
  cases r1
  refine wpAny_truthy_bool ?_
  cases c with
  | true => exact hb pins s1 σ H1 Q I1 q1
  | false => exact ⟨.bl false, H1, I1, rfl, q1⟩
theorem pe_not (ha : PE X a ta) : PE X (.UnaryOp .Not a pos) (tNotV ta) := by
  intro pins s σ H Q I h
  refine UnaryOp_ (thn (ha pins s σ H _ I h) fun v s1 ⟨x, H1, I1, r1, q1⟩ => ?_)
  obtain ⟨c, rfl, q1⟩ := q1
  cases r1
  exact not_of (wpAny_truthy_bool ⟨.bl (!c), H1, I1, rfl, q1⟩)
def tIf (t : TT) (ta tb : TE) : TE := fun σ H Q => t σ H fun c H1 => if c = true then ta σ H1 Q else tb σ H1 Q
theorem pe_ifExp {c : Expr} (hc : PT X c tA) (ha : PE X a ta) (hb : PE X b tb) : PE X (.IfExp c a b pos) (tIf tA ta tb) := by
  intro pins s σ H Q I h
  refine wpAny_IfExp (thn (hc pins s σ H _ I h) fun d s1 ⟨H1, I1, q1⟩ => ?_)
  cases d with
  | true => exact ha pins s1 σ H1 Q I1 q1
  | false => exact hb pins s1 σ H1 Q I1 q1
end
end L2

namespace L2
open PySem PySem.Spec PyProof.Rows

def SqL (K : PySem.W.Frag) (H : Hp) (a : Addr) (xs : List V) : Prop :=
  Rd H a (.lst xs) ∨
    ∃ (o : Obj) (its : Array Value) (n : Nat), K.lookup a = some o ∧ o.cls = .type "list" ∧ o.dict = none ∧ o.data = .seq its n ∧ its.size ≤ sizeLine ∧ Vals xs its.toList
def SqT (K : PySem.W.Frag) (H : Hp) (a : Addr) (xs : List V) : Prop :=
  Rd H a (.tup xs) ∨
    ∃ (o : Obj) (its : Array Value) (n : Nat), K.lookup a = some o ∧ o.cls = .type "tuple" ∧ o.data = .seq its n ∧ its.size ≤ sizeLine ∧ Vals xs its.toList
def absV : Value → Option V
  | .none => some .non
  | .bool b => some (.bl b)
  | .int i _ => some (.int i)
  | .str x _ => some (.str x)
  | .bytes b _ => some (.byt b)
  | .float b _ => some (.flt b)
  | .ref a => some (.ref a)
  | .type n => some (.ty n)
  | _ => none
theorem RelV.abs {x : V} {u : Value} (r : RelV x u) : absV u = some x := by
  cases x with
  | non => cases r; rfl
  | bl _ => cases r; rfl
  | int _ => obtain ⟨t, rfl⟩ := r; rfl
  | str _ => obtain ⟨t, rfl⟩ := r; rfl
  | byt _ => obtain ⟨t, rfl⟩ := r; rfl
  | flt _ => obtain ⟨t, rfl⟩ := r; rfl
  | ref _ => cases r; rfl
  | ty _ => cases r; rfl
theorem RelV.inj {x y : V} {u : Value} (r : RelV x u) (q : RelV y u) : x = y := Option.some.inj (r.abs.symm.trans q.abs)
theorem Vals.inj : ∀ {xs ys : List V} {us : List Value}, Vals xs us → Vals ys us → xs = ys
  | _, _, _, .nil, .nil => rfl
  | _, _, _, .cons r t, .cons r' t' => by rw [r.inj r', Vals.inj t t']
section
variable {X : Cx} {pins : List (Addr × Obj)} {σ : St} {H : Hp} {s : Shared} {a : Addr} {xs ys : List V}
theorem SqL.of {K : PySem.W.Frag} (h : H a = some (.lst xs)) : SqL K H a xs := .inl (.inl h)
theorem SqT.of {K : PySem.W.Frag} (h : H a = some (.tup xs)) : SqT K H a xs := .inl (.inl h)
theorem Inv.list (I : Inv X pins σ H s) (h : SqL X.K H a xs) : ∃ its : List Value, Vals xs its ∧ PlainL s.heap a its.toArray ∧ xs.length ≤ sizeLine := by
  rcases h with h | ⟨o, its, n, hk, hc, hd, hs, hz, r⟩
  · obtain ⟨z, its, n, r, e⟩ := h.ok I.hok
    exact ⟨its, r, ⟨_, n, e, rfl, rfl, rfl⟩, z⟩
  · refine ⟨its.toList, r, ⟨o, n, I.kIn a o hk, hc, hd, by simpa using hs⟩, ?_⟩
    have e := r.length
    simp only [Array.length_toList] at e
    omega
theorem Inv.tuple (I : Inv X pins σ H s) (h : SqT X.K H a xs) : ∃ its : List Value, Vals xs its ∧ IsTup s.heap a its.toArray ∧ xs.length ≤ sizeLine := by
  rcases h with h | ⟨o, its, n, hk, hc, hs, hz, r⟩
  · obtain ⟨z, its, r, p⟩ := h.ok I.hok
    exact ⟨its, r, p, z⟩
  · refine ⟨its.toList, r, ⟨o, I.kIn a o hk, hc, n, by simpa using hs⟩, ?_⟩
    have e := r.length
    simp only [Array.length_toList] at e
    omega
theorem Inv.list_inj (I : Inv X pins σ H s) (h : SqL X.K H a xs) (h' : SqL X.K H a ys) : xs = ys := by
  obtain ⟨its, r, ⟨o, n, e, _, _, d⟩, _⟩ := I.list h
  obtain ⟨its', r', ⟨o', n', e', _, _, d'⟩, _⟩ := I.list h'
  rw [e] at e'; cases e'
  rw [d] at d'
  injection d' with d1 _
  have : its = its' := by simpa using congrArg Array.toList d1
  subst this
  exact r.inj r'
end

abbrev Cx.wish (X : Cx) (E : Value → Shared → Prop) : Cx := { X with xe := E }
abbrev Cx.nox (X : Cx) : Cx := X.wish fun _ _ => False
theorem Cx.Ok.wish {X : Cx} (ok : X.Ok) (E : Value → Shared → Prop) : (X.wish E).Ok :=
  ⟨ok.mod, ok.kind, ok.glob, ok.blt, ok.above, ok.inj, ok.has, ok.cab, ok.hd, ok.frames, ok.stk, ok.exf, ok.bs, ok.bsz, ok.noex, ok.exfs, ok.funs, ok.frf⟩
theorem Cx.Ok.unwish {X : Cx} {E : Value → Shared → Prop} (ok : (X.wish E).Ok) : X.Ok :=
  ⟨ok.mod, ok.kind, ok.glob, ok.blt, ok.above, ok.inj, ok.has, ok.cab, ok.hd, ok.frames, ok.stk, ok.exf, ok.bs, ok.bsz, ok.noex, ok.exfs, ok.funs, ok.frf⟩
section
variable {X : Cx} {pins : List (Addr × Obj)} {σ : St} {H : Hp} {s : Shared} {E : Value → Shared → Prop}
theorem Inv.wish (I : Inv X pins σ H s) (E : Value → Shared → Prop) : Inv (X.wish E) pins σ H s := ⟨I.ok.wish E, I.os, I.bare, I.base, I.loc, I.cell, I.free, I.freeC, I.pin, I.hok, I.len⟩
theorem Inv.unwish (I : Inv (X.wish E) pins σ H s) : Inv X pins σ H s := ⟨I.ok.unwish, I.os, I.bare, I.base, I.loc, I.cell, I.free, I.freeC, I.pin, I.hok, I.len⟩
theorem SP.unwish {D : Ends} {f : Flow} {s' : Shared} (h : SP (X.wish E) pins D f s') : SP X pins D f s' := by
  cases f with
  | next => obtain ⟨σ', H', I, q⟩ := h; exact ⟨σ', H', I.unwish, q⟩
  | brk => obtain ⟨σ', H', I, q⟩ := h; exact ⟨σ', H', I.unwish, q⟩
  | cont => obtain ⟨σ', H', I, q⟩ := h; exact ⟨σ', H', I.unwish, q⟩
  | ret u => obtain ⟨v, σ', H', I, r, q⟩ := h; exact ⟨v, σ', H', I.unwish, r, q⟩
theorem PE.nox {e : Expr} {t : TE} (h : PE X.nox e t) : PE X e t := fun pins s σ H Q I hw =>
  wpAny_mono (h pins s σ H Q (I.wish _) hw) (fun _ _ ⟨v, H', I', r, q⟩ => ⟨v, H', I'.unwish, r, q⟩) fun _ _ z => False.elim z
theorem PT.nox {e : Expr} {t : TT} (h : PT X.nox e t) : PT X e t := fun pins s σ H Q I hw =>
  wpAny_mono (h pins s σ H Q (I.wish _) hw) (fun _ _ ⟨H', I', q⟩ => ⟨H', I'.unwish, q⟩) fun _ _ z => False.elim z
theorem PSs.nox {st : List Stmt} {t : TS} (h : PSs X.nox st t) : PSs X st t := fun pins s σ H D I hw =>
  wpAny_mono (h pins s σ H D (I.wish _) hw) (fun _ _ q => q.unwish) fun _ _ z => False.elim z
end

section
variable {X : Cx} {st : Stmt} {rest : List Stmt} {t u : TS} {e : Expr} {te : TE} {pos : Pos}
def tNext : TS := fun D σ H => D.nx σ H
def tSeq (t u : TS) : TS := fun D σ H => t { D with nx := u D } σ H
theorem pss_nil : PSs X [] tNext := fun _ _ σ H _ I h => wpAny_execs_nil ⟨σ, H, I, h⟩
theorem pss_cons (h1 : PS X st t) (h2 : PSs X rest u) : PSs X (st :: rest) (tSeq t u) := by
  intro pins s σ H D I h
  refine wpAny_execs_cons (thn (h1 pins s σ H { D with nx := u D } I h) fun f s1 q => ?_)
  cases f with
  | next =>
    obtain ⟨σ', H', I', q⟩ := q
    exact h2 pins s1 σ' H' D I' q
  | ret v => exact q
  | brk => exact q
  | cont => exact q
theorem pss_one (h1 : PS X st t) : PSs X [st] t := by
  intro pins s σ H D I h
  refine wpAny_execs_cons (thn (h1 pins s σ H D I h) fun f s1 q => ?_)
  cases f with
  | next => exact wpAny_execs_nil q
  | ret v => exact q
  | brk => exact q
  | cont => exact q
theorem Inv.quiet {pins : List (Addr × Obj)} {σ : St} {H : Hp} {s : Shared} (I : Inv X pins σ H s) : interactive X.env = false := by simp [interactive, I.ok.kind]
def tDrop (te : TE) : TS := fun D σ H => te σ H fun _ H1 => D.nx σ H1
theorem ps_expr (he : PE X e te) (hs : swapsWith e none pos.line X.env = pure false := by rfl) : PS X (.Expr e pos) (tDrop te) := by
  intro pins s σ H D I h
  exact wpAny_Expr_any (thn (he pins s σ H _ I h) fun v s1 ⟨x, H1, I1, r1, q1⟩ => ⟨σ, H1, I1, q1⟩) I.quiet hs
def tRet (te : TE) : TS := fun D σ H => te σ H D.rt
theorem ps_ret (he : PE X e te) : PS X (.Return (some e) pos) (tRet te) := by
  intro pins s σ H D I h
  exact wpAny_Return_some (thn (he pins s σ H _ I h) fun v s1 ⟨x, H1, I1, r1, q1⟩ => ⟨x, σ, H1, I1, r1, q1⟩)
def tRetN : TS := fun D _ H => D.rt .non H
def tIfS (c : TT) (t u : TS) : TS := fun D σ H => c σ H fun b H1 => if b = true then t D σ H1 else u D σ H1
theorem ps_if {c : Expr} {a b : List Stmt} {tc : TT} (hc : PT X c tc) (ha : PSs X a t) (hb : PSs X b u) : PS X (.If c a b pos) (tIfS tc t u) := by
  intro pins s σ H D I h
  refine wpAny_If (thn (hc pins s σ H _ I h) fun d s1 ⟨H1, I1, q1⟩ => ?_)
  cases d with
  | true => exact ha pins s1 σ H1 D I1 q1
  | false => exact hb pins s1 σ H1 D I1 q1
def tNever : TS := fun _ _ _ => False
theorem ps_never : PS X st tNever := fun _ _ _ _ _ _ h => h.elim
end

abbrev TG := V → St → Hp → (St → Hp → Prop) → Prop
abbrev TGs := List V → St → Hp → (St → Hp → Prop) → Prop
def PG (X : Cx) (target : Expr) (t : TG) : Prop :=
  ∀ (pins : List (Addr × Obj)) (s : Shared) (σ : St) (H : Hp) (v : V) (u : Value) (Q : St → Hp → Prop), Inv X pins σ H s → RelV v u → t v σ H Q →
    wpAny (model X.prog X.w) X.A (assign target X.env u) (fun _ s' => ∃ σ' H', Inv X pins σ' H' s' ∧ Q σ' H') X.xe s
def PGs (X : Cx) (ts : List Expr) (t : TGs) : Prop :=
  ∀ (pins : List (Addr × Obj)) (s : Shared) (σ : St) (H : Hp) (vs : List V) (us : List Value) (Q : St → Hp → Prop), Inv X pins σ H s → Vals vs us → t vs σ H Q →
    wpAny (model X.prog X.w) X.A (assignInOrder ((assignEach ts X.env).map (·.2)) us) (fun _ s' => ∃ σ' H', Inv X pins σ' H' s' ∧ Q σ' H') X.xe s
section
variable {X : Cx} {pos : Pos}
def gName (i : Nat) : TG := fun v σ H Q => Q (σ.set i (some v)) H
theorem pg_name {i : Nat} {x : Str} (hN : X.N.Nodup) (hi : X.N[i]? = some x) (hx : Loc X.env.scope x) (hf : X.fn x = true ∨ X.env.scope.names.lookup x = some .local := by first | exact .inl rfl | exact .inr rfl | assumption) : PG X (.Name x pos) (gName i) := by
  intro pins s σ H v u Q I r h
  exact wpAny_assign_Name (store_ok I hN hi hx r (fun s' I' => ⟨_, H, I', h⟩) hf)
def gNil : TGs := fun vs σ H Q => vs = [] ∧ Q σ H
def gCons (t : TG) (u : TGs) : TGs := fun vs σ H Q => ∃ v r, vs = v :: r ∧ t v σ H fun σ' H' => u r σ' H' Q
theorem pgs_nil : PGs X [] gNil := by
  intro pins s σ H vs us Q I r h
  obtain ⟨e, h⟩ := h
  subst e
  cases r
  exact assignInOrder_nil ⟨σ, H, I, h⟩
theorem pgs_cons {e : Expr} {es : List Expr} {t : TG} {u : TGs} (h1 : PG X e t) (h2 : PGs X es u)
    (hs : (assignEach (e :: es) X.env).map (·.2) = assign e X.env :: (assignEach es X.env).map (·.2) := by rfl) : PGs X (e :: es) (gCons t u) := by
  intro pins s σ H vs us Q I r h
  obtain ⟨v, vr, e1, h⟩ := h
  subst e1
  cases r with
  | cons r rr =>
    rw [hs]
    refine assignInOrder_cons (thn (h1 pins s σ H _ _ _ I r h) fun _ s1 ⟨σ1, H1, I1, q1⟩ => ?_)
    exact h2 pins s1 σ1 H1 _ _ Q I1 rr q1
def gTup (K : PySem.W.Frag) (n : Nat) (t : TGs) : TG := fun v σ H Q => ∃ a xs, v = .ref a ∧ SqT K H a xs ∧ xs.length = n ∧ t xs σ H Q
theorem pg_tup {es : List Expr} {k : Nat} {t : TGs} {n : Nat} (hc : X.calm = true) (h : PGs X es t)
    (hn : (assignEach es X.env).length = n := by rfl) (hst : (assignEach es X.env).findIdx? (·.1) = none := by rfl) : PG X (.Tuple es k pos) (gTup X.K n t) := by
  intro pins s σ H v u Q I r hw
  obtain ⟨a, xs, e1, hq, hl, hw⟩ := hw
  subst e1
  cases r
  obtain ⟨its, rv, ht, hz⟩ := I.tuple hq
  refine assign_Tuple_tuple (I.ok.hd hc) ht (by simp [hn, ← hl, rv.length]) hst fun h' hx => ?_
  have I1 : Inv X pins σ H { s with heap := h' } := I.kept (t' := s.toks) fun b o e => hx b o (Nat.ne_of_lt (Heap.lt_size e)) e
  exact h pins _ σ H xs _ Q I1 (by simpa using rv) hw
def tAsg (te : TE) (g : TG) : TS := fun D σ H => te σ H fun x H1 => g x σ H1 D.nx
theorem ps_asg {tg e : Expr} {te : TE} {g : TG} (he : PE X e te) (hg : PG X tg g) (hs : swapsWithSole [tg] e pos.line X.env = pure false := by rfl) (hw : swappedStores [tg] e X.env = pure none := by rfl)
    (h1 : (assignEach [tg] X.env).map (·.2) = [assign tg X.env] := by rfl) : PS X (.Assign [tg] e pos) (tAsg te g) := by
  intro pins s σ H D I h
  refine wpAny_Assign_stores (thn (he pins s σ H _ I h) fun v s1 ⟨x, H1, I1, r1, q1⟩ => ?_) hs hw
  rw [h1]
  exact thn (hg pins s1 σ H1 x v _ I1 r1 q1) fun _ s2 q => q
theorem ps_set {i : Nat} {x : Str} {e : Expr} {te : TE} {pos' : Pos} (hN : X.N.Nodup) (hi : X.N[i]? = some x) (hx : Loc X.env.scope x) (he : PE X e te) (hs : swapsWith e (some (.Name x pos')) pos.line X.env = pure false := by rfl) (hf : X.fn x = true ∨ X.env.scope.names.lookup x = some .local := by first | exact .inl rfl | exact .inr rfl | assumption) :
    PS X (.Assign [.Name x pos'] e pos) (tAsg te (gName i)) := by
  intro pins s σ H D I h
  refine wpAny_Assign_Name (thn (he pins s σ H _ I h) fun v s1 ⟨y, H1, I1, r1, q1⟩ => ?_) hs
  exact store_ok I1 hN hi hx r1 (fun s2 I2 => ⟨_, H1, I2, q1⟩) hf
end

section
variable {X : Cx} {pos : Pos}
def tWhile (c : TT) (tb : TS) : TS := fun D σ H => ∃ W : Nat → St → Hp → Prop, (∃ m, W m σ H) ∧ ∀ m σ H, W m σ H →
  c σ H fun b H1 => if b = true then ∃ N : St → Hp → Prop, (∀ σ' H', N σ' H' → ∃ m', m' < m ∧ W m' σ' H') ∧ tb { D with nx := N, ct := N, bk := D.nx } σ H1 else D.nx σ H1
theorem ps_while {c : Expr} {body : List Stmt} {tc : TT} {tb : TS} (hp : PassesOwn (model X.prog X.w) X.A X.env X.xe) (hc : PT X c tc) (hb : PSs X body tb) : PS X (.While c body [] pos) (tWhile tc tb) := by
  intro pins s σ H D I h
  obtain ⟨W, ⟨m0, w0⟩, turn⟩ := h
  refine wpAny_While (codeAny_whileLoop (fun n s' => ∃ σ' H', Inv X pins σ' H' s' ∧ W n σ' H') ?_ m0 ⟨σ, H, I, w0⟩)
  rintro n s1 ⟨σ1, H1, I1, w1⟩
  refine wpAny_passesOwn hp (thn (hc pins s1 σ1 H1 _ I1 (turn n σ1 H1 w1)) fun b s2 ⟨H2, I2, q2⟩ => ?_)
  cases b with
  | true =>
    obtain ⟨N, hN, q2⟩ := q2
    rw [if_pos rfl]
    refine wpAny_passesOwn hp (thn (hb pins s2 σ1 H2 _ I2 q2) fun f s3 q3 => ?_)
    cases f with
    | next =>
      obtain ⟨σ3, H3, I3, n3⟩ := q3
      obtain ⟨m', hm, w3⟩ := hN σ3 H3 n3
      exact ⟨m', hm, σ3, H3, I3, w3⟩
    | cont =>
      obtain ⟨σ3, H3, I3, n3⟩ := q3
      obtain ⟨m', hm, w3⟩ := hN σ3 H3 n3
      exact ⟨m', hm, σ3, H3, I3, w3⟩
    | brk => exact q3
    | ret v => exact q3
  | false =>
    rw [if_neg Bool.false_ne_true]
    exact wpAny_execs_nil ⟨σ1, H2, I2, q2⟩
end

set_option genInjectivity false in
structure It where
  go : Nat → Hp → Prop
  yld : Nat → Hp → V → Hp → Prop
  stop : Nat → Hp → Prop
def FpOk (X : Cx) (pins : List (Addr × Obj)) (H : Hp) (b : Addr) : Prop :=
  H b = none ∧ b ≠ X.env.locals ∧ b ∉ X.fs ∧ (b ∈ X.ex ∨ X.s₀.heap.objs.size ≤ b) ∧ (∀ x c, X.env.cells.lookup x = some c → c ≠ b) ∧ ∀ p ∈ X.pn ++ pins, p.1 ≠ b
theorem Inv.fpOk {X : Cx} {pins : List (Addr × Obj)} {σ : St} {H H' : Hp} {s : Shared} {b : Addr} (I : Inv X pins σ H s) (hb : s.heap.objs.size ≤ b) (hn : H' b = none) : FpOk X pins H' b := by
  refine ⟨hn, Nat.ne_of_gt (Nat.lt_of_lt_of_le I.lt hb), I.nofs hb, .inr (Nat.le_trans I.sz hb), fun x c e z => ?_, fun p hp z => ?_⟩
  · obtain ⟨v, q⟩ := I.cell x c e
    exact absurd (Nat.lt_of_lt_of_le q.lt (by rw [z]; exact hb)) (Nat.lt_irrefl _)
  · exact absurd (Nat.lt_of_lt_of_le (Heap.lt_size (I.pin p hp).1) (by rw [z]; exact hb)) (Nat.lt_irrefl _)
structure Turn (P : Program) (w : World) (K : PySem.W.Frag) (tg : Expr) (J : It) (fp : List Addr) (it : Addr) (tn : Nat → Heap → Prop) : Prop where
  mem : it ∈ fp
  obj : ∀ i h, tn i h → ∀ b ∈ fp, ∃ o, h.get? b = some o ∧ ∀ v, o.data ≠ .cell v
  keep : ∀ i h h', tn i h → (∀ b ∈ fp, ∀ o, h.get? b = some o → h'.get? b = some o) → tn i h'
  item : ∀ (X : Cx), X.prog = P → X.w = w → X.K = K → X.calm = true → ∀ (i : Nat) (pins : List (Addr × Obj)) (s : Shared) (σ : St) (H : Hp) (E : Value → Shared → Prop), Inv X pins σ H s → (∀ b ∈ fp, FpOk X pins H b) → tn i s.heap → J.go i H →
    wpAny (model P w) X.A (pyNext (.ref it)) (fun r s1 => ∃ u, r = some u ∧
      wpAny (model P w) X.A (letOwnedTupleGo tg (.ref it) u) (fun _ s2 => ∃ x H', Inv X pins σ H' s2 ∧ RelV x u ∧ J.yld i H x H' ∧ tn (i + 1) s2.heap ∧ ∀ b ∈ fp, H' b = none) E s1) E s
  done : ∀ (X : Cx), X.prog = P → X.w = w → X.K = K → X.calm = true → ∀ (i : Nat) (pins : List (Addr × Obj)) (s : Shared) (σ : St) (H : Hp) (E : Value → Shared → Prop), Inv X pins σ H s → (∀ b ∈ fp, FpOk X pins H b) → tn i s.heap → J.stop i H →
    wpAny (model P w) X.A (pyNext (.ref it)) (fun r s1 => r = none ∧ Inv X pins σ H s1) E s
  self : ∀ (A : Around) (i : Nat) (s : Shared) (Q : Value → Shared → Prop) (E : Value → Shared → Prop), tn i s.heap → Q (.ref it) s → wpAny (model P w) A (pyIter (.ref it)) Q E s
abbrev TI := St → Hp → (It → Hp → Prop) → Prop
def PIE (X : Cx) (pins : List (Addr × Obj)) (σ : St) (tg : Expr) (R : It → Hp → Prop) (itv : Value) (s2 : Shared) : Prop :=
  ∃ (it : Addr) (fp : List Addr) (tn : Nat → Heap → Prop) (J : It) (H' : Hp), itv = .ref it ∧ Inv X pins σ H' s2 ∧ Turn X.prog X.w X.K tg J fp it tn ∧ tn 0 s2.heap ∧ (∀ b ∈ fp, FpOk X pins H' b) ∧ R J H'
def PI (X : Cx) (tg iter : Expr) (wi : TI) : Prop :=
  ∀ (pins : List (Addr × Obj)) (s : Shared) (σ : St) (H : Hp) (R : It → Hp → Prop), Inv X pins σ H s → wi σ H R →
    wpAny (model X.prog X.w) X.A (eval iter X.env) (fun v s1 => wpAny (model X.prog X.w) X.A (pyIter v) (PIE X pins σ tg R) X.xe s1) X.xe s

theorem go_of {M : Model} {A : Around} {E : Value → Shared → Prop} {s : Shared} {tg : Expr} {it : Addr} {u : Value} {o : Obj} {n : String} {vs : Array Value} {Q : Unit → Shared → Prop} (ho : s.heap.get? it = some o) (hc : o.cls = .type n) (hd : o.data = .fields vs)
    (hn : ["enumerate", "zip", "dict_itemiterator", "dict_reverseitemiterator", "odict_iterator", "itertools.zip_longest", "itertools.pairwise"].contains n = false) (hQ : Q () s) : wpAny M A (letOwnedTupleGo tg (.ref it) u) Q E s := by
  unfold letOwnedTupleGo
  cases tg <;> first
    | exact wpAny_pure hQ
    | (cases u <;> first
        | exact wpAny_pure hQ
        | (refine wpAny_bind (wpAny_load ho ?_)
           rw [hc, hd]
           show wpAny M A (if (["enumerate", "zip", "dict_itemiterator", "dict_reverseitemiterator", "odict_iterator", "itertools.zip_longest", "itertools.pairwise"].contains n && vs[0]? == some (rawInt _)) = true then _ else _) Q E s
           rw [if_neg (by intro h; rw [hn, Bool.false_and] at h; cases h)]
           exact wpAny_pure hQ))

def Itl (K : PySem.W.Frag) (a : Addr) : It :=
  ⟨fun i H => ∃ xs x, SqL K H a xs ∧ xs[i]? = some x, fun i H x H' => H' = H ∧ ∀ xs, SqL K H a xs → xs[i]? = some x, fun i H => ∃ xs, SqL K H a xs ∧ xs.length ≤ i⟩
def Itr (lo : Int) (n : Nat) : It := ⟨fun i _ => i < n, fun i H x H' => H' = H ∧ x = .int (lo + i), fun i _ => n ≤ i⟩
theorem turn_list {P : Program} {w : World} {K : PySem.W.Frag} {tg : Expr} (a it : Addr) : Turn P w K tg (Itl K a) [it] it (fun i h => h.IsListIter it a i) where
  mem := by simp
  obj := fun i h st b hb => by
    have e : b = it := by simpa using hb
    subst e
    obtain ⟨o, e, c, d⟩ := st
    exact ⟨o, e, fun v z => by rw [d] at z; cases z⟩
  keep := fun i h h' st k => st.at fun o e => k it (by simp) o e
  item := by
    intro X hP hw hK hc i pins s σ H E I hf st hg
    subst hP hw hK
    obtain ⟨xs, x, hq, hx⟩ := hg
    obtain ⟨its, rv, p, hz⟩ := I.list hq
    obtain ⟨u, hu, ru⟩ := rv.get hx
    obtain ⟨f0, f1, f2, f3, f4, f5⟩ := hf it (by simp)
    refine wpAny_pyNext_list_item st p.isList (x := u) (by simpa using hu) fun h' st' sb => ?_
    have I1 : Inv X pins σ H { s with heap := h' } := I.turned (t' := s.toks) (fun b o hb e => (sb.2 b hb).trans e) f0 f1 f3 f4 f5
    obtain ⟨o, e, c, d⟩ := id st'
    exact ⟨u, rfl, go_of (s := { s with heap := h' }) e c d (by decide) ⟨x, H, I1, ru, ⟨rfl, fun ys hy => by rw [I.list_inj hy hq]; exact hx⟩, st', fun b hb => (hf b hb).1⟩⟩
  done := by
    intro X hP hw hK hc i pins s σ H E I hf st hg
    subst hP hw hK
    obtain ⟨xs, hq, hx⟩ := hg
    obtain ⟨its, rv, p, hz⟩ := I.list hq
    obtain ⟨f0, f1, f2, f3, f4, f5⟩ := hf it (by simp)
    have hl := rv.length
    exact wpAny_pyNext_list_end (I.ok.hd hc) st p.isList (by simp; omega) fun h' eb => ⟨rfl, I.turned (t' := s.toks) (fun b o hb e => eb b o hb e) f0 f1 f3 f4 f5⟩
  self := fun _ _ _ _ _ st h => wpAny_pyIter_listiter st h
theorem turn_range {P : Program} {w : World} {K : PySem.W.Frag} {tg : Expr} (it : Addr) (lo : Int) (n : Nat) : Turn P w K tg (Itr lo n) [it] it (fun i h => IsRangeIter h it (lo + (i : Nat) * 1) ((n : Int) - (i : Nat)) 1) where
  mem := by simp
  obj := fun i h st b hb => by
    have e : b = it := by simpa using hb
    subst e
    exact ⟨_, st, fun v z => by
      have z' : Data.fields _ = Data.cell v := z
      cases z'⟩
  keep := fun i h h' st k => k it (by simp) _ st
  item := by
    intro X hP hw hK hc i pins s σ H E I hf st hg
    subst hP hw hK
    obtain ⟨f0, f1, f2, f3, f4, f5⟩ := hf it (by simp)
    have W := Walks.range (prog := X.prog) (w := X.w) (I.ok.hd hc) it lo 1 n
    refine W.item i s _ _ hg st fun v h' tk hv st' kk => ?_
    obtain ⟨t, rfl⟩ := hv
    have I1 : Inv X pins σ H { s with heap := h', toks := tk } := I.turned (fun b o hb e => kk b o (by simpa using hb) e) f0 f1 f3 f4 f5
    refine ⟨_, rfl, go_of (s := { s with heap := h', toks := tk }) (n := "range_iterator") st' rfl rfl (by decide) ⟨.int (lo + i), H, I1, ⟨t, ?_⟩, ⟨rfl, rfl⟩, st', fun b hb => (hf b hb).1⟩⟩
    rw [Int.mul_one]
  done := by
    intro X hP hw hK hc i pins s σ H E I hf st hg
    subst hP hw hK
    obtain ⟨f0, f1, f2, f3, f4, f5⟩ := hf it (by simp)
    exact wpAny_pyNext_range_end (I.ok.hd hc) st (by have : n ≤ i := hg; omega) fun h' eb => ⟨rfl, I.turned (t' := s.toks) (fun b o hb e => eb b o hb e) f0 f1 f3 f4 f5⟩
  self := fun _ _ _ _ _ st h => wpAny_pyIter_rangeiter st h
end L2

namespace L2
open PySem PySem.Spec PyProof.Rows
section
variable {X : Cx} {tg : Expr}
def iList (K : PySem.W.Frag) (tl : TE) : TI := fun σ H R => tl σ H fun x H1 => ∃ a, x = .ref a ∧ (∃ xs, SqL K H1 a xs) ∧ R (Itl K a) H1
theorem pi_list {l : Expr} {tl : TE} (hl : PE X l tl) : PI X tg l (iList X.K tl) := by
  intro pins s σ H R I h
  refine thn (hl pins s σ H _ I h) fun v s1 ⟨x, H1, I1, r1, q1⟩ => ?_
  obtain ⟨a, e, ⟨xs, hq⟩, q⟩ := q1
  subst e
  cases r1
  obtain ⟨its, rv, p, hz⟩ := I1.list hq
  refine wpAny_pyIter_list p.isList ?_
  refine ⟨s1.heap.objs.size, [s1.heap.objs.size], _, _, H1, rfl, I1.kept (t' := s1.toks) fun b o e => Heap.get?_push_of_some _ e, turn_list a _, ⟨_, Heap.get?_push_size _ rfl, rfl, rfl⟩, fun b hb => ?_, q⟩
  have e : b = s1.heap.objs.size := by simpa using hb
  subst e
  exact I1.fpOk (Nat.le_refl _) (I1.hok.fresh (Nat.le_refl _))
theorem range_it {pins : List (Addr × Obj)} {σ : St} {H : Hp} {s : Shared} {R : It → Hp → Prop} {E : Value → Shared → Prop} {lo hi : Int} {t u v : Tok} {tk : Nat} (I : Inv X pins σ H s) (h1 : -(2 ^ 62) ≤ lo) (h2 : lo < 2 ^ 62) (h3 : -(2 ^ 62) ≤ hi) (h4 : hi < 2 ^ 62)
    (q : R (Itr lo (hi - lo).toNat) H) : wpAny (model X.prog X.w) X.A (pyIter (.ref s.heap.objs.size)) (PIE X pins σ tg R) E { s with heap := s.heap.push { cls := .type "range", data := .fields #[.int lo t, .int hi u, .int 1 v] }, toks := tk } := by
  refine wpAny_pyIter_range (IsRange.new ..) (small_one h1 h2 h3 h4) ?_
  have I1 : Inv X pins σ H { s with heap := s.heap.push { cls := .type "range", data := .fields #[.int lo t, .int hi u, .int 1 v] }, toks := tk } := I.kept fun b o e => Heap.get?_push_of_some _ e
  refine ⟨(s.heap.push { cls := .type "range", data := .fields #[.int lo t, .int hi u, .int 1 v] }).objs.size, [(s.heap.push { cls := .type "range", data := .fields #[.int lo t, .int hi u, .int 1 v] }).objs.size], _, _, H, rfl,
    I1.kept (t' := tk) fun b o e => Heap.get?_push_of_some _ e, turn_range _ lo (hi - lo).toNat, ?_, fun b hb => ?_, q⟩
  · have e1 : lo + ((0 : Nat) : Int) * 1 = lo := by simp
    have e2 : (((hi - lo).toNat : Nat) : Int) - ((0 : Nat) : Int) = Builtin.Range.rangeSize lo hi 1 := by rw [rangeSize_one]; split <;> omega
    show IsRangeIter _ _ (lo + ((0 : Nat) : Int) * 1) ((((hi - lo).toNat : Nat) : Int) - ((0 : Nat) : Int)) 1
    rw [e1, e2]
    exact Heap.get?_push_size _ rfl
  · have e : b = (s.heap.push { cls := .type "range", data := .fields #[.int lo t, .int hi u, .int 1 v] }).objs.size := by simpa using hb
    subst e
    exact I1.fpOk (Nat.le_refl _) (I1.hok.fresh (Nat.le_refl _))
def iRng1 (ta : TA) : TI := fun σ H R => ta σ H fun vs H1 => ∃ j : Int, vs = [.int j] ∧ -(2 ^ 62) ≤ j ∧ j < 2 ^ 62 ∧ R (Itr 0 j.toNat) H1
def iRng2 (ta : TA) : TI := fun σ H R => ta σ H fun vs H1 => ∃ i j : Int, vs = [.int i, .int j] ∧ (-(2 ^ 62) ≤ i ∧ i < 2 ^ 62 ∧ -(2 ^ 62) ≤ j ∧ j < 2 ^ 62) ∧ R (Itr i (j - i).toNat) H1
theorem pi_range1 {a : Expr} {ta : TA} {p pos : Pos} (hg : Gl X "range") (hm : X.mg "range" = none) (ha : PA X [a] ta) (hs : starEach [a] X.env = [(false, eval a X.env)] := by rfl) : PI X tg (.Call (.Name "range" p) [a] [] pos) (iRng1 ta) := by
  intro pins s σ H R I h
  refine Call_ (ld_blt I hg hm boot_range (PyProof.Rows.callWith_type1 (thn (ha pos pins s σ H _ I h) fun us s1 ⟨vs, H1, I1, r1, q1⟩ => ?_) hs rfl))
  obtain ⟨j, e, q1, q2, q⟩ := q1
  subst e
  cases r1 with
  | cons r rr =>
    cases rr
    obtain ⟨t, rfl⟩ := r
    exact call_range_1 (range_it I1 (by omega) (by omega) q1 q2 (by simpa using q))
theorem pi_range2 {a b : Expr} {ta : TA} {p pos : Pos} (hg : Gl X "range") (hm : X.mg "range" = none) (ha : PA X [a, b] ta) (hs : starEach [a, b] X.env = [(false, eval a X.env), (false, eval b X.env)] := by rfl) (hs2 : starEach [b] X.env = [(false, eval b X.env)] := by rfl) :
    PI X tg (.Call (.Name "range" p) [a, b] [] pos) (iRng2 ta) := by
  intro pins s σ H R I h
  refine Call_ (ld_blt I hg hm boot_range (PyProof.Rows.callWith_type1 (thn (ha pos pins s σ H _ I h) fun us s1 ⟨vs, H1, I1, r1, q1⟩ => ?_) (by rw [hs, hs2]) (by rw [hs2]; rfl)))
  obtain ⟨i, j, e, ⟨q1, q2, q3, q4⟩, q⟩ := q1
  subst e
  cases r1 with
  | cons r rr =>
    cases rr with
    | cons r' rr =>
      cases rr
      obtain ⟨t, rfl⟩ := r
      obtain ⟨t', rfl⟩ := r'
      exact call_range_2 (range_it I1 q1 q2 q3 q4 q)

def tFor (wi : TI) (g : TG) (tb : TS) : TS := fun D σ H => wi σ H fun J H1 => ∃ W : Nat → Nat → St → Hp → Prop, (∃ m, W 0 m σ H1) ∧ ∀ i m σ H, W i m σ H →
  (J.stop i H ∧ D.nx σ H) ∨ (J.go i H ∧ ∃ N : St → Hp → Prop, (∀ σ' H', N σ' H' → ∃ m', m' < m ∧ W (i + 1) m' σ' H') ∧ ∀ x H', J.yld i H x H' → g x σ H' fun σ2 H2 => tb { D with nx := N, ct := N, bk := D.nx } σ2 H2)
def pinsAt (fp : List Addr) (h : Heap) : List (Addr × Obj) := fp.filterMap fun b => (h.get? b).map fun o => (b, o)
theorem mem_pinsAt {fp : List Addr} {h : Heap} {b : Addr} {o : Obj} (hb : b ∈ fp) (e : h.get? b = some o) : (b, o) ∈ pinsAt fp h := List.mem_filterMap.mpr ⟨b, hb, by rw [e]; rfl⟩
theorem of_pinsAt {fp : List Addr} {h : Heap} {p : Addr × Obj} (hp : p ∈ pinsAt fp h) : p.1 ∈ fp ∧ h.get? p.1 = some p.2 := by
  obtain ⟨b, hb, e⟩ := List.mem_filterMap.mp hp
  cases q : h.get? b with
  | none => rw [q] at e; cases e
  | some o =>
    rw [q] at e
    have e' : (b, o) = p := Option.some.inj e
    subst e'
    exact ⟨hb, q⟩
theorem Inv.pinned {pins : List (Addr × Obj)} {σ : St} {H : Hp} {s : Shared} {fp : List Addr} (I : Inv X pins σ H s) (hf : ∀ b ∈ fp, FpOk X pins H b) (ho : ∀ b ∈ fp, ∃ o, s.heap.get? b = some o ∧ ∀ v, o.data ≠ .cell v) : Inv X (pins ++ pinsAt fp s.heap) σ H s :=
  I.pins_of fun p hp => (List.mem_append.mp hp).elim (fun z => I.pin p (List.mem_append_right _ z)) fun z => by
    obtain ⟨hb, e⟩ := of_pinsAt z
    obtain ⟨f0, f1, f2, _⟩ := hf p.1 hb
    obtain ⟨o, e', d⟩ := ho p.1 hb
    rw [e] at e'; cases e'
    exact ⟨e, f0, f1, f2, d⟩
theorem Inv.unpinned {pins pl : List (Addr × Obj)} {σ : St} {H : Hp} {s : Shared} (I : Inv X (pins ++ pl) σ H s) : Inv X pins σ H s := I.pins_of fun p hp => I.pin p (List.mem_append_right _ (List.mem_append_left _ hp))
theorem ps_for {iter : Expr} {body : List Stmt} {wi : TI} {g : TG} {tb : TS} {pos : Pos} (hp : PassesOwn (model X.prog X.w) X.A X.env X.xe) (hc : X.calm = true) (hi : PI X tg iter wi) (hg : PG X tg g) (hb : PSs X body tb)
    (hs : ∀ x, foldedSetIterable iter X.env x = pure x := by intro _; rfl) : PS X (.For tg iter body [] pos) (tFor wi g tb) := by
  intro pins s σ H D I h
  refine wpAny_For (thn (hi pins s σ H _ I h) fun v s1 h1 => thn h1 fun itv s2 h2 => ?_) hs
  obtain ⟨it, fp, tn, J, H2, e, I2, T, st2, f2, W, ⟨m0, w0⟩, turn⟩ := h2
  subst e
  -- what stays true of the iterator's objects through the loop
  have stat : ∀ {H' : Hp}, (∀ b ∈ fp, H' b = none) → ∀ b ∈ fp, FpOk X pins H' b := fun hn b hb => ⟨hn b hb, (f2 b hb).2⟩
  refine codeAny_forLoop_any (fun n s' => ∃ i σ' H', Inv X pins σ' H' s' ∧ tn i s'.heap ∧ (∀ b ∈ fp, H' b = none) ∧ W i n σ' H') ?_ m0 ⟨0, σ, H2, I2, st2, fun b hb => (f2 b hb).1, w0⟩
  rintro n s3 ⟨i, σ3, H3, I3, st3, fr3, w3⟩
  rcases turn i n σ3 H3 w3 with ⟨stop, qn⟩ | ⟨go, N, hN, step⟩
  · refine wpAny_passesOwn hp (thn (T.done X rfl rfl rfl hc i pins s3 σ3 H3 X.xe I3 (stat fr3) st3 stop) fun r s4 ⟨hr, I4⟩ => ?_)
    subst hr
    exact wpAny_execs_nil ⟨σ3, H3, I4, qn⟩
  · refine wpAny_passesOwn hp (thn (T.item X rfl rfl rfl hc i pins s3 σ3 H3 X.xe I3 (stat fr3) st3 go) fun r s4 ⟨u, hr, h4⟩ => ?_)
    subst hr
    refine wpAny_passesOwn hp (thn h4 fun _ s5 ⟨x, H5, I5, r5, y5, st5, fr5⟩ => ?_)
    have I5' := I5.pinned (stat fr5) (T.obj _ _ st5)
    refine wpAny_passesOwn hp (thn (hg _ s5 σ3 H5 x u _ I5' r5 (step x H5 y5)) fun _ s6 ⟨σ6, H6, I6, q6⟩ => ?_)
    refine wpAny_passesOwn hp (thn (hb _ s6 σ6 H6 _ I6 q6) fun f s7 q7 => ?_)
    have again : ∀ {σ7 : St} {H7 : Hp}, Inv X (pins ++ pinsAt fp s5.heap) σ7 H7 s7 → N σ7 H7 → ∃ m, m < n ∧ ∃ i σ' H', Inv X pins σ' H' s7 ∧ tn i s7.heap ∧ (∀ b ∈ fp, H' b = none) ∧ W i m σ' H' := fun {σ7 H7} I7 n7 => by
      obtain ⟨m', hm, w7⟩ := hN σ7 H7 n7
      refine ⟨m', hm, i + 1, σ7, H7, I7.unpinned, T.keep _ _ _ st5 fun b hb o e => (I7.pin (b, o) (List.mem_append_right _ (List.mem_append_right _ (mem_pinsAt hb e)))).1, fun b hb => ?_, w7⟩
      obtain ⟨o, e, d⟩ := T.obj _ _ st5 b hb
      exact (I7.pin (b, o) (List.mem_append_right _ (List.mem_append_right _ (mem_pinsAt hb e)))).2.1
    cases f with
    | next => obtain ⟨σ7, H7, I7, n7⟩ := q7; exact again I7 n7
    | cont => obtain ⟨σ7, H7, I7, n7⟩ := q7; exact again I7 n7
    | brk => obtain ⟨σ7, H7, I7, q7⟩ := q7; exact ⟨σ7, H7, I7.unpinned, q7⟩
    | ret v => obtain ⟨x7, σ7, H7, I7, r7, q7⟩ := q7; exact ⟨x7, σ7, H7, I7.unpinned, r7, q7⟩
end

theorem for_list {K : PySem.W.Frag} {a : Addr} {xs : List V} {g : TG} {tb : TS} {D : Ends} {σ : St} {H : Hp} (Pv : Nat → St → Hp → Prop) (h0 : Pv 0 σ H) (hl : ∀ i σ H, i ≤ xs.length → Pv i σ H → SqL K H a xs)
    (hs : ∀ i x σ H, xs[i]? = some x → Pv i σ H → g x σ H fun σ2 H2 => tb { D with nx := Pv (i + 1), ct := Pv (i + 1), bk := D.nx } σ2 H2) (hd : ∀ σ H, Pv xs.length σ H → D.nx σ H) :
    ∃ W : Nat → Nat → St → Hp → Prop, (∃ m, W 0 m σ H) ∧ ∀ i m σ H, W i m σ H →
      ((Itl K a).stop i H ∧ D.nx σ H) ∨ ((Itl K a).go i H ∧ ∃ N : St → Hp → Prop, (∀ σ' H', N σ' H' → ∃ m', m' < m ∧ W (i + 1) m' σ' H') ∧ ∀ x H', (Itl K a).yld i H x H' → g x σ H' fun σ2 H2 => tb { D with nx := N, ct := N, bk := D.nx } σ2 H2) := by
  refine ⟨fun i m σ H => m = xs.length - i ∧ i ≤ xs.length ∧ Pv i σ H, ⟨xs.length, by simp, Nat.zero_le _, h0⟩, ?_⟩
  rintro i m σ H ⟨rfl, hi, p⟩
  have q := hl i σ H hi p
  by_cases hlt : i < xs.length
  · refine .inr ⟨⟨xs, xs[i], q, by simp [hlt]⟩, Pv (i + 1), fun σ' H' p' => ⟨xs.length - (i + 1), by omega, rfl, hlt, p'⟩, fun x H' y => ?_⟩
    obtain ⟨e, y⟩ := y
    subst e
    exact hs i x σ _ (y xs q) p
  · have e : i = xs.length := by omega
    subst e
    exact .inl ⟨⟨xs, q, Nat.le_refl _⟩, hd σ H p⟩
theorem for_range {lo : Int} {n : Nat} {g : TG} {tb : TS} {D : Ends} {σ : St} {H : Hp} (Pv : Nat → St → Hp → Prop) (h0 : Pv 0 σ H)
    (hs : ∀ i σ H, i < n → Pv i σ H → g (.int (lo + i)) σ H fun σ2 H2 => tb { D with nx := Pv (i + 1), ct := Pv (i + 1), bk := D.nx } σ2 H2) (hd : ∀ σ H, Pv n σ H → D.nx σ H) :
    ∃ W : Nat → Nat → St → Hp → Prop, (∃ m, W 0 m σ H) ∧ ∀ i m σ H, W i m σ H →
      ((Itr lo n).stop i H ∧ D.nx σ H) ∨ ((Itr lo n).go i H ∧ ∃ N : St → Hp → Prop, (∀ σ' H', N σ' H' → ∃ m', m' < m ∧ W (i + 1) m' σ' H') ∧ ∀ x H', (Itr lo n).yld i H x H' → g x σ H' fun σ2 H2 => tb { D with nx := N, ct := N, bk := D.nx } σ2 H2) := by
  refine ⟨fun i m σ H => m = n - i ∧ i ≤ n ∧ Pv i σ H, ⟨n, by simp, Nat.zero_le _, h0⟩, ?_⟩
  rintro i m σ H ⟨rfl, hi, p⟩
  by_cases hlt : i < n
  · refine .inr ⟨hlt, Pv (i + 1), fun σ' H' p' => ⟨n - (i + 1), by omega, rfl, hlt, p'⟩, fun x H' y => ?_⟩
    obtain ⟨e, y⟩ := y
    subst e y
    exact hs i σ _ hlt p
  · have e : i = n := by omega
    subst e
    exact .inl ⟨Nat.le_refl _, hd σ H p⟩
end L2

namespace L2
open PySem PySem.Spec PyProof.Rows

abbrev R2 := V → V → Hp → VK → Prop
def OpR (X : Cx) (f : Value → Value → Sem Value) (r : R2) : Prop :=
  ∀ (pins : List (Addr × Obj)) (s : Shared) (σ : St) (H : Hp) (x y : V) (v u : Value) (Q : VK), Inv X pins σ H s → RelV x v → RelV y u → r x y H Q →
    wpAny (model X.prog X.w) X.A (f v u) (EP X pins σ Q) X.xe s
def UnR (X : Cx) (f : Value → Sem Value) (r : V → Hp → VK → Prop) : Prop :=
  ∀ (pins : List (Addr × Obj)) (s : Shared) (σ : St) (H : Hp) (x : V) (v : Value) (Q : VK), Inv X pins σ H s → RelV x v → r x H Q →
    wpAny (model X.prog X.w) X.A (f v) (EP X pins σ Q) X.xe s
def CallR (X : Cx) (f : Value) (r : List V → Hp → VK → Prop) : Prop :=
  ∀ (pins : List (Addr × Obj)) (s : Shared) (σ : St) (H : Hp) (xs : List V) (us : List Value) (Q : VK), Inv X pins σ H s → Vals xs us → r xs H Q →
    wpAny (model X.prog X.w) X.A (call f us) (EP X pins σ Q) X.xe s
def tOp (r : R2) (ta tb : TE) : TE := fun σ H Q => ta σ H fun x H1 => tb σ H1 fun y H2 => r x y H2 Q
def tUn (r : V → Hp → VK → Prop) (ta : TE) : TE := fun σ H Q => ta σ H fun x H1 => r x H1 Q
def rI (C : Int → Int → Prop) (g : Int → Int → V) : R2 := fun x y H Q => ∃ i j, x = .int i ∧ y = .int j ∧ C i j ∧ Q (g i j) H
def rI0 (g : Int → Int → V) : R2 := fun x y H Q => ∃ i j, x = .int i ∧ y = .int j ∧ Q (g i j) H
def rU (g : Int → V) : V → Hp → VK → Prop := fun x H Q => ∃ i, x = .int i ∧ Q (g i) H

section
variable {X : Cx} {a b c : Expr} {ta tb tc : TE} {pos : Pos}

theorem binT (ha : PE X a ta) (hb : PE X b tb) {pins : List (Addr × Obj)} {s : Shared} {σ : St} {H : Hp} {R : V → V → Hp → Prop} (I : Inv X pins σ H s)
    (h : ta σ H fun x H1 => tb σ H1 fun y H2 => R x y H2) {Q : Value → Shared → Prop} {f : Value → Value → Sem Value}
    (hf : ∀ v u s2 x y H2, Inv X pins σ H2 s2 → RelV x v → RelV y u → R x y H2 → wpAny (model X.prog X.w) X.A (f v u) Q X.xe s2) :
    wpAny (model X.prog X.w) X.A (eval a X.env) (fun v s₁ => wpAny (model X.prog X.w) X.A (eval b X.env) (fun u s₂ => wpAny (model X.prog X.w) X.A (f v u) Q X.xe s₂) X.xe s₁) X.xe s := by
  refine thn (ha pins s σ H _ I h) fun v s1 ⟨x, H1, I1, r1, q1⟩ => ?_
  refine thn (hb pins s1 σ H1 _ I1 q1) fun u s2 ⟨y, H2, I2, r2, q2⟩ => ?_
  exact hf v u s2 x y H2 I2 r1 r2 q2

theorem pe_op {op : Operator} {r : R2} (ho : OpR X (binaryOp op) r) (ha : PE X a ta) (hb : PE X b tb) : PE X (.BinOp a op b pos) (tOp r ta tb) := by
  intro pins s σ H Q I h
  exact wpAny_BinOp (binT ha hb I h fun v u s2 x y H2 I2 rx ry q => ho pins s2 σ H2 x y v u Q I2 rx ry q)
theorem pe_un {op : UnaryOp} {r : V → Hp → VK → Prop} (ho : UnR X (unaryOp op) r) (ha : PE X a ta) : PE X (.UnaryOp op a pos) (tUn r ta) := by
  intro pins s σ H Q I h
  exact UnaryOp_ (thn (ha pins s σ H _ I h) fun v s1 ⟨x, H1, I1, r1, q1⟩ => ho pins s1 σ H1 x v Q I1 r1 q1)
theorem opI {f : Value → Value → Sem Value} {C : Int → Int → Prop} {g : Int → Int → Int}
    (rule : ∀ (i j : Int) (t u : Tok) (s : Shared) (Q : Value → Shared → Prop) (E : Value → Shared → Prop), C i j → Q (.int (g i j) s.toks) { s with toks := s.toks + 1 } → wpAny (model X.prog X.w) X.A (f (.int i t) (.int j u)) Q E s) :
    OpR X f (rI C fun i j => .int (g i j)) := by
  intro pins s σ H x y v u Q I rx ry h
  obtain ⟨i, j, rfl, rfl, hc, q⟩ := h
  obtain ⟨t, rfl⟩ := rx
  obtain ⟨t', rfl⟩ := ry
  exact rule i j t t' s _ _ hc ⟨.int (g i j), H, I.tok _, ⟨_, rfl⟩, q⟩
theorem opI0 {f : Value → Value → Sem Value} {g : Int → Int → Int}
    (rule : ∀ (i j : Int) (t u : Tok) (s : Shared) (Q : Value → Shared → Prop) (E : Value → Shared → Prop), Q (.int (g i j) s.toks) { s with toks := s.toks + 1 } → wpAny (model X.prog X.w) X.A (f (.int i t) (.int j u)) Q E s) :
    OpR X f (rI0 fun i j => .int (g i j)) := by
  intro pins s σ H x y v u Q I rx ry h
  obtain ⟨i, j, rfl, rfl, q⟩ := h
  obtain ⟨t, rfl⟩ := rx
  obtain ⟨t', rfl⟩ := ry
  exact rule i j t t' s _ _ ⟨.int (g i j), H, I.tok _, ⟨_, rfl⟩, q⟩
theorem opB0 {f : Value → Value → Sem Value} {g : Int → Int → Bool}
    (rule : ∀ (i j : Int) (t u : Tok) (s : Shared) (Q : Value → Shared → Prop) (E : Value → Shared → Prop), Q (.bool (g i j)) s → wpAny (model X.prog X.w) X.A (f (.int i t) (.int j u)) Q E s) :
    OpR X f (rI0 fun i j => .bl (g i j)) := by
  intro pins s σ H x y v u Q I rx ry h
  obtain ⟨i, j, rfl, rfl, q⟩ := h
  obtain ⟨t, rfl⟩ := rx
  obtain ⟨t', rfl⟩ := ry
  exact rule i j t t' s _ _ ⟨.bl (g i j), H, I, rfl, q⟩

def CDiv (i j : Int) : Prop := 0 < j ∧ j < 1073741824
def CMul (i j : Int) : Prop := (-(2 ^ 64) < i ∧ i < 2 ^ 64) ∨ (-(2 ^ 64) < j ∧ j < 2 ^ 64)
theorem CMul.ok {i j : Int} (h : CMul i j) : IntMulOk i j := by
  rcases h with ⟨h1, h2⟩ | ⟨h1, h2⟩
  · exact .of_left (intBits_le_64 h1 h2)
  · exact .of_right (intBits_le_64 h1 h2)
theorem op_add : OpR X (binaryOp .Add) (rI0 fun i j => .int (i + j)) := opI0 fun _ _ _ _ _ _ _ q => add_int q
theorem op_sub : OpR X (binaryOp .Sub) (rI0 fun i j => .int (i - j)) := opI0 fun _ _ _ _ _ _ _ q => sub_int q
theorem op_mul : OpR X (binaryOp .Mult) (rI CMul fun i j => .int (i * j)) := opI fun _ _ _ _ _ _ _ hc q => mul_int q hc.ok
theorem op_fdiv : OpR X (binaryOp .FloorDiv) (rI CDiv fun i j => .int (i / j)) := opI fun i j _ _ _ _ _ hc q => by
  have h1 : (0 : Int) < j := hc.1
  have h2 : j < 1073741824 := hc.2
  exact floordiv_int (by omega) (by rw [Int.fdiv_eq_ediv_of_nonneg i (by omega)]; exact q) (.inl (PyProof.noPylong_small (by omega)))
theorem op_mod : OpR X (binaryOp .Mod) (rI (fun _ j => 0 < j) fun i j => .int (i % j)) := opI fun i j _ _ _ _ _ hc q => by
  have h1 : (0 : Int) < j := hc
  exact mod_int' (by omega) (by rw [Int.fmod_eq_emod_of_nonneg i (by omega)]; exact q)
theorem unI {f : Value → Sem Value} {g : Int → Int}
    (rule : ∀ (i : Int) (t : Tok) (s : Shared) (Q : Value → Shared → Prop) (E : Value → Shared → Prop), Q (.int (g i) s.toks) { s with toks := s.toks + 1 } → wpAny (model X.prog X.w) X.A (f (.int i t)) Q E s) :
    UnR X f (rU fun i => .int (g i)) := by
  intro pins s σ H x v Q I rx h
  obtain ⟨i, rfl, q⟩ := h
  obtain ⟨t, rfl⟩ := rx
  exact rule i t s _ _ ⟨.int (g i), H, I.tok _, ⟨_, rfl⟩, q⟩
theorem un_neg : UnR X (unaryOp .USub) (rU fun i => .int (-i)) := unI fun _ _ _ _ _ q => neg_int q
end

def scal : V → V → Bool
  | .non, .non => true | .non, .int _ => true | .int _, .non => true | .non, .bl _ => true | .bl _, .non => true | .non, .str _ => true | .str _, .non => true
  | .int _, .int _ => true | .bl _, .bl _ => true | .str _, .str _ => true | .byt _, .byt _ => true
  | .int _, .str _ => true | .str _, .int _ => true | .bl _, .str _ => true | .str _, .bl _ => true
  | _, _ => false
def rEq : R2 := fun x y H Q => scal x y = true ∧ Q (.bl (decide (x = y))) H
def rNe : R2 := fun x y H Q => scal x y = true ∧ Q (.bl (!decide (x = y))) H

theorem dec_int {i j : Int} : decide (V.int i = V.int j) = (i == j) := by
  rw [Bool.eq_iff_iff]
  simp
theorem dec_bl {i j : Bool} : decide (V.bl i = V.bl j) = (i == j) := by
  rw [Bool.eq_iff_iff]
  simp
theorem dec_str {i j : Str} : decide (V.str i = V.str j) = (i == j) := by
  rw [Bool.eq_iff_iff]
  simp
theorem dec_byt {i j : Array UInt8} : decide (V.byt i = V.byt j) = (i.toList == j.toList) := by
  rw [Bool.eq_iff_iff]
  cases i
  cases j
  simp

section
variable {X : Cx} {a b c : Expr} {ta tb tc : TE} {pos : Pos}
theorem fin_bl {pins : List (Addr × Obj)} {σ : St} {H : Hp} {s : Shared} {Q : VK} {k k' : Bool} (I : Inv X pins σ H s) (q : Q (.bl k) H) (e : k = k') : EP X pins σ Q (.bool k') s := by
  subst e
  exact ⟨.bl k, H, I, rfl, q⟩
theorem op_eq : OpR X (compareOp .Eq) rEq := by
  intro pins s σ H x y v u Q I rx ry h
  obtain ⟨hs, q⟩ := h
  cases x with
  | non =>
    cases rx
    cases y with
    | non => cases ry; exact PySem.EqNone.eq_none_none (fin_bl I q (by simp))
    | bl j => cases ry; exact PySem.EqNone.eq_none_bool (fin_bl I q (by simp))
    | int j => obtain ⟨t', rfl⟩ := ry; exact PySem.EqNone.eq_none_int (fin_bl I q (by simp))
    | str j => obtain ⟨t', rfl⟩ := ry; exact PySem.EqNone.eq_none_str (fin_bl I q (by simp))
    | _ => exact absurd (show false = true from hs) Bool.false_ne_true
  | bl i =>
    cases rx
    cases y with
    | non => cases ry; exact PySem.EqNone.eq_bool_none (fin_bl I q (by simp))
    | bl j => cases ry; exact eq_bool (fin_bl I q dec_bl)
    | str j => obtain ⟨t', rfl⟩ := ry; exact PySem.EqMixed.eq_bool_str (fin_bl I q (by simp))
    | _ => exact absurd (show false = true from hs) Bool.false_ne_true
  | int i =>
    obtain ⟨t, rfl⟩ := rx
    cases y with
    | non => cases ry; exact PySem.EqNone.eq_int_none (fin_bl I q (by simp))
    | int j => obtain ⟨t', rfl⟩ := ry; exact eq_int (fin_bl I q dec_int)
    | str j => obtain ⟨t', rfl⟩ := ry; exact PySem.EqMixed.eq_int_str (fin_bl I q (by simp))
    | _ => exact absurd (show false = true from hs) Bool.false_ne_true
  | str i =>
    obtain ⟨t, rfl⟩ := rx
    cases y with
    | non => cases ry; exact PySem.EqNone.eq_str_none (fin_bl I q (by simp))
    | bl j => cases ry; exact PySem.EqMixed.eq_str_bool (fin_bl I q (by simp))
    | int j => obtain ⟨t', rfl⟩ := ry; exact PySem.EqMixed.eq_str_int (fin_bl I q (by simp))
    | str j => obtain ⟨t', rfl⟩ := ry; exact eq_str (fin_bl I q dec_str)
    | _ => exact absurd (show false = true from hs) Bool.false_ne_true
  | byt i =>
    obtain ⟨t, rfl⟩ := rx
    cases y with
    | byt j => obtain ⟨t', rfl⟩ := ry; exact PySem.W.eq_bytes (fin_bl I q dec_byt)
    | _ => exact absurd (show false = true from hs) Bool.false_ne_true
  | _ => cases y <;> exact absurd (show false = true from hs) Bool.false_ne_true
theorem op_lt : OpR X (compareOp .Lt) (rI0 fun i j => .bl (decide (i < j))) := opB0 fun _ _ _ _ _ _ _ q => lt_int q
theorem op_gt : OpR X (compareOp .Gt) (rI0 fun i j => .bl (decide (j < i))) := opB0 fun _ _ _ _ _ _ _ q => gt_int q
theorem op_isN : OpR X (compareOp .Is) (fun x y H Q => y = .non ∧ Q (.bl (decide (x = .non))) H) := by
  intro pins s σ H x y v u Q I rx ry h
  obtain ⟨rfl, q⟩ := h
  cases ry
  refine is_none_gen (fin_bl I q ?_)
  cases x <;> first
    | (cases rx; rfl)
    | (obtain ⟨t, rfl⟩ := rx; rfl)
theorem op_notN : OpR X (compareOp .IsNot) (fun x y H Q => y = .non ∧ Q (.bl (!decide (x = .non))) H) := by
  intro pins s σ H x y v u Q I rx ry h
  obtain ⟨rfl, q⟩ := h
  cases ry
  refine isnot_none_gen (fin_bl I q ?_)
  cases x <;> first
    | (cases rx; rfl)
    | (obtain ⟨t, rfl⟩ := rx; rfl)

theorem nomark (b : Expr) {op : CmpOp} (h : op ≠ .In := by decide) (h2 : op ≠ .NotIn := by decide) : behindInMarks op b = false := by
  have e1 : (op == CmpOp.In) = false := by cases op <;> first | rfl | exact absurd rfl h
  have e2 : (op == CmpOp.NotIn) = false := by cases op <;> first | rfl | exact absurd rfl h2
  cases b <;> simp [behindInMarks, e1, e2]
theorem pe_cmpR {op : CmpOp} {r : R2} (ho : OpR X (compareOp op) r) (ha : PE X a ta) (hb : PE X b tb) (hm : behindInMarks op b = false) : PE X (.Compare a [op] [b] pos) (tOp r ta tb) := by
  intro pins s σ H Q I h
  exact wpAny_Compare1 (binT ha hb I h fun v u s2 x y H2 I2 rx ry q => ho pins s2 σ H2 x y v u Q I2 rx ry q) hm
def tTest (t : TE) : TT := fun σ H Q => t σ H fun x H' => ∃ k, x = .bl k ∧ Q k H'
theorem pt_cmpR {op : CmpOp} {r : R2} (ho : OpR X (compareOp op) r) (ha : PE X a ta) (hb : PE X b tb) (hm : behindInMarks op b = false) : PT X (.Compare a [op] [b] pos) (tTest (tOp r ta tb)) := by
  intro pins s σ H Q I h
  refine wpAny_isTrue_Compare1 (thn (ha pins s σ H _ I h) fun v s1 ⟨x, H1, I1, r1, q1⟩ => thn (hb pins s1 σ H1 _ I1 q1) fun u s2 ⟨y, H2, I2, r2, q2⟩ =>
    thn (ho pins s2 σ H2 x y v u _ I2 r1 r2 q2) fun c s3 ⟨z, H3, I3, r3, k, e, q3⟩ => ?_) hm
  subst e
  cases r3
  exact wpAny_truthy_bool ⟨H3, I3, q3⟩
def tChain (r r' : R2) (ta tb tc : TE) : TE := fun σ H Q => ta σ H fun x H1 => tb σ H1 fun y H2 => r x y H2 fun z H3 => ∃ k, z = .bl k ∧
  (if k = true then tc σ H3 fun w' H4 => r' y w' H4 Q else Q (.bl false) H3)
theorem line63 : (sizeLine : Nat) < 2 ^ 63 := by rw [sizeLine_eq]; decide
theorem vals1 {x : V} {us : List Value} (r : Vals [x] us) : ∃ u, us = [u] ∧ RelV x u := by
  cases r with
  | cons r1 r2 => cases r2; exact ⟨_, rfl, r1⟩
theorem vals2 {x y : V} {us : List Value} (r : Vals [x, y] us) : ∃ u w', us = [u, w'] ∧ RelV x u ∧ RelV y w' := by
  cases r with
  | cons r1 r2 =>
    cases r2 with
    | cons r3 r4 => cases r4; exact ⟨_, _, rfl, r1, r3⟩
theorem call_min2 (hc : X.calm = true) : CallR X (.builtin "min") (fun xs H Q => ∃ i j, xs = [.int i, .int j] ∧ Q (.int (if j < i then j else i)) H) := by
  intro pins s σ H xs us Q I r h
  obtain ⟨i, j, rfl, q⟩ := h
  obtain ⟨u, w', rfl, ⟨t, rfl⟩, ⟨t', rfl⟩⟩ := vals2 r
  refine min_two_ints (I.ok.hd hc) fun h' tk k => ⟨_, H, I.kept k, ?_, q⟩
  by_cases hj : j < i
  · rw [if_pos hj, if_pos hj]; exact ⟨_, rfl⟩
  · rw [if_neg hj, if_neg hj]; exact ⟨_, rfl⟩
theorem call_int1 : CallR X (.type "int") (fun xs H Q => (∃ i, xs = [.int i] ∧ Q (.int i) H) ∨ ∃ k, xs = [.bl k] ∧ Q (.int (if k then 1 else 0)) H) := by
  intro pins s σ H xs us Q I r h
  rcases h with ⟨i, rfl, q⟩ | ⟨k, rfl, q⟩
  · obtain ⟨u, rfl, t, rfl⟩ := vals1 r
    exact call_int_int ⟨.int i, H, I, ⟨_, rfl⟩, q⟩
  · obtain ⟨u, rfl, r1⟩ := vals1 r
    cases r1
    exact call_int_bool ⟨.int (if k then 1 else 0), H, I.tok _, ⟨_, rfl⟩, q⟩
def LenV (K : PySem.W.Frag) (x : V) (H : Hp) (n : Nat) : Prop :=
  match x with
  | .str y => y.length ≤ sizeLine ∧ n = y.length
  | .byt y => y.size ≤ sizeLine ∧ n = y.size
  | .ref p => (∃ xs, SqL K H p xs ∧ n = xs.length) ∨ ∃ xs, SqT K H p xs ∧ n = xs.length
  | _ => False
theorem call_len : CallR X (.builtin "len") (fun xs H Q => ∃ x n, xs = [x] ∧ LenV X.K x H n ∧ Q (.int n) H) := by
  intro pins s σ H xs us Q I r h
  obtain ⟨x, n, rfl, e, q⟩ := h
  obtain ⟨u, rfl, rx⟩ := vals1 r
  have hl := line63
  have hs : sizeLine = 16777216 := sizeLine_eq
  cases x with
  | str y =>
    obtain ⟨t, rfl⟩ := rx
    obtain ⟨hy, e'⟩ : y.length ≤ sizeLine ∧ n = y.length := e
    subst e'
    exact len_str (by omega) ⟨.int _, H, I.tok _, ⟨_, rfl⟩, q⟩
  | byt y =>
    obtain ⟨t, rfl⟩ := rx
    obtain ⟨hy, e'⟩ : y.size ≤ sizeLine ∧ n = y.size := e
    subst e'
    exact PySem.W.len_bytes (by omega) ⟨.int _, H, I.tok _, ⟨_, rfl⟩, q⟩
  | ref p =>
    cases rx
    have e' : (∃ xs, SqL X.K H p xs ∧ n = xs.length) ∨ ∃ xs, SqT X.K H p xs ∧ n = xs.length := e
    rcases e' with ⟨xs, hx, e'⟩ | ⟨xs, hx, e'⟩
    · subst e'
      obtain ⟨its, r', pl, hz⟩ := I.list hx
      have hlen := r'.length
      exact Calls.call_len_list pl.isList (by simp only [List.size_toArray]; omega) ⟨.int xs.length, H, I.tok _, ⟨_, by simp only [List.size_toArray]; rw [hlen]⟩, q⟩
    · subst e'
      obtain ⟨its, r', pl, hz⟩ := I.tuple hx
      have hlen := r'.length
      exact len_tuple pl (by simp only [List.size_toArray]; omega) ⟨.int xs.length, H, I.tok _, ⟨_, by simp only [List.size_toArray]; rw [hlen]⟩, q⟩
  | _ => exact (show False from e).elim
end
end L2

namespace L2
open PySem PySem.Spec PyProof.Rows

structure ObjM (h : Heap) (x dx C : Addr) (mA : Str → Option Value) : Prop where
  obj : h.get? x = some (PySem.W.instObj C dx)
  ns : h.Ns1 dx mA
  ne : dx ≠ x

theorem lookIn_ns {h : Heap} {dx : Addr} {mA : Str → Option Value} (n : h.Ns1 dx mA) : ∃ od, h.get? dx = some od ∧ ∀ name, PySem.W.lookIn name od = some (mA name) := by
  obtain ⟨o, es, ep, ho, hd, hk, _, hm⟩ := n
  refine ⟨o, ho, fun name => ?_⟩
  have e := hm name
  unfold nsFind findBy at e
  rw [← Array.find?_toList] at e
  unfold PySem.W.lookIn
  rw [hd]
  dsimp only
  split
  · rename_i y q
    rw [q] at e
    exact congrArg some e
  · rename_i q
    rw [q] at e
    have a : es.toList.any (·.refKey) = false := by
      rw [List.any_eq_false]
      intro y hy
      obtain ⟨z, t, hkey⟩ := hk y (Array.mem_toList_iff.mp hy)
      simp [DictEntry.refKey, hkey]
    have a' : ¬ es.toList.any (·.refKey) = true := by rw [a]; exact Bool.false_ne_true
    rw [if_neg a']
    exact congrArg some e

theorem ObjM.look {h : Heap} {x dx C : Addr} {mA : Str → Option Value} (I : ObjM h x dx C mA) : ∃ od, PySem.W.InstAt h x (PySem.W.instObj C dx) C (some od) ∧ ∀ name, PySem.W.lookIn name od = some (mA name) :=
  let ⟨od, ho, hl⟩ := lookIn_ns I.ns
  ⟨od, ⟨I.obj, rfl, rfl, ho⟩, hl⟩

section
variable {prog : Program} {w : World} {A : Around} {E : Value → Shared → Prop} {s : Shared} {K : PySem.W.Frag} {x dx C f : Addr} {mA : Str → Option Value} {name : Str} {v : Value}

theorem get_map {expr : Bool} {Q : Value → Shared → Prop} (X : K.In s.heap) (I : ObjM s.heap x dx C mA) (hg : PySem.W.plainGet K C name = true) (hh : PySem.W.hasDictIn K C = true)
    (ha : PySem.W.findIn K (.ref C) name = some none) (hv : mA name = some v) (hv' : PySem.W.handedIn v = true) (h : Q v { s with toks := s.toks + 1 }) :
    wpAny (model prog w) A (getAttr (.ref x) name expr) Q E s := by
  obtain ⟨od, J, hl⟩ := I.look
  exact PySem.W.get_value X J (PySem.W.plainGet_of hg).1 (PySem.W.findObj_own hh ha rfl (by rw [hl, hv])) hv' h

theorem get_meth {pl : Sem Bool} {Q : Value × List Value → Shared → Prop} (X : K.In s.heap) (I : ObjM s.heap x dx C mA) (hg : PySem.W.plainGet K C name = true)
    (hf : PySem.W.findIn K (.ref C) name = some (some (.ref f))) (ht : PySem.W.isFn K (.ref f) = true) (hv : mA name = none) (h : Q (.ref f, [.ref x]) s) :
    wpAny (model prog w) A (getMethod (.ref x) name pl) Q E s := by
  obtain ⟨od, J, hl⟩ := I.look
  exact PySem.W.method_fn X J (PySem.W.plainGet_of hg).1 (PySem.W.plainGet_of hg).2 hf (beq_iff_eq.mp ht) (by show (PySem.W.lookIn name od).map (·.isSome) = some false; rw [hl, hv]; rfl) h

theorem set_map {ns : List Str} {Q : Unit → Shared → Prop} (X : K.In s.heap) (I : ObjM s.heap x dx C mA)
    (hs : PySem.W.findIn K (.ref C) "__setattr__" = some (some (.builtin "object.__setattr__"))) (hp : PySem.W.plainOver K C = true) (ht : PySem.W.takerIn K C name = some none) (hh : PySem.W.hasDictIn K C = true)
    (hw : PySem.Within mA ns) (hsz : ns.length ≤ sizeLine)
    (h : ∀ h', ObjM h' x dx C (fun y => if y = name then some v else mA y) → Heap.SameBut dx s.heap h' → Q () { s with heap := h', toks := s.toks + 2 }) :
    wpAny (model prog w) A (setAttr (.ref x) name v) Q E s := by
  obtain ⟨od, J, hl⟩ := I.look
  refine PySem.W.set_plain X J hs (PySem.W.osa_open (s := { s with toks := s.toks + 1 }) (r := none) X J hp ht fun b => ?_)
  obtain ⟨cd, hc, hd'⟩ := PySem.W.any_some hh
  have hx : s.heap.get? x = some ⟨.ref C, some dx, .plain, #[]⟩ := I.obj
  refine wpAny_bind (wpAny_pure (wpAny_bind (wpAny_bind (wpAny_loadPart hx (wpAny_bind (PySem.W.Looks.here (s := { s with toks := s.toks + 1 }) (PySem.W.looks_clsIn X hc) ?_))))))
  rw [hd']
  refine wpAny_pure (a := some dx) (wpAny_bind (wpAny_pure (wpAny_bind ?_)))
  refine wpAny_nsSet1 (s := { s with toks := s.toks + 1 }) I.ns fun h' hn2 hs2 => ?_
  obtain ⟨oD, esD, epD, hoD, hdD, hcD⟩ := hn2.count (PySem.Within.cons name v hw)
  refine wpAny_bind (wpAny_lookBehind hoD (by rw [hdD]; exact pastItsLine_dict (Nat.le_trans hcD (by rw [List.length_cons]; omega))) ?_)
  exact wpAny_pure (h _ ⟨(hs2.2 _ (Ne.symm I.ne)).trans I.obj, hn2, I.ne⟩ hs2)

theorem make_map {R : Result → Shared → Prop} {vs : List Value} {kw : List (Str × Value)} (X : K.In s.heap) (hm : PySem.W.makesIn K C = true)
    (hi : PySem.W.findIn K (.ref C) "__init__" = some (some (.ref f))) (hf : PySem.W.typeIn K (.ref f) = some (.type "function"))
    (h : codeAny (model prog w) (A.under (.builtin "type.__call__" ⟨.ref C :: vs, kw⟩)) (.call (.ref f) ⟨.ref (s.heap.objs.size + 1) :: vs, kw⟩) (PySem.W.InitBack (s.heap.objs.size + 1) R)
      { s with heap := (s.heap.push PySem.W.emptyDict).push (PySem.W.instObj C s.heap.objs.size) }) :
    codeAny (model prog w) A (.call (.ref C) ⟨vs, kw⟩) R s := by
  obtain ⟨hh, g, d, t, os⟩ := s
  exact PySem.W.make_core (PySem.W.makes_of X hm) (PySem.W.looks_findIn X hi) (fun self => PySem.W.bind_fn X self hf) (.inl rfl) h
end

def putF (f : Str) (v : V) : List (Str × V) → List (Str × V)
  | [] => [(f, v)]
  | (g, x) :: r => if g = f then (g, v) :: r else (g, x) :: putF f v r
theorem lookup_putF (f g : Str) (v : V) : ∀ fs : List (Str × V), (putF f v fs).lookup g = if g = f then some v else fs.lookup g
  | [] => by
    show List.lookup g [(f, v)] = _
    by_cases h : g = f
    · have hb : (g == f) = true := beq_iff_eq.mpr h
      simp only [List.lookup, hb, if_pos h]
    · have hb : (g == f) = false := beq_eq_false_iff_ne.mpr h
      simp only [List.lookup, hb, if_neg h]
  | (k, x) :: r => by
    have ih := lookup_putF f g v r
    rw [show putF f v ((k, x) :: r) = (if k = f then (k, v) :: r else (k, x) :: putF f v r) from rfl]
    by_cases hk : k = f
    · rw [if_pos hk]
      by_cases h : g = k
      · have hb : (g == k) = true := beq_iff_eq.mpr h
        simp only [List.lookup, hb, if_pos (h.trans hk)]
      · have hb : (g == k) = false := beq_eq_false_iff_ne.mpr h
        simp only [List.lookup, hb, if_neg (fun e : g = f => h (e.trans hk.symm))]
    · rw [if_neg hk]
      by_cases h : g = k
      · have hb : (g == k) = true := beq_iff_eq.mpr h
        simp only [List.lookup, hb, if_neg (fun e : g = f => hk (h.symm.trans e))]
      · have hb : (g == k) = false := beq_eq_false_iff_ne.mpr h
        simp only [List.lookup, hb]
        exact ih
theorem keys_putF (f : Str) (v : V) : ∀ fs : List (Str × V), f ∈ (putF f v fs).map (·.1) ∧ ∀ g, g ∈ fs.map (·.1) → g ∈ (putF f v fs).map (·.1)
  | [] => ⟨by simp [putF], fun g h => by simp at h⟩
  | (k, x) :: r => by
    obtain ⟨i1, i2⟩ := keys_putF f v r
    rw [show putF f v ((k, x) :: r) = (if k = f then (k, v) :: r else (k, x) :: putF f v r) from rfl]
    by_cases hk : k = f
    · rw [if_pos hk]
      subst hk
      exact ⟨by simp, fun g h => by simpa using h⟩
    · rw [if_neg hk]
      refine ⟨?_, fun g h => ?_⟩
      · rw [List.map_cons]
        exact List.mem_cons_of_mem _ i1
      · rw [List.map_cons] at h ⊢
        rcases List.mem_cons.mp h with e | e
        · exact List.mem_cons.mpr (.inl e)
        · exact List.mem_cons_of_mem _ (i2 g e)
theorem length_putF (f : Str) (v : V) : ∀ fs : List (Str × V), (putF f v fs).length ≤ fs.length + 1
  | [] => by simp [putF]
  | (k, x) :: r => by
    have ih := length_putF f v r
    rw [show putF f v ((k, x) :: r) = (if k = f then (k, v) :: r else (k, x) :: putF f v r) from rfl]
    by_cases hk : k = f
    · rw [if_pos hk, List.length_cons, List.length_cons]; omega
    · rw [if_neg hk, List.length_cons, List.length_cons]; omega

theorem RelO.some_of {v : V} {o : Option Value} (r : RelO (some v) o) : ∃ u, o = some u ∧ RelV v u := by
  cases o with
  | none => exact (show False from r).elim
  | some u => exact ⟨u, rfl, r⟩
theorem RelO.none_of {o : Option Value} (r : RelO none o) : o = none := by
  cases o with
  | none => rfl
  | some u => exact (show False from r).elim
theorem handed_of {v : V} {u : Value} (r : RelV v u) : PySem.W.handedIn u = true := by
  cases v with
  | non => cases (show u = Value.none from r); rfl
  | bl b => cases (show u = Value.bool b from r); rfl
  | int i => obtain ⟨t, e⟩ := (show ∃ t, u = Value.int i t from r); cases e; rfl
  | str x => obtain ⟨t, e⟩ := (show ∃ t, u = Value.str x t from r); cases e; rfl
  | byt b => obtain ⟨t, e⟩ := (show ∃ t, u = Value.bytes b t from r); cases e; rfl
  | flt b => obtain ⟨t, e⟩ := (show ∃ t, u = Value.float b t from r); cases e; rfl
  | ref a => cases (show u = Value.ref a from r); rfl
  | ty n => cases (show u = Value.type n from r); rfl

section
variable {P : Program} {w : World} {H H' : Hp} {h h' : Heap} {a C dx : Addr} {fs fs' : List (Str × V)}
theorem ins_get (hok : HOk P w H h) (e : H a = some (.ins C dx fs)) : ∃ mA, ObjM h a dx C mA ∧ (∀ f, RelO (fs.lookup f) (mA f)) ∧ PySem.Within mA (fs.map (·.1)) ∧ fs.length ≤ 1000 ∧ H dx = some (.own a) := by
  obtain ⟨d, z, ne, ob, mA, n, r, q⟩ := (show ObjOk P w H h a (.ins C dx fs) from hok a _ e)
  exact ⟨mA, ⟨ob, n, ne⟩, r, q, z, d⟩
end

structure Cls (K : PySem.W.Frag) (C : Addr) : Prop where
  pg : PySem.W.plainGet K C Str.empty = true
  hd : PySem.W.hasDictIn K C = true
  po : PySem.W.plainOver K C = true
  sa : PySem.W.findIn K (.ref C) "__setattr__" = some (some (.builtin "object.__setattr__"))
theorem Cls.get {K : PySem.W.Frag} {C : Addr} (c : Cls K C) (f : Str) : PySem.W.plainGet K C f = true := c.pg
def NoAttr (K : PySem.W.Frag) (C : Addr) (f : Str) : Prop := PySem.W.findIn K (.ref C) f = some none
theorem NoAttr.taker {K : PySem.W.Frag} {C : Addr} {f : Str} (n : NoAttr K C f) : PySem.W.takerIn K C f = some none := by
  unfold PySem.W.takerIn
  rw [show PySem.W.findIn K (.ref C) f = some none from n]
  rfl
structure Meth (K : PySem.W.Frag) (C : Addr) (m : Str) (f : Addr) : Prop where
  at_ : PySem.W.findIn K (.ref C) m = some (some (.ref f))
  fn : PySem.W.isFn K (.ref f) = true
  kp : PySem.W.keepIn K (.ref f) = true

section
variable {X : Cx} {pins : List (Addr × Obj)} {σ : St} {H : Hp} {s : Shared} {a C dx : Addr} {fs : List (Str × V)} {f : Str} {v : V} {A : Around} {E : Value → Shared → Prop}

theorem getattr_ok {b : Bool} {Q : Value → Shared → Prop} (I : Inv X pins σ H s) (e : H a = some (.ins C dx fs)) (c : Cls X.K C) (n : NoAttr X.K C f) (l : fs.lookup f = some v)
    (h : ∀ u s', Inv X pins σ H s' → RelV v u → Q u s') : wpAny (model X.prog X.w) A (getAttr (.ref a) f b) Q E s := by
  obtain ⟨mA, O, r, _, _, _⟩ := ins_get I.hok e
  obtain ⟨u, hu, ru⟩ := RelO.some_of (v := v) (o := mA f) (by rw [← l]; exact r f)
  exact get_map I.kIn O (c.get f) c.hd n hu (handed_of ru) (h u _ (I.tok _) ru)

theorem getmeth_ok {m : Str} {g : Addr} {pl : Sem Bool} {Q : Value × List Value → Shared → Prop} (I : Inv X pins σ H s) (e : H a = some (.ins C dx fs)) (c : Cls X.K C) (k : Meth X.K C m g) (l : fs.lookup m = none)
    (h : Q (.ref g, [.ref a]) s) : wpAny (model X.prog X.w) A (getMethod (.ref a) m pl) Q E s := by
  obtain ⟨mA, O, r, _, _, _⟩ := ins_get I.hok e
  have hn : mA m = none := RelO.none_of (by rw [← l]; exact r m)
  exact get_meth I.kIn O (c.get m) k.at_ k.fn hn h

theorem setattr_ok {y : V} {u : Value} {Q : Unit → Shared → Prop} (I : Inv X pins σ H s) (e : H a = some (.ins C dx fs)) (c : Cls X.K C) (n : NoAttr X.K C f) (hl : fs.length < 1000) (ry : RelV y u)
    (h : ∀ s', Inv X pins σ (upd H a (.ins C dx (putF f y fs))) s' → Q () s') : wpAny (model X.prog X.w) A (setAttr (.ref a) f u) Q E s := by
  obtain ⟨mA, O, r, wi, _, ho⟩ := ins_get I.hok e
  have hz : (fs.map (·.1)).length ≤ sizeLine := by rw [List.length_map, sizeLine_eq]; omega
  refine set_map I.kIn O c.sa c.po n.taker c.hd wi hz fun h' O' sb => h _ ?_
  have hd : ∃ o, h'.get? dx = some o := let ⟨o, _, _, e', _⟩ := O'.ns; ⟨o, e'⟩
  refine I.write (x := a) (e := dx) (by rw [e]; exact True.intro) (.inr ho) (fun b q hb z => (sb.2 b hb).trans z) hd ?_
  refine ⟨by rw [upd_ne O.ne]; exact ho, ?_, O.ne, O'.obj, _, O'.ns, fun g => ?_, fun g hg => ?_⟩
  · have := length_putF f y fs; omega
  · show RelO ((putF f y fs).lookup g) (if g = f then some u else mA g)
    rw [lookup_putF]
    by_cases q : g = f
    · rw [if_pos q, if_pos q]; exact ry
    · rw [if_neg q, if_neg q]; exact r g
  · by_cases q : g = f
    · rw [q]; exact (keys_putF f y fs).1
    · refine (keys_putF f y fs).2 g (wi g fun z => hg ?_)
      show (if g = f then some u else mA g) = none
      rw [if_neg q]; exact z

theorem Inv.made (I : Inv X pins σ H s) : Inv X pins σ (upd (upd H s.heap.objs.size (.own (s.heap.objs.size + 1))) (s.heap.objs.size + 1) (.ins C s.heap.objs.size []))
    { s with heap := (s.heap.push PySem.W.emptyDict).push (PySem.W.instObj C s.heap.objs.size) } := by
  have e1 : (s.heap.push PySem.W.emptyDict).get? s.heap.objs.size = some PySem.W.emptyDict := Heap.get?_push_size s.heap rfl
  have e2 : ((s.heap.push PySem.W.emptyDict).push (PySem.W.instObj C s.heap.objs.size)).get? (s.heap.objs.size + 1) = some (PySem.W.instObj C s.heap.objs.size) := by
    have := Heap.get?_push_size (s.heap.push PySem.W.emptyDict) (o := PySem.W.instObj C s.heap.objs.size) rfl
    rwa [Heap.size_push] at this
  have e3 : (s.heap.push PySem.W.emptyDict).Ns s.heap.objs.size (fun _ => none) := ⟨PySem.W.emptyDict, #[], _, e1, rfl, (fun e he => absurd he (by simp)), fun _ => rfl⟩
  have I1 := I.laid (a := s.heap.objs.size) (o := .own (s.heap.objs.size + 1)) (h' := s.heap.push PySem.W.emptyDict) (t' := s.toks) (fun b u q => Heap.get?_push_of_some _ q) (Nat.le_refl _) ⟨_, e1⟩
  refine I1.laid (a := s.heap.objs.size + 1) (o := .ins C s.heap.objs.size []) (t' := s.toks) (fun b u q => Heap.get?_push_of_some _ q) (Nat.le_of_eq (Heap.size_push _ _)) ?_
  have ne : s.heap.objs.size ≠ s.heap.objs.size + 1 := Nat.ne_of_lt (Nat.lt_succ_self _)
  refine ⟨by rw [upd_ne ne, upd_same], Nat.zero_le _, ne, e2, fun _ => none, (Heap.Ns1.of_empty e3).at fun o q => Heap.get?_push_of_some _ q, fun _ => True.intro, fun y hy => absurd rfl hy⟩

theorem attr_of {prog : Program} {w : World} {env : Env} {e : Expr} {f : Str} {pos : Pos} {s : Shared} {Q : Value → Shared → Prop} (hb : attributeBase e f env (eval e env) = eval e env)
    (h : wpAny (model prog w) A (eval e env) (fun o s₁ => wpAny (model prog w) A (getAttr o f true) Q E s₁) E s) : wpAny (model prog w) A (eval (.Attribute e f pos) env) Q E s :=
  Attribute_any_ h (by rw [arm_eval_Attribute, hb])
end

def tFld (K : PySem.W.Frag) (ta : TE) (f : Str) : TE := fun σ H Q => ta σ H fun x H1 => ∃ a C dx fs v, x = .ref a ∧ H1 a = some (.ins C dx fs) ∧ Cls K C ∧ NoAttr K C f ∧ fs.lookup f = some v ∧ Q v H1
def sFld (K : PySem.W.Frag) (ta tv : TE) (f : Str) : TS := fun D σ H => tv σ H fun y H1 => ta σ H1 fun x H2 => ∃ a C dx fs, x = .ref a ∧ H2 a = some (.ins C dx fs) ∧ Cls K C ∧ NoAttr K C f ∧ fs.length < 1000 ∧
  D.nx σ (upd H2 a (.ins C dx (putF f y fs)))
section
variable {X : Cx} {o e value : Expr} {f : Str} {pos pos' tpos : Pos} {ta tv : TE}
theorem pe_fld (he : PE X e ta) (hb : attributeBase e f X.env (eval e X.env) = eval e X.env) : PE X (.Attribute e f pos) (tFld X.K ta f) := by
  intro pins s σ H Q I h
  refine attr_of hb (thn (he pins s σ H _ I h) fun u s1 ⟨x, H1, I1, rx, a, C, dx, fs, v, ex, ea, c, n, l, q⟩ => ?_)
  subst ex
  obtain rfl : u = Value.ref a := rx
  exact getattr_ok I1 ea c n l fun u' s2 I2 ru => ⟨v, H1, I2, ru, q⟩
theorem ps_fld (ha : PE X o ta) (hv : PE X value tv) (hs : swapsWith value (some (.Attribute o f pos')) pos.line X.env = pure false) : PS X (.Assign [.Attribute o f pos'] value pos) (sFld X.K ta tv f) := by
  intro pins s σ H D I h
  refine plainObj_wpAny_Assign_Attribute (thn (hv pins s σ H _ I h) fun u s1 ⟨y, H1, I1, ry, q⟩ => thn (ha pins s1 σ H1 _ I1 q) fun ov s2 ⟨x, H2, I2, rx, a, C, dx, fs, ex, ea, c, n, l, q2⟩ => ?_) hs
  subst ex
  obtain rfl : ov = Value.ref a := rx
  exact setattr_ok I2 ea c n l ry fun s3 I3 => ⟨σ, _, I3, q2⟩
end

section
variable {X : Cx} {pins : List (Addr × Obj)} {σ : St} {H : Hp} {s : Shared} {A : Around} {E : Value → Shared → Prop} {Q : Value → Shared → Prop} {c : Value} {b : Bool}
inductive TyOf (K : PySem.W.Frag) (H : Hp) : V → Value → Prop where
  | non : TyOf K H .non (.type "NoneType")
  | bl (x : Bool) : TyOf K H (.bl x) (.type "bool")
  | int (i : Int) : TyOf K H (.int i) (.type "int")
  | str (x : Str) : TyOf K H (.str x) (.type "str")
  | flt (x : UInt64) : TyOf K H (.flt x) (.type "float")
  | lst {a : Addr} {xs : List V} (e : H a = some (.lst xs)) : TyOf K H (.ref a) (.type "list")
  | frz {a : Addr} {o : Obj} {xs : List V} (e : H a = some (.frz o (.lst xs))) : TyOf K H (.ref a) (.type "list")
  | tup {a : Addr} {xs : List V} (e : H a = some (.tup xs)) : TyOf K H (.ref a) (.type "tuple")
  | dK {a : Addr} {kvs : List (Key × V)} (e : H a = some (.dK kvs)) : TyOf K H (.ref a) (.type "dict")
  | dT {a : Addr} {kvs : List (List Key × V)} (e : H a = some (.dT kvs)) : TyOf K H (.ref a) (.type "dict")
  | ins {a C dx : Addr} {fs : List (Str × V)} (e : H a = some (.ins C dx fs)) (cl : Cls K C) (ha : PySem.W.findIn K (.ref C) "__class__" = some (some (.builtin "object.__class__")))
      (hn : PySem.W.specialIn K (.builtin "object.__class__") "__get__" = some (some (.builtin "getset_descriptor.__get__"))) (htk : PySem.W.takesIn K (.builtin "object.__class__") = some true)
      (hm : PySem.W.mroIn K C (.type "object") = some true) : TyOf K H (.ref a) (.ref C)
theorem isinst_ok {x : V} {u t : Value} (I : Inv X pins σ H s) (rx : RelV x u) (ty : TyOf X.K H x t) (e : PySem.W.kitOne X.K t c = some b) (h : ∀ tk, Q (.bool b) { s with toks := tk }) :
    wpAny (model X.prog X.w) A (call (.builtin "isinstance") [u, c]) Q E s := by
  cases ty with
  | non => cases (show u = Value.none from rx); exact PySem.W.kia_one PySem.W.kitx_none I.kIn True.intro e (fun z => nomatch z) h
  | bl y => cases (show u = Value.bool y from rx); exact PySem.W.kia_one PySem.W.kitx_bool I.kIn True.intro e (fun z => nomatch z) h
  | int i => obtain ⟨t, q⟩ := (show ∃ t, u = Value.int i t from rx); cases q; exact PySem.W.kia_one PySem.W.kitx_int I.kIn True.intro e (fun z => nomatch z) h
  | str y => obtain ⟨t, q⟩ := (show ∃ t, u = Value.str y t from rx); cases q; exact PySem.W.kia_one PySem.W.kitx_str I.kIn True.intro e (fun z => nomatch z) h
  | flt y => obtain ⟨t, q⟩ := (show ∃ t, u = Value.float y t from rx); cases q; exact PySem.W.kia_one PySem.W.kitx_float I.kIn True.intro e (fun z => nomatch z) h
  | @lst a xs ea =>
    cases (show u = Value.ref a from rx)
    obtain ⟨_, _, n, _, h1⟩ := (show ObjOk X.prog X.w H s.heap a (.lst xs) from I.hok a _ ea)
    exact PySem.W.kia_one PySem.W.kitx_list I.kIn ⟨_, h1, rfl⟩ e (fun z => nomatch z) h
  | @frz a ob xs ea =>
    cases (show u = Value.ref a from rx)
    obtain ⟨_, _, _, n, _, h1⟩ := (show ObjOk X.prog X.w H s.heap a (.frz ob (.lst xs)) from I.hok a _ ea)
    exact PySem.W.kia_one PySem.W.kitx_list I.kIn ⟨_, h1, rfl⟩ e (fun z => nomatch z) h
  | @tup a xs ea =>
    cases (show u = Value.ref a from rx)
    obtain ⟨_, _, _, p⟩ := (show ObjOk X.prog X.w H s.heap a (.tup xs) from I.hok a _ ea)
    obtain ⟨o, h1, h2, _⟩ := p
    exact PySem.W.kia_one PySem.W.kitx_tuple I.kIn ⟨o, h1, h2⟩ e (fun z => nomatch z) h
  | @dK a kvs ea =>
    cases (show u = Value.ref a from rx)
    obtain ⟨_, _, vs, _, p⟩ := (show ObjOk X.prog X.w H s.heap a (.dK kvs) from I.hok a _ ea)
    obtain ⟨o, es, ep, h1, h2, _⟩ := p
    exact PySem.W.kia_one PySem.W.kitx_dict I.kIn ⟨o, h1, h2.1⟩ e (fun z => nomatch z) h
  | @dT a kvs ea =>
    cases (show u = Value.ref a from rx)
    obtain ⟨_, _, xs, _, o, es, ep, h1, h2, _⟩ := (show ObjOk X.prog X.w H s.heap a (.dT kvs) from I.hok a _ ea)
    exact PySem.W.kia_one PySem.W.kitx_dict I.kIn ⟨o, h1, h2.1⟩ e (fun z => nomatch z) h
  | @ins a C dx fs ea cl ha hn htk hm =>
    cases (show u = Value.ref a from rx)
    obtain ⟨mA, O, _⟩ := ins_get I.hok ea
    obtain ⟨od, J, _⟩ := O.look
    exact PySem.W.kia_one (PySem.W.kitx_own (cl.get _) cl.hd ha hn htk hm) I.kIn J e (fun z => nomatch z) h
end
end L2

namespace L2
open PySem PySem.Spec PyProof.Rows

structure Room (k : Nat) (A : Around) : Prop where
  hd : A.handled = none
  dp : A.depth + 3 * k + 5 < recursionLimit
  un : A.units + 16 * k + 200 < cLine
theorem Room.mono {j k : Nat} {A : Around} (r : Room k A) (h : j ≤ k) : Room j A := ⟨r.hd, by have := r.dp; omega, by have := r.un; omega⟩
theorem Room.deeper {k : Nat} {A : Around} (r : Room (k + 1) A) (env : Env) : Room k (A.deeper env) :=
  ⟨r.hd, by have := r.dp; show A.depth + 1 + 3 * k + 5 < _; omega, by have := r.un; show A.units + 3 + 16 * k + 200 < _; omega⟩
theorem Room.in1 {k : Nat} {A : Around} (r : Room (k + 1) A) : Room k A.in1 :=
  ⟨r.hd, by have := r.dp; show A.depth + 3 * k + 5 < _; omega, by have := r.un; show A.units + 1 + 16 * k + 200 < _; omega⟩
theorem make_depth {A : Around} {C : Addr} {us : List Value} {kw : List (Str × Value)} : (A.under (.builtin "type.__call__" ⟨.ref C :: us, kw⟩)).depth = A.depth + 1 := by
  first | rfl | simp [Around.under, Code.weight, Code.isCreation, Code.isGuard, Code.isCaller, Code.frames, Code.isFrame, guardIds]
theorem make_units {A : Around} {C : Addr} {us : List Value} {kw : List (Str × Value)} : (A.under (.builtin "type.__call__" ⟨.ref C :: us, kw⟩)).units = A.units + 1 := by
  first | rfl | simp [Around.under, Code.cUnits, Code.frames, Code.isFrame]
theorem Room.make {k : Nat} {A : Around} (r : Room (k + 1) A) (C : Addr) (us : List Value) (kw : List (Str × Value)) : Room k (A.under (.builtin "type.__call__" ⟨.ref C :: us, kw⟩)) :=
  ⟨r.hd, by have := r.dp; rw [make_depth]; omega, by have := r.un; rw [make_units]; omega⟩
theorem Room.depth {k : Nat} {A : Around} (r : Room k A) : A.depth < recursionLimit := by have := r.dp; omega
theorem Room.units {k : Nat} {A : Around} (r : Room k A) : A.units + 64 < cLine := by have := r.un; omega
def tNil : TA := fun _ H Q => Q [] H
def tCons (ta : TE) (tr : TA) : TA := fun σ H Q => ta σ H fun x H1 => tr σ H1 fun xs H2 => Q (x :: xs) H2
section
variable {X : Cx} {e : Expr} {es : List Expr} {te : TE} {t : TA} {pos : Pos}
theorem pa_nil : PA X [] tNil := fun _ _ _ _ H Q I h => Calls.spliced_nil ⟨[], H, I, .nil, h⟩
theorem pa_cons (ha : PE X e te) (hr : PA X es t) (hs : starEach (e :: es) X.env = (false, eval e X.env) :: starEach es X.env := by rfl) : PA X (e :: es) (tCons te t) := by
  intro pos pins s σ H Q I h
  rw [hs]
  show wpAny _ _ (spliced ((false, eval e X.env) :: backTo pos (starEach es X.env))) _ _ s
  refine Calls.spliced_cons (thn (ha pins s σ H _ I h) fun u s1 ⟨x, H1, I1, r1, q1⟩ => ?_)
  exact thn (hr pos pins s1 σ H1 _ I1 q1) fun us s2 ⟨xs, H2, I2, r2, q2⟩ => ⟨x :: xs, H2, I2, .cons r1 r2, q2⟩

def tTup (t : TA) : TE := fun σ H Q => t σ H fun xs H1 => xs.length ≤ sizeLine ∧ ∀ p, H1 p = none → Q (.ref p) (upd H1 p (.tup xs))
def tLst (t : TA) : TE := fun σ H Q => t σ H fun xs H1 => xs.length ≤ sizeLine ∧ ∀ p, H1 p = none → Q (.ref p) (upd H1 p (.lst xs))
theorem pe_tup {x1} (h : PA X es t) : PE X (.Tuple es x1 pos) (tTup t) := by
  intro pins s σ H Q I hq
  refine wpAny_Tuple_spliced (thn (h pos pins s σ H _ I hq) fun us s1 ⟨xs, H1, I1, r, z, q⟩ => ⟨by rw [← r.length]; exact z, ?_⟩)
  have hf : H1 s1.heap.objs.size = none := I1.hok.fresh (Nat.le_refl _)
  refine ⟨.ref s1.heap.objs.size, upd H1 s1.heap.objs.size (.tup xs), I1.laid (t' := s1.toks) (fun b u e => Heap.get?_push_of_some _ e) (Nat.le_refl _) ?_, rfl, q _ hf⟩
  exact ⟨z, us, r, ⟨_, Heap.get?_push_size _ rfl, rfl, _, rfl⟩⟩
theorem pe_lst (h : PA X es t) : PE X (.List es pos) (tLst t) := by
  intro pins s σ H Q I hq
  refine wpAny_List_spliced (thn (h pos pins s σ H _ I hq) fun us s1 ⟨xs, H1, I1, r, z, q⟩ => ⟨by rw [← r.length]; exact z, ?_⟩)
  have hf : H1 s1.heap.objs.size = none := I1.hok.fresh (Nat.le_refl _)
  refine ⟨.ref s1.heap.objs.size, upd H1 s1.heap.objs.size (.lst xs), I1.laid (t' := s1.toks) (fun b u e => Heap.get?_push_of_some _ e) (Nat.le_refl _) ?_, rfl, q _ hf⟩
  exact ⟨z, us, 0, r, Heap.get?_push_size _ rfl⟩
end

abbrev Sp := List V → Hp → VK → XK → Prop
abbrev CXT := List Env → Hp → Shared → XK → Value → Shared → Prop

structure Env0 (P : Program) (w : World) (K : PySem.W.Frag) (mg : Str → Option Value) (base : Heap) (A : Around) (outer : List Env) (s : Shared) (H : Hp) : Prop where
  frames : A.frames = some outer
  mod : Mod K mg base
  bs : ∀ b o, base.get? b = some o → s.heap.get? b = some o ∧ H b = none
  bsz : base.objs.size ≤ s.heap.objs.size
  funs : s.heap.FunFrames base outer
  frf : ∀ b ∈ frs outer, H b = none
  hok : HOk P w H s.heap
  bare : AllBare s.gens
def CE (outer : List Env) (P : Program) (w : World) (H : Hp) (s : Shared) (Q : VK) (u : Value) (s' : Shared) : Prop :=
  ∃ v H', s'.os = s.os ∧ AllBare s'.gens ∧ Un (frs outer) [] H H' s.heap s'.heap ∧ HOk P w H' s'.heap ∧ RelV v u ∧ Q v H'
def CR (CX : CXT) (outer : List Env) (P : Program) (w : World) (H : Hp) (s : Shared) (Q : VK) (E : XK) (r : Result) (s' : Shared) : Prop :=
  match r with
  | .ok (.ret u) => CE outer P w H s Q u s'
  | .ok _ => False
  | .error e => CX outer H s E e s'
structure FnOk (P : Program) (w : World) (K : PySem.W.Frag) (mg : Str → Option Value) (base : Heap) (CX : CXT) (k : Nat) (f : Addr) (fd : FuncData) (ps : List Str) (sp : Sp) : Prop where
  len : ∀ vs H Q E, sp vs H Q E → vs.length = ps.length
  run : ∀ (A : Around) (outer : List Env) (s : Shared) (H : Hp) (args : Args) (us : List Value) (vs : List V) (Q : VK) (E : XK), Room k A → Env0 P w K mg base A outer s H → BindsTo s fd args (ps.zip us) → Vals vs us → sp vs H Q E →
    codeAny (model P w) A (.call (.ref f) args) (CR CX outer P w H s Q E) s
theorem FnOk.mono {P : Program} {w : World} {K : PySem.W.Frag} {mg : Str → Option Value} {base : Heap} {CX : CXT} {j k : Nat} {f : Addr} {fd : FuncData} {ps : List Str} {sp : Sp} (F : FnOk P w K mg base CX j f fd ps sp) (h : j ≤ k) :
    FnOk P w K mg base CX k f fd ps sp := ⟨F.len, fun A outer s H args us vs Q E hr => F.run A outer s H args us vs Q E (hr.mono h)⟩
theorem Env0.make {P : Program} {w : World} {K : PySem.W.Frag} {mg : Str → Option Value} {base : Heap} {A : Around} {outer : List Env} {s : Shared} {H : Hp} (e : Env0 P w K mg base A outer s H) (C : Addr) (us : List Value) (kw : List (Str × Value)) :
    Env0 P w K mg base (A.under (.builtin "type.__call__" ⟨.ref C :: us, kw⟩)) outer s H := ⟨by first | exact e.frames | (simpa [Around.under, Code.envs, Code.isFrame, pushEnvs] using e.frames), e.mod, e.bs, e.bsz, e.funs, e.frf, e.hok, e.bare⟩
theorem Env0.in1 {P : Program} {w : World} {K : PySem.W.Frag} {mg : Str → Option Value} {base : Heap} {A : Around} {outer : List Env} {s : Shared} {H : Hp} (e : Env0 P w K mg base A outer s H) :
    Env0 P w K mg base A.in1 outer s H := ⟨e.frames, e.mod, e.bs, e.bsz, e.funs, e.frf, e.hok, e.bare⟩

section
variable {X : Cx} {pins : List (Addr × Obj)} {σ : St} {H : Hp} {s s' : Shared}
theorem Inv.env0 (I : Inv X pins σ H s) : Env0 X.prog X.w X.K X.mg X.base X.A X.stack s H :=
  ⟨I.ok.frames, I.ok.mod, I.bs, Nat.le_trans I.ok.bsz I.sz, I.stack, I.stkFree, I.hok, I.bare⟩
theorem Inv.after {Q : VK} {u : Value} (I : Inv X pins σ H s) (h : CE X.stack X.prog X.w H s Q u s') : EP X pins σ Q u s' := by
  obtain ⟨v, H', os, bare, un, hok, r, q⟩ := h
  obtain ⟨hh, g, d, t, os'⟩ := s'
  obtain rfl : os' = s.os := os
  exact ⟨v, H', I.call (h' := hh) (g' := g) (d' := d) (t' := t) (ch := []) un hok bare (fun b z => absurd z (by simp)), r, q⟩
end

def tCall (sp : Sp) (dvs : List V) (E : XK) (t : TA) : TE := fun σ H Q => t σ H fun vs H1 => sp (vs ++ dvs) H1 Q E
def tMeth (C : Addr) (m : Str) (sp : Sp) (dvs : List V) (E : XK) (ta : TE) (t : TA) : TE := fun σ H Q => ta σ H fun x H1 => ∃ a dx fs, x = .ref a ∧ H1 a = some (.ins C dx fs) ∧ fs.lookup m = none ∧
  t σ H1 fun vs H2 => sp (x :: (vs ++ dvs)) H2 Q E
def tMake (C : Addr) (sp : Sp) (dvs : List V) (E : XK) (t : TA) : TE := fun σ H Q => t σ H fun vs H1 => ∀ x dx, H1 x = none → H1 dx = none → dx ≠ x →
  sp (.ref x :: (vs ++ dvs)) (upd (upd H1 dx (.own x)) x (.ins C dx [])) (fun v H2 => v = .non ∧ Q (.ref x) H2) E

def Binds (K : PySem.W.Frag) (fd : FuncData) (ps : List Str) (ds : List Value) : Prop :=
  ∀ (s : Shared) (us : List Value), K.In s.heap → (us ++ ds).length = ps.length → BindsTo s fd ⟨us, []⟩ (ps.zip (us ++ ds))
theorem Binds.all {K : PySem.W.Frag} {fd : FuncData} {ps : List Str} (h : ∀ us : List Value, us.length = ps.length → bindArgs fd ⟨us, []⟩ = pure (ps.zip us)) : Binds K fd ps [] := fun s us _ hl => by
  rw [List.append_nil] at hl ⊢
  exact .of_eq (h us hl)

def Passes (CX : CXT) (X : Cx) (E : XK) : Prop := ∀ (pins : List (Addr × Obj)) (σ : St) (H : Hp) (s : Shared) (e : Value) (s' : Shared), Inv X pins σ H s → CX X.stack H s E e s' → X.xe e s'

section
variable {X : Cx} {CX : CXT} {k : Nat} {f C : Addr} {fd : FuncData} {ps : List Str} {sp : Sp} {dvs : List V} {ds : List Value} {E : XK} {x m : Str} {p pos apos : Pos} {e o : Expr} {es : List Expr} {ta : TE} {t : TA}

theorem run_fn {pins : List (Addr × Obj)} {σ : St} {H : Hp} {s : Shared} {Q : VK} {us : List Value} {vs : List V} (F : FnOk X.prog X.w X.K X.mg X.base CX k f fd ps sp) (hr : Room k X.A) (hb : Binds X.K fd ps ds) (hd : Vals dvs ds) (hx : Passes CX X E)
    (I : Inv X pins σ H s) (r : Vals vs us) (h : sp (vs ++ dvs) H Q E) : wpAny (model X.prog X.w) X.A (call (.ref f) us) (EP X pins σ Q) X.xe s := by
  have r2 : Vals (vs ++ dvs) (us ++ ds) := r.append hd
  have hl : (us ++ ds).length = ps.length := by rw [← r2.length]; exact F.len _ _ _ _ h
  refine wpAny_call (codeAny_mono (F.run X.A X.stack s H ⟨us, []⟩ (us ++ ds) (vs ++ dvs) Q E hr I.env0 (hb s us I.kIn hl) r2 h) fun r s' hq => ?_)
  cases r with
  | error e => exact hx pins σ H s e s' I hq
  | ok fl =>
    cases fl with
    | ret u => exact I.after hq
    | next => exact False.elim hq
    | brk => exact False.elim hq
    | cont => exact False.elim hq

theorem pe_call (F : FnOk X.prog X.w X.K X.mg X.base CX k f fd ps sp) (hr : Room k X.A) (hg : Gl X x) (hm : X.mg x = some (.ref f)) (hk : PySem.W.keepIn X.K (.ref f) = true) (hb : Binds X.K fd ps ds) (hd : Vals dvs ds) (hx : Passes CX X E)
    (ha : PA X (e :: es) t) (hdb : (x == ("__debug__" : Str)) = false := by decide) (he : starEach (e :: es) X.env = (false, eval e X.env) :: starEach es X.env := by rfl) (hpl : (backTo pos (starEach es X.env)).any (·.1) = false := by rfl) :
    PE X (.Call (.Name x p) (e :: es) [] pos) (tCall sp dvs E t) := by
  intro pins s σ H Q I h
  refine wpAny_Call_Name_kw (ld_glob I hg hm ?_ hdb)
  refine PySem.W.callWith_K (h₀ := X.base) I.ok.mod.kin hk (thn (ha pos pins s σ H _ I h) fun us s1 ⟨vs, H1, I1, r, q⟩ => ⟨I1.kIn, ?_⟩) he hpl
  exact run_fn F hr hb hd hx I1 r q
theorem pe_meth {pl : Sem Bool} (he : PE X o ta) (c : Cls X.K C) (hm : Meth X.K C m f) (F : FnOk X.prog X.w X.K X.mg X.base CX k f fd ps sp) (hr : Room k X.A) (hb : Binds X.K fd ps ds) (hd : Vals dvs ds) (hx : Passes CX X E) (ha : PA X (e :: es) t)
    (hst : starEach (e :: es) X.env = (false, eval e X.env) :: starEach es X.env := by rfl) (hpl : (backTo pos (starEach es X.env)).any (·.1) = false := by rfl)
    (ht : eval (.Call (.Attribute o m apos) (e :: es) [] pos) X.env = (do
      let ov ← eval o X.env
      standAt apos.atName
      let (f, first) ← holding [ov] (getMethod ov m pl)
      callWith pos f first (backTo pos (starEach (e :: es) X.env)) (backToKw pos (keywordEach [] X.env))) := by rfl) :
    PE X (.Call (.Attribute o m apos) (e :: es) [] pos) (tMeth C m sp dvs E ta t) := by
  intro pins s σ H Q I h
  refine PySem.W.methodCall_KW (pl := pl) (thn (he pins s σ H _ I h) fun u s1 ⟨x, H1, I1, rx, a, dx, fs, ex, ea, l, q⟩ => ?_) ht
  subst ex
  obtain rfl : u = Value.ref a := rx
  refine getmeth_ok I1 ea c hm l ?_
  refine PySem.W.callWith_K (first := [.ref a]) (h₀ := X.base) I.ok.mod.kin hm.kp (thn (ha pos pins s1 σ H1 _ I1 q) fun us s2 ⟨vs, H2, I2, r, q2⟩ => ⟨I2.kIn, ?_⟩) hst hpl
  exact run_fn (us := .ref a :: us) (vs := .ref a :: vs) F hr hb hd hx I2 (.cons rfl r) q2
theorem pe_meth0 {pl : Sem Bool} (he : PE X o ta) (c : Cls X.K C) (hm : Meth X.K C m f) (F : FnOk X.prog X.w X.K X.mg X.base CX k f fd ps sp) (hr : Room k X.A) (hb : Binds X.K fd ps ds) (hd : Vals dvs ds) (hx : Passes CX X E)
    (ht : eval (.Call (.Attribute o m apos) [] [] pos) X.env = (do
      let ov ← eval o X.env
      standAt apos.atName
      let (f, first) ← holding [ov] (getMethod ov m pl)
      callWith pos f first (backTo pos (starEach [] X.env)) (backToKw pos (keywordEach [] X.env))) := by rfl) :
    PE X (.Call (.Attribute o m apos) [] [] pos) (tMeth C m sp dvs E ta tNil) := by
  intro pins s σ H Q I h
  refine PySem.W.methodCall_KW (pl := pl) (thn (he pins s σ H _ I h) fun u s1 ⟨x, H1, I1, rx, a, dx, fs, ex, ea, l, q⟩ => ?_) ht
  subst ex
  obtain rfl : u = Value.ref a := rx
  refine getmeth_ok I1 ea c hm l ?_
  exact PySem.W.callWith_K0 (first := [.ref a]) I1.kIn hm.kp (run_fn (us := [.ref a]) (vs := [.ref a]) F hr hb hd hx I1 (.cons rfl .nil) q)

structure Mk (K : PySem.W.Frag) (C f : Addr) : Prop where
  makes : PySem.W.makesIn K C = true
  init : PySem.W.findIn K (.ref C) "__init__" = some (some (.ref f))
  fn : PySem.W.isFn K (.ref f) = true
  kp : PySem.W.keepIn K (.ref C) = true

theorem run_make {pins : List (Addr × Obj)} {σ : St} {H : Hp} {s : Shared} {Q : VK} {us : List Value} {vs : List V} (M : Mk X.K C f) (F : FnOk X.prog X.w X.K X.mg X.base CX k f fd ps sp) (hr : Room (k + 1) X.A) (hb : Binds X.K fd ps ds) (hd : Vals dvs ds)
    (hx : Passes CX X E) (I : Inv X pins σ H s) (r : Vals vs us)
    (h : ∀ x dx, H x = none → H dx = none → dx ≠ x → sp (.ref x :: (vs ++ dvs)) (upd (upd H dx (.own x)) x (.ins C dx [])) (fun v H2 => v = .non ∧ Q (.ref x) H2) E) :
    wpAny (model X.prog X.w) X.A (call (.ref C) us) (EP X pins σ Q) X.xe s := by
  have hq := h (s.heap.objs.size + 1) s.heap.objs.size (I.hok.fresh (Nat.le_succ _)) (I.hok.fresh (Nat.le_refl _)) (Nat.ne_of_lt (Nat.lt_succ_self _))
  have I2 := Inv.made (C := C) I
  have r2 : Vals (V.ref (s.heap.objs.size + 1) :: (vs ++ dvs)) (Value.ref (s.heap.objs.size + 1) :: (us ++ ds)) := .cons rfl (r.append hd)
  have hl : (Value.ref (s.heap.objs.size + 1) :: us ++ ds).length = ps.length := by
    have e := r2.length
    rw [F.len _ _ _ _ hq] at e
    exact e.symm
  refine wpAny_call (make_map (f := f) I.kIn M.makes M.init (beq_iff_eq.mp M.fn) (codeAny_mono (F.run _ X.stack _ _ ⟨Value.ref (s.heap.objs.size + 1) :: us, []⟩ (Value.ref (s.heap.objs.size + 1) :: (us ++ ds)) _ _ E (hr.make C us [])
    (I2.env0.make C us []) (hb _ (Value.ref (s.heap.objs.size + 1) :: us) I2.kIn hl) r2 hq) fun r s' hq' => ?_))
  cases r with
  | error e => exact hx pins σ _ _ e s' I2 hq'
  | ok fl =>
    cases fl with
    | ret u =>
      obtain ⟨v, H', I3, rv, ev, q3⟩ := I2.after hq'
      subst ev
      exact ⟨rv, ⟨V.ref (s.heap.objs.size + 1), H', I3, rfl, q3⟩⟩
    | next => exact False.elim hq'
    | brk => exact False.elim hq'
    | cont => exact False.elim hq'
theorem pe_make (M : Mk X.K C f) (F : FnOk X.prog X.w X.K X.mg X.base CX k f fd ps sp) (hr : Room (k + 1) X.A) (hg : Gl X x) (hm : X.mg x = some (.ref C)) (hb : Binds X.K fd ps ds) (hd : Vals dvs ds) (hx : Passes CX X E)
    (ha : PA X (e :: es) t) (hdb : (x == ("__debug__" : Str)) = false := by decide) (he : starEach (e :: es) X.env = (false, eval e X.env) :: starEach es X.env := by rfl) (hpl : (backTo pos (starEach es X.env)).any (·.1) = false := by rfl) :
    PE X (.Call (.Name x p) (e :: es) [] pos) (tMake C sp dvs E t) := by
  intro pins s σ H Q I h
  refine wpAny_Call_Name_kw (ld_glob I hg hm ?_ hdb)
  refine PySem.W.callWith_K (h₀ := X.base) I.ok.mod.kin M.kp (thn (ha pos pins s σ H _ I h) fun us s1 ⟨vs, H1, I1, r, q⟩ => ⟨I1.kIn, ?_⟩) he hpl
  exact run_make M F hr hb hd hx I1 r q
end

section
variable {X : Cx} {CX : CXT} {k : Nat} {f C : Addr} {fd : FuncData} {ps ks : List Str} {sp : Sp} {E : XK} {x m : Str} {p pos apos kpos : Pos} {e o : Expr} {es : List Expr} {kws : List Keyword} {te ta : TE} {t tk : TA} {nm : Option Str}
variable {g : List Value → List Value → List Value} {gV : List V → List V → List V}
end

structure FnScope (N P : List Str) (sc : Scope) : Prop where
  kind : sc.kind = .function
  co : sc.isCoroutine = false
  gen : sc.isGenerator = false
  nd : N.Nodup
  pre : N.take P.length = P
  par : ∀ x ∈ P, sc.names.lookup x = some .local ∨ sc.names.lookup x = some .cell
  nofree : ∀ y ∈ sc.names, y.2 ≠ .free

theorem bindL_out {kindOf : Str → Option NameKind} {x : Str} : ∀ {binds : List (Str × Value)} {m : Str → Option Value}, (∀ v, (x, v) ∉ binds) → bindL kindOf binds m x = m x
  | [], _, _ => rfl
  | (n, v) :: r, m, h => by
    unfold bindL
    rw [bindL_out fun w hw => h w (List.mem_cons_of_mem _ hw)]
    split
    · have : x ≠ n := by rintro rfl; exact h v List.mem_cons_self
      simp [this]
    · rfl
theorem bindC_out {kindOf : Str → Option NameKind} {x : Str} : ∀ {binds : List (Str × Value)} {m : Str → Option Value}, (∀ v, (x, v) ∉ binds) → bindC kindOf binds m x = m x
  | [], _, _ => rfl
  | (n, v) :: r, m, h => by
    unfold bindC
    rw [bindC_out fun w hw => h w (List.mem_cons_of_mem _ hw)]
    split
    · rfl
    · have : x ≠ n := by rintro rfl; exact h v List.mem_cons_self
      simp [this]
theorem bindL_get {kindOf : Str → Option NameKind} {x : Str} {v : Value} : ∀ {P : List Str} {vs : List Value} {i : Nat} {m : Str → Option Value}, P.Nodup → P[i]? = some x → vs[i]? = some v → kindOf x = some .local →
    bindL kindOf (P.zip vs) m x = some v
  | [], _, _, _, _, h, _, _ => by simp at h
  | _ :: _, [], _, _, _, _, h, _ => by simp at h
  | p :: P, w :: vs, 0, m, nd, h1, h2, hk => by
    simp at h1 h2; subst h1; subst h2
    show bindL kindOf ((p, w) :: P.zip vs) m p = _
    unfold bindL
    rw [bindL_out fun v hv => (List.nodup_cons.mp nd).1 (List.of_mem_zip hv).1, if_pos hk]
    simp
  | p :: P, w :: vs, i + 1, m, nd, h1, h2, hk => by
    show bindL kindOf ((p, w) :: P.zip vs) m x = _
    unfold bindL
    exact bindL_get (i := i) (List.nodup_cons.mp nd).2 (by simpa using h1) (by simpa using h2) hk
theorem bindC_get {kindOf : Str → Option NameKind} {x : Str} {v : Value} : ∀ {P : List Str} {vs : List Value} {i : Nat} {m : Str → Option Value}, P.Nodup → P[i]? = some x → vs[i]? = some v → kindOf x ≠ some .local →
    bindC kindOf (P.zip vs) m x = some v
  | [], _, _, _, _, h, _, _ => by simp at h
  | _ :: _, [], _, _, _, _, h, _ => by simp at h
  | p :: P, w :: vs, 0, m, nd, h1, h2, hk => by
    simp at h1 h2; subst h1; subst h2
    show bindC kindOf ((p, w) :: P.zip vs) m p = _
    unfold bindC
    rw [bindC_out fun v hv => (List.nodup_cons.mp nd).1 (List.of_mem_zip hv).1, if_neg hk]
    simp
  | p :: P, w :: vs, i + 1, m, nd, h1, h2, hk => by
    show bindC kindOf ((p, w) :: P.zip vs) m x = _
    unfold bindC
    exact bindC_get (i := i) (List.nodup_cons.mp nd).2 (by simpa using h1) (by simpa using h2) hk

def start (N : List Str) (vs : List V) : St := vs.map some ++ List.replicate (N.length - vs.length) none

def cxOf (CX : CXT) (P : Program) (w : World) (K : PySem.W.Frag) (mg : Str → Option Value) (base : Heap) (N : List Str) (qual : Str) (scope : Scope) (f : Addr) (cd : Value) (A : Around) (outer : List Env) (s : Shared) (H : Hp) (E : XK) : Cx where
  prog := P
  w := w
  K := K
  mg := mg
  base := base
  A := A.deeper (envOfC qual scope s.heap.objs.size f cd)
  N := N
  s₀ := s
  H₀ := H
  env := envOfC qual scope s.heap.objs.size f cd
  outer := outer
  stack := envOfC qual scope s.heap.objs.size f cd :: outer
  ex := []
  calm := true
  fn := fun _ => true
  pn := []
  xe := fun e s' => wpAny (model P w) (A.deeper (envOfC qual scope s.heap.objs.size f cd)) (leaving (envOfC qual scope s.heap.objs.size f cd) e) (fun _ s'' => CX outer H s E e s'') (fun e' s'' => CX outer H s E e' s'') s'

theorem cell_has {sc : Scope} {n : Nat} {x : Str} (h : sc.names.lookup x = some .cell) : ∃ c, (cellsFrom n sc.names []).lookup x = some c := by
  have q := PySem.W.cellsFrom_some sc.names n [] (.inl h)
  exact Option.isSome_iff_exists.mp q

theorem inv_start {CX : CXT} {P : Program} {w : World} {K : PySem.W.Frag} {mg : Str → Option Value} {base : Heap} {N ps : List Str} {qual : Str} {scope : Scope} {f : Addr} {cd : Value} {A : Around} {outer : List Env} {s s1 : Shared} {H : Hp} {E : XK} {us : List Value} {vs : List V}
    (S : FnScope N ps scope) (hd : A.handled = none) (e0 : Env0 P w K mg base A outer s H) (hl : vs.length = ps.length) (r : Vals vs us)
    (x : InCallC s s.heap.objs.size (bindL (envOfC qual scope s.heap.objs.size f cd).kindOf (ps.zip us) fun _ => none) (cellsFrom (s.heap.objs.size + 1) scope.names []) (bindC (envOfC qual scope s.heap.objs.size f cd).kindOf (ps.zip us) fun _ => none) s1) :
    Inv (cxOf CX P w K mg base N qual scope f cd A outer s H E) [] (start N vs) H s1 := by
  have hpl : ps.length ≤ N.length := by have := congrArg List.length S.pre; rw [List.length_take] at this; omega
  obtain ⟨h1, tk, rfl, hk⟩ := x.done
  have noA : ∀ b : Addr, b ∉ (cxOf CX P w K mg base N qual scope f cd A outer s H E).ex := fun b z => absurd (show b ∈ ([] : List Addr) from z) (by simp)
  refine ⟨⟨e0.mod, S.kind, rfl, rfl, Nat.le_refl _, fun y z c h1 h2 => ?_, fun y hy => ?_, fun y c _ h => ?_, fun _ => hd, Around.frames_deeper e0.frames, .inr ⟨rfl, rfl⟩, fun b z => absurd z (noA b), e0.bs, e0.bsz, fun b _ _ => noA b, fun b z => absurd z (noA b), e0.funs, e0.frf⟩,
    rfl, e0.bare, Un.kept hk, ⟨_, x.toInCall.ns, fun i y v h1 h2 h3 => ?_⟩, fun y c h => ⟨_, x.cell y c h⟩, e0.hok.fresh (Nat.le_refl _), fun y c h => ?_, fun p hp => absurd (show p ∈ ([] : List (Addr × Obj)) from hp) (by simp), e0.hok.kept hk, ?_⟩
  · exact name_of_addr x.apart (PySem.mem_of_lookup h1) (PySem.mem_of_lookup h2)
  · have hy : scope.names.lookup y = some .cell ∨ scope.names.lookup y = some .free := hy
    rcases hy with hy | hy
    · exact cell_has hy
    · exact absurd rfl (S.nofree _ (PySem.mem_of_lookup hy))
  · exact Nat.le_of_lt (x.above y c (PySem.mem_of_lookup h))
  · have hi : i < vs.length := by
      unfold start at h2
      by_cases hi : i < vs.length
      · exact hi
      · rw [List.getElem?_append_right (by simpa using hi)] at h2
        rw [List.getElem?_replicate] at h2
        split at h2 <;> cases h2
    have ha : vs[i]? = some v := by
      unfold start at h2
      rw [List.getElem?_append_left (by simpa using hi), List.getElem?_map] at h2
      cases e : vs[i]? with
      | none => rw [e] at h2; cases h2
      | some a => rw [e] at h2; cases h2; rfl
    obtain ⟨u, hu, rv⟩ := r.get ha
    have hp : ps[i]? = some y := by
      rw [← S.pre, List.getElem?_take_of_lt (by omega)]; exact h1
    have ndP : ps.Nodup := by rw [← S.pre]; exact S.nd.sublist (List.take_sublist _ _)
    refine ⟨u, rv, ?_⟩
    rcases S.par y (List.mem_of_getElem? hp) with k | k
    · exact .inl ⟨k, bindL_get ndP hp hu k⟩
    · obtain ⟨c, e⟩ := cell_has (n := s.heap.objs.size + 1) k
      refine .inr ⟨.inl k, c, e, ?_⟩
      have q := x.cell y c e
      rw [bindC_get ndP hp hu (by show scope.names.lookup y ≠ _; rw [k]; decide)] at q
      exact q
  · exact e0.hok.fresh (Nat.le_of_lt (x.above y c (PySem.mem_of_lookup h)))
  · unfold start
    show _ = N.length
    rw [List.length_append, List.length_map, List.length_replicate]
    omega

theorem fn_of {CX : CXT} {P : Program} {w : World} {K : PySem.W.Frag} {mg : Str → Option Value} {base : Heap} {k : Nat} {f : Addr} {name qual : Str} {params : Arguments} {body : List Stmt} {scope : Scope} {dV kV doc pm cdv ct oc : Value} {an od : Option Addr}
    {osl : Array (Option Value)} {N ps : List Str} {sp : Sp} (lk : K.lookup f = some ⟨oc, od, .func (PySem.W.fnOf name qual params body scope dV kV doc pm an cdv ct), osl⟩) (hcd : PySem.W.codeIn K cdv qual = true) (S : FnScope N ps scope)
    (len : ∀ vs H Q E, sp vs H Q E → vs.length = ps.length)
    (hbody : ∀ (A : Around) (outer : List Env) (s : Shared) (H : Hp) (vs : List V) (Q : VK) (E : XK), Room k (A.deeper (envOfC qual scope s.heap.objs.size f cdv)) → sp vs H Q E →
      ∃ t, PSs (cxOf CX P w K mg base N qual scope f cdv A outer s H E) body t ∧ t { nx := fun _ H' => Q .non H', rt := Q } (start N vs) H) :
    FnOk P w K mg base CX (k + 1) f (PySem.W.fnOf name qual params body scope dV kV doc pm an cdv ct) ps sp := by
  refine ⟨len, fun A outer s H args us vs Q E hr e0 hb r hsp => ?_⟩
  have hl := len _ _ _ _ hsp
  have KX : K.In s.heap := e0.mod.kin.keeps fun b o e => (e0.bs b o e).1
  have lim : s.heap.NoLimit := e0.mod.nolimit.keeps fun b o e => (e0.bs b o e).1
  have hkind : ∀ y ∈ ps.zip us, scope.names.lookup y.1 = some .local ∨ (scope.names.lookup y.1 = some .cell ∧ ((cellsFrom (s.heap.objs.size + 1) scope.names []).lookup y.1).isSome = true) := fun ⟨n, v⟩ hy => by
    rcases S.par n (List.of_mem_zip hy).1 with q | q
    · exact .inl q
    · exact .inr ⟨q, PySem.W.cellsFrom_some _ _ _ (.inl q)⟩
  refine codeAny_call_function hr.depth (KX _ _ lk) rfl S.co S.gen rfl (PySem.W.codeRec_of KX hcd) (hb _ _ _ _ ?_)
  refine wpAny_newFunctionEnv_cells S.kind hkind fun env he s1 x => ?_
  subst he
  refine ⟨lim.keeps x.toInCall.keep, codeAny_func ?_⟩
  obtain ⟨t, ht, hq⟩ := hbody A outer s H vs Q E (hr.deeper _) hsp
  have I : Inv (cxOf CX P w K mg base N qual scope f cdv A outer s H E) [] (start N vs) H s1 := inv_start S hr.hd e0 hl r x
  refine wpAny_mono (ht [] s1 (start N vs) H _ I hq) (fun fl s' hs => ?_) fun e s' hs => hs
  have fin : ∀ {σ' : St} {H' : Hp} {v : V} {u : Value}, Inv (cxOf CX P w K mg base N qual scope f cdv A outer s H E) [] σ' H' s' → RelV v u → Q v H' → CE outer P w H s Q u s' :=
    fun {σ' H' v u} J rv q => ⟨v, H', J.os, J.bare, J.base, J.hok, rv, q⟩
  cases fl with
  | ret u =>
    obtain ⟨v, σ', H', J, rv, q⟩ := hs
    exact fin J rv q
  | next =>
    obtain ⟨σ', H', J, q⟩ := hs
    exact fin (v := V.non) (u := Value.none) J rfl q
  | brk =>
    obtain ⟨_, _, _, q⟩ := hs
    exact False.elim q
  | cont =>
    obtain ⟨_, _, _, q⟩ := hs
    exact False.elim q
end L2

namespace L2
open PySem PySem.Spec PyProof.Rows
section
variable {X : Cx} {x : Str} {p pos : Pos} {e : Expr} {es : List Expr} {t : TA} {id T : String} {r : List V → Hp → VK → Prop}

def tCB (r : List V → Hp → VK → Prop) (t : TA) : TE := fun σ H Q => t σ H fun vs H1 => r vs H1 Q
theorem pe_callB (hc : CallR X (.builtin id) r) (hg : Gl X x) (hm : X.mg x = none) (hv : bootBuiltins x = some (.builtin id)) (ha : PA X (e :: es) t) (hn : x ≠ "__name__" := by decide) (hdb : (x == ("__debug__" : Str)) = false := by decide)
    (he : starEach (e :: es) X.env = (false, eval e X.env) :: starEach es X.env := by rfl) (hpl : (backTo pos (starEach es X.env)).any (·.1) = false := by rfl) : PE X (.Call (.Name x p) (e :: es) [] pos) (tCB r t) := by
  intro pins s σ H Q I h
  refine wpAny_Call_Name_kw (ld_blt I hg hm hv ?_ hn hdb)
  exact PyProof.Rows.callWith_builtin1 (thn (ha pos pins s σ H _ I h) fun us s1 ⟨vs, H1, I1, r1, q1⟩ => hc pins s1 σ H1 vs us Q I1 r1 q1) he hpl
theorem pe_callTy (hc : CallR X (.type T) r) (hg : Gl X x) (hm : X.mg x = none) (hv : bootBuiltins x = some (.type T)) (ha : PA X (e :: es) t) (hn : x ≠ "__name__" := by decide) (hdb : (x == ("__debug__" : Str)) = false := by decide)
    (he : starEach (e :: es) X.env = (false, eval e X.env) :: starEach es X.env := by rfl) (hpl : (backTo pos (starEach es X.env)).any (·.1) = false := by rfl) : PE X (.Call (.Name x p) (e :: es) [] pos) (tCB r t) := by
  intro pins s σ H Q I h
  refine wpAny_Call_Name_kw (ld_blt I hg hm hv ?_ hn hdb)
  exact PyProof.Rows.callWith_type1 (thn (ha pos pins s σ H _ I h) fun us s1 ⟨vs, H1, I1, r1, q1⟩ => hc pins s1 σ H1 vs us Q I1 r1 q1) he hpl
end
end L2

namespace HT
open PySem PyProof.Rows

section
open PySem.SeqAt
open PySem.AutoSeq1 (wpAny_loadPart')
open PySem.MeetsSeq PySem.MeetsSeq2 PySem.MeetsSeq3

end

section
variable {prog : Program} {w : World} {A : Around} {E : Value → Shared → Prop} {s : Shared}

theorem cat_tup {t b : Addr} {vs ws : List Value} {Q : Value → Shared → Prop} (ht : IsTup s.heap t vs.toArray) (hb : IsTup s.heap b ws.toArray) (hv : vs ≠ [])
    (h1 : ws = [] → Q (.ref t) s) (h2 : ws ≠ [] → Q (.ref s.heap.objs.size) { s with heap := s.heap.push { cls := .type "tuple", data := .seq (vs ++ ws).toArray } })
    (hsz : vs.length + ws.length ≤ sizeLine) : wpAny (model prog w) A (binaryOp .Add (.ref t) (.ref b)) Q E s := by
  obtain ⟨⟨cls, dd, data, sl⟩, ho, hc, n, hd⟩ := id ht
  obtain ⟨⟨cls2, dd2, data2, sl2⟩, ho2, hc2, n2, hd2⟩ := id hb
  simp only at hc hd hc2 hd2
  subst hc hd hc2 hd2
  have e : vs.toArray ++ ws.toArray = (vs ++ ws).toArray := by simp
  by_cases hw : ws = []
  · exact concat_meets ⟨_, ho, rfl⟩ ⟨_, ho2, rfl⟩ noFill_tuple_add seq_tuple_add PySem.F.slot_tuple_add PySem.F.entry_tuple_add (PySem.F.args_tuple_add_2 _ _)
      (tuple_addW1 t b vs.toArray ws.toArray n n2 dd dd2 sl sl2 (by simpa using hv) (by simp [hw])) ⟨ho, ho2, h1 hw⟩
  · refine concat_meets ⟨_, ho, rfl⟩ ⟨_, ho2, rfl⟩ noFill_tuple_add seq_tuple_add PySem.F.slot_tuple_add PySem.F.entry_tuple_add (PySem.F.args_tuple_add_2 _ _)
      (tuple_addW2 t b vs.toArray ws.toArray n n2 dd dd2 sl sl2 (by simpa using hv) (by simpa using hw) (by rw [List.size_toArray, List.size_toArray]; exact hsz)) ⟨ho, ho2, ?_⟩
    rw [e]
    exact h2 hw

def sIx (n d : Nat) : Option Int → Nat
  | none => d
  | some v => if v < 0 then (v + (n : Int)).toNat else min v.toNat n
end
end HT

namespace L2
open PySem PySem.Spec PyProof.Rows

abbrev TO := St → Hp → (Option Int → Hp → Prop) → Prop
def PO (X : Cx) (e : Option Expr) (t : TO) : Prop :=
  ∀ (pins : List (Addr × Obj)) (s : Shared) (σ : St) (H : Hp) (Q : Option Int → Hp → Prop), Inv X pins σ H s → t σ H Q →
    wpAny (model X.prog X.w) X.A (evalPart e X.env) (fun u s' => ∃ o H', Inv X pins σ H' s' ∧ IsPart u o ∧ Q o H') X.xe s
def tNoPart : TO := fun _ H Q => Q none H
def tPart (t : TE) : TO := fun σ H Q => t σ H fun x H1 => ∃ i, x = .int i ∧ Q (some i) H1

section
variable {X : Cx} {e : Expr} {te : TE} {lo hi : Option Expr} {tl th : TO} {pos p2 : Pos}

def tSl (r : V → Option Int → Option Int → Hp → VK → Prop) (te : TE) (tl th : TO) : TE := fun σ H Q => te σ H fun x H1 => tl σ H1 fun l H2 => th σ H2 fun u H3 => r x l u H3 Q
def rCatT (K : PySem.W.Frag) : R2 := fun x y H Q => ∃ a b xs ys, x = .ref a ∧ y = .ref b ∧ SqT K H a xs ∧ SqT K H b ys ∧ xs ≠ [] ∧ xs.length + ys.length ≤ sizeLine ∧
  (ys = [] → Q (.ref a) H) ∧ (ys ≠ [] → ∀ p, H p = none → Q (.ref p) (upd H p (.tup (xs ++ ys))))
theorem Vals.nil_iff {xs : List V} {us : List Value} (r : Vals xs us) : us = [] ↔ xs = [] := by
  cases r with
  | nil => simp
  | cons _ _ => simp
theorem op_catT : OpR X (binaryOp .Add) (rCatT X.K) := by
  intro pins s σ H x y v u Q I rx ry h
  obtain ⟨a, b, xs, ys, rfl, rfl, ha, hb, hx, hz, q1, q2⟩ := h
  cases rx
  cases ry
  obtain ⟨its, r1, p1, _⟩ := I.tuple ha
  obtain ⟨its2, r2, p2, _⟩ := I.tuple hb
  refine HT.cat_tup p1 p2 (fun z => hx (r1.nil_iff.mp z)) (fun z => ⟨.ref a, H, I, rfl, q1 (r2.nil_iff.mp z)⟩) (fun z => ?_) (by rw [← r1.length, ← r2.length]; exact hz)
  refine ⟨.ref s.heap.objs.size, _, I.laid (t' := s.toks) (o := .tup (xs ++ ys)) (fun b ob q => Heap.get?_push_of_some _ q) (Nat.le_refl _) ?_, rfl, q2 (fun w => z (r2.nil_iff.mpr w)) _ (I.hok.fresh (Nat.le_refl _))⟩
  exact ⟨by rw [List.length_append]; exact hz, _, r1.append r2, IsTup.new _ _⟩
end
end L2

namespace L2
open PySem PySem.Spec PyProof.Rows

def ixN (n : Nat) (i : Int) : Option Nat := if 0 ≤ i then (if i < n then some i.toNat else none) else if -(n : Int) ≤ i then some (i + n).toNat else none
def atI {α : Type} (xs : List α) (i : Int) : Option α := (ixN xs.length i).bind fun j => xs[j]?
theorem ixN_seq {n : Nat} {i : Int} {j : Nat} (h : ixN n i = some j) : seqIndex? i n = some j ∧ j < n ∧ -(n : Int) ≤ i ∧ i < n := by
  unfold ixN at h
  by_cases h0 : 0 ≤ i
  · rw [if_pos h0] at h
    by_cases h1 : i < n
    · rw [if_pos h1] at h
      have e : i.toNat = j := Option.some.inj h
      exact ⟨by rw [seqIndex_of h0 h1, e], by omega, by omega, h1⟩
    · rw [if_neg h1] at h; cases h
  · rw [if_neg h0] at h
    by_cases h1 : -(n : Int) ≤ i
    · rw [if_pos h1] at h
      have e : (i + n).toNat = j := Option.some.inj h
      exact ⟨by rw [seqIndex_neg (by omega) h1, e], by omega, h1, by omega⟩
    · rw [if_neg h1] at h; cases h
theorem atI_get {α : Type} {xs : List α} {i : Int} {v : α} (h : atI xs i = some v) : ∃ j, seqIndex? i xs.length = some j ∧ xs[j]? = some v ∧ j < xs.length ∧ -(xs.length : Int) ≤ i ∧ i < xs.length := by
  unfold atI at h
  cases e : ixN xs.length i with
  | none => rw [e] at h; cases h
  | some j =>
    rw [e] at h
    obtain ⟨h1, h2, h3, h4⟩ := ixN_seq e
    exact ⟨j, h1, h, h2, h3, h4⟩
theorem atI_nat {α : Type} {xs : List α} {j : Nat} {v : α} (h : xs[j]? = some v) : atI xs (j : Int) = some v := by
  have hj : j < xs.length := (List.getElem?_eq_some_iff.mp h).1
  have e : ixN xs.length (j : Int) = some j := by
    unfold ixN
    rw [if_pos (by omega), if_pos (by omega)]; simp
  unfold atI; rw [e]; exact h
theorem atI_last {α : Type} (xs : List α) (v : α) : atI (xs ++ [v]) (-1) = some v := by
  have hl : (xs ++ [v]).length = xs.length + 1 := by simp
  have e : ixN (xs ++ [v]).length (-1) = some xs.length := by
    unfold ixN
    rw [hl, if_neg (by decide), if_pos (by omega)]
    congr 1
    omega
  unfold atI
  rw [e]
  show (xs ++ [v])[xs.length]? = some v
  simp

def PlainIx (b : Expr) : Prop := ∀ o i, subscripted b false o i = operate [o, i] (getItem o i)
def IxR (X : Cx) (r : R2) : Prop :=
  ∀ (value slice : Expr) (pins : List (Addr × Obj)) (s : Shared) (σ : St) (H : Hp) (x y : V) (v u : Value) (Q : VK), Inv X pins σ H s → RelV x v → RelV y u → r x y H Q →
    subscripted slice false v u = operate [v, u] (getItem v u) → wpAny (model X.prog X.w) X.A (subscriptTail value slice v u) (EP X pins σ Q) X.xe s
def MtR (X : Cx) (id : String) (r : V → List V → Hp → VK → Prop) : Prop :=
  ∀ (pins : List (Addr × Obj)) (s : Shared) (σ : St) (H : Hp) (x : V) (xs : List V) (v : Value) (us : List Value) (Q : VK), Inv X pins σ H s → RelV x v → Vals xs us → r x xs H Q →
    wpAny (model X.prog X.w) X.A (call (.builtin id) (v :: us)) (EP X pins σ Q) X.xe s
section
variable {X : Cx} {a b : Expr} {ta tb : TE} {pos : Pos}
theorem pe_ix {r : R2} (hr : IxR X r) (ha : PE X a ta) (hb : PE X b tb) (hs : PlainIx b) : PE X (.Subscript a b pos) (tOp r ta tb) := by
  intro pins s σ H Q I h
  exact Subscript_ (binT ha hb I h fun v u s2 x y H2 I2 rx ry q => hr a b pins s2 σ H2 x y v u Q I2 rx ry q (hs _ _))

def rIxL (K : PySem.W.Frag) : R2 := fun x y H Q => ∃ p xs i v, x = .ref p ∧ y = .int i ∧ SqL K H p xs ∧ atI xs i = some v ∧ Q v H
def rIxT (K : PySem.W.Frag) : R2 := fun x y H Q => ∃ p xs i v, x = .ref p ∧ y = .int i ∧ SqT K H p xs ∧ atI xs i = some v ∧ Q v H
theorem ix_list : IxR X (rIxL X.K) := by
  intro value slice pins s σ H x y v u Q I rx ry h hs
  obtain ⟨p, xs, i, z, rfl, rfl, hq, he, q⟩ := h
  cases rx
  obtain ⟨t, rfl⟩ := ry
  obtain ⟨its, r, pl, hz⟩ := I.list hq
  obtain ⟨j, h1, h2, h3, h4, h5⟩ := atI_get he
  obtain ⟨w, ew, rw'⟩ := r.get h2
  have hl := r.length
  have hn := line63
  have fin : EP X pins σ Q w s := ⟨z, H, I, rw', q⟩
  by_cases h0 : 0 ≤ i
  · have hj : i.toNat = j := by
      rw [seqIndex_of h0 h5] at h1
      exact Option.some.inj h1
    exact item_listR pl.isList h0 (by omega) (by rw [hj]; simpa using ew) fin hs
  · have hj : (i + (its.toArray.size : Int)).toNat = j := by
      rw [seqIndex_neg (by omega) h4] at h1
      rw [List.size_toArray, ← hl]
      exact Option.some.inj h1
    exact subscriptTail_builtinR (x := w) pl.isList.typeIs slot_list_getitem.lookup
      (wpAny_getItem_list_neg (Q := fun r s' => r = w ∧ EP X pins σ Q r s') pl.isList (by omega) (by rw [List.size_toArray] <;> omega) (by omega) (by rw [hj]; simpa using ew) ⟨rfl, fin⟩) hs
theorem ix_tup : IxR X (rIxT X.K) := by
  intro value slice pins s σ H x y v u Q I rx ry h hs
  obtain ⟨p, xs, i, z, rfl, rfl, hq, he, q⟩ := h
  cases rx
  obtain ⟨t, rfl⟩ := ry
  obtain ⟨its, r, pl, hz⟩ := I.tuple hq
  obtain ⟨j, h1, h2, h3, h4, h5⟩ := atI_get he
  obtain ⟨w, ew, rw'⟩ := r.get h2
  have hl := r.length
  have hn := line63
  have fin : EP X pins σ Q w s := ⟨z, H, I, rw', q⟩
  exact subscriptTail_builtinR (x := w) pl.typeIs slot_tuple_getitem.lookup
    (getItem_tuple (j := j) (Q := fun r s' => r = w ∧ EP X pins σ Q r s') pl (by omega) (by omega) (by rw [List.size_toArray, ← hl]; exact h1) (by simpa using ew) ⟨rfl, fin⟩) hs
theorem Inv.lst {pins : List (Addr × Obj)} {σ : St} {H : Hp} {s : Shared} {p : Addr} {xs : List V} (I : Inv X pins σ H s) (h : H p = some (.lst xs)) :
    ∃ (its : List Value) (n : Nat), Vals xs its ∧ s.heap.get? p = some { cls := .type "list", data := .seq its.toArray n } ∧ xs.length ≤ sizeLine := by
  obtain ⟨z, its, n, r, e⟩ := I.hok p _ h
  exact ⟨its, n, r, e, z⟩
def flatV : V → Bool
  | .non => true
  | .bl _ => true
  | .int _ => true
  | .str _ => true
  | _ => false
def eqV : V → V → Bool
  | .non, .non => true
  | .bl a, .bl b => a == b
  | .bl a, .int b => (if a then 1 else 0) == b
  | .int a, .bl b => a == (if b then 1 else 0)
  | .int a, .int b => a == b
  | .str a, .str b => a == b
  | _, _ => false
theorem eqAt_V {A : Around} {s : Shared} {y x : V} {u v : Value} (ry : RelV y u) (rx : RelV x v) (fy : flatV y = true) (fx : flatV x = true) : SeqAt.EqAt A s u v (eqV y x) := by
  cases y with
  | non =>
    cases ry
    cases x with
    | non => cases rx; exact SeqAt.EqAt.same _
    | bl b => cases rx; exact SeqAt.EqAt.none_bool b
    | int b => obtain ⟨t, rfl⟩ := rx; exact SeqAt.EqAt.none_int b t
    | str b => obtain ⟨t, rfl⟩ := rx; exact SeqAt.EqAt.none_str b t
    | _ => exact absurd (show false = true from fx) Bool.false_ne_true
  | bl a =>
    cases ry
    cases x with
    | non => cases rx; exact SeqAt.EqAt.bool_none a
    | bl b => cases rx; exact SeqAt.EqAt.bool_bool a b
    | int b => obtain ⟨t, rfl⟩ := rx; exact SeqAt.EqAt.bool_int a b t
    | str b => obtain ⟨t, rfl⟩ := rx; exact SeqAt.EqAt.bool_str a b t
    | _ => exact absurd (show false = true from fx) Bool.false_ne_true
  | int a =>
    obtain ⟨t', rfl⟩ := ry
    cases x with
    | non => cases rx; exact SeqAt.EqAt.int_none a t'
    | bl b => cases rx; exact SeqAt.EqAt.int_bool a t' b
    | int b => obtain ⟨t, rfl⟩ := rx; exact SeqAt.EqAt.int_int a t' b t
    | str b => obtain ⟨t, rfl⟩ := rx; exact SeqAt.EqAt.int_str a t' b t
    | _ => exact absurd (show false = true from fx) Bool.false_ne_true
  | str a =>
    obtain ⟨t', rfl⟩ := ry
    cases x with
    | non => cases rx; exact SeqAt.EqAt.str_none a t'
    | bl b => cases rx; exact SeqAt.EqAt.str_bool a t' b
    | int b => obtain ⟨t, rfl⟩ := rx; exact SeqAt.EqAt.str_int a t' b t
    | str b => obtain ⟨t, rfl⟩ := rx; exact SeqAt.EqAt.str_str a t' b t
    | _ => exact absurd (show false = true from fx) Bool.false_ne_true
  | _ => exact absurd (show false = true from fy) Bool.false_ne_true
def eqU (x : V) (u : Value) : Bool := match u with
  | .none => eqV .non x
  | .bool b => eqV (.bl b) x
  | .int i _ => eqV (.int i) x
  | .str z _ => eqV (.str z) x
  | _ => false
theorem eqU_of {x y : V} {u : Value} (r : RelV y u) (f : flatV y = true) : eqU x u = eqV y x := by
  cases y with
  | non => cases r; rfl
  | bl b => cases r; rfl
  | int i => obtain ⟨t, rfl⟩ := r; rfl
  | str z => obtain ⟨t, rfl⟩ := r; rfl
  | _ => exact absurd (show false = true from f) Bool.false_ne_true
theorem any_eqU {x : V} : ∀ {xs : List V} {us : List Value}, Vals xs us → xs.all flatV = true → us.any (eqU x) = xs.any fun y => eqV y x
  | _, _, .nil, _ => rfl
  | y :: xs, u :: us, .cons r t, f => by
    rw [List.all_cons, Bool.and_eq_true] at f
    rw [List.any_cons, List.any_cons, eqU_of r f.1, any_eqU t f.2]
theorem mem_eqAt {A : Around} {s : Shared} {x : V} {v : Value} (rx : RelV x v) (fx : flatV x = true) : ∀ {xs : List V} {us : List Value}, Vals xs us → xs.all flatV = true → ∀ u ∈ us, SeqAt.EqAt A s u v (eqU x u)
  | _, _, .nil, _ => fun u hu => by cases hu
  | y :: xs, u :: us, .cons r t, f => fun u' hu => by
    rw [List.all_cons, Bool.and_eq_true] at f
    rcases List.mem_cons.mp hu with rfl | hu
    · rw [eqU_of r f.1]; exact eqAt_V r rx f.1 fx
    · exact mem_eqAt rx fx t f.2 u' hu
def inV (x : V) (xs : List V) : Bool := xs.any fun y => eqV y x
def rIn (K : PySem.W.Frag) (neg : Bool) : R2 := fun x y H Q => ∃ p xs, y = .ref p ∧ (SqL K H p xs ∨ SqT K H p xs) ∧ flatV x = true ∧ xs.all flatV = true ∧ Q (.bl (if neg then !inV x xs else inV x xs)) H
theorem op_in_seq : OpR X (compareOp .In) (rIn X.K false) := by
  intro pins s σ H x y v u Q I rx ry h
  obtain ⟨p, xs, rfl, hq, fx, fs, q⟩ := h
  cases ry
  rcases hq with hq | hq
  · obtain ⟨its, r, pl, hz⟩ := I.list hq
    refine SeqAt.in_listAt (eqU x) pl.isList (fun w hw => mem_eqAt rx fx r fs w (by simpa using hw)) ⟨.bl _, H, I, rfl, ?_⟩
    rw [show its.toArray.any (eqU x) = its.any (eqU x) by simp, any_eqU r fs]
    exact q
  · obtain ⟨its, r, pl, hz⟩ := I.tuple hq
    refine SeqAt.in_tupleAt (eqU x) pl (fun w hw => mem_eqAt rx fx r fs w (by simpa using hw)) ⟨.bl _, H, I, rfl, ?_⟩
    rw [show its.toArray.any (eqU x) = its.any (eqU x) by simp, any_eqU r fs]
    exact q
theorem call_tuple_of : CallR X (.type "tuple") (fun xs H Q => ∃ p ys, xs = [.ref p] ∧ ((SqL X.K H p ys ∧ ∀ l, H l = none → Q (.ref l) (upd H l (.tup ys))) ∨ (SqT X.K H p ys ∧ Q (.ref p) H))) := by
  intro pins s σ H xs us Q I r h
  obtain ⟨p, ys, rfl, h⟩ := h
  obtain ⟨u, rfl, rx⟩ := vals1 r
  cases rx
  rcases h with ⟨hq, q⟩ | ⟨hq, q⟩
  · obtain ⟨its, r', pl, hz⟩ := I.list hq
    have hlen := r'.length
    refine call_tuple_list pl.isList (fun h' kp => ?_) (by simp only [List.size_toArray] <;> omega)
    have I1 : Inv X pins σ H { s with heap := h' } := I.kept (t' := s.toks) kp
    have I2 : Inv X pins σ (upd H h'.objs.size (.tup ys)) { s with heap := h'.push { cls := .type "tuple", data := .seq its.toArray } } :=
      I1.laid (t' := s.toks) (fun b o e => Heap.get?_push_of_some _ e) (Nat.le_refl _) (show ObjOk X.prog X.w _ _ _ (.tup ys) from ⟨hz, its, r', IsTup.new _ _⟩)
    exact ⟨.ref h'.objs.size, _, I2, rfl, q _ (I1.hok.fresh (Nat.le_refl _))⟩
  · obtain ⟨its, r', pl, hz⟩ := I.tuple hq
    exact call_tuple_same pl ⟨.ref p, H, I, rfl, q⟩

def tyV (K : PySem.W.Frag) (T : String) (x : V) (H : Hp) : Prop := match x with
  | .str _ => T = "str"
  | .int _ => T = "int"
  | .ref p => (T = "list" ∧ ∃ xs, SqL K H p xs) ∨ (T = "tuple" ∧ ∃ o, K.lookup p = some o ∧ o.cls = .type "tuple" ∧ o.dict = none) ∨
      (T = "dict" ∧ ((∃ kvs, H p = some (.dK kvs)) ∨ ∃ kvs, H p = some (.dT kvs))) ∨ (T = "set" ∧ ∃ S n, H p = some (.set S n))
  | _ => False
theorem tyV_is {pins : List (Addr × Obj)} {σ : St} {H : Hp} {s : Shared} {T : String} {x : V} {v : Value} (I : Inv X pins σ H s) (r : RelV x v) (ty : tyV X.K T x H) :
    s.TypeIs v T ∧ ∀ a, v = .ref a → ∃ ob, s.heap.get? a = some ob ∧ ob.dict = none := by
  cases x with
  | str z =>
    obtain ⟨t, rfl⟩ := r
    cases (show T = "str" from ty)
    exact ⟨typeIs_str s z t, fun _ e => nomatch e⟩
  | int i =>
    obtain ⟨t, rfl⟩ := r
    cases (show T = "int" from ty)
    exact ⟨typeIs_int s i t, fun _ e => nomatch e⟩
  | ref p =>
    cases r
    rcases ty with ⟨rfl, xs, hq⟩ | ⟨rfl, o, hk, hc, hd⟩ | ⟨rfl, hk⟩ | ⟨rfl, S, n, hk⟩
    · obtain ⟨its, _, pl, _⟩ := I.list hq
      refine ⟨pl.isList.typeIs, fun a e => ?_⟩
      cases e
      obtain ⟨o, n, e, c, hd, _⟩ := pl
      exact ⟨o, e, hd⟩
    · refine ⟨⟨o, I.kIn p o hk, hc⟩, fun a e => ?_⟩
      cases e
      exact ⟨o, I.kIn _ o hk, hd⟩
    · have z : ∃ o, s.heap.get? p = some o ∧ o.ExactDict := by
        rcases hk with ⟨kvs, hk⟩ | ⟨kvs, hk⟩
        · obtain ⟨_, _, _, _, o, _, _, e, ex, _⟩ := I.hok p _ hk
          exact ⟨o, e, ex⟩
        · obtain ⟨_, _, _, _, o, _, _, e, ex, _⟩ := I.hok p _ hk
          exact ⟨o, e, ex⟩
      obtain ⟨o, e, ex⟩ := z
      refine ⟨⟨o, e, ex.1⟩, fun a e2 => ?_⟩
      cases e2
      exact ⟨o, e, ex.2.1⟩
    · obtain ⟨o, _, _, _, e, ex, _⟩ := I.hok p _ hk
      refine ⟨⟨o, e, ex.1⟩, fun a e2 => ?_⟩
      cases e2
      exact ⟨o, e, ex.2.1⟩
  | _ => exact False.elim ty
def tBM0 (K : PySem.W.Frag) (T : String) (r : V → List V → Hp → VK → Prop) (to : TE) : TE := fun σ H Q => to σ H fun x H1 => tyV K T x H1 ∧ r x [] H1 Q
def tBM (K : PySem.W.Frag) (T : String) (r : V → List V → Hp → VK → Prop) (to : TE) (t : TA) : TE := fun σ H Q => to σ H fun x H1 => tyV K T x H1 ∧ t σ H1 fun xs H2 => r x xs H2 Q
variable {o e : Expr} {es : List Expr} {to : TE} {t : TA} {name : Str} {apos cpos : Pos} {T id : String} {r : V → List V → Hp → VK → Prop}
theorem pe_bm0 (pa : PlainAttrs T) (slot : Slot T name id) (hty : typeOf (.builtin id) = pure (.type "method_descriptor")) (hm : MtR X id r) (ho : PE X o to)
    (hbase : attributeBase o name X.env (eval o X.env) = eval o X.env := by rfl) (hline : (apos.endLine == cpos.line) = true := by rfl) : PE X (.Call (.Attribute o name apos) [] [] cpos) (tBM0 X.K T r to) := by
  intro pins s σ H Q I h
  refine wpAny_Call_method0_late hbase hline (thn (ho pins s σ H _ I h) fun v s1 ⟨x, H1, I1, r1, ty, q1⟩ => ?_)
  obtain ⟨h1, h2⟩ := tyV_is I1 r1 ty
  exact ⟨T, id, pa, slot, hty, h1, h2, Calls.callWith_builtin rfl (PySem.evalArgs_none (hm pins s1 σ H1 x [] v [] Q I1 r1 .nil q1))⟩
theorem pe_bm (pa : PlainAttrs T) (slot : Slot T name id) (hty : typeOf (.builtin id) = pure (.type "method_descriptor")) (hm : MtR X id r) (ho : PE X o to) (ha : PA X (e :: es) t)
    (hbase : attributeBase o name X.env (eval o X.env) = eval o X.env := by rfl)
    (hfew : ((backTo cpos (starEach (e :: es) X.env)).all (fun x => !x.1) && (backToKw cpos (keywordEach [] X.env)).all (fun x => x.1.isSome)
      && decide ((e :: es).length + ([] : List Keyword).length + (if ([] : List Keyword).isEmpty then 0 else 1) < 30)) = true := by rfl)
    (hline : (apos.endLine == cpos.line) = true := by rfl) (hs : starEach (e :: es) X.env = (false, eval e X.env) :: starEach es X.env := by rfl) (hplain : (backTo cpos (starEach es X.env)).any (·.1) = false := by rfl) :
    PE X (.Call (.Attribute o name apos) (e :: es) [] cpos) (tBM X.K T r to t) := by
  intro pins s σ H Q I h
  refine wpAny_Call_method_late hbase hfew hline rfl (thn (ho pins s σ H _ I h) fun v s1 ⟨x, H1, I1, r1, ty, q1⟩ => ?_)
  obtain ⟨h1, h2⟩ := tyV_is I1 r1 ty
  refine ⟨T, id, pa, slot, hty, h1, h2, ?_⟩
  have hA := ha cpos pins s1 σ H1 _ I1 q1
  rw [hs] at hA ⊢
  refine Calls.callWith_builtin (by show (false || (backTo cpos (starEach es X.env)).any (·.1)) = false; rw [hplain] <;> rfl) (Calls.evalArgs_plain ?_)
  exact thn hA fun us s2 ⟨vs, H2, I2, r2, q2⟩ => hm pins s2 σ H2 x vs v us Q I2 r1 r2 q2
/- xs.append(e), list.index on a module's tuple .. are MtR facts of 06m -/
end
end L2

namespace L2
open PySem PySem.Spec PyProof.Rows

def MtM (X : Cx) (id : String) (r : V → List V → Hp → VK → Prop) : Prop :=
  ∀ (pins : List (Addr × Obj)) (s : Shared) (σ : St) (H : Hp) (x : V) (xs : List V) (v : Value) (us : List Value) (Q : VK), Inv X pins σ H s → RelV x v → Vals xs us → r x xs H Q →
    wpAny (model X.prog X.w) X.A (call (.builtin id) (v :: us)) (EP X pins σ Q) X.xe s

theorem Vals.one : ∀ {x : V} {us : List Value}, Vals [x] us → ∃ u, us = [u] ∧ RelV x u
  | _, _, .cons r .nil => ⟨_, rfl, r⟩
theorem Vals.two : ∀ {x y : V} {us : List Value}, Vals [x, y] us → ∃ u v, us = [u, v] ∧ RelV x u ∧ RelV y v
  | _, _, _, .cons r (.cons q .nil) => ⟨_, _, rfl, r, q⟩
theorem Vals.zero : ∀ {us : List Value}, Vals [] us → us = []
  | _, .nil => rfl
theorem Vals.dropLast {xs : List V} {us : List Value} (h : Vals xs us) : Vals xs.dropLast us.dropLast := by
  induction h with
  | nil => exact .nil
  | cons r t ih =>
    cases t with
    | nil => exact .nil
    | cons q t' => exact .cons r ih
theorem Vals.eraseIdx : ∀ {xs : List V} {us : List Value} (i : Nat), Vals xs us → Vals (xs.eraseIdx i) (us.eraseIdx i)
  | _, _, _, .nil => .nil
  | _, _, 0, .cons _ t => t
  | _, _, i + 1, .cons r t => .cons r (Vals.eraseIdx i t)
theorem Vals.reverse {xs : List V} {us : List Value} (h : Vals xs us) : Vals xs.reverse us.reverse := by
  induction h with
  | nil => exact .nil
  | cons r t ih => rw [List.reverse_cons, List.reverse_cons]; exact Vals.append ih (.cons r .nil)
theorem erase_last {α : Type} (l : List α) : l.eraseIdx (l.length - 1) = l.dropLast := by
  induction l with
  | nil => rfl
  | cons a r ih =>
    cases r with
    | nil => rfl
    | cons b r =>
      have e : (a :: b :: r).length - 1 = ((b :: r).length - 1) + 1 := by
        have h1 : (a :: b :: r).length = r.length + 2 := rfl
        have h2 : (b :: r).length = r.length + 1 := rfl
        omega
      rw [e, List.eraseIdx_cons_succ, ih]
      all_goals rfl
section
variable {X : Cx} {pins : List (Addr × Obj)} {σ : St} {H : Hp} {s : Shared} {l b : Addr} {xs ys zs : List V}

theorem Inv.lset {its its' : List Value} {n : Nat} {f : Array Value → Array Value} {t' : Nat} (I : Inv X pins σ H s) (hH : H l = some (.lst xs))
    (e : s.heap.get? l = some { cls := .type "list", data := .seq its.toArray n }) (hf : f its.toArray = its'.toArray) (hv : Vals ys its') (hz : ys.length ≤ sizeLine) :
    Inv X pins σ (upd H l (.lst ys)) { s with heap := s.heap.update l (Obj.mapSeq f), toks := t' } := by
  have q := PySem.IsL.update e f
  rw [hf] at q
  refine I.write (x := l) (e := l) (by rw [hH]; exact trivial) (.inl rfl) (fun b' u hb hu => (Heap.get?_update_other s.heap (Obj.mapSeq f) (Ne.symm hb)).trans hu) ⟨_, q⟩ ?_
  exact ⟨hz, its', _, hv, q⟩
theorem Inv.fresh (I : Inv X pins σ H s) : H s.heap.objs.size = none := I.hok.fresh (Nat.le_refl _)
theorem Inv.lstM (I : Inv X pins σ H s) (hH : H l = some (.lst xs)) : xs.length ≤ sizeLine ∧ ∃ (its : List Value) (n : Nat), Vals xs its ∧ xs.length = its.length ∧ s.heap.get? l = some { cls := .type "list", data := .seq its.toArray n } := by
  obtain ⟨z, its, n, r, e⟩ := I.hok l _ hH
  exact ⟨z, its, n, r, r.length, e⟩

end

section
variable {X : Cx}

def rAppend : V → List V → Hp → VK → Prop := fun x vs H Q => ∃ l xs y, x = .ref l ∧ vs = [y] ∧ H l = some (.lst xs) ∧ xs.length < sizeLine ∧ Q .non (upd H l (.lst (xs ++ [y])))
theorem mt_append : MtM X "list.append" rAppend := by
  intro pins s σ H x vs v us Q I rx rv h
  obtain ⟨l, xs, y, rfl, rfl, hH, hz, q⟩ := h
  cases rx
  obtain ⟨u, rfl, ru⟩ := rv.one
  obtain ⟨z, its, n, r, hl, e⟩ := I.lstM hH
  refine call_meets F.slot_list_append ⟨_, e, rfl⟩ F.entry_list_append (F.args_list_append_2 _ _) (PySem.list_append l its.toArray n u (by rw [List.size_toArray]; omega)) ⟨e, ?_⟩
  refine ⟨.non, _, I.lset (its' := its ++ [u]) hH e (by simp) (r.append (.cons ru .nil)) ?_, rfl, q⟩
  rw [List.length_append, List.length_singleton]
  omega

def rPop : V → List V → Hp → VK → Prop := fun x vs H Q => ∃ l xs y, x = .ref l ∧ vs = [] ∧ H l = some (.lst xs) ∧ xs[xs.length - 1]? = some y ∧ Q y (upd H l (.lst xs.dropLast))
theorem mt_pop : MtM X "list.pop" rPop := by
  intro pins s σ H x vs v us Q I rx rv h
  obtain ⟨l, xs, y, rfl, rfl, hH, hy, q⟩ := h
  cases rx
  have hus := rv.zero
  subst hus
  obtain ⟨z, its, n, r, hl, e⟩ := I.lstM hH
  obtain ⟨u, hu, ru⟩ := r.get hy
  have hy' : its.toArray[its.toArray.size - 1]? = some u := by
    show its.toArray[its.length - 1]? = some u
    rw [← Array.getElem?_toList, ← hl]
    exact hu
  refine call_meets F.slot_list_pop ⟨_, e, rfl⟩ F.entry_list_pop (F.args_list_pop_1 _) (MeetsSeq.list_pop_last l its.toArray n u hy' (by rw [List.size_toArray]; omega)) ⟨e, ?_⟩
  refine ⟨y, _, I.lset (its' := its.dropLast) hH e ?_ r.dropLast ?_, ru, q⟩
  · show its.toArray.eraseIdxIfInBounds (its.toArray.size - 1) = its.dropLast.toArray
    rw [List.size_toArray, List.eraseIdxIfInBounds_toArray, erase_last]
  · rw [List.length_dropLast]
    omega

end

section
variable {prog : Program} {w : World} {A : Around} {E : Value → Shared → Prop} {s : Shared}
end

section
variable {X : Cx}
end
end L2

namespace Att
open PySem PySem.W PySem.Calls PyProof.Rows

theorem ints_of_wellAll {P : Params} {h : Heap} : ∀ (ns : List Int) (vs : List Value), WellAll P h vs (ns.map WData.int) → IntsAre vs ns := by
  intro ns
  induction ns with
  | nil =>
    intro vs w
    rw [List.map_nil] at w
    cases w
    exact .nil
  | cons n ns ih =>
    intro vs w
    rw [List.map_cons] at w
    cases w with
    | cons a b =>
      cases a
      exact .cons _ _ (ih _ b)

theorem script_of {l : OpenLaw} {n : Nat} (hn : l.most = some n) {P : Params} {h : Heap} {args : List WData} {vals : List Value}
    (hpre : l.row.toRowW.claim.pre args = true) (hwl : WellAll P h vals args) :
    ∃ a vs ns, vals = [Value.ref a] ∧ args = [WData.list (ns.map WData.int)] ∧ h.get? a = some { cls := .type "list", data := .seq vs.toArray } ∧ IntsAre vs ns ∧ ns.length ≤ n := by
  have hsh : WShape.hasAll [] args [.list .int] = true := (pre_splitW hpre).1
  have hc : l.pre.holds [] { args := args } = true := (pre_splitW hpre).2
  obtain ⟨d, r, rfl, h1, h2⟩ := hasAllW_cons hsh
  obtain rfl := hasAllW_nil h2
  obtain ⟨xs, rfl, h3⟩ := hasW_list h1
  obtain ⟨ns, rfl⟩ := items_int h3
  have hlen : ns.length ≤ n := by
    unfold OpenLaw.pre at hc
    have h4 : (WTm.not (.lt (.lit (.int (n : Int))) (.len (.arg 0)))).holds [] { args := [.list (ns.map .int)] } = true := by
      have h4 := (holds_andW hc).1
      rw [hn] at h4
      exact h4
    have h5 := condW_of h4 (w_not (w_lt w_lit (w_len_list (w_arg rfl))))
    rw [List.length_map] at h5
    refine Nat.le_of_not_lt fun q => ?_
    have q' : (n : Int) < ((ns.length : Nat) : Int) := by omega
    first
      | (rw [decide_eq_true q'] at h5; exact absurd h5 (by decide))
      | (simp at h5; omega)
  cases hwl with
  | cons w1 w2 =>
    cases w2
    cases w1 with
    | list ho hall => exact ⟨_, _, ns, rfl, rfl, ho, ints_of_wellAll ns _ hall, hlen⟩

theorem post_true (l : OpenLaw) (args : List WData) : l.row.toRowW.claim.post args (.bool true) args = true :=
  postW_of (r := l.row.toRowW) (X := (true == true))
    (show WShape.has [] (.bool true) .bool = true by first | rfl | decide | simp [WShape.has, WShape.arms, WShape.armsAll])
    (show (WTm.eq .res (.lit (.bool true))).value [] { args := args, res := some (.bool true), after := args } = some (.bool (true == true)) from w_eq_bool (w_res rfl) w_lit) rfl

theorem attach_call {l : OpenLaw} {n : Nat} {q : Program} {loose : List Str} {XP : (Str → Option Value) → Heap → Prop} {YP : World → Heap → Prop} {d : DefRec}
    (hn : l.most = some n) (hdf : d.params.defaults = [])
    (call : ∀ (w : World) (s₀ s₁ : Shared) (mg mb : Str → Option Value) (fa : Addr) (o : Obj) (pm cd doc : Value) (a : Addr) (vs : List Value) (ns : List Int),
      Ground q loose [] XP w s₀ mg mb s₁.heap → YP w s₁.heap →
      s₁.heap.get? fa = some o → o.data = .func (docDef d.name d.params d.body d.scope pm cd doc) → s₁.heap.CodeRec cd d.name → mg d.name = some (.ref fa) →
      s₁.heap.get? a = some { cls := .type "list", data := .seq vs.toArray } → IntsAre vs ns → ns.length ≤ n → s₁.gens = #[] →
      codeAny (model l.prog w) callerA (.call (.ref fa) ⟨[.ref a], []⟩) (fun r s' => r = .ok (.ret (.bool true)) ∧ OldK s₁.heap s'.heap ∧ s'.os = s₁.os ∧ AllBare s'.gens) s₁) :
    WalkO q loose XP YP l.row.toRowW d [] (fun f vs => PySem.call f vs) := by
  intro w s₀ s₁ mg mb G Y fa o pm cd doc dV kV ho hd hcd hD hmg hg args vals as hpre hlay hrd hwl hlo
  obtain rfl : dV = .none := Dflts.none hD hdf
  obtain rfl : kV = .none := Dflts.noKw hD
  obtain ⟨a, vs, ns, rfl, rfl, hobj, hints, hlen⟩ := script_of hn hpre hwl
  refine enter_call (codeAny_mono (call w s₀ s₁ mg mb fa o pm cd doc a vs ns G Y ho (fd_plain hd) hcd hmg hobj hints hlen hg) fun r s' hq => ?_)
  obtain ⟨rfl, h2, h3, h4⟩ := hq
  exact ⟨.inl ⟨.bool true, .bool true, [], rfl, fun _ => rfl, .bool true, post_true l _, fun _ => ⟨List.Pairwise.nil, fun _ hm => (nomatch hm)⟩⟩, h2, h3, h4⟩

section
variable {prog : Program} {w : World} {A : Around} {E : Value → Shared → Prop} {s : Shared} {K : Frag}

end
end Att

namespace L2
open PySem PySem.Spec PyProof.Rows

theorem vals_ints : ∀ {vs : List Value} {ns : List Int}, IntsAre vs ns → Vals (ns.map V.int) vs
  | _, _, .nil => .nil
  | _, _, .cons n t h => .cons ⟨t, rfl⟩ (vals_ints h)

def Only (H : Hp) : Prop := ∀ b, H b = none ∨ ∃ o xs, H b = some (.frz o (.lst xs))

theorem law_call {P : Program} {w : World} {K : PySem.W.Frag} {mg mb : Str → Option Value} {CX : CXT} {k : Nat} {fa a : Addr} {fd : FuncData} {x : Str} {sp : Sp} {s₁ : Shared} {vs : List Value} {ns : List Int}
    (KX : K.In s₁.heap) (hns : s₁.heap.Ns mainGlobals mg) (hb : s₁.heap.Ns builtinsNs mb) (hbb : ∀ x : Str, x ≠ "__name__" → mb x = bootBuiltins x) (hlim : s₁.heap.NoLimit) (hg : s₁.gens = #[])
    (ha : s₁.heap.get? a = some { cls := .type "list", data := .seq vs.toArray }) (hi : IntsAre vs ns) (hl : ns.length ≤ sizeLine) (hr : Room k callerA)
    (F : ∀ base : Heap, K.In base → base.Ns mainGlobals mg → FnOk P w K mg base CX k fa fd [x] sp) (hbind : ∀ (s : Shared) (u : Value), BindsTo s fd ⟨[u], []⟩ [(x, u)])
    (hsp : ∀ H : Hp, Only H → SqL K H a (ns.map V.int) → sp [.ref a] H (fun v _ => v = .bl true) fun _ _ _ => False)
    (hCX : ∀ H e s', CX [] H s₁ (fun _ _ _ => False) e s' → False) :
    codeAny (model P w) callerA (.call (.ref fa) ⟨[.ref a], []⟩) (fun r s' => r = .ok (.ret (.bool true)) ∧ OldK s₁.heap s'.heap ∧ s'.os = s₁.os ∧ AllBare s'.gens) s₁ := by
  have rv := vals_ints hi
  have lenV := hi.length
  -- from an abstract heap in which nothing but the script may be tracked
  have core : ∀ H : Hp, Only H → SqL K H a (ns.map V.int) → HOk P w H s₁.heap → (∀ b, H b ≠ none → b = a) → (H a ≠ none → K.lookup a = none) →
      codeAny (model P w) callerA (.call (.ref fa) ⟨[.ref a], []⟩) (fun r s' => r = .ok (.ret (.bool true)) ∧ OldK s₁.heap s'.heap ∧ s'.os = s₁.os ∧ AllBare s'.gens) s₁ := by
    intro H hO hS hok hA hK
    have base_of : ∀ {b : Addr} {o : Obj}, s₁.heap.get? b = some o → H b = none → (hidT s₁.heap H).get? b = some o := fun e n => hidT_get e n
    have noA : ∀ {b : Addr} {o : Obj} {es : Array DictEntry} {ep : Nat}, s₁.heap.get? b = some o → o.data = .dict es ep → H b = none := fun {b o es ep} e d => by
      cases q : H b with
      | none => rfl
      | some u =>
        have e' : b = a := hA b (by rw [q]; simp)
        subst e'
        rw [ha] at e; cases e
        have d' : Data.seq vs.toArray _ = Data.dict es ep := d
        cases d'
    have nsK : ∀ {b : Addr} {m : Str → Option Value}, s₁.heap.Ns b m → (hidT s₁.heap H).Ns b m := fun {b m} ⟨o, es, ep, e, d, r⟩ => ⟨o, es, ep, base_of e (noA e d), d, r⟩
    have hKb : K.In (hidT s₁.heap H) := fun b o e => base_of (KX b o e) (by
      cases q : H b with
      | none => rfl
      | some u =>
        have e' : b = a := hA b (by rw [q]; simp)
        subst e'
        rw [hK (by rw [q]; simp)] at e; cases e)
    have hM : Mod K mg (hidT s₁.heap H) := ⟨hKb, nsK hns, ⟨mb, nsK hb, hbb⟩, let ⟨mc, h1, h2⟩ := hlim; ⟨mc, nsK h1, h2⟩⟩
    have e0 : Env0 P w K mg (hidT s₁.heap H) callerA [] s₁ H := ⟨rfl, hM, fun b o e => of_hidT e, Nat.le_of_eq (hidT_size _ _), trivial, fun b hb => absurd (show b ∈ ([] : List Addr) from hb) (by simp), hok, .of_eq hg⟩
    refine codeAny_mono ((F _ hKb (nsK hns)).run callerA [] s₁ H ⟨[.ref a], []⟩ [.ref a] [.ref a] _ _ hr e0 (hbind s₁ (.ref a)) (.cons rfl .nil) (hsp H hO hS)) fun r s' h => ?_
    cases r with
    | error e => exact (hCX H e s' h).elim
    | ok fl =>
      cases fl with
      | next => exact False.elim h
      | brk => exact False.elim h
      | cont => exact False.elim h
      | ret u =>
        obtain ⟨v, H', os, bare, un, hok', r', q⟩ := h
        have q' : v = .bl true := q
        subst q'
        obtain rfl : u = Value.bool true := r'
        refine ⟨rfl, OldK.of_keep fun b o e => ?_, os, bare⟩
        cases q : H b with
        | none => exact un.keep b o e q (by intro z; exact absurd (show b ∈ ([] : List Addr) from z) (by simp)) (by simp)
        | some u =>
          rcases hO b with z | ⟨ob, xs, z⟩
          · rw [q] at z; cases z
          · have z2 := un.frzs b ob _ z
            obtain ⟨e1, _⟩ := hok b _ z
            obtain ⟨e2, _⟩ := hok' b _ z2
            rw [e] at e1; cases e1
            exact e2
  cases hk : K.lookup a with
  | some o =>
    -- the script is one of the module's own objects
    have e := KX a o hk
    rw [ha] at e
    cases e
    refine core (fun _ => none) (fun _ => .inl rfl) (.inr ⟨_, vs.toArray, _, hk, rfl, rfl, rfl, by rw [List.size_toArray, lenV]; exact hl, by simpa using rv⟩) (fun b u z => by have z' : (none : Option HO) = some u := z; cases z') (fun b z => absurd rfl z) fun z => absurd rfl z
  | none =>
    refine core (fun b => if b = a then some (.frz { cls := .type "list", data := .seq vs.toArray } (.lst (ns.map V.int))) else none) (fun b => ?_) (.inl (.inr ⟨{ cls := .type "list", data := .seq vs.toArray }, if_pos rfl⟩)) (fun b u z => ?_) (fun b z => ?_) fun _ => hk
    · by_cases hb : b = a
      · exact .inr ⟨_, _, if_pos hb⟩
      · exact .inl (if_neg hb)
    · by_cases hb : b = a
      · have z' := (if_pos hb).symm.trans z
        cases z'
        subst hb
        exact ⟨ha, by rw [List.length_map]; exact hl, vs, _, rv, ha⟩
      · have z' := (if_neg hb).symm.trans z
        cases z'
    · by_cases hb : b = a
      · exact hb
      · exact absurd (if_neg hb) z
end L2

namespace L2
open PySem PySem.Spec PyProof.Rows

theorem walk_of {l : PySem.W.OpenLaw} {n k : Nat} {q : Program} {loose : List Str} {XP : (Str → Option Value) → Heap → Prop} {YP : World → Heap → Prop} {d : DefRec} {K : Params → PySem.W.Frag} {CX : World → CXT} {sp : World → Sp} {x : Str}
    (hn : l.most = some n) (hn2 : n ≤ sizeLine) (hdf : d.params.defaults = []) (hr : Room k callerA)
    (hY : ∀ (w : World) (h : Heap), YP w h → (K w.params).In h)
    (F : ∀ (w : World) (mg : Str → Option Value) (fa : Addr) (h : Heap), (K w.params).In h → h.Ns mainGlobals mg → mg d.name = some (.ref fa) →
      ∃ fd : FuncData, (∀ (s : Shared) (u : Value), BindsTo s fd ⟨[u], []⟩ [(x, u)]) ∧
        ∀ base : Heap, (K w.params).In base → base.Ns mainGlobals mg → FnOk l.prog w (K w.params) mg base (CX w) k fa fd [x] (sp w))
    (hsp : ∀ (w : World) (H : Hp) (a : Addr) (ns : List Int), ns.length ≤ n → Only H → SqL (K w.params) H a (ns.map V.int) → sp w [.ref a] H (fun v _ => v = .bl true) fun _ _ _ => False)
    (hCX : ∀ (w : World) (H : Hp) (s : Shared) (e : Value) (s' : Shared), CX w [] H s (fun _ _ _ => False) e s' → False) :
    PySem.W.WalkO q loose XP YP l.row.toRowW d [] (fun f vs => PySem.call f vs) := by
  refine Att.attach_call hn hdf fun w s₀ s₁ mg mb fa o pm cd doc a vs ns G Y ho hd hcd hmg hobj hints hlen hg => ?_
  have KX := hY w _ Y
  obtain ⟨fd, hb, hF⟩ := F w mg fa _ KX G.T.g hmg
  exact law_call KX G.T.g G.T.b G.T.builtins G.T.nolimit hg hobj hints (Nat.le_trans hlen hn2) hr hF hb (fun H hO hS => hsp w H a ns hlen hO hS) fun H e s' => hCX w H s₁ e s'
theorem walk_ofK {l : PySem.W.OpenLaw} {n k : Nat} {q : Program} {loose : List Str} {XP : (Str → Option Value) → Heap → Prop} {YP : World → Heap → Prop} {d : DefRec} {K : Params → PySem.W.Frag} {CX : CXT} {sp : PySem.W.Frag → Sp} {x : Str}
    (hn : l.most = some n) (hn2 : n ≤ sizeLine) (hdf : d.params.defaults = []) (hr : Room k callerA)
    (hY : ∀ (w : World) (h : Heap), YP w h → (K w.params).In h)
    (F : ∀ (w : World) (mg : Str → Option Value) (fa : Addr) (h : Heap), (K w.params).In h → h.Ns mainGlobals mg → mg d.name = some (.ref fa) →
      ∃ fd : FuncData, (∀ (s : Shared) (u : Value), BindsTo s fd ⟨[u], []⟩ [(x, u)]) ∧
        ∀ base : Heap, (K w.params).In base → base.Ns mainGlobals mg → FnOk l.prog w (K w.params) mg base CX k fa fd [x] (sp (K w.params)))
    (hsp : ∀ (K : PySem.W.Frag) (H : Hp) (a : Addr) (ns : List Int), ns.length ≤ n → Only H → SqL K H a (ns.map V.int) → sp K [.ref a] H (fun v _ => v = .bl true) fun _ _ _ => False)
    (hCX : ∀ (H : Hp) (s : Shared) (e : Value) (s' : Shared), CX [] H s (fun _ _ _ => False) e s' → False) :
    PySem.W.WalkO q loose XP YP l.row.toRowW d [] (fun f vs => PySem.call f vs) :=
  walk_of (K := K) (CX := fun _ => CX) (sp := fun w => sp (K w.params)) hn hn2 hdf hr hY F (fun w H a ns h1 h2 h3 => hsp (K w.params) H a ns h1 h2 h3) fun _ H s e s' => hCX H s e s'
end L2


namespace L2
open PySem PySem.Spec PyProof.Rows

def inClass (s : Stmt) (j : Nat) : Stmt := match s with
  | .ClassDef _ _ _ body _ _ _ _ _ _ _ => body.getD j (.Pass ⟨0, 0, 0, 0⟩)
  | _ => .Pass ⟨0, 0, 0, 0⟩
def defArgs (s : Stmt) : Arguments := match s with
  | .FunctionDef _ a _ _ _ _ _ _ _ _ => a
  | _ => { posonlyargs := [], args := [], vararg := none, kwonlyargs := [], kw_defaults := [], kwarg := none, defaults := [] }
def defBody (s : Stmt) : List Stmt := match s with
  | .FunctionDef _ _ b _ _ _ _ _ _ _ => b
  | _ => []
def defScope (s : Stmt) : Scope := match s with
  | .FunctionDef _ _ _ _ _ _ sc _ _ _ => sc
  | _ => { kind := .function, names := [], isGenerator := false, isCoroutine := false }

abbrev CX0 : CXT := fun _ _ _ _ _ _ => False
abbrev E0 : XK := fun _ _ _ => False
theorem pass0 {X : Cx} : Passes CX0 X E0 := fun _ _ _ _ _ _ _ h => h.elim

structure Fun (K : PySem.W.Frag) (x qual : Str) (st : Stmt) (f : Addr) (fd : FuncData) : Prop where
  ex : ∃ (oc : Value) (od : Option Addr) (kV doc pm : Value) (an : Option Addr) (cdv ct : Value) (osl : Array (Option Value)),
    fd = PySem.W.fnOf x qual (defArgs st) (defBody st) (defScope st) .none kV doc pm an cdv ct ∧ K.lookup f = some ⟨oc, od, .func fd, osl⟩ ∧ PySem.W.codeIn K cdv qual = true
  kp : PySem.W.keepIn K (.ref f) = true
section
variable {P : Program} {w : World} {K : PySem.W.Frag} {mg : Str → Option Value} {base : Heap}
theorem Fun.ok {x qual : Str} {st : Stmt} {f : Addr} {fd : FuncData} {N ps : List Str} {k : Nat} {sp : Sp} (F : Fun K x qual st f fd) (S : FnScope N ps (defScope st)) (len : ∀ vs H Q E, sp vs H Q E → vs.length = ps.length)
    (hbody : ∀ (cdv : Value) (A : Around) (outer : List Env) (s : Shared) (H : Hp) (vs : List V) (Q : VK) (E : XK), Room k (A.deeper (envOfC qual (defScope st) s.heap.objs.size f cdv)) → sp vs H Q E →
      ∃ t, PSs (cxOf CX0 P w K mg base N qual (defScope st) f cdv A outer s H E).nox (defBody st) t ∧ t { nx := fun _ H' => Q .non H', rt := Q } (start N vs) H) : FnOk P w K mg base CX0 (k + 1) f fd ps sp := by
  obtain ⟨oc, od, kV, doc, pm, an, cdv, ct, osl, rfl, lk, hcd⟩ := F.ex
  refine fn_of lk hcd S len fun A outer s H vs Q E hr hsp => ?_
  obtain ⟨t, h, q⟩ := hbody cdv A outer s H vs Q E hr hsp
  exact ⟨t, h.nox, q⟩
theorem Fun.binds {x qual : Str} {st : Stmt} {f : Addr} {fd : FuncData} {ps : List Str} (F : Fun K x qual st f fd)
    (h : ∀ (kV doc pm : Value) (an : Option Addr) (cdv ct : Value) (us : List Value), us.length = ps.length → bindArgs (PySem.W.fnOf x qual (defArgs st) (defBody st) (defScope st) .none kV doc pm an cdv ct) ⟨us, []⟩ = pure (ps.zip us)) : Binds K fd ps [] := by
  obtain ⟨oc, od, kV, doc, pm, an, cdv, ct, osl, rfl, lk, hcd⟩ := F.ex
  exact .all (h kV doc pm an cdv ct)
theorem fun_mk {x qual : Str} {st : Stmt} {f : Addr} {oc : Value} {od an : Option Addr} {osl : Array (Option Value)} {kV doc pm cdv ct : Value} (l : K.lookup f = some ⟨oc, od, .func (PySem.W.fnOf x qual (defArgs st) (defBody st) (defScope st) .none kV doc pm an cdv ct), osl⟩)
    (c : PySem.W.codeIn K cdv qual = true) (k : PySem.W.keepIn K (.ref f) = true) : Fun K x qual st f (PySem.W.fnOf x qual (defArgs st) (defBody st) (defScope st) .none kV doc pm an cdv ct) := ⟨⟨oc, od, kV, doc, pm, an, cdv, ct, osl, rfl, l, c⟩, k⟩
end
theorem hu_of {A : Around} {k : Nat} (hr : Room k A) : A.units + 1 < cLine := Nat.lt_of_le_of_lt (Nat.add_le_add_left (by decide : 1 ≤ 64) _) hr.units
theorem small1000 {n : Nat} (h : n ≤ 1000) : n < sizeLine := Nat.lt_of_le_of_lt h (by decide)

section
variable {X : Cx}
theorem pv (i : Nat) {x : Str} {pos : Pos} (hN : X.N[i]? = some x := by rfl) (hv : Vis X.env.scope x := by first | exact Or.inl rfl | exact Or.inr (Or.inl rfl) | exact Or.inr (Or.inr rfl)) (hd : (x == ("__debug__" : Str)) = false := by decide)
    (hcd : (x == ("__classdict__" : Str)) = false := by decide) : PE X (.Name x pos) (tVar i) := pe_var hN hv hd hcd
end

theorem iteF {A B : Prop} (h : B) : if false = true then A else B := by
  rw [if_neg Bool.false_ne_true]
  exact h
theorem iteT {A B : Prop} (h : A) : if true = true then A else B := by
  rw [if_pos rfl]
  exact h
def Same (H H' : Hp) : Prop := ∀ b o, H b = some o → H' b = some o
theorem Same.refl (H : Hp) : Same H H := fun _ _ h => h
theorem Same.trans {H H1 H2 : Hp} (a : Same H H1) (b : Same H1 H2) : Same H H2 := fun c o h => b c o (a c o h)
theorem Same.free {H H' : Hp} (e : Same H H') {l : Addr} (h : H' l = Option.none) : H l = Option.none := by
  cases q : H l with
  | none => rfl
  | some o =>
    rw [e l o q] at h
    cases h
theorem Same.seq {K : PySem.W.Frag} {H H' : Hp} {a : Addr} {xs : List V} (e : Same H H') (h : SqL K H a xs) : SqL K H' a xs := by
  rcases h with (h | ⟨o, h⟩) | h
  · exact .inl (.inl (e _ _ h))
  · exact .inl (.inr ⟨o, e _ _ h⟩)
  · exact .inr h

end L2


namespace L2
open PySem PySem.Spec PyProof.Rows

section
variable {κ : Type} [DecidableEq κ]
def valV (kvs : List (κ × V)) (k : κ) : Option V := (kvs.find? fun kv => decide (kv.1 = k)).map (·.2)
def putK (kvs : List (κ × V)) (k : κ) (v : V) : List (κ × V) :=
  if (kvs.any fun kv => decide (kv.1 = k)) = true then kvs.map (fun kv => if kv.1 = k then (kv.1, v) else kv) else kvs ++ [(k, v)]
def dropK (kvs : List (κ × V)) (k : κ) : List (κ × V) := kvs.filter fun kv => decide (kv.1 ≠ k)

theorem valV_pos {p : κ × V} {r : List (κ × V)} {k : κ} (e : p.1 = k) : valV (p :: r) k = some p.2 := by simp [valV, List.find?_cons, e]
theorem valV_neg {p : κ × V} {r : List (κ × V)} {k : κ} (e : ¬ p.1 = k) : valV (p :: r) k = valV r k := by simp [valV, List.find?_cons, e]
theorem valV_any (k : κ) : ∀ kvs : List (κ × V), (kvs.any fun kv => decide (kv.1 = k)) = (valV kvs k).isSome
  | [] => rfl
  | p :: r => by
    rw [List.any_cons]
    by_cases e : p.1 = k
    · simp only [valV_pos e, decide_eq_true e, Bool.true_or, Option.isSome_some]
    · rw [valV_neg e, decide_eq_false e, Bool.false_or]; exact valV_any k r
theorem RelO.isSome_eq {o : Option V} {u : Option Value} (r : RelO o u) : o.isSome = u.isSome := by
  cases o with
  | none => cases u with
    | none => rfl
    | some _ => exact (show False from r).elim
  | some _ => cases u with
    | none => exact (show False from r).elim
    | some _ => rfl
theorem RelO.getD {o : Option V} {u : Option Value} {d : V} {d' : Value} (r : RelO o u) (rd : RelV d d') : RelV (o.getD d) (u.getD d') := by
  cases o with
  | none => cases u with
    | none => exact rd
    | some _ => exact (show False from r).elim
  | some _ => cases u with
    | none => exact (show False from r).elim
    | some _ => exact r

theorem KV.val {kvs : List (κ × V)} {vs : List (κ × Value)} (r : KV kvs vs) (k : κ) : RelO (valV kvs k) (valueAt vs k) := by
  unfold KV at r
  induction r with
  | nil => exact True.intro
  | @cons p q ps qs h t ih =>
    obtain ⟨h1, h2⟩ := h
    by_cases e : p.1 = k
    · have e' : q.1 = k := h1.symm.trans e
      have b : valueAt (q :: qs) k = some q.2 := by simp [valueAt, List.find?_cons, e']
      rw [valV_pos e, b]; exact h2
    · have e' : ¬ q.1 = k := fun z => e (h1.trans z)
      have b : valueAt (q :: qs) k = valueAt qs k := by simp [valueAt, List.find?_cons, e']
      rw [valV_neg e, b]; exact ih
theorem KV.any {kvs : List (κ × V)} {vs : List (κ × Value)} (r : KV kvs vs) (k : κ) : (kvs.any fun kv => decide (kv.1 = k)) = vs.any fun kv => decide (kv.1 = k) := by
  unfold KV at r
  induction r with
  | nil => rfl
  | cons h t ih => rw [List.any_cons, List.any_cons, ih, h.1]
theorem KV.repl {kvs : List (κ × V)} {vs : List (κ × Value)} (r : KV kvs vs) (k : κ) {y : V} {u : Value} (ry : RelV y u) :
    KV (kvs.map fun kv => if kv.1 = k then (kv.1, y) else kv) (vs.map fun kv => if kv.1 = k then (kv.1, u) else kv) := by
  unfold KV at r ⊢
  induction r with
  | nil => exact .nil
  | @cons p q ps qs h t ih =>
    rw [List.map_cons, List.map_cons]
    refine .cons ?_ ih
    obtain ⟨h1, h2⟩ := h
    by_cases e : p.1 = k
    · rw [if_pos e, if_pos (h1.symm.trans e)]; exact ⟨h1, ry⟩
    · rw [if_neg e, if_neg (fun z => e (h1.trans z))]; exact ⟨h1, h2⟩
theorem KV.put {kvs : List (κ × V)} {vs : List (κ × Value)} (r : KV kvs vs) (k : κ) {y : V} {u : Value} (ry : RelV y u) : KV (putK kvs k y) (stored vs k u) := by
  unfold putK stored
  rw [r.any k]
  by_cases e : (vs.any fun kv => decide (kv.1 = k)) = true
  · rw [if_pos e, if_pos e]; exact r.repl k ry
  · rw [if_neg e, if_neg e]; exact Paired.snoc r ⟨rfl, ry⟩
theorem KV.drop {kvs : List (κ × V)} {vs : List (κ × Value)} (r : KV kvs vs) (k : κ) : KV (dropK kvs k) (without vs k) := by
  unfold KV at r ⊢
  unfold dropK without
  induction r with
  | nil => exact .nil
  | @cons p q ps qs h t ih =>
    obtain ⟨h1, h2⟩ := h
    rw [List.filter_cons, List.filter_cons]
    by_cases e : p.1 = k
    · have a : ¬ decide (p.1 ≠ k) = true := by simp [e]
      have b : ¬ decide (q.1 ≠ k) = true := by simp [h1.symm.trans e]
      rw [if_neg a, if_neg b]; exact ih
    · have e' : ¬ q.1 = k := fun z => e (h1.trans z)
      have a : decide (p.1 ≠ k) = true := by simp [e]
      have b : decide (q.1 ≠ k) = true := by simp [e']
      rw [if_pos a, if_pos b]; exact .cons ⟨h1, h2⟩ ih
theorem KV.length {kvs : List (κ × V)} {vs : List (κ × Value)} (r : KV kvs vs) : kvs.length = vs.length := Paired.length r
theorem dropK_le (kvs : List (κ × V)) (k : κ) : (dropK kvs k).length ≤ kvs.length := List.length_filter_le _ _
end


theorem kV_is {P : Program} {w : World} {k : Key} {u : Value} (r : RelV (kV k) u) : (mixKind P w).is k u = true := by
  cases k with
  | inl i => obtain ⟨t, e⟩ := (show ∃ t, u = Value.int i t from r); subst e; exact mixKind_int P w i t
  | inr x => obtain ⟨t, e⟩ := (show ∃ t, u = Value.str x t from r); subst e; exact mixKind_str P w x t
theorem items_are {P : Program} {w : World} : ∀ {ks : List Key} {us : List Value}, Vals (ks.map kV) us → ItemsAre (mixKind P w) ks us
  | [], _, r => by rw [List.map_nil] at r; cases r; exact .nil
  | k :: ks, _, r => by
    rw [List.map_cons] at r
    cases r with
    | cons h t => exact .cons (kV_is h) (items_are t)

abbrev KT (H : Hp) : List (List Key × V) → List (List Key × Addr × Value) → Prop := Paired fun p q => p.1 = q.1 ∧ H q.2.1 = some (.tup (p.1.map kV)) ∧ RelV p.2 q.2.2
theorem KT.val {H : Hp} {kvs : List (List Key × V)} {xs : List (List Key × Addr × Value)} (r : KT H kvs xs) (k : List Key) : RelO (valV kvs k) ((atKey xs k).map (·.2)) := by
  induction r with
  | nil => exact True.intro
  | @cons p q ps qs h t ih =>
    obtain ⟨h1, _, h2⟩ := h
    by_cases e : p.1 = k
    · have e' : q.1 = k := h1.symm.trans e
      have b : atKey (q :: qs) k = some q.2 := by simp [atKey, List.find?_cons, e']
      rw [valV_pos e, b]; exact h2
    · have e' : ¬ q.1 = k := fun z => e (h1.trans z)
      have b : atKey (q :: qs) k = atKey qs k := by simp [atKey, List.find?_cons, e']
      rw [valV_neg e, b]; exact ih
theorem KT.repl {H : Hp} {kvs : List (List Key × V)} {xs : List (List Key × Addr × Value)} (r : KT H kvs xs) (k : List Key) {y : V} {u : Value} (ry : RelV y u) :
    KT H (kvs.map fun kv => if kv.1 = k then (kv.1, y) else kv) (xs.map (putAt k u)) := by
  induction r with
  | nil => exact .nil
  | @cons p q ps qs h t ih =>
    rw [List.map_cons, List.map_cons]
    refine .cons ?_ ih
    obtain ⟨h1, h2, h3⟩ := h
    unfold putAt
    by_cases e : p.1 = k
    · rw [if_pos e, if_pos (h1.symm.trans e)]; exact ⟨h1, h2, ry⟩
    · rw [if_neg e, if_neg (fun z => e (h1.trans z))]; exact ⟨h1, h2, h3⟩
theorem KT.put {H : Hp} {kvs : List (List Key × V)} {xs : List (List Key × Addr × Value)} (r : KT H kvs xs) (k : List Key) {b : Addr} {y : V} {u : Value} (hb : H b = some (.tup (k.map kV))) (ry : RelV y u) :
    KT H (putK kvs k y) (storedH xs k b u) := by
  have e : (kvs.any fun kv => decide (kv.1 = k)) = (atKey xs k).isSome := by
    rw [valV_any, (r.val k).isSome_eq, Option.isSome_map]
  unfold putK storedH
  rw [e]
  by_cases q : (atKey xs k).isSome = true
  · rw [if_pos q, if_pos q]; exact r.repl k ry
  · rw [if_neg q, if_neg q]; exact Paired.snoc r ⟨rfl, hb, ry⟩
theorem KT.keeps {H H' : Hp} {kvs : List (List Key × V)} {xs : List (List Key × Addr × Value)} (r : KT H kvs xs) (ht : ∀ b ys, H b = some (.tup ys) → H' b = some (.tup ys)) : KT H' kvs xs :=
  Paired.mapP r fun _ _ z => ⟨z.1, ht _ _ z.2.1, z.2.2⟩

section
variable {P : Program} {w : World} {H : Hp} {h : Heap} {a : Addr}
theorem rd_of {u : HO} (ok : HOk P w H h) (e : Rd H a u) : ObjOk P w H h a u := e.ok ok
theorem dk_rd {kvs : List (Key × V)} (ok : HOk P w H h) (e : Rd H a (.dK kvs)) : kvs.length ≤ sizeLine ∧ (a == sysModules) = false ∧ ∃ vs, KV kvs vs ∧ h.DictOf (mixKind P w) a vs :=
  show ObjOk P w H h a (.dK kvs) from rd_of ok e
theorem dk_of {kvs : List (Key × V)} (ok : HOk P w H h) (e : H a = some (.dK kvs)) : kvs.length ≤ sizeLine ∧ (a == sysModules) = false ∧ ∃ vs, KV kvs vs ∧ h.DictOf (mixKind P w) a vs := dk_rd ok (.inl e)
theorem key_of {ks : List Key} (ok : HOk P w H h) (e : H a = some (.tup (ks.map kV))) : (tupleKind (mixKind P w)).is h ks a := by
  obtain ⟨_, its, r, o, h1, h2, n, h3⟩ := (show ObjOk P w H h a (.tup (ks.map kV)) from ok a _ e)
  exact ⟨o, its.toArray, n, h1, h2, h3, by simpa using items_are r⟩
theorem dt_rd {kvs : List (List Key × V)} (ok : HOk P w H h) (e : Rd H a (.dT kvs)) : kvs.length ≤ sizeLine ∧ (a == sysModules) = false ∧
    ∃ xs, KT H kvs xs ∧ h.DictOfH (tupleKind (mixKind P w)) a xs := by
  obtain ⟨z, y, xs, r, o, es, ep, h1, h2, h3, h4, h5⟩ := (show ObjOk P w H h a (.dT kvs) from rd_of ok e)
  refine ⟨z, y, xs, r, o, es, ep, h1, h2, h3, h4, fun x hx => ?_, h5⟩
  have all : ∀ {l : List (List Key × V)} {m : List (List Key × Addr × Value)}, KT H l m → ∀ x ∈ m, (tupleKind (mixKind P w)).is h x.1 x.2.1 := by
    intro l m q
    induction q with
    | nil => intro x hx; exact nomatch hx
    | @cons p q ps qs hq t ih =>
      intro x hx
      rcases List.mem_cons.mp hx with e | hx
      · subst e
        exact key_of ok (by rw [← hq.1]; exact hq.2.1)
      · exact ih x hx
  exact all r x hx
end

def DGet (H : Hp) (a : Addr) (y : V) (r : Option V) : Prop :=
  (∃ kvs k, Rd H a (.dK kvs) ∧ y = kV k ∧ r = valV kvs k) ∨ ∃ kvs k b, Rd H a (.dT kvs) ∧ y = .ref b ∧ H b = some (.tup (k.map kV)) ∧ r = valV kvs k
def DPut (H : Hp) (a : Addr) (y v : V) (H' : Hp) : Prop :=
  (∃ kvs k, H a = some (.dK kvs) ∧ y = kV k ∧ kvs.length < sizeLine ∧ H' = upd H a (.dK (putK kvs k v))) ∨
  ∃ kvs k b, H a = some (.dT kvs) ∧ y = .ref b ∧ H b = some (.tup (k.map kV)) ∧ kvs.length < sizeLine ∧ H' = upd H a (.dT (putK kvs k v))
theorem DGet.k {H : Hp} {a : Addr} {kvs : List (Key × V)} {k : Key} (e : H a = some (.dK kvs)) : DGet H a (kV k) (valV kvs k) := .inl ⟨kvs, k, .inl e, rfl, rfl⟩
theorem DPut.k {H : Hp} {a : Addr} {kvs : List (Key × V)} {k : Key} {v : V} (e : H a = some (.dK kvs)) (hl : kvs.length < sizeLine) : DPut H a (kV k) v (upd H a (.dK (putK kvs k v))) := .inl ⟨kvs, k, e, rfl, hl, rfl⟩
section
variable {X : Cx} {pins : List (Addr × Obj)} {σ : St} {H : Hp} {s : Shared} {a : Addr} {y v : V} {u r : Value} {o : Option V} {A : Around} {E : Value → Shared → Prop}

theorem Inv.big (I : Inv X pins σ H s) : sysModules < s.heap.objs.size := by
  have h : mainGlobals < s.heap.objs.size := (I.mod.glob.keeps I.bk).lt
  exact Nat.lt_trans (by decide) h

theorem d_getItem {Q : Value → Shared → Prop} (hu : A.units + 1 < cLine) (I : Inv X pins σ H s) (g : DGet H a y (some v)) (ry : RelV y u) (h : ∀ w' s', Inv X pins σ H s' → RelV v w' → Q w' s') :
    wpAny (model X.prog X.w) A (getItem (.ref a) u) Q E s := by
  rcases g with ⟨kvs, k, e, ey, l⟩ | ⟨kvs, k, b, e, ey, eb, l⟩
  · subst ey
    obtain ⟨z, hd, vs, rel, dd⟩ := dk_rd I.hok e
    obtain ⟨w', hw, rw'⟩ := RelO.some_of (v := v) (o := valueAt vs k) (by rw [l]; exact rel.val k)
    exact wpAny_getItem_of (kV_is ry) dd.mapOf hw (h w' _ (I.tok _) rw')
  · subst ey
    cases (show u = Value.ref b from ry)
    obtain ⟨z, hd, xs, rel, dd⟩ := dt_rd I.hok e
    obtain ⟨w', hw, rw'⟩ := RelO.some_of (v := v) (o := (atKey xs k).map (·.2)) (by rw [l]; exact rel.val k)
    obtain ⟨p, hp, hp2⟩ := Option.map_eq_some_iff.mp hw
    refine wpAny_getItem_heap (tupleKind_room_in1 hu) (key_of I.hok eb) dd hp ?_
    rw [hp2]
    exact h w' _ (I.tok _) rw'
theorem d_in {Q : Value → Shared → Prop} (hu : A.units + 1 < cLine) (I : Inv X pins σ H s) (g : DGet H a y o) (ry : RelV y u) (h : ∀ s', Inv X pins σ H s' → Q (.bool o.isSome) s') :
    wpAny (model X.prog X.w) A (compareOp .In u (.ref a)) Q E s := by
  rcases g with ⟨kvs, k, e, ey, l⟩ | ⟨kvs, k, b, e, ey, eb, l⟩
  · subst ey
    obtain ⟨z, hd, vs, rel, dd⟩ := dk_rd I.hok e
    refine wpAny_in_of (kV_is ry) hd dd.mapOf ?_
    rw [← (rel.val k).isSome_eq, ← l]
    exact h _ (I.tok _)
  · subst ey
    cases (show u = Value.ref b from ry)
    obtain ⟨z, hd, xs, rel, dd⟩ := dt_rd I.hok e
    refine wpAny_in_heap (tupleKind_room_in1 hu) (key_of I.hok eb) hd dd ?_
    have q := (rel.val k).isSome_eq
    rw [Option.isSome_map] at q
    rw [← q, ← l]
    exact h _ (I.tok _)
theorem d_write {h' : Heap} {t' : Nat} {ob : HO} (I : Inv X pins σ H s) (mu : Mut (H a)) (hs : Heap.SameBut a s.heap h') (he : ∃ q, h'.get? a = some q) (new : ObjOk X.prog X.w (upd H a ob) h' a ob) :
    Inv X pins σ (upd H a ob) { s with heap := h', toks := t' } :=
  I.write (x := a) (e := a) mu (.inl rfl) (fun b q hb z => (hs.2 b hb).trans z) he new
theorem dk_new {P : Program} {w : World} {H' : Hp} {h' : Heap} {kvs : List (Key × V)} {vs : List (Key × Value)} (z : kvs.length ≤ sizeLine) (hd : (a == sysModules) = false) (rel : KV kvs vs) (dd : h'.DictOf (mixKind P w) a vs) :
    ObjOk P w H' h' a (.dK kvs) := ⟨z, hd, vs, rel, dd⟩
end

section
variable {X : Cx} {pins : List (Addr × Obj)} {σ : St} {H : Hp} {s : Shared} {a : Addr} {kvs : List (Key × V)} {k : Key} {u : Value} {A : Around} {E : Value → Shared → Prop}
theorem d_pop {v : V} {more : List Value} {Q : Value → Shared → Prop} (I : Inv X pins σ H s) (e : H a = some (.dK kvs)) (ry : RelV (kV k) u) (l : valV kvs k = some v) (hm : more = [] ∨ ∃ x, more = [x])
    (h : ∀ w' s', Inv X pins σ (upd H a (.dK (dropK kvs k))) s' → RelV v w' → Q w' s') : wpAny (model X.prog X.w) A (call (.builtin "dict.pop") (.ref a :: u :: more)) Q E s := by
  obtain ⟨z, hd, vs, rel, dd⟩ := dk_of I.hok e
  obtain ⟨w', hw, rw'⟩ := RelO.some_of (v := v) (o := valueAt vs k) (by rw [← l]; exact rel.val k)
  have hp : (keyPart u).isSome = true := by
    cases k with
    | inl i => obtain ⟨t, q⟩ := (show ∃ t, u = Value.int i t from ry); subst q; rfl
    | inr x => obtain ⟨t, q⟩ := (show ∃ t, u = Value.str x t from ry); subst q; rfl
  have ha : argsOk "dict.pop" ⟨.ref a :: u :: more, []⟩ := by
    rcases hm with q | ⟨x, q⟩
    · subst q; exact PySem.F.args_dict_pop_2 _ _
    · subst q; exact PySem.F.args_dict_pop_3 _ _ _
  refine call_meetsIn PySem.F.slot_dict_pop dd.typeIs PySem.F.entry_dict_pop ha (meets_dict_pop_there (mixKind X.prog X.w) a (kV_is ry) more hm hp)
    ⟨vs, w', dd, by rw [← rel.length]; exact z, hw, fun h' dd' hs => h w' _ ?_ rw'⟩
  have he : ∃ q, h'.get? a = some q := let ⟨q, _, _, hq, _⟩ := dd'; ⟨q, hq⟩
  exact d_write I (by rw [e]; exact True.intro) hs he (dk_new (Nat.le_trans (dropK_le kvs k) z) hd (rel.drop k) dd')
end


def NoSl (i : Expr) : Prop := ∀ ov iv, subscripted i false ov iv = operate [ov, iv] (getItem ov iv)
theorem subD_of {prog : Program} {w : World} {A : Around} {E : Value → Shared → Prop} {s : Shared} {env : Env} {value slice : Expr} {pos : Pos} {T id : String} {Q : Value → Shared → Prop}
    (hl : typeLookup (.type T) "__getitem__" = pure (some (.builtin id))) (hs : NoSl slice)
    (h : wpAny (model prog w) A (eval value env) (fun o s₁ => wpAny (model prog w) A (eval slice env) (fun i s₂ => s₂.TypeIs o T ∧ wpAny (model prog w) A (getItem o i) Q E s₂) E s₁) E s) :
    wpAny (model prog w) A (eval (.Subscript value slice pos) env) Q E s := by
  refine Subscript_ (wpAny_mono h (fun o s₁ h₁ => wpAny_mono h₁ (fun i s₂ h₂ => ?_) fun _ _ x => x) fun _ _ x => x)
  obtain ⟨hT, h₂⟩ := h₂
  unfold subscriptTail
  refine wpAny_bind ?_
  rw [getitemInPython_of_ne hT.not_modules]
  refine wpAny_bind (wpAny_specialOf hT hl ?_)
  have fin : wpAny (model prog w) A (subscripted slice false o i) (fun r s₃ => wpAny (model prog w) A (letTemporaryGo value o r >>= fun _ => pure r) Q E s₃) E s₂ := by
    rw [hs o i]
    exact wpAny_operating (wpAny_mono h₂ (fun r s₃ h₃ => wpAny_bind (wpAny_letTemporaryGo (wpAny_pure h₃))) fun _ _ x => x)
  first
    | exact wpAny_pure (wpAny_bind fin)
    | exact wpAny_bind (wpAny_pure (wpAny_bind fin))
    | exact wpAny_bind fin

theorem dict_typeIs {X : Cx} {pins : List (Addr × Obj)} {σ : St} {H : Hp} {s : Shared} {a : Addr} {y : V} {o : Option V} (I : Inv X pins σ H s) (g : DGet H a y o) : s.TypeIs (.ref a) "dict" := by
  rcases g with ⟨kvs, k, e, _, _⟩ | ⟨kvs, k, b, e, _, _, _⟩
  · obtain ⟨_, _, vs, _, dd⟩ := dk_rd I.hok e
    exact dd.typeIs
  · obtain ⟨_, _, xs, _, dd⟩ := dt_rd I.hok e
    exact dd.typeIs
def tDGet (td ty : TE) : TE := fun σ H Q => td σ H fun x H1 => ty σ H1 fun y H2 => ∃ a v, x = .ref a ∧ DGet H2 a y (some v) ∧ Q v H2
def tDIn (ty td : TE) : TE := fun σ H Q => ty σ H fun y H1 => td σ H1 fun x H2 => ∃ a o, x = .ref a ∧ DGet H2 a y o ∧ Q (.bl o.isSome) H2
def tDNotIn (ty td : TE) : TE := fun σ H Q => ty σ H fun y H1 => td σ H1 fun x H2 => ∃ a o, x = .ref a ∧ DGet H2 a y o ∧ Q (.bl (!o.isSome)) H2
section
variable {X : Cx} {o i e value : Expr} {pos pos' tpos : Pos} {td ty tv : TE}
theorem pe_dget (hu : X.A.units + 1 < cLine) (ho : PE X o td) (hi : PE X i ty) (hs : NoSl i) : PE X (.Subscript o i pos) (tDGet td ty) := by
  intro pins s σ H Q I h
  refine subD_of PySem.F.slot_dict_getitem.lookup hs (thn (ho pins s σ H _ I h) fun u s1 ⟨x, H1, I1, rx, q1⟩ => thn (hi pins s1 σ H1 _ I1 q1) fun iv s2 ⟨y, H2, I2, ry, a, v, ex, g, q2⟩ => ?_)
  subst ex
  obtain rfl : u = Value.ref a := rx
  exact ⟨dict_typeIs I2 g, d_getItem hu I2 g ry fun w' s3 I3 rw' => ⟨v, H2, I3, rw', q2⟩⟩
end


theorem dk_empty {P : Program} {w : World} {H : Hp} (h : Heap) (hb : sysModules < h.objs.size) : ObjOk P w H (h.push { cls := .type "dict", data := .dict #[] }) h.objs.size (.dK []) :=
  ⟨Nat.zero_le _, beq_eq_false_iff_ne.mpr (Ne.symm (Nat.ne_of_lt hb)), [], .nil, Heap.DictOf.new h⟩
def tDNewK : TE := fun _ H Q => ∀ p, H p = none → Q (.ref p) (upd H p (.dK []))
section
variable {X : Cx} {pos : Pos}
theorem pe_dnewK : PE X (.Dict [] [] pos) tDNewK := fun pins s σ H Q I h =>
  wpAny_Dict_empty ⟨.ref s.heap.objs.size, _, I.laid (a := s.heap.objs.size) (o := .dK []) (t' := s.toks) (fun _ _ q => Heap.get?_push_of_some _ q) (Nat.le_refl _) (dk_empty s.heap I.big), rfl, h _ (I.hok.fresh (Nat.le_refl _))⟩
end

structure M1 (X : Cx) (o : Expr) (m : Str) (apos : Pos) (e : Expr) (cpos : Pos) : Prop where
  base : attributeBase o m X.env (eval o X.env) = eval o X.env
  few : ((backTo cpos (starEach [e] X.env)).all (fun x => !x.1) && (backToKw cpos (keywordEach [] X.env)).all (fun x => x.1.isSome)
    && decide (([e] : List Expr).length + ([] : List Keyword).length + (if ([] : List Keyword).isEmpty then 0 else 1) < 30)) = true
  line : (apos.endLine == cpos.line) = true
  trees : backTo cpos (starEach [e] X.env) = [(false, eval e X.env)]
structure M2 (X : Cx) (o : Expr) (m : Str) (apos : Pos) (e f : Expr) (cpos : Pos) : Prop where
  base : attributeBase o m X.env (eval o X.env) = eval o X.env
  few : ((backTo cpos (starEach [e, f] X.env)).all (fun x => !x.1) && (backToKw cpos (keywordEach [] X.env)).all (fun x => x.1.isSome)
    && decide (([e, f] : List Expr).length + ([] : List Keyword).length + (if ([] : List Keyword).isEmpty then 0 else 1) < 30)) = true
  line : (apos.endLine == cpos.line) = true
  trees : backTo cpos (starEach [e, f] X.env) = [(false, eval e X.env), (false, eval f X.env)]

def IsD (H : Hp) (a : Addr) : Prop := (∃ kvs, Rd H a (.dK kvs)) ∨ ∃ kvs, Rd H a (.dT kvs)
theorem isD_at {X : Cx} {pins : List (Addr × Obj)} {σ : St} {H : Hp} {s : Shared} {a : Addr} (I : Inv X pins σ H s) (d : IsD H a) :
    s.TypeIs (.ref a) "dict" ∧ (∀ b, Value.ref a = .ref b → ∃ ob, s.heap.get? b = some ob ∧ ob.dict = none) ∧ (a == sysModules) = false := by
  rcases d with ⟨kvs, e⟩ | ⟨kvs, e⟩
  · obtain ⟨_, hd, vs, _, dd⟩ := dk_rd I.hok e
    refine ⟨dd.typeIs, fun b q => ?_, hd⟩
    cases q
    obtain ⟨ob, _, _, h1, h2, _⟩ := dd
    exact ⟨ob, h1, h2.2.1⟩
  · obtain ⟨_, hd, xs, _, dd⟩ := dt_rd I.hok e
    refine ⟨dd.typeIs, fun b q => ?_, hd⟩
    cases q
    obtain ⟨ob, _, _, h1, h2, _⟩ := dd
    exact ⟨ob, h1, h2.2.1⟩

section
variable {X : Cx} {pins : List (Addr × Obj)} {σ : St} {H : Hp} {s : Shared} {a : Addr} {y d : V} {u r : Value} {o : Option V} {A : Around} {E : Value → Shared → Prop}
theorem d_get2 {Q : Value → Shared → Prop} (hu : A.units + 1 < cLine) (I : Inv X pins σ H s) (g : DGet H a y o) (ry : RelV y u) (rd : RelV d r) (h : ∀ w' s', Inv X pins σ H s' → RelV (o.getD d) w' → Q w' s') :
    wpAny (model X.prog X.w) A (call (.builtin "dict.get") [.ref a, u, r]) Q E s := by
  rcases g with ⟨kvs, k, e, ey, l⟩ | ⟨kvs, k, b, e, ey, eb, l⟩
  · subst ey
    obtain ⟨z, hd, vs, rel, dd⟩ := dk_rd I.hok e
    refine call_meetsIn PySem.F.slot_dict_get dd.typeIs PySem.F.entry_dict_get (PySem.F.args_dict_get_3 _ _ _) (meets_dict_get_default (mixKind X.prog X.w) a (kV_is ry) hd r) ⟨_, dd.mapOf, h _ _ (I.tok _) ?_⟩
    rw [l]
    exact (rel.val k).getD rd
  · subst ey
    cases (show u = Value.ref b from ry)
    obtain ⟨z, hd, xs, rel, dd⟩ := dt_rd I.hok e
    refine call_meetsIn PySem.F.slot_dict_get dd.typeIs PySem.F.entry_dict_get (PySem.F.args_dict_get_3 _ _ _) (meetsH_dict_get_default (tupleKind (mixKind X.prog X.w)) a b hd r) ⟨tupleKind_room_in1 hu, k, xs, key_of I.hok eb, dd, h _ _ (I.tok _) ?_⟩
    rw [l]
    exact (rel.val k).getD rd
end

def tDGet2 (td ty tx : TE) : TE := fun σ H Q => td σ H fun x H1 => ∃ a, x = .ref a ∧ IsD H1 a ∧ ty σ H1 fun y H2 => tx σ H2 fun z H3 => ∃ o, DGet H3 a y o ∧ Q (o.getD z) H3
def tDPop1 (td ty : TE) : TE := fun σ H Q => td σ H fun x H1 => ∃ a, x = .ref a ∧ IsD H1 a ∧ ty σ H1 fun y H2 => ∃ kvs k v, H2 a = some (.dK kvs) ∧ y = kV k ∧ valV kvs k = some v ∧ Q v (upd H2 a (.dK (dropK kvs k)))
section
variable {X : Cx} {o e f : Expr} {apos cpos : Pos} {td ty tx : TE}
theorem pe_dget2 (hu : X.A.units + 1 < cLine) (ho : PE X o td) (he : PE X e ty) (hf : PE X f tx) (m : M2 X o "get" apos e f cpos) : PE X (.Call (.Attribute o "get" apos) [e, f] [] cpos) (tDGet2 td ty tx) := by
  intro pins s σ H Q I h
  refine wpAny_Call_method m.base m.few m.line PySem.F.plainAttrs_dict PySem.F.slot_dict_get PySem.F.type_dict_get (thn (ho pins s σ H _ I h) fun u s1 ⟨x, H1, I1, rx, a, ex, d, q1⟩ => ?_)
  subst ex
  obtain rfl : u = Value.ref a := rx
  obtain ⟨t1, t2, _⟩ := isD_at I1 d
  refine ⟨t1, t2, ?_⟩
  rw [m.trees]
  refine Calls.callWith_builtin rfl (Calls.evalArgs_plain (Calls.spliced_cons (thn (he pins s1 σ H1 _ I1 q1) fun iv s2 ⟨y, H2, I2, ry, q2⟩ =>
    Calls.spliced_cons (thn (hf pins s2 σ H2 _ I2 q2) fun fv s3 ⟨z, H3, I3, rz, ov, g, q3⟩ => Calls.spliced_nil ?_))))
  exact d_get2 hu I3 g ry rz fun w' s4 I4 rw' => ⟨_, H3, I4, rw', q3⟩
theorem pe_dpop1 (ho : PE X o td) (he : PE X e ty) (m : M1 X o "pop" apos e cpos) : PE X (.Call (.Attribute o "pop" apos) [e] [] cpos) (tDPop1 td ty) := by
  intro pins s σ H Q I h
  refine wpAny_Call_method m.base m.few m.line PySem.F.plainAttrs_dict PySem.F.slot_dict_pop PySem.F.type_dict_pop (thn (ho pins s σ H _ I h) fun u s1 ⟨x, H1, I1, rx, a, ex, d, q1⟩ => ?_)
  subst ex
  obtain rfl : u = Value.ref a := rx
  obtain ⟨t1, t2, _⟩ := isD_at I1 d
  refine ⟨t1, t2, ?_⟩
  rw [m.trees]
  refine Calls.callWith_builtin rfl (Calls.evalArgs_plain (Calls.spliced_cons (thn (he pins s1 σ H1 _ I1 q1) fun iv s2 ⟨y, H2, I2, ry, kvs, k, v, ea, ey, l, q2⟩ => Calls.spliced_nil ?_)))
  subst ey
  exact d_pop I2 ea ry l (.inl rfl) fun w' s3 I3 rw' => ⟨v, _, I3, rw', q2⟩
end

section
variable {X : Cx} {pins : List (Addr × Obj)} {σ : St} {H : Hp} {s : Shared} {a : Addr} {kvs : List (Key × V)} {A : Around} {E : Value → Shared → Prop}
end


section
variable {X : Cx} {pins : List (Addr × Obj)} {σ : St} {H : Hp} {s : Shared} {a : Addr} {y : V} {u : Value} {A : Around} {E : Value → Shared → Prop}
end
end L2
namespace L2
open PySem PySem.Spec PyProof.Rows
section
variable {X : Cx}
end
section
variable {κ : Type} [DecidableEq κ]
theorem valV_not {kvs : List (κ × V)} {k : κ} (h : valV kvs k = none) : ¬ k ∈ kvs.map (·.1) := by
  intro m
  obtain ⟨p, hp, e⟩ := List.mem_map.mp m
  have q : (kvs.any fun kv => decide (kv.1 = k)) = true := List.any_eq_true.mpr ⟨p, hp, decide_eq_true e⟩
  rw [valV_any, h] at q
  exact absurd q (by simp)
end
end L2

set_option maxHeartbeats 4000000
namespace L2
open PySem PySem.Spec PyProof.Rows

theorem noE {α : Type} {M : Model} {A : Around} {t : Sem α} {Q : α → Shared → Prop} {E : Value → Shared → Prop} {s : Shared} (h : wpAny M A t Q (fun _ _ => False) s) : wpAny M A t Q E s :=
  wpAny_mono h (fun _ _ q => q) fun _ _ f => f.elim

def closL (cells : List (Str × Addr)) : List (Str × NameKind) → List (Str × Addr) → List (Str × Addr)
  | [], acc => acc
  | (n, k) :: r, acc => closL cells r (if (k == NameKind.free) = true then (n, (cells.lookup n).getD 0) :: acc else acc)
theorem closL_sub {cells : List (Str × Addr)} {y : Str} {c : Addr} : ∀ (names : List (Str × NameKind)) (acc : List (Str × Addr)),
    (closL cells names acc).lookup y = some c → acc.lookup y = some c ∨ ((y, NameKind.free) ∈ names ∧ c = (cells.lookup y).getD 0)
  | [], acc, h => .inl h
  | (n, k) :: r, acc, h => by
    rcases closL_sub r _ h with h1 | ⟨h1, h2⟩
    · by_cases hk : (k == NameKind.free) = true
      · rw [if_pos hk, List.lookup_cons] at h1
        by_cases e : (y == n) = true
        · rw [e] at h1
          have e1 : y = n := by simpa using e
          have e2 : k = NameKind.free := by simpa using hk
          subst e1 e2
          exact .inr ⟨List.mem_cons_self, (Option.some.inj h1).symm⟩
        · have e1 : (y == n) = false := by simpa using e
          rw [e1] at h1
          exact .inl h1
      · rw [if_neg hk] at h1
        exact .inl h1
    · exact .inr ⟨List.mem_cons_of_mem _ h1, h2⟩
theorem closL_keeps {cells : List (Str × Addr)} {y : Str} : ∀ (names : List (Str × NameKind)) (acc : List (Str × Addr)), (∃ c, acc.lookup y = some c) → ∃ c, (closL cells names acc).lookup y = some c
  | [], _, h => h
  | (n, k) :: r, acc, h => by
    refine closL_keeps r _ ?_
    by_cases hk : (k == NameKind.free) = true
    · rw [if_pos hk, List.lookup_cons]
      by_cases e : (y == n) = true
      · rw [e]; exact ⟨_, rfl⟩
      · have e1 : (y == n) = false := by simpa using e
        rw [e1]; exact h
    · rw [if_neg hk]; exact h
theorem closL_has {cells : List (Str × Addr)} {y : Str} : ∀ (names : List (Str × NameKind)) (acc : List (Str × Addr)), (y, NameKind.free) ∈ names → ∃ c, (closL cells names acc).lookup y = some c
  | [], _, h => by simp at h
  | (n, k) :: r, acc, h => by
    rcases List.mem_cons.mp h with h | h
    · cases h
      refine closL_keeps r _ ?_
      rw [if_pos (by rfl), List.lookup_cons, beq_self_eq_true]
      exact ⟨_, rfl⟩
    · exact closL_has r _ h
theorem closureFor_free {scope : Scope} {env : Env} (h : ∀ x, (x, NameKind.free) ∈ scope.names → ∃ c, env.cells.lookup x = some c) : closureFor scope env = pure (closL env.cells scope.names []) := by
  have go : ∀ (names : List (Str × NameKind)) (acc : List (Str × Addr)), (∀ x, (x, NameKind.free) ∈ names → ∃ c, env.cells.lookup x = some c) →
      (forIn names acc fun (x : Str × NameKind) (cs : List (Str × Addr)) => match x with
        | (name, kind) => if (kind == NameKind.free) = true then do let a ← cellOf env name; pure (ForInStep.yield ((name, a) :: cs)) else pure (ForInStep.yield cs) : Sem (List (Str × Addr)))
      = pure (closL env.cells names acc) := by
    intro names
    induction names with
    | nil => intro acc _; rfl
    | cons x r ih =>
      intro acc hx
      obtain ⟨n, k⟩ := x
      rw [List.forIn_cons]
      by_cases hk : (k == NameKind.free) = true
      · have e2 : k = NameKind.free := by simpa using hk
        obtain ⟨c, hc⟩ := hx n (by rw [e2]; exact List.mem_cons_self)
        have hcell : cellOf env n = pure c := by unfold cellOf; rw [hc]
        simp only [hk, if_true, hcell]
        show (forIn r ((n, c) :: acc) _ : Sem (List (Str × Addr))) = _
        rw [ih _ fun y hy => hx y (List.mem_cons_of_mem _ hy)]
        simp only [closL, hk, if_true, hc, Option.getD_some]
      · simp only [hk, if_false]
        show (forIn r acc _ : Sem (List (Str × Addr))) = _
        rw [ih _ fun y hy => hx y (List.mem_cons_of_mem _ hy)]
        simp only [closL, hk, if_false]
        rfl
  have := go scope.names [] h
  unfold closureFor
  exact (congrArg (fun (t : Sem (List (Str × Addr))) => t >>= fun cs => (pure cs : Sem (List (Str × Addr)))) this).trans rfl

theorem lookup_relabel_free {env : Env} : ∀ {names : List (Str × NameKind)} {x : Str}, names.lookup x = some .free →
    (names.map fun (n, k) => if (k == NameKind.free && env.scope.kind == .function && env.kindOf n == some .cell) then (n, NameKind.cell) else (n, k)).lookup x = some .cell ∨
    (names.map fun (n, k) => if (k == NameKind.free && env.scope.kind == .function && env.kindOf n == some .cell) then (n, NameKind.cell) else (n, k)).lookup x = some .free
  | [], _, h => by simp at h
  | (n, k) :: r, x, h => by
    have ih := @lookup_relabel_free env r x
    show List.lookup x ((if (k == NameKind.free && env.scope.kind == .function && env.kindOf n == some .cell) = true then (n, NameKind.cell) else (n, k)) :: _) = _ ∨ List.lookup x ((if (k == NameKind.free && env.scope.kind == .function && env.kindOf n == some .cell) = true then (n, NameKind.cell) else (n, k)) :: _) = _
    cases hx : x == n with
    | true =>
      simp only [List.lookup_cons, hx] at h
      cases h
      by_cases hc : (NameKind.free == NameKind.free && env.scope.kind == .function && env.kindOf n == some .cell) = true
      · rw [if_pos hc]; left; simp [List.lookup_cons, hx]
      · rw [if_neg hc]; right; simp [List.lookup_cons, hx]
    | false =>
      simp only [List.lookup_cons, hx] at h
      by_cases hc : (k == NameKind.free && env.scope.kind == .function && env.kindOf n == some .cell) = true
      · rw [if_pos hc]; simp only [List.lookup_cons, hx]; exact ih h
      · rw [if_neg hc]; simp only [List.lookup_cons, hx]; exact ih h
theorem lookup_relabel_back {env : Env} {k : NameKind} : ∀ {names : List (Str × NameKind)} {x : Str},
    (names.map fun (n, k) => if (k == NameKind.free && env.scope.kind == .function && env.kindOf n == some .cell) then (n, NameKind.cell) else (n, k)).lookup x = some k →
    names.lookup x = some k ∨ (k = .cell ∧ names.lookup x = some .free)
  | [], _, h => by simp at h
  | (n, j) :: r, x, h => by
    have ih := @lookup_relabel_back env k r x
    have h' : List.lookup x ((if (j == NameKind.free && env.scope.kind == .function && env.kindOf n == some .cell) = true then (n, NameKind.cell) else (n, j)) :: r.map fun (n, k) => if (k == NameKind.free && env.scope.kind == .function && env.kindOf n == some .cell) then (n, NameKind.cell) else (n, k)) = some k := h
    cases hx : x == n with
    | true =>
      by_cases hc : (j == NameKind.free && env.scope.kind == .function && env.kindOf n == some .cell) = true
      · rw [if_pos hc] at h'
        simp only [List.lookup_cons, hx] at h' ⊢
        cases h'
        have e : j = NameKind.free := by
          have := hc
          simp only [Bool.and_eq_true] at this
          simpa using this.1.1
        rw [e]
        exact .inr ⟨rfl, rfl⟩
      · rw [if_neg hc] at h'
        simp only [List.lookup_cons, hx] at h' ⊢
        exact .inl h'
    | false =>
      by_cases hc : (j == NameKind.free && env.scope.kind == .function && env.kindOf n == some .cell) = true
      · rw [if_pos hc] at h'; simp only [List.lookup_cons, hx] at h' ⊢; exact ih h'
      · rw [if_neg hc] at h'; simp only [List.lookup_cons, hx] at h' ⊢; exact ih h'

def compChk (sc osc : Scope) (N N' : List Str) (sel : List (Option Nat)) : Bool :=
  (sc.names.all fun p => match p.2 with
    | .free => (osc.names.lookup p.1 == some .cell || osc.names.lookup p.1 == some .free) && sc.names.lookup p.1 == some .free
    | .cell => false
    | .local => sc.names.lookup p.1 == some .local
    | _ => true) && N'.length == sel.length && ((N'.zip sel).all fun p => match p.2 with
      | none => true
      | some j => N[j]? == some p.1 && sc.names.lookup p.1 == some .free)
def selS (sel : List (Option Nat)) (σ : St) : St := sel.map fun o => o.bind fun j => (σ[j]?).join

def cxComp (X : Cx) (N' : List Str) (scope : Scope) (C : Addr) (s : Shared) (H : Hp) (fp : List Addr) (pn : List (Addr × Obj)) : Cx where
  prog := X.prog
  w := X.w
  K := X.K
  mg := X.mg
  base := X.base
  A := X.A
  N := N'
  s₀ := s
  H₀ := H
  env := compEnvC scope (closL X.env.cells scope.names []) C X.env
  outer := X.stack
  stack := X.stack
  ex := fp
  fn := fun x => decide (scope.names.lookup x = some NameKind.local)
  calm := X.calm
  pn := pn
  xe := fun _ _ => False

section
variable {X : Cx} {pins : List (Addr × Obj)} {σ : St} {H : Hp} {s : Shared}

structure ChkOk (X : Cx) (sc : Scope) (N' : List Str) (sel : List (Option Nat)) : Prop where
  fr : ∀ x, (x, NameKind.free) ∈ sc.names → (X.env.kindOf x = some .cell ∨ X.env.kindOf x = some .free) ∧ sc.names.lookup x = some .free
  nc : ∀ y ∈ sc.names, y.2 ≠ NameKind.cell
  lo : ∀ y ∈ sc.names, y.2 = NameKind.local → sc.names.lookup y.1 = some .local
  ln : N'.length = sel.length
  sl : ∀ (i : Nat) (x : Str) (j : Nat), N'[i]? = some x → sel[i]? = some (some j) → X.N[j]? = some x ∧ sc.names.lookup x = some .free
theorem chk_ok {sc : Scope} {N' : List Str} {sel : List (Option Nat)} (h : compChk sc X.env.scope X.N N' sel = true) : ChkOk X sc N' sel := by
  unfold compChk at h
  simp only [Bool.and_eq_true] at h
  obtain ⟨⟨h1, h2⟩, h3⟩ := h
  rw [List.all_eq_true] at h1 h3
  refine ⟨fun x hx => ?_, fun y hy e => ?_, fun y hy e => ?_, by simpa using h2, fun i x j e1 e2 => ?_⟩
  · have := h1 _ hx
    simp only [Bool.and_eq_true, Bool.or_eq_true, beq_iff_eq] at this
    exact this
  · have := h1 _ hy
    rw [e] at this
    simp at this
  · have := h1 _ hy
    rw [e] at this
    simpa using this
  · have hm : (x, some j) ∈ N'.zip sel := by
      refine List.mem_of_getElem? (i := i) ?_
      rw [List.getElem?_zip_eq_some]
      exact ⟨e1, e2⟩
    have := h3 _ hm
    simp only [Bool.and_eq_true, beq_iff_eq] at this
    exact this

theorem clos_cells (I : Inv X pins σ H s) {sc : Scope} {N' : List Str} {sel : List (Option Nat)} (k : ChkOk X sc N' sel) :
    (∀ x, (x, NameKind.free) ∈ sc.names → ∃ c, X.env.cells.lookup x = some c) ∧ (∀ x c, (closL X.env.cells sc.names []).lookup x = some c → X.env.cells.lookup x = some c ∧ (x, NameKind.free) ∈ sc.names) := by
  have a : ∀ x, (x, NameKind.free) ∈ sc.names → ∃ c, X.env.cells.lookup x = some c := fun x hx => I.ok.has x (k.fr x hx).1
  refine ⟨a, fun x c h => ?_⟩
  rcases closL_sub _ _ h with h | ⟨h, e⟩
  · simp at h
  · obtain ⟨c', hc⟩ := a x h
    rw [hc] at e
    exact ⟨by rw [hc, e]; rfl, h⟩

theorem inv_block (I : Inv X pins σ H s) {scope : Scope} {N' : List Str} {sel : List (Option Nat)} {C : Addr} {fp : List Addr} {h₁ : Heap} {t' : Nat} {m : Str → Option Value} (hk : scope.kind = .function)
    (k : ChkOk X scope N' sel) (hC : s.heap.objs.size ≤ C) (hf : ∀ b ∈ fp, FpOk X pins H b) (hfl : ∀ b ∈ fp, b < s.heap.objs.size) (hns : h₁.Ns C m) (hkeep : ∀ b o, s.heap.get? b = some o → h₁.get? b = some o) :
    Inv (cxComp X N' scope C s H fp (X.pn ++ pins)) [] (selS sel σ) H { s with heap := h₁, toks := t' } := by
  obtain ⟨cl1, cl2⟩ := clos_cells I k
  have lkf : ∀ x, scope.names.lookup x = some .free → (relabel scope X.env).names.lookup x = some .cell ∨ (relabel scope X.env).names.lookup x = some .free := fun x hx => lookup_relabel_free hx
  have hfr : ∀ x, (relabel scope X.env).names.lookup x = some .cell ∨ (relabel scope X.env).names.lookup x = some .free → (x, NameKind.free) ∈ scope.names := fun x hx => by
    rcases hx with hx | hx
    · rcases lookup_relabel_back hx with h | ⟨_, h⟩
      · exact absurd rfl (k.nc _ (PySem.mem_of_lookup h))
      · exact PySem.mem_of_lookup h
    · rcases lookup_relabel_back hx with h | ⟨e, h⟩
      · exact PySem.mem_of_lookup h
      · exact PySem.mem_of_lookup h
  refine ⟨⟨I.ok.mod, hk, I.ok.glob, I.ok.blt, hC, fun x y c h1 h2 => ?_, fun x hx => ?_, fun x c h1 h2 => ?_, I.ok.hd, I.ok.frames, .inl rfl, fun b hb => ?_, I.bs, Nat.le_trans I.ok.bsz I.sz, fun b o e hb => ?_, fun b hb hb2 => ?_, I.stack, I.stkFree⟩,
    rfl, I.bare, Un.kept hkeep, ⟨m, hns, fun i x v e1 e2 e3 => ?_⟩, fun x c h => ?_, I.hok.fresh hC, fun x c h => ?_, fun p hp => ?_, I.hok.kept hkeep, ?_⟩
  · exact I.ok.inj x y c (cl2 x c h1).1 (cl2 y c h2).1
  · exact closL_has _ _ (hfr x hx)
  · have h1' : scope.names.lookup x = some NameKind.local := of_decide_eq_true h1
    have := (k.fr x (cl2 x c h2).2).2
    rw [h1'] at this
    cases this
  · refine ⟨Nat.ne_of_lt (Nat.lt_of_lt_of_le (hfl b hb) hC), fun x c h => ?_⟩
    exact (hf b hb).2.2.2.2.1 x c (cl2 x c h).1
  · rcases (hf b hb).2.2.2.1 with z | z
    · exact I.ok.noex b o e z
    · exact absurd (Nat.lt_of_lt_of_le (Heap.lt_size e) (Nat.le_trans I.ok.bsz z)) (Nat.lt_irrefl _)
  · rcases List.mem_cons.mp (I.stkSub b hb2) with z | z
    · exact (hf b hb).2.1 z
    · exact (hf b hb).2.2.1 z
  · -- a free name
    have e2' : sel[i]?.map (fun o => o.bind fun j => (σ[j]?).join) = some (some v) := by
      have := e2
      unfold selS at this
      rwa [List.getElem?_map] at this
    cases hs : sel[i]? with
    | none => rw [hs] at e2'; cases e2'
    | some o =>
      rw [hs] at e2'
      cases o with
      | none => cases e2'
      | some j =>
        have e4 : (σ[j]?).join = some v := Option.some.inj e2'
        have e5 : σ[j]? = some (some v) := by
          cases q : σ[j]? with
          | none => rw [q] at e4; cases e4
          | some r => rw [q] at e4; rw [show r = some v from e4]
        obtain ⟨hX, hl⟩ := k.sl i x j e1 hs
        obtain ⟨kk, _⟩ := k.fr x (PySem.mem_of_lookup hl)
        obtain ⟨m0, _, hloc⟩ := I.loc
        obtain ⟨u, ru, lu⟩ := hloc j x v hX e5 (kk.elim (fun z => .inr (.inl z)) fun z => .inr (.inr z))
        refine ⟨u, ru, ?_⟩
        rcases lu with ⟨z, _⟩ | ⟨_, c, hc, hcell⟩
        · rcases kk with y | y <;> (rw [z] at y; cases y)
        · refine .inr ⟨lkf x hl, c, ?_, hcell.keeps hkeep⟩
          obtain ⟨c', hc'⟩ := closL_has (cells := X.env.cells) scope.names [] (PySem.mem_of_lookup hl)
          have := (cl2 x c' hc').1
          rw [hc] at this
          cases this
          exact hc'
  · obtain ⟨v, z⟩ := I.cell x c (cl2 x c h).1
    exact ⟨v, z.keeps hkeep⟩
  · exact I.freeC x c (cl2 x c h).1
  · have hp' : p ∈ X.pn ++ pins := by
      have : p ∈ (X.pn ++ pins) ++ [] := hp
      rwa [List.append_nil] at this
    obtain ⟨e, n, ne, nf, d⟩ := I.pin p hp'
    refine ⟨hkeep _ _ e, n, Nat.ne_of_lt (Nat.lt_of_lt_of_le (Heap.lt_size e) hC), fun z => ?_, d⟩
    rcases List.mem_cons.mp (I.stkSub _ z) with z | z
    · exact ne z
    · exact nf z
  · show (sel.map _).length = N'.length
    rw [List.length_map]
    exact k.ln.symm

def PTs (X : Cx) (ifs : List Expr) (t : TT) : Prop :=
  ∀ (pins : List (Addr × Obj)) (s : Shared) (σ : St) (H : Hp) (Q : Bool → Hp → Prop), Inv X pins σ H s → t σ H Q →
    wpAny (model X.prog X.w) X.A (forIn ifs true fun c r => if r = true then do let ok ← isTrue c X.env (eval c X.env); pure (ForInStep.yield ok) else pure (ForInStep.yield r)) (TP X pins σ Q) X.xe s
def tTrue : TT := fun _ H Q => Q true H
theorem pts_nil : PTs X [] tTrue := fun _ _ _ H _ I h => wpAny_tests_nil ⟨H, I, h⟩
theorem compLoop_any {prog : Program} {w : World} {A : Around} {R : Result → Shared → Prop} {s : Shared} {elt target iter : Expr} {ifs : List Expr} {scope : Scope} {pos : Pos} {it acc : Value} {env : Env} (I : Nat → Shared → Prop)
    (turn : ∀ n s, I n s → wpAny (model prog w) A (pyNext it) (fun r s₁ => match r with
      | none => R (.ok .next) s₁
      | some v => wpAny (model prog w) A (letOwnedTupleGo target it v) (fun _ s₁' => wpAny (model prog w) A (assign target env v) (fun _ s₂ =>
          wpAny (model prog w) A (forIn ifs true fun c r => if r = true then do let ok ← isTrue c env (eval c env); pure (ForInStep.yield ok) else pure (ForInStep.yield r)) (fun ok s₃ =>
            if ok = true then wpAny (model prog w) A (eval elt env) (fun x s₄ =>
              wpAny (model prog w) A (call (.builtin "list.append") [acc, x]) (fun _ s₅ => ∃ m, m < n ∧ I m s₅) (notedBy (model prog w) A env fun e s' => R (.error e) s') s₄) (notedBy (model prog w) A env fun e s' => R (.error e) s') s₃
            else ∃ m, m < n ∧ I m s₃) (notedBy (model prog w) A env fun e s' => R (.error e) s') s₂) (notedBy (model prog w) A env fun e s' => R (.error e) s') s₁') (notedBy (model prog w) A env fun e s' => R (.error e) s') s₁) (notedBy (model prog w) A env fun e s' => R (.error e) s') s)
    (n : Nat) (h : I n s) :
    codeAny (model prog w) A (.compLoop (.ListComp elt [⟨target, iter, ifs, 0⟩] scope pos) 0 it acc env) R s := by
  refine codeAny_loop rfl I (fun n s hI => ?_) n h
  show wpAny _ A ((compTurn (.ListComp elt [⟨target, iter, ifs, 0⟩] scope pos) 0 it acc env).onRaise (fun x => do noteFrame x env; theTreesLotGoes x)) _ _ s
  refine wpAny_noted ?_
  rw [compTurn_list]
  refine wpAny_bind (wpAny_standAt (wpAny_bind (wpAny_mono (turn n s hI) (fun r s₁ h₁ => ?_) fun _ _ h' => h')))
  cases r with
  | none => exact wpAny_pure h₁
  | some v =>
    refine wpAny_bind (wpAny_mono h₁ (fun _ s₁' h₁' => ?_) fun _ _ h' => h')
    refine wpAny_bind (wpAny_mono h₁' (fun _ s₂ h₂ => wpAny_bind (wpAny_mono h₂ (fun ok s₃ h₃ => ?_) fun _ _ h' => h')) fun _ _ h' => h')
    cases ok with
    | false => exact wpAny_pure ⟨rfl, h₃⟩
    | true =>
      exact wpAny_bind (wpAny_bind (wpAny_mono h₃ (fun x s₄ h₄ => wpAny_bind (wpAny_mono h₄ (fun _ s₅ h₅ => wpAny_pure (wpAny_pure ⟨rfl, h₅⟩)) fun _ _ h' => h')) fun _ _ h' => h'))

def lcTurn (sel : List (Option Nat)) (g : TG) (tt : TT) (te : TE) (σ : St) (J : It) (W : Nat → Nat → List V → Hp → Prop) (Q : List V → Hp → Prop) : Prop :=
  ∀ i m ys H, W i m ys H → (J.stop i H ∧ Q ys H) ∨
    (J.go i H ∧ ys.length < sizeLine ∧ ∃ N : List V → Hp → Prop, (∀ ys' H', N ys' H' → ∃ m', m' < m ∧ W (i + 1) m' ys' H') ∧
      ∀ x H', J.yld i H x H' → g x (selS sel σ) H' fun σ2 H2 => tt σ2 H2 fun b H3 => if b = true then te σ2 H3 fun y H4 => N (ys ++ [y]) H4 else N ys H3)

def GKeeps (sel : List (Option Nat)) (g : TG) : Prop := ∀ (σ : St) (x : V) (H : Hp) (Q : St → Hp → Prop), g x (selS sel σ) H Q → g x (selS sel σ) H fun σ2 H2 => (∀ (i : Nat) v, (selS sel σ)[i]? = some (some v) → σ2[i]? = some (some v)) ∧ Q σ2 H2
theorem sel_none {sel : List (Option Nat)} {i : Nat} {σ : St} {v : V} (h : sel[i]? = some none) : ¬ (selS sel σ)[i]? = some (some v) := fun e => by
  unfold selS at e
  rw [List.getElem?_map, h] at e
  cases e
theorem set_keeps {sel : List (Option Nat)} {i : Nat} {σ σ2 : St} {x : V} (h : sel[i]? = some none) (k : ∀ (j : Nat) v, (selS sel σ)[j]? = some (some v) → σ2[j]? = some (some v)) :
    ∀ (j : Nat) v, (selS sel σ)[j]? = some (some v) → (σ2.set i (some x))[j]? = some (some v) := fun j v e => by
  by_cases hj : i = j
  · subst hj; exact absurd e (sel_none h)
  · rw [List.getElem?_set_ne hj]; exact k j v e
theorem gk_name {sel : List (Option Nat)} {i : Nat} (h : sel[i]? = some none) : GKeeps sel (gName i) := fun _ _ _ _ q => ⟨set_keeps h fun _ _ e => e, q⟩
theorem lc_block {elt tg iter : Expr} {ifs : List Expr} {scope : Scope} {pos : Pos} {N' : List Str} {sel : List (Option Nat)} {g : TG} {tt : TT} {te : TE} {it : Addr} {fp : List Addr} {tn : Nat → Heap → Prop} {J : It}
    {W : Nat → Nat → List V → Hp → Prop} {Qe : List V → Hp → Prop} {RR : Value → Addr → Result → Shared → Prop} {E : Value → Shared → Prop} {m0 : Nat}
    (hc : X.calm = true) (hk : scope.kind = .function) (k : ChkOk X scope N' sel) (I : Inv X pins σ H s) (T : Turn X.prog X.w X.K tg J fp it tn) (st : tn 0 s.heap) (f2 : ∀ b ∈ fp, FpOk X pins H b)
    (hb : ∀ (C : Addr) (s : Shared) (H : Hp) (fp : List Addr) (pn : List (Addr × Obj)), PG (cxComp X N' scope C s H fp pn) tg g ∧ PTs (cxComp X N' scope C s H fp pn) ifs tt ∧ PE (cxComp X N' scope C s H fp pn) elt te)
    (hgk : GKeeps sel g) (w0 : W 0 m0 [] H) (turn : lcTurn sel g tt te σ J W Qe)
    (hRR : ∀ (D C : Addr) (s' : Shared) (H' : Hp) (ys : List V) (m : Str → Option Value), H' D = none → Inv X pins σ (upd H' D (.lst ys)) s' → s'.heap.Ns C m → FpOk X pins (upd H' D (.lst ys)) C → Qe ys H' → RR (.ref D) C (.ok .next) s') :
    wpAny (model X.prog X.w) X.A (newList []) (fun acc s₃ => wpAny (model X.prog X.w) X.A (newFunctionEnv scope X.env.globals (closL X.env.cells scope.names []) [] X.env.qual none .none (some X.env)) (fun cenv s₄ =>
      codeAny (model X.prog X.w) X.A (.compStart (.ListComp elt [⟨tg, iter, ifs, 0⟩] scope pos) 0 (.ref it) acc { cenv with scope := relabel scope X.env }) (RR acc cenv.locals) s₄) E s₃) E s := by
  refine wpAny_newObj_type (wpAny_newFunctionEnv k.nc (by intro y hy; simp at hy) (fun h₁ hns₁ hsb₁ => ?_) hk)
  dsimp only at hns₁ hsb₁ ⊢
  generalize hH2 : s.heap.push { cls := .type "list", dict := none, data := .seq ([] : List Value).toArray } = H2 at hns₁ hsb₁ ⊢
  have hC : H2.objs.size = s.heap.objs.size + 1 := by rw [← hH2, Heap.size_push]
  have hDC : s.heap.objs.size ≠ H2.objs.size := by rw [hC]; exact Nat.ne_of_lt (Nat.lt_succ_self _)
  have hCle : s.heap.objs.size ≤ H2.objs.size := by rw [hC]; exact Nat.le_succ _
  have below : ∀ b, b < s.heap.objs.size → b ≠ H2.objs.size ∧ b ≠ s.heap.objs.size := fun b hb => ⟨by rw [hC]; exact Nat.ne_of_lt (Nat.lt_succ_of_lt hb), Nat.ne_of_lt hb⟩
  have old : ∀ b o, s.heap.get? b = some o → h₁.get? b = some o := fun b o e => hsb₁.extBut b o (below b (Heap.lt_size e)).1 (Heap.get?_push_of_some _ (hH2 ▸ Heap.get?_push_of_some _ e))
  have hacc : h₁.get? s.heap.objs.size = some { cls := .type "list", data := .seq ([] : List Value).toArray } := hsb₁.extBut _ _ hDC (Heap.get?_push_of_some _ (hH2 ▸ Heap.get?_push_size _ rfl))
  have hfl : ∀ b ∈ fp, b < s.heap.objs.size := fun b hb => let ⟨_, e, _⟩ := T.obj 0 _ st b hb; Heap.lt_size e
  have hst₁ : tn 0 h₁ := T.keep _ _ _ st fun b _ o e => old b o e
  generalize hDe : s.heap.objs.size = D at hDC hCle below hacc hfl ⊢
  generalize hCe : H2.objs.size = C at hns₁ hsb₁ hC hDC hCle below ⊢
  have fD : ∀ {H' : Hp}, H' D = none → FpOk X pins H' D := fun hn => I.fpOk (by rw [hDe]; exact Nat.le_refl _) hn
  have fC : ∀ {H' : Hp}, H' C = none → FpOk X pins H' C := fun hn => I.fpOk (by rw [hDe]; exact hCle) hn
  have HD : H D = none := I.hok.fresh (by rw [hDe]; exact Nat.le_refl _)
  -- the pin of the new list, in the block
  have pinD : ∀ {o : Obj} {σ' : St} {H' : Hp} {s' : Shared} {ps : List (Addr × Obj)}, Inv (cxComp X N' scope C s H fp (X.pn ++ pins)) ps σ' H' s' → s'.heap.get? D = some o → H' D = none → (∀ v, o.data ≠ .cell v) →
      Inv (cxComp X N' scope C s H fp (X.pn ++ pins)) (ps ++ [(D, o)]) σ' H' s' := fun {o σ' H' s' ps} J1 e n d => by
    refine J1.pins_of fun p hp => ?_
    rcases List.mem_append.mp hp with hp | hp
    · exact J1.pin p (List.mem_append_right _ hp)
    · rw [List.mem_singleton.mp hp]
      refine ⟨e, n, hDC, fun z => ?_, d⟩
      rcases List.mem_cons.mp (I.stkSub D z) with z | z
      · exact (fD HD).2.1 z
      · exact (fD HD).2.2.1 z
  have loop : ∀ s₃ : Shared, s₃ = { s with heap := h₁, toks := s.toks + ([] : List (Str × Value)).length } →
      codeAny (model X.prog X.w) X.A (.compLoop (.ListComp elt [⟨tg, iter, ifs, 0⟩] scope pos) 0 (.ref it) (.ref D) (compEnvC scope (closL X.env.cells scope.names []) C X.env)) (RR (.ref D) C) s₃ := by
    rintro s₃ rfl
    have I4 : Inv (cxComp X N' scope C s H fp (X.pn ++ pins)) [] (selS sel σ) H { s with heap := h₁, toks := s.toks + ([] : List (Str × Value)).length } :=
      inv_block I hk k (by rw [hDe]; exact hCle) f2 (fun b hb => by rw [hDe]; exact hfl b hb) hns₁ old
    refine compLoop_any (fun n s' => ∃ i H' ys its nn, Inv (cxComp X N' scope C s H fp (X.pn ++ pins)) [] (selS sel σ) H' s' ∧ tn i s'.heap ∧ (∀ b ∈ fp, H' b = none) ∧ H' D = none ∧
      s'.heap.get? D = some { cls := .type "list", data := .seq (List.toArray its) nn } ∧ Vals ys its ∧ ys.length ≤ sizeLine ∧ W i n ys H') ?_ m0 ⟨0, H, [], [], 0, I4, hst₁, fun b hb => (f2 b hb).1, HD, hacc, .nil, Nat.zero_le _, w0⟩
    rintro n s3 ⟨i, H3, ys, its, nn, I3, st3, fr3, hD3, o3, v3, z3, w3⟩
    have I3' := pinD I3 o3 hD3 (fun v z => by cases z)
    have stat : ∀ {ps : List (Addr × Obj)} {H' : Hp}, (∀ p ∈ ps, p.1 = D) → (∀ b ∈ fp, H' b = none) → ∀ b ∈ fp, FpOk (cxComp X N' scope C s H fp (X.pn ++ pins)) ps H' b := fun {ps H'} hps hn b hb => by
      obtain ⟨a0, a1, a2, a3, a4, a5⟩ := f2 b hb
      refine ⟨hn b hb, Nat.ne_of_lt (Nat.lt_of_lt_of_le (hfl b hb) hCle), fun z => ?_, .inl hb, fun x c h => a4 x c ((clos_cells I k).2 x c h).1, fun p hp => ?_⟩
      · rcases List.mem_cons.mp (I.stkSub b z) with z | z
        · exact a1 z
        · exact a2 z
      · rcases List.mem_append.mp hp with hp | hp
        · exact a5 p hp
        · rw [hps p hp]
          exact (Nat.ne_of_lt (hfl b hb)).symm
    rcases turn i n ys H3 w3 with ⟨stop, qe⟩ | ⟨go, hz, Nn, hNn, step⟩
    · refine noE (thn (T.done (cxComp X N' scope C s H fp (X.pn ++ pins)) rfl rfl rfl hc i _ s3 _ H3 _ I3' (stat (fun p hp => by have : p ∈ [] ++ [(D, _)] := hp; rw [List.nil_append] at this; rw [List.mem_singleton.mp this]) fr3) st3 stop) fun r s4 ⟨hr, J4⟩ => ?_)
      subst hr
      obtain ⟨m4, n4, _⟩ := id J4.loc
      have o4 := (J4.pin (D, _) (List.mem_append_right _ (List.mem_append_right _ (List.mem_singleton.mpr rfl)))).1
      have hC4 : H3 C = none := J4.free
      have hDC' : C ≠ D := Ne.symm hDC
      refine hRR D C s4 H3 ys m4 hD3 (I.call' (ch := fp) J4.os ?_ ?_ J4.bare (fun b hb => ?_)) n4 (fC (by rw [upd_ne hDC']; exact hC4)) qe
      · have u := J4.base
        have nD : ∀ b o, s.heap.get? b = some o → b ≠ D := fun b o e => by rw [← hDe]; exact Nat.ne_of_lt (Heap.lt_size e)
        have nD2 : ∀ b o, H b = some o → b ≠ D := fun b o e => ne_of_none e HD
        exact ⟨u.keep, u.slot, fun b o e n hx => by rw [upd_ne (nD b o e)]; exact u.free b o e n hx, u.there, fun b xs e => by rw [upd_ne (nD2 b _ e)]; exact u.tups b xs e,
          fun b o w e => by rw [upd_ne (nD2 b _ e)]; exact u.frzs b o w e, fun b ps e => by rw [upd_ne (nD2 b _ e)]; exact u.tbls b ps e⟩
      · intro b o e
        by_cases hbD : b = D
        · subst hbD
          rw [upd_same] at e
          cases e
          exact ⟨z3, its, nn, v3, o4⟩
        · rw [upd_ne hbD] at e
          exact (J4.hok b o e).stay (fun c u _ q => q) (fun c q => by rw [upd_ne (ne_of_none q hD3)]; exact q) fun c xs q => by rw [upd_ne (ne_of_none q hD3)]; exact q
      · obtain ⟨a0, a1, a2, a3, a4, a5⟩ := f2 b hb
        exact ⟨a3, a1, a4, a5⟩
    · refine noE (thn (T.item (cxComp X N' scope C s H fp (X.pn ++ pins)) rfl rfl rfl hc i _ s3 _ H3 _ I3' (stat (fun p hp => by have : p ∈ [] ++ [(D, _)] := hp; rw [List.nil_append] at this; rw [List.mem_singleton.mp this]) fr3) st3 go) fun r s4 ⟨u, hr, h4⟩ => ?_)
      subst hr
      refine noE (thn h4 fun _ s5 ⟨x, H5, I5, r5, y5, st5, fr5⟩ => ?_)
      obtain ⟨hb1, hb2, hb3⟩ := hb C s H fp (X.pn ++ pins)
      have I5' := I5.pinned (stat (fun p hp => by have : p ∈ [] ++ [(D, _)] := hp; rw [List.nil_append] at this; rw [List.mem_singleton.mp this]) fr5) (T.obj _ _ st5)
      refine noE (thn (hb1 _ s5 _ H5 x u _ I5' r5 (hgk _ _ _ _ (step x H5 y5))) fun _ s6 ⟨σ6, H6, I6, hw6, q6⟩ => ?_)
      refine noE (thn (hb2 _ s6 σ6 H6 _ I6 q6) fun ok s7 ⟨H7, I7, q7⟩ => ?_)
      -- what stands behind the turn
      have back : ∀ {σ8 : St} {H8 : Hp} {s8 : Shared}, Inv (cxComp X N' scope C s H fp (X.pn ++ pins)) (([] ++ [(D, { cls := .type "list", data := .seq (List.toArray its) nn })]) ++ pinsAt fp s5.heap) σ8 H8 s8 →
          tn (i + 1) s8.heap ∧ (∀ b ∈ fp, H8 b = none) ∧ H8 D = none ∧ s8.heap.get? D = some { cls := .type "list", data := .seq (List.toArray its) nn } := fun {σ8 H8 s8} J8 => by
        refine ⟨T.keep _ _ _ st5 fun b hb o e => (J8.pin (b, o) (List.mem_append_right _ (List.mem_append_right _ (mem_pinsAt hb e)))).1, fun b hb => ?_, ?_, ?_⟩
        · obtain ⟨o, e, d⟩ := T.obj _ _ st5 b hb
          exact (J8.pin (b, o) (List.mem_append_right _ (List.mem_append_right _ (mem_pinsAt hb e)))).2.1
        · exact (J8.pin (D, _) (List.mem_append_right _ (List.mem_append_left _ (List.mem_append_right _ (List.mem_singleton.mpr rfl))))).2.1
        · exact (J8.pin (D, _) (List.mem_append_right _ (List.mem_append_left _ (List.mem_append_right _ (List.mem_singleton.mpr rfl))))).1
      have weak : ∀ {H8 : Hp} {s8 : Shared} {ps : List (Addr × Obj)}, Inv (cxComp X N' scope C s H fp (X.pn ++ pins)) ps σ6 H8 s8 → Inv (cxComp X N' scope C s H fp (X.pn ++ pins)) [] (selS sel σ) H8 s8 := fun {H8 s8 ps} J8 =>
        (J8.pins_of (pins' := []) fun p hp => by simp at hp).weak (by rw [J8.len]; exact I4.len) hw6
      cases ok with
      | false =>
        obtain ⟨st8, fr8, hD8, o8⟩ := back I7
        obtain ⟨m', hm, w8⟩ := hNn ys H7 q7
        exact ⟨m', hm, i + 1, H7, ys, its, nn, weak I7, st8, fr8, hD8, o8, v3, z3, w8⟩
      | true =>
        refine noE (thn (hb3 _ s7 σ6 H7 _ I7 q7) fun y s8 ⟨yv, H8, I8, ry, q8⟩ => ?_)
        obtain ⟨st8, fr8, hD8, o8⟩ := back I8
        obtain ⟨m', hm, w8⟩ := hNn _ _ q8
        have hl := v3.length
        refine call_meets F.slot_list_append ⟨_, o8, rfl⟩ F.entry_list_append (F.args_list_append_2 _ _) (PySem.list_append D (List.toArray its) nn y (by rw [List.size_toArray]; omega)) ⟨o8, ?_⟩
        have q := PySem.IsL.update o8 (fun z => z.push y)
        rw [show (List.toArray its).push y = (its ++ [y]).toArray by simp] at q
        have kp : ∀ b o, b ≠ D → s8.heap.get? b = some o → (s8.heap.update D (Obj.mapSeq fun z => z.push y)).get? b = some o := fun b o hb e => (Heap.get?_update_other s8.heap (Obj.mapSeq fun z => z.push y) (Ne.symm hb)).trans e
        refine ⟨m', hm, i + 1, H8, ys ++ [yv], its ++ [y], _, (weak I8).turned (t' := s8.toks) kp hD8 hDC (.inr (by show s.heap.objs.size ≤ D; rw [hDe]; exact Nat.le_refl _)) (fun x c h => (fD HD).2.2.2.2.1 x c ((clos_cells I k).2 x c h).1) (fun p hp => (fD HD).2.2.2.2.2 p (by have : p ∈ (X.pn ++ pins) ++ [] := hp; rwa [List.append_nil] at this)),
          T.keep _ _ _ st8 (fun b hb o e => kp b o (Nat.ne_of_lt (hfl b hb)) e), fr8, hD8, q, v3.append (.cons ry .nil), ?_, w8⟩
        rw [List.length_append, List.length_singleton]
        omega
  exact codeAny_compStart_list (loop _ rfl) (T.self _ 0 _ _ _ hst₁ (loop _ rfl))

def tLc (sel : List (Option Nat)) (wi : TI) (g : TG) (tt : TT) (te : TE) : TE := fun σ H Q => wi σ H fun J H1 => ∃ W : Nat → Nat → List V → Hp → Prop, (∃ m, W 0 m [] H1) ∧
  lcTurn sel g tt te σ J W fun ys H => ∀ D, H D = none → Q (.ref D) (upd H D (.lst ys))
theorem pe_lc {elt tg iter : Expr} {ifs : List Expr} {scope : Scope} {pos : Pos} {wi : TI} {N' : List Str} {sel : List (Option Nat)} {g : TG} {tt : TT} {te : TE}
    (hc : X.calm = true) (hk : scope.kind = .function) (chk : compChk scope X.env.scope X.N N' sel = true) (hi : PI X tg iter wi) (hgk : GKeeps sel g)
    (hb : ∀ (C : Addr) (s : Shared) (H : Hp) (fp : List Addr) (pn : List (Addr × Obj)), PG (cxComp X N' scope C s H fp pn) tg g ∧ PTs (cxComp X N' scope C s H fp pn) ifs tt ∧ PE (cxComp X N' scope C s H fp pn) elt te)
    (hs : ∀ x, foldedSetIterable iter X.env x = pure x := by intro _; rfl) : PE X (.ListComp elt [⟨tg, iter, ifs, 0⟩] scope pos) (tLc sel wi g tt te) := by
  intro pins s σ H Q I h
  have k := chk_ok chk
  rw [eval_ListComp]
  refine wpAny_comprehension_free (use := none) rfl hs (closureFor_free (clos_cells I k).1) hk k.lo (thn (hi pins s σ H _ I h) fun v s1 h1 => thn h1 fun itv s2 h2 => ?_)
  obtain ⟨it, fp, tn, J, H2, e, I2, T, st2, f2, W, ⟨m0, w0⟩, turn⟩ := h2
  subst e
  refine lc_block (RR := fun acc C => compPost (model X.prog X.w) X.A X.xe none (EP X pins σ Q) acc C) hc hk k I2 T st2 f2 hb hgk w0 turn ?_
  intro D C s' H' ys m hD I' hns fC q
  refine ⟨m, hns, fun h' hs' => ⟨.ref D, _, I'.turned (t' := s'.toks) (fun b o hb e => (hs'.2 b hb).trans e) fC.1 fC.2.1 fC.2.2.2.1 fC.2.2.2.2.1 fC.2.2.2.2.2, rfl, q D hD⟩⟩

theorem lc_range {lo : Int} {n : Nat} {sel : List (Option Nat)} {g : TG} {tt : TT} {te : TE} {σ : St} {H : Hp} {Qe : List V → Hp → Prop} (Pv : Nat → List V → Hp → Prop) (h0 : Pv 0 [] H)
    (hl : ∀ i ys H, i ≤ n → Pv i ys H → ys.length ≤ i) (hz : n ≤ sizeLine)
    (hs : ∀ i ys H, i < n → Pv i ys H → g (.int (lo + i)) (selS sel σ) H fun σ2 H2 => tt σ2 H2 fun b H3 => if b = true then te σ2 H3 fun y H4 => Pv (i + 1) (ys ++ [y]) H4 else Pv (i + 1) ys H3)
    (hd : ∀ ys H, Pv n ys H → Qe ys H) : ∃ W : Nat → Nat → List V → Hp → Prop, (∃ m, W 0 m [] H) ∧ lcTurn sel g tt te σ (Itr lo n) W Qe := by
  refine ⟨fun i m ys H => m = n - i ∧ i ≤ n ∧ Pv i ys H, ⟨_, rfl, Nat.zero_le _, h0⟩, ?_⟩
  rintro i m ys H ⟨rfl, hi, p⟩
  have hy := hl i ys H hi p
  by_cases e : i = n
  · subst e
    exact .inl ⟨Nat.le_refl _, hd _ _ p⟩
  · have hlt : i < n := Nat.lt_of_le_of_ne hi e
    refine .inr ⟨hlt, by omega, Pv (i + 1), fun ys' H' p' => ⟨n - (i + 1), by omega, rfl, hlt, p'⟩, ?_⟩
    rintro x H' ⟨rfl, rfl⟩
    exact hs i ys H' hlt p

end
end L2
namespace L2
open PySem PySem.Spec PyProof.Rows
section
variable {X : Cx} {tg : Expr} {a b : Expr} {ta tb : TE} {pos : Pos}

def tMid (t u : TS) : TS := fun D σ H => ∃ M : St → Hp → Prop, t { D with nx := M } σ H ∧ ∀ σ' H', M σ' H' → u D σ' H'
theorem pss_mid {st : Stmt} {rest : List Stmt} {t u : TS} (h1 : PS X st t) (h2 : PSs X rest u) : PSs X (st :: rest) (tMid t u) := by
  intro pins s σ H D I h
  obtain ⟨M, hM, hu⟩ := h
  refine wpAny_execs_cons (thn (h1 pins s σ H { D with nx := M } I hM) fun f s1 q => ?_)
  cases f with
  | next =>
    obtain ⟨σ', H', I', q⟩ := q
    exact h2 pins s1 σ' H' D I' (hu _ _ q)
  | ret v => exact q
  | brk => exact q
  | cont => exact q

theorem bools_of {bs : List Bool} : ∀ {us : List Value}, Vals (bs.map V.bl) us → LSm.BoolsAre us bs := by
  induction bs with
  | nil => intro us r; cases r; exact .nil
  | cons b bs ih =>
    intro us r
    cases r with
    | cons h t =>
      cases h
      exact .cons b (ih t)
theorem call_all (hc : X.calm = true) : CallR X (.builtin "all") (fun xs H Q => ∃ (p : Addr) (bs : List Bool), xs = [.ref p] ∧ SqL X.K H p (bs.map V.bl) ∧ Q (.bl (bs.all id)) H) := by
  intro pins s σ H xs us Q I r h
  obtain ⟨p, bs, rfl, hp, q⟩ := h
  obtain ⟨u, rfl, ru⟩ := vals1 r
  cases ru
  obtain ⟨its, rv, pl, hz⟩ := I.list hp
  have hb := bools_of rv
  have hl := pl.isList
  have hlt : p < s.heap.objs.size := by obtain ⟨_, e, _⟩ := hl; exact Heap.lt_size e
  refine call_all_walk (wpAny_pyIter_list hl ?_)
  refine ⟨s.heap.objs.size, [s.heap.objs.size, p], [s.heap.objs.size], its.toArray.size, _, _, fun i => (bs[i]?).getD true, rfl, Walks.list (A := X.A.in1) (I.ok.hd hc) _ p (Nat.ne_of_lt hlt) its.toArray,
    ⟨⟨_, Heap.get?_push_size _ rfl, rfl, rfl⟩, hl.push _⟩, fun i v s' Q' E' hP hQ => ?_, fun h' tk hk => ?_⟩
  · obtain ⟨b, e, rfl⟩ := hb.get i v (by simpa using hP)
    simp only [e, Option.getD_some] at hQ
    exact wpAny_truthy_bool hQ
  · have e : ((List.range its.toArray.size).all fun i => (bs[i]?).getD true) = bs.all id := by
      rw [List.size_toArray, hb.length]; exact LSm.range_all bs
    rw [e]
    exact ⟨.bl _, H, I.kept (LSm.kept_iter hk), rfl, q⟩
theorem call_isinst : CallR X (.builtin "isinstance") (fun xs H Q => ∃ x n t b, xs = [x, .ty n] ∧ TyOf X.K H x t ∧ PySem.W.kitOne X.K t (.type n) = some b ∧ Q (.bl b) H) := by
  intro pins s σ H xs us Q I r h
  obtain ⟨x, n, t, b, rfl, ty, e, q⟩ := h
  obtain ⟨u, w', rfl, ru, rw'⟩ := vals2 r
  cases rw'
  exact isinst_ok I ru ty e fun tk => ⟨.bl b, H, I.tok _, rfl, q⟩
def cutS (z : Str) (lo hi : Option Int) : Str := ⟨((z.cps.toList.drop (HT.sIx z.length 0 lo)).take (HT.sIx z.length z.length hi - HT.sIx z.length 0 lo)).toArray⟩
def rSlS : V → Option Int → Option Int → Hp → VK → Prop := fun x lo hi H Q => ∃ z, x = .str z ∧ z.length ≤ sizeLine ∧ Q (.str (cutS z lo hi)) H
def rStarts : V → List V → Hp → VK → Prop := fun x vs H Q => ∃ z y, x = .str z ∧ vs = [.str y] ∧ Q (.bl (Txt.startswith z y)) H
theorem mt_startswith : MtR X "str.startswith" rStarts := by
  intro pins s σ H x vs v us Q I rx rv h
  obtain ⟨z, y, rfl, rfl, q⟩ := h
  obtain ⟨t, rfl⟩ := rx
  obtain ⟨u, rfl, ru⟩ := vals1 rv
  obtain ⟨t', rfl⟩ := ru
  exact SC.startswith ⟨.bl _, H, I, rfl, q⟩
inductive EqD (K : PySem.W.Frag) (H : Hp) : Nat → V → V → Bool → Prop
  | flat {n : Nat} {x y : V} : flatV x = true → flatV y = true → EqD K H n x y (eqV x y)
  | same {n : Nat} {a : Addr} : EqD K H n (.ref a) (.ref a) true
  | lst {n : Nat} {a b : Addr} {xs ys : List V} {e : Nat → Bool} : SqL K H a xs → SqL K H b ys → a ≠ b → xs.length = ys.length → (∀ i x y, xs[i]? = some x → ys[i]? = some y → EqD K H n x y (e i)) → EqD K H (n + 1) (.ref a) (.ref b) ((List.range xs.length).all e)
  | lstN {n : Nat} {a b : Addr} {xs ys : List V} : SqL K H a xs → SqL K H b ys → a ≠ b → xs.length ≠ ys.length → EqD K H (n + 1) (.ref a) (.ref b) false
  | tup {n : Nat} {a b : Addr} {xs ys : List V} {e : Nat → Bool} : SqT K H a xs → SqT K H b ys → a ≠ b → (∀ i x y, xs[i]? = some x → ys[i]? = some y → EqD K H n x y (e i)) → EqD K H (n + 1) (.ref a) (.ref b) ((List.range (min xs.length ys.length)).all e && xs.length == ys.length)
  | tupF {n : Nat} {a : Addr} {xs : List V} {y : V} : SqT K H a xs → flatV y = true → EqD K H n (.ref a) y false
  | fTup {n : Nat} {a : Addr} {xs : List V} {y : V} : SqT K H a xs → flatV y = true → EqD K H n y (.ref a) false
theorem item_of {xs : List V} {its : List Value} {j : Nat} (r : Vals xs its) (h : j < its.toArray.size) : ∃ x, xs[j]? = some x ∧ RelV x its.toArray[j] := by
  have hl := r.length
  have hj : j < xs.length := by rw [List.size_toArray] at h; omega
  obtain ⟨u, hu, ru⟩ := r.get (i := j) (x := xs[j]) (by simp [hj])
  refine ⟨xs[j], by simp [hj], ?_⟩
  have e : its.toArray[j] = u := by
    have h2 : j < its.length := by rw [List.size_toArray] at h; exact h
    have := List.getElem?_eq_getElem h2
    rw [hu] at this
    simpa using (Option.some.inj this).symm
  rw [e]; exact ru
theorem _root_.PyProof.Rows.IsTup.isTuple' {h : Heap} {a : Addr} {its : Array Value} (p : IsTup h a its) : h.IsTuple a its := p
theorem EqD.at {K : PySem.W.Frag} {H : Hp} {n : Nat} {x y : V} {b : Bool} (d : EqD K H n x y b) : ∀ {X : Cx} {pins : List (Addr × Obj)} {σ : St} {s : Shared} {A : Around} {u v : Value}, X.K = K → Inv X pins σ H s → RelV x u → RelV y v → A.units + n < cLine → SeqAt.EqAt A s u v b := by
  induction d with
  | flat fx fy => intro X pins σ s A u v hK I rx ry hu; exact eqAt_V rx ry fx fy
  | same => intro X pins σ s A u v hK I rx ry hu; cases rx; cases ry; exact SeqAt.EqAt.same _
  | @lst n a b xs ys e hx hy hne hl _ ih =>
    intro X pins σ s A u v hK I rx ry hu
    subst hK
    cases rx; cases ry
    obtain ⟨ia, ra, pa, _⟩ := I.list hx
    obtain ⟨ib, rb, pb, _⟩ := I.list hy
    have la := ra.length
    have lb := rb.length
    have hs : ia.toArray.size = ib.toArray.size := by rw [List.size_toArray, List.size_toArray]; omega
    have q := SeqAt.RcAt.lists (A := A) (e := e) pa.isList pb.isList hs (by omega) fun j h1 h2 => by
      obtain ⟨x, ex, rx⟩ := item_of ra h1
      obtain ⟨y, ey, ry⟩ := item_of rb h2
      exact ih j x y ex ey rfl I rx ry (by show A.units + 1 + n < cLine; omega)
    rw [List.size_toArray, ← la] at q
    exact SeqAt.EqAt.of_refs hne q
  | @lstN n a b xs ys hx hy hne hl =>
    intro X pins σ s A u v hK I rx ry hu
    subst hK
    cases rx; cases ry
    obtain ⟨ia, ra, pa, _⟩ := I.list hx
    obtain ⟨ib, rb, pb, _⟩ := I.list hy
    have la := ra.length
    have lb := rb.length
    exact SeqAt.EqAt.of_refs hne (SeqAt.RcAt.lists_lengths pa.isList pb.isList (by rw [List.size_toArray, List.size_toArray]; simp; omega) (by omega))
  | @tup n a b xs ys e hx hy hne _ ih =>
    intro X pins σ s A u v hK I rx ry hu
    subst hK
    cases rx; cases ry
    obtain ⟨ia, ra, pa, _⟩ := I.tuple hx
    obtain ⟨ib, rb, pb, _⟩ := I.tuple hy
    have la := ra.length
    have lb := rb.length
    have q := SeqAt.RcAt.tuples (A := A) (e := e) pa.isTuple' pb.isTuple' (by omega) fun j h1 h2 => by
      obtain ⟨x, ex, rx⟩ := item_of ra h1
      obtain ⟨y, ey, ry⟩ := item_of rb h2
      exact ih j x y ex ey rfl I rx ry (by show A.units + 1 + n < cLine; omega)
    rw [List.size_toArray, List.size_toArray, ← la, ← lb] at q
    exact SeqAt.EqAt.of_refs hne q
  | @tupF n a xs y hx fy =>
    intro X pins σ s A u v hK I rx ry hu
    subst hK
    cases rx
    obtain ⟨ia, ra, pa, _⟩ := I.tuple hx
    have hu' : A.units < cLine := by omega
    cases y with
    | non => cases (show v = Value.none from ry); exact SeqAt.EqAt.tuple_none pa.isTuple' hu'
    | bl b => cases (show v = Value.bool b from ry); exact SeqAt.EqAt.tuple_bool b pa.isTuple' hu'
    | int i => obtain ⟨t, q⟩ := (show ∃ t, v = Value.int i t from ry); cases q; exact SeqAt.EqAt.tuple_int i t pa.isTuple' hu'
    | str z => obtain ⟨t, q⟩ := (show ∃ t, v = Value.str z t from ry); cases q; exact SeqAt.EqAt.tuple_str z t pa.isTuple' hu'
    | byt b => cases fy
    | flt b => cases fy
    | ref a => cases fy
    | ty n => cases fy
  | @fTup n a xs y hx fy =>
    intro X pins σ s A u v hK I rx ry hu
    subst hK
    cases ry
    obtain ⟨ia, ra, pa, _⟩ := I.tuple hx
    have hu' : A.units < cLine := by omega
    cases y with
    | non => cases (show u = Value.none from rx); exact SeqAt.EqAt.none_tuple pa.isTuple' hu'
    | bl b => cases (show u = Value.bool b from rx); exact SeqAt.EqAt.bool_tuple b pa.isTuple' hu'
    | int i => obtain ⟨t, q⟩ := (show ∃ t, u = Value.int i t from rx); cases q; exact SeqAt.EqAt.int_tuple i t pa.isTuple' hu'
    | str z => obtain ⟨t, q⟩ := (show ∃ t, u = Value.str z t from rx); cases q; exact SeqAt.EqAt.str_tuple z t pa.isTuple' hu'
    | byt b => cases fy
    | flt b => cases fy
    | ref a => cases fy
    | ty n => cases fy
def EqIt (K : PySem.W.Frag) (H : Hp) (n : Nat) (xs ys : List V) (e : Nat → Bool) : Prop := ∀ i x y, xs[i]? = some x → ys[i]? = some y → EqD K H n x y (e i)
def rEqT (K : PySem.W.Frag) (neg : Bool) : R2 := fun x y H Q => ∃ a b xs ys n e, x = .ref a ∧ y = .ref b ∧ SqT K H a xs ∧ SqT K H b ys ∧ n ≤ 90 ∧ EqIt K H n xs ys e ∧ Q (.bl (neg ^^ ((List.range (min xs.length ys.length)).all e && xs.length == ys.length))) H
theorem op_eqT (hu : X.A.units + 100 < cLine) : OpR X (compareOp .Eq) (rEqT X.K false) := by
  intro pins s σ H x y v u Q I rx ry h
  obtain ⟨a, b, xs, ys, n, e, rfl, rfl, hx, hy, hn, he, q⟩ := h
  cases rx; cases ry
  obtain ⟨ia, ra, pa, _⟩ := I.tuple hx
  obtain ⟨ib, rb, pb, _⟩ := I.tuple hy
  have la := ra.length
  have lb := rb.length
  rw [Bool.false_xor] at q
  refine SeqAt.eq_tupleAt (e := e) pa.isTuple' pb.isTuple' (by omega) (fun j h1 h2 => ?_) ⟨.bl _, H, I, rfl, ?_⟩
  · obtain ⟨x, ex, rx⟩ := item_of ra h1
    obtain ⟨y, ey, ry⟩ := item_of rb h2
    exact (he j x y ex ey).at rfl I rx ry (by show X.A.units + 1 + n < cLine; omega)
  · rw [List.size_toArray, List.size_toArray, ← la, ← lb]; exact q
theorem op_neT (hu : X.A.units + 100 < cLine) : OpR X (compareOp .NotEq) (rEqT X.K true) := by
  intro pins s σ H x y v u Q I rx ry h
  obtain ⟨a, b, xs, ys, n, e, rfl, rfl, hx, hy, hn, he, q⟩ := h
  cases rx; cases ry
  obtain ⟨ia, ra, pa, _⟩ := I.tuple hx
  obtain ⟨ib, rb, pb, _⟩ := I.tuple hy
  have la := ra.length
  have lb := rb.length
  rw [Bool.true_xor] at q
  refine SeqAt.RcNeAt.tuples (e := e) pa.isTuple' pb.isTuple' (by omega) (fun j h1 h2 => ?_) _ _ _ _ ⟨.bl _, H, I, rfl, ?_⟩
  · obtain ⟨x, ex, rx⟩ := item_of ra h1
    obtain ⟨y, ey, ry⟩ := item_of rb h2
    exact (he j x y ex ey).at rfl I rx ry (by show X.A.units + 1 + n < cLine; omega)
  · rw [List.size_toArray, List.size_toArray, ← la, ← lb]; exact q
theorem hu100 {A : Around} {k : Nat} (hr : Room k A) : A.units + 100 < cLine := Nat.lt_of_le_of_lt (by omega) hr.un

def strsAre : List Expr → List Str → Bool
  | [], [] => true
  | .Constant (.str x) _ _ :: r, z :: zs => x == z && strsAre r zs
  | _, _ => false
def tStrs (zs : List Str) : TA := fun _ H Q => Q (zs.map V.str) H
theorem pa_strs : ∀ {es : List Expr} {zs : List Str}, strsAre es zs = true → PA X es (tStrs zs) := by
  intro es
  induction es with
  | nil =>
    intro zs h
    cases zs with
    | nil => exact pa_nil
    | cons z zs => cases h
  | cons e r ih =>
    intro zs h
    unfold strsAre at h
    split at h
    · exact absurd ‹e :: r = []› (List.cons_ne_nil _ _)
    · rename_i x j p r' z zs' h1
      cases h1
      rw [Bool.and_eq_true] at h
      have hx : x = z := by simpa using h.1
      subst hx
      exact pa_cons (X := X) (e := .Constant (.str x) j p) pe_str (ih h.2)
    · cases h
end
end L2
namespace L2
open PySem PySem.Spec PyProof.Rows
set_option genInjectivity false in
structure Def (K : PySem.W.Frag) (mg : Str → Option Value) (x : Str) (st : Stmt) (ps : List Str) where
  f : Addr
  fd : FuncData
  F : Fun K x x st f fd
  hm : mg x = some (.ref f)
  b : Binds K fd ps []
theorem cxOf_K {CX : CXT} {P : Program} {w : World} {K : PySem.W.Frag} {mg : Str → Option Value} {base : Heap} {N : List Str} {qual : Str} {scope : Scope} {f : Addr} {cd : Value} {A : Around} {outer : List Env} {s : Shared} {H : Hp} {E : XK} :
    (cxOf CX P w K mg base N qual scope f cd A outer s H E).K = K := rfl
theorem cxComp_K {X : Cx} {N : List Str} {scope : Scope} {C : Addr} {s : Shared} {H : Hp} {fp : List Addr} {pn : List (Addr × Obj)} : (cxComp X N scope C s H fp pn).K = X.K := rfl
structure InK (K : PySem.W.Frag) (x : Str) (st : Stmt) : Prop where
  ex : ∃ (f : Addr) (oc : Value) (od : Option Addr) (kV doc pm : Value) (an : Option Addr) (cdv ct : Value) (osl : Array (Option Value)),
    PySem.W.nsIn K mainGlobals x = some (some (.ref f)) ∧ K.lookup f = some ⟨oc, od, .func (PySem.W.fnOf x x (defArgs st) (defBody st) (defScope st) .none kV doc pm an cdv ct), osl⟩ ∧ PySem.W.codeIn K cdv x = true ∧ PySem.W.keepIn K (.ref f) = true
theorem InK.of {K : PySem.W.Frag} {x : Str} {st : Stmt} {f : Addr} {oc : Value} {od : Option Addr} {kV doc pm : Value} {an : Option Addr} {cdv ct : Value} {osl : Array (Option Value)}
    (a : PySem.W.nsIn K mainGlobals x = some (some (.ref f))) (l : K.lookup f = some ⟨oc, od, .func (PySem.W.fnOf x x (defArgs st) (defBody st) (defScope st) .none kV doc pm an cdv ct), osl⟩) (c : PySem.W.codeIn K cdv x = true) (k : PySem.W.keepIn K (.ref f) = true) : InK K x st :=
  ⟨⟨f, oc, od, kV, doc, pm, an, cdv, ct, osl, a, l, c, k⟩⟩
theorem InK.def {K : PySem.W.Frag} {mg : Str → Option Value} {h : Heap} {x : Str} {st : Stmt} {ps : List Str} (i : InK K x st) (X : K.In h) (G : h.Ns mainGlobals mg)
    (hb : ∀ (kV doc pm : Value) (an : Option Addr) (cdv ct : Value) (us : List Value), us.length = ps.length → bindArgs (PySem.W.fnOf x x (defArgs st) (defBody st) (defScope st) .none kV doc pm an cdv ct) ⟨us, []⟩ = pure (ps.zip us)) : Nonempty (Def K mg x st ps) := by
  obtain ⟨f, oc, od, kV, doc, pm, an, cdv, ct, osl, a, l, c, k⟩ := i.ex
  have F := fun_mk (x := x) (qual := x) (st := st) l c k
  exact ⟨⟨f, _, F, PySem.W.mg_of X G a, F.binds hb⟩⟩
def strsOf : List Str → List Value → Bool
  | [], [] => true
  | z :: zs, .str x _ :: r => x == z && strsOf zs r
  | _, _ => false
theorem strsOf_vals : ∀ {zs : List Str} {us : List Value}, strsOf zs us = true → Vals (zs.map V.str) us := by
  intro zs
  induction zs with
  | nil =>
    intro us h
    cases us with
    | nil => exact .nil
    | cons u r => cases h
  | cons z zs ih =>
    intro us h
    cases us with
    | nil => cases h
    | cons u r =>
      cases u with
      | str x t =>
        have h' : (x == z && strsOf zs r) = true := h
        rw [Bool.and_eq_true] at h'
        have e : x = z := by simpa using h'.1
        subst e
        exact .cons ⟨t, rfl⟩ (ih h'.2)
      | _ => cases h
structure InT (K : PySem.W.Frag) (x : Str) (zs : List Str) : Prop where
  ex : ∃ (p : Addr) (dd : Option Addr) (its : Array Value) (n : Nat) (sl : Array (Option Value)), PySem.W.nsIn K mainGlobals x = some (some (.ref p)) ∧ K.lookup p = some ⟨.type "tuple", dd, .seq its n, sl⟩ ∧ its.size ≤ sizeLine ∧ strsOf zs its.toList = true
theorem InT.of {K : PySem.W.Frag} {x : Str} {zs : List Str} {p : Addr} {dd : Option Addr} {its : Array Value} {n : Nat} {sl : Array (Option Value)} (a : PySem.W.nsIn K mainGlobals x = some (some (.ref p))) (l : K.lookup p = some ⟨.type "tuple", dd, .seq its n, sl⟩)
    (s : its.size ≤ sizeLine) (v : strsOf zs its.toList = true) : InT K x zs := ⟨⟨p, dd, its, n, sl, a, l, s, v⟩⟩
theorem bt_len : bootBuiltins "len" = some (.builtin "len") := by decide +kernel
theorem bt_all : bootBuiltins "all" = some (.builtin "all") := by decide +kernel
theorem bt_isinstance : bootBuiltins "isinstance" = some (.builtin "isinstance") := by decide +kernel
theorem bt_str : bootBuiltins "str" = some (.type "str") := by decide +kernel
theorem bt_int : bootBuiltins "int" = some (.type "int") := by decide +kernel
theorem bt_tuple : bootBuiltins "tuple" = some (.type "tuple") := by decide +kernel
theorem Same.upd {H : Hp} {a : Addr} {o : HO} (h : H a = none) : Same H (L2.upd H a o) := fun b u e => by rw [upd_ne (ne_of_none e h)]; exact e
theorem lenV_str {K : PySem.W.Frag} {z : Str} {H : Hp} {n : Nat} : LenV K (.str z) H n ↔ z.length ≤ sizeLine ∧ n = z.length := Iff.rfl
end L2
namespace L2
open PySem PySem.Spec PyProof.Rows
section
variable {X : Cx} {o e f : Expr} {apos cpos pos : Pos} {td ty tx : TE}

variable {K : PySem.W.Frag}
end
end L2
namespace L2
open PySem PySem.Spec PyProof.Rows
structure InC (K : PySem.W.Frag) (x : Str) (C : Addr) : Prop where
  a : PySem.W.nsIn K mainGlobals x = some (some (.ref C))
  pg : PySem.W.plainGet K C Str.empty = true
  hd : PySem.W.hasDictIn K C = true
  po : PySem.W.plainOver K C = true
  sa : PySem.W.findIn K (.ref C) "__setattr__" = some (some (.builtin "object.__setattr__"))
  mak : PySem.W.makesIn K C = true
  kp : PySem.W.keepIn K (.ref C) = true
theorem InC.cls {K : PySem.W.Frag} {x : Str} {C : Addr} (i : InC K x C) : Cls K C := ⟨i.pg, i.hd, i.po, i.sa⟩
structure InM (K : PySem.W.Frag) (C : Addr) (m q : Str) (st : Stmt) : Prop where
  ex : ∃ (f : Addr) (oc : Value) (od : Option Addr) (kV doc pm : Value) (an : Option Addr) (cdv ct : Value) (osl : Array (Option Value)),
    PySem.W.findIn K (.ref C) m = some (some (.ref f)) ∧ PySem.W.isFn K (.ref f) = true ∧ K.lookup f = some ⟨oc, od, .func (PySem.W.fnOf m q (defArgs st) (defBody st) (defScope st) .none kV doc pm an cdv ct), osl⟩ ∧ PySem.W.codeIn K cdv q = true ∧ PySem.W.keepIn K (.ref f) = true
theorem InM.of {K : PySem.W.Frag} {C : Addr} {m q : Str} {st : Stmt} {f : Addr} {oc : Value} {od : Option Addr} {kV doc pm : Value} {an : Option Addr} {cdv ct : Value} {osl : Array (Option Value)}
    (a : PySem.W.findIn K (.ref C) m = some (some (.ref f))) (i : PySem.W.isFn K (.ref f) = true) (l : K.lookup f = some ⟨oc, od, .func (PySem.W.fnOf m q (defArgs st) (defBody st) (defScope st) .none kV doc pm an cdv ct), osl⟩) (c : PySem.W.codeIn K cdv q = true) (k : PySem.W.keepIn K (.ref f) = true) : InM K C m q st :=
  ⟨⟨f, oc, od, kV, doc, pm, an, cdv, ct, osl, a, i, l, c, k⟩⟩
set_option genInjectivity false in
structure MDef (K : PySem.W.Frag) (C : Addr) (m q : Str) (st : Stmt) (ps : List Str) where
  f : Addr
  fd : FuncData
  F : Fun K m q st f fd
  me : Meth K C m f
  b : Binds K fd ps []
theorem InM.def {K : PySem.W.Frag} {C : Addr} {m q : Str} {st : Stmt} {ps : List Str} (i : InM K C m q st)
    (hb : ∀ (kV doc pm : Value) (an : Option Addr) (cdv ct : Value) (us : List Value), us.length = ps.length → bindArgs (PySem.W.fnOf m q (defArgs st) (defBody st) (defScope st) .none kV doc pm an cdv ct) ⟨us, []⟩ = pure (ps.zip us)) : Nonempty (MDef K C m q st ps) := by
  obtain ⟨f, oc, od, kV, doc, pm, an, cdv, ct, osl, a, i, l, c, k⟩ := i.ex
  have F := fun_mk (x := m) (qual := q) (st := st) l c k
  exact ⟨⟨f, _, F, ⟨a, i, k⟩, F.binds hb⟩⟩
section
variable {X : Cx}
end
end L2
namespace HT
open PySem PySem.Spec PyProof.Rows
section
variable {prog : Program} {w : World} {A : Around} {E : Value → Shared → Prop} {s : Shared}
end
end HT
namespace L2
open PySem PySem.Spec PyProof.Rows
section
variable {X : Cx}
end
end L2
namespace L2
open PySem PySem.Spec PyProof.Rows
theorem KV.at {kvs : List (Key × V)} {vs : List (Key × Value)} {i : Nat} {kv : Key × V} (r : KV kvs vs) (h : kvs[i]? = some kv) : ∃ u, vs[i]? = some (kv.1, u) ∧ RelV kv.2 u := by
  have go : ∀ (l₁ : List (Key × V)) (l₂ : List (Key × Value)), Paired (fun (p : Key × V) (q : Key × Value) => p.1 = q.1 ∧ RelV p.2 q.2) l₁ l₂ → ∀ (i : Nat) (kv : Key × V), l₁[i]? = some kv → ∃ u, l₂[i]? = some (kv.1, u) ∧ RelV kv.2 u := by
    intro l₁ l₂ r
    induction r with
    | nil => intro i kv h; simp at h
    | @cons a b _ _ r t ih =>
      intro i kv h
      cases i with
      | zero =>
        simp at h
        subst h
        obtain ⟨e, q⟩ := r
        refine ⟨b.2, ?_, q⟩
        rw [List.getElem?_cons_zero, e]
      | succ i =>
        rw [List.getElem?_cons_succ] at h ⊢
        exact ih i kv h
  exact go kvs vs r i kv h
section
variable {X : Cx} {pins : List (Addr × Obj)} {σ : St} {H : Hp} {s : Shared}
end
end L2
namespace L2
open PySem PySem.Spec PyProof.Rows
structure FunD (K : PySem.W.Frag) (x qual : Str) (st : Stmt) (dV : Value) (f : Addr) (fd : FuncData) : Prop where
  ex : ∃ (oc : Value) (od : Option Addr) (kV doc pm : Value) (an : Option Addr) (cdv ct : Value) (osl : Array (Option Value)),
    fd = PySem.W.fnOf x qual (defArgs st) (defBody st) (defScope st) dV kV doc pm an cdv ct ∧ K.lookup f = some ⟨oc, od, .func fd, osl⟩ ∧ PySem.W.codeIn K cdv qual = true
  kp : PySem.W.keepIn K (.ref f) = true
theorem FunD.ok {P : Program} {w : World} {K : PySem.W.Frag} {mg : Str → Option Value} {base : Heap} {x qual : Str} {st : Stmt} {dV : Value} {f : Addr} {fd : FuncData} {N ps : List Str} {k : Nat} {sp : Sp} (F : FunD K x qual st dV f fd) (S : FnScope N ps (defScope st)) (len : ∀ vs H Q E, sp vs H Q E → vs.length = ps.length)
    (hbody : ∀ (cdv : Value) (A : Around) (outer : List Env) (s : Shared) (H : Hp) (vs : List V) (Q : VK) (E : XK), Room k (A.deeper (envOfC qual (defScope st) s.heap.objs.size f cdv)) → sp vs H Q E →
      ∃ t, PSs (cxOf CX0 P w K mg base N qual (defScope st) f cdv A outer s H E).nox (defBody st) t ∧ t { nx := fun _ H' => Q .non H', rt := Q } (start N vs) H) : FnOk P w K mg base CX0 (k + 1) f fd ps sp := by
  obtain ⟨oc, od, kV, doc, pm, an, cdv, ct, osl, rfl, lk, hcd⟩ := F.ex
  refine fn_of lk hcd S len fun A outer s H vs Q E hr hsp => ?_
  obtain ⟨t, h, q⟩ := hbody cdv A outer s H vs Q E hr hsp
  exact ⟨t, h.nox, q⟩
structure CMeth (K : PySem.W.Frag) (C : Addr) (m : Str) (f : Addr) : Prop where
  ga : PySem.W.specialIn K (.ref C) "__getattribute__" = some (some (.builtin "type.__getattribute__"))
  rd : PySem.W.readsIn K C (.type "type") = true
  fi : PySem.W.findCls K (.ref C) (.type "type") m = some (.val (.ref f))
  kp : PySem.W.keepIn K (.ref f) = true
structure InMD (K : PySem.W.Frag) (C : Addr) (m q : Str) (st : Stmt) : Prop where
  ex : ∃ (f T : Addr) (oc : Value) (od : Option Addr) (kV doc pm : Value) (an : Option Addr) (cdv ct : Value) (osl : Array (Option Value)) (dd : Option Addr) (n : Nat) (sl : Array (Option Value)),
    PySem.W.findIn K (.ref C) m = some (some (.ref f)) ∧ PySem.W.isFn K (.ref f) = true ∧ K.lookup f = some ⟨oc, od, .func (PySem.W.fnOf m q (defArgs st) (defBody st) (defScope st) (.ref T) kV doc pm an cdv ct), osl⟩ ∧ PySem.W.codeIn K cdv q = true ∧ PySem.W.keepIn K (.ref f) = true ∧
      K.lookup T = some ⟨.type "tuple", dd, .seq #[.none] n, sl⟩ ∧ CMeth K C m f
theorem InMD.of {K : PySem.W.Frag} {C : Addr} {m q : Str} {st : Stmt} {f T : Addr} {oc : Value} {od : Option Addr} {kV doc pm : Value} {an : Option Addr} {cdv ct : Value} {osl : Array (Option Value)} {dd : Option Addr} {n : Nat} {sl : Array (Option Value)}
    (a : PySem.W.findIn K (.ref C) m = some (some (.ref f))) (i : PySem.W.isFn K (.ref f) = true) (l : K.lookup f = some ⟨oc, od, .func (PySem.W.fnOf m q (defArgs st) (defBody st) (defScope st) (.ref T) kV doc pm an cdv ct), osl⟩) (c : PySem.W.codeIn K cdv q = true) (k : PySem.W.keepIn K (.ref f) = true)
    (d : K.lookup T = some ⟨.type "tuple", dd, .seq #[.none] n, sl⟩) (ga : PySem.W.specialIn K (.ref C) "__getattribute__" = some (some (.builtin "type.__getattribute__"))) (rd : PySem.W.readsIn K C (.type "type") = true) (fi : PySem.W.findCls K (.ref C) (.type "type") m = some (.val (.ref f))) : InMD K C m q st :=
  ⟨⟨f, T, oc, od, kV, doc, pm, an, cdv, ct, osl, dd, n, sl, a, i, l, c, k, d, ga, rd, fi, k⟩⟩
set_option genInjectivity false in
structure MDefD (K : PySem.W.Frag) (C : Addr) (m q : Str) (st : Stmt) (ps : List Str) where
  f : Addr
  fd : FuncData
  dV : Value
  F : FunD K m q st dV f fd
  me : Meth K C m f
  b : Binds K fd ps []
  b1 : Binds K fd ps [.none]
  cm : CMeth K C m f
theorem InMD.def {K : PySem.W.Frag} {C : Addr} {m q : Str} {st : Stmt} {ps : List Str} (i : InMD K C m q st)
    (h0 : ∀ (T : Addr) (kV doc pm : Value) (an : Option Addr) (cdv ct : Value) (us : List Value), us.length = ps.length → ∃ k, bindArgs (PySem.W.fnOf m q (defArgs st) (defBody st) (defScope st) (.ref T) kV doc pm an cdv ct) ⟨us, []⟩ = seqItems? (.ref T) >>= k ∧ k (some #[.none]) = pure (ps.zip us))
    (h1 : ∀ (T : Addr) (kV doc pm : Value) (an : Option Addr) (cdv ct : Value) (us : List Value), us.length + 1 = ps.length → ∃ k, bindArgs (PySem.W.fnOf m q (defArgs st) (defBody st) (defScope st) (.ref T) kV doc pm an cdv ct) ⟨us, []⟩ = seqItems? (.ref T) >>= k ∧ k (some #[.none]) = pure (ps.zip (us ++ [Value.none]))) : Nonempty (MDefD K C m q st ps) := by
  obtain ⟨f, T, oc, od, kV, doc, pm, an, cdv, ct, osl, dd, n, sl, a, i, l, c, k, d, cm⟩ := i.ex
  refine ⟨⟨f, PySem.W.fnOf m q (defArgs st) (defBody st) (defScope st) (.ref T) kV doc pm an cdv ct, .ref T, ⟨⟨oc, od, kV, doc, pm, an, cdv, ct, osl, rfl, l, c⟩, k⟩, ⟨a, i, k⟩, fun s us X hl => ?_, fun s us X hl => ?_, cm⟩⟩
  · rw [List.append_nil] at hl ⊢
    obtain ⟨kk, e1, e2⟩ := h0 T kV doc pm an cdv ct us hl
    exact BindsTo.of_defaults (T := T) (items := #[.none]) rfl (X T _ d) rfl e1 e2
  · obtain ⟨kk, e1, e2⟩ := h1 T kV doc pm an cdv ct us (by rw [List.length_append] at hl; exact hl)
    exact BindsTo.of_defaults (T := T) (items := #[.none]) rfl (X T _ d) rfl e1 e2
section
variable {X : Cx} {CX : CXT} {k : Nat} {f C : Addr} {fd : FuncData} {ps : List Str} {sp : Sp} {dvs : List V} {ds : List Value} {E : XK} {x m : Str} {p pos apos : Pos} {e o : Expr} {es : List Expr} {ta : TE} {t : TA}
def tCMeth (C : Addr) (sp : Sp) (dvs : List V) (E : XK) (ta : TE) (t : TA) : TE := fun σ H Q => ta σ H fun x H1 => x = .ref C ∧ t σ H1 fun vs H2 => sp (vs ++ dvs) H2 Q E
theorem pe_cmeth {pl : Sem Bool} (he : PE X o ta) (hm : CMeth X.K C m f) (F : FnOk X.prog X.w X.K X.mg X.base CX k f fd ps sp) (hr : Room k X.A) (hb : Binds X.K fd ps ds) (hd : Vals dvs ds) (hx : Passes CX X E) (ha : PA X (e :: es) t)
    (hst : starEach (e :: es) X.env = (false, eval e X.env) :: starEach es X.env := by rfl) (hpl : (backTo pos (starEach es X.env)).any (·.1) = false := by rfl)
    (ht : eval (.Call (.Attribute o m apos) (e :: es) [] pos) X.env = (do
      let ov ← eval o X.env
      standAt apos.atName
      let (f, first) ← holding [ov] (getMethod ov m pl)
      callWith pos f first (backTo pos (starEach (e :: es) X.env)) (backToKw pos (keywordEach [] X.env))) := by rfl) :
    PE X (.Call (.Attribute o m apos) (e :: es) [] pos) (tCMeth C sp dvs E ta t) := by
  intro pins s σ H Q I h
  refine PySem.W.methodCall_KW (pl := pl) (thn (he pins s σ H _ I h) fun u s1 ⟨x, H1, I1, rx, ex, q⟩ => ?_) ht
  subst ex
  obtain rfl : u = Value.ref C := rx
  refine PySem.W.method_cls I1.kIn hm.ga (PySem.W.cls_value I1.kIn hm.rd hm.fi rfl ?_)
  have I1' := I1.tok (s1.toks + 1)
  refine PySem.W.callWith_K (first := []) (h₀ := X.base) I.ok.mod.kin hm.kp (thn (ha pos pins _ σ H1 _ I1' q) fun us s2 ⟨vs, H2, I2, r, q2⟩ => ⟨I2.kIn, ?_⟩) hst hpl
  exact run_fn (us := us) (vs := vs) F hr hb hd hx I2 r q2
theorem bt_min : bootBuiltins "min" = some (.builtin "min") := by decide +kernel
theorem op_eqM (hu : X.A.units + 100 < cLine) : OpR X (compareOp .Eq) (fun x y H Q => rEq x y H Q ∨ rEqT X.K false x y H Q) := by
  intro pins s σ H x y v u Q I rx ry h
  rcases h with h | h
  · exact op_eq pins s σ H x y v u Q I rx ry h
  · exact op_eqT hu pins s σ H x y v u Q I rx ry h
end
end L2
namespace L2
open PySem PySem.Spec PyProof.Rows
section
variable {X : Cx}
end
section
variable {X : Cx} {pins : List (Addr × Obj)} {σ : St} {H : Hp} {s : Shared} {a : Addr} {kvs : List (Key × V)} {k : Key} {u r : Value} {v : V} {A : Around} {E : Value → Shared → Prop}
end
end L2
namespace L2
open PySem PySem.Spec PyProof.Rows
def Itv (K : PySem.W.Frag) (a : Addr) (xs : List V) : It :=
  ⟨fun i H => SqL K H a xs ∧ i < xs.length, fun i H v H' => H' = H ∧ xs[xs.length - 1 - i]? = some v, fun i _ => i = xs.length⟩
theorem turn_rev {P : Program} {w : World} {K : PySem.W.Frag} {tg : Expr} (a it : Addr) (xs : List V) : Turn P w K tg (Itv K a xs) [it] it (fun i h => h.IsRevIter it a ((xs.length : Int) - 1 - i)) where
  mem := by simp
  obj := fun i h st b hb => by
    have e : b = it := by simpa using hb
    subst e
    obtain ⟨o, e, c, d⟩ := st
    exact ⟨o, e, fun v z => by rw [d] at z; cases z⟩
  keep := fun i h h' st k => st.at fun o e => k it (by simp) o e
  item := by
    intro X hP hw hK hc i pins s σ H E I hf st hg
    subst hP hw hK
    obtain ⟨hq, hi⟩ := hg
    have hx : xs[xs.length - 1 - i]? = some xs[xs.length - 1 - i] := by rw [List.getElem?_eq_getElem]
    obtain ⟨its, rv, p, hz⟩ := I.list hq
    obtain ⟨u, hu, ru⟩ := rv.get hx
    obtain ⟨f0, f1, f2, f3, f4, f5⟩ := hf it (by simp)
    have e1 : ((xs.length : Int) - 1 - i) = ((xs.length - 1 - i : Nat) : Int) := by omega
    rw [e1] at st
    refine wpAny_pyNext_rev_item st p.isList (x := u) (by simpa using hu) fun h' st' sb => ?_
    have I1 : Inv X pins σ H { s with heap := h' } := I.turned (t' := s.toks) (fun b o hb e => (sb.2 b hb).trans e) f0 f1 f3 f4 f5
    obtain ⟨o, e, c, d⟩ := id st'
    have e2 : ((xs.length : Int) - 1 - ((i + 1 : Nat) : Int)) = ((xs.length - 1 - i : Nat) : Int) - 1 := by omega
    exact ⟨u, rfl, go_of (s := { s with heap := h' }) e c d (by decide) ⟨_, H, I1, ru, ⟨rfl, hx⟩, by rw [e2]; exact st', fun b hb => (hf b hb).1⟩⟩
  done := by
    intro X hP hw hK hc i pins s σ H E I hf st hg
    subst hP hw hK
    have hg' : i = xs.length := hg
    obtain ⟨f0, f1, f2, f3, f4, f5⟩ := hf it (by simp)
    have e1 : ((xs.length : Int) - 1 - i) = -1 := by omega
    rw [e1] at st
    exact wpAny_pyNext_rev_end (I.ok.hd hc) st fun h' eb => ⟨rfl, I.turned (t' := s.toks) (fun b o hb e => eb b o hb e) f0 f1 f3 f4 f5⟩
  self := fun _ _ _ _ _ st h => wpAny_pyIter_revIter st h
def iRev (K : PySem.W.Frag) (ta : TA) : TI := fun σ H R => ta σ H fun vs H1 => ∃ (a : Addr) (xs : List V), vs = [.ref a] ∧ SqL K H1 a xs ∧ R (Itv K a xs) H1
theorem pi_rev {X : Cx} {tg a : Expr} {ta : TA} {p pos : Pos} (hg : Gl X "reversed") (hm : X.mg "reversed" = none) (ha : PA X [a] ta) (hs : starEach [a] X.env = [(false, eval a X.env)] := by rfl) : PI X tg (.Call (.Name "reversed" p) [a] [] pos) (iRev X.K ta) := by
  intro pins s σ H R I h
  refine Call_ (ld_blt I hg hm boot_reversed (PyProof.Rows.callWith_type1 (thn (ha pos pins s σ H _ I h) fun us s1 ⟨vs, H1, I1, r1, q1⟩ => ?_) hs rfl))
  obtain ⟨l, xs, q0, hq, q⟩ := q1
  subst q0
  cases r1 with
  | cons r rr =>
    cases rr
    cases r
    obtain ⟨its, rv, pl, hz⟩ := I1.list hq
    have hl := rv.length
    refine call_reversed_list pl.isList (wpAny_pyIter_revIter (it := s1.heap.objs.size) (l := l) (i := (its.toArray.size : Int) - 1) ⟨_, Heap.get?_push_size _ rfl, rfl, rfl⟩ ?_)
    refine ⟨s1.heap.objs.size, [s1.heap.objs.size], _, _, H1, rfl, I1.kept (t' := s1.toks) fun b o e => Heap.get?_push_of_some _ e, turn_rev l _ xs, ⟨_, Heap.get?_push_size _ rfl, rfl, ?_⟩, fun b hb => ?_, q⟩
    · show Data.fields #[.ref l, rawInt ((its.toArray.size : Int) - 1)] = _
      rw [List.size_toArray, ← hl]; simp
    · have e : b = s1.heap.objs.size := by simpa using hb
      subst e
      exact I1.fpOk (Nat.le_refl _) (I1.hok.fresh (Nat.le_refl _))
theorem for_rev {K : PySem.W.Frag} {a : Addr} {xs : List V} {g : TG} {tb : TS} {D : Ends} {σ : St} {H : Hp} (Pv : Nat → St → Hp → Prop) (h0 : Pv 0 σ H) (hl : ∀ i σ H, i ≤ xs.length → Pv i σ H → SqL K H a xs)
    (hs : ∀ i x σ H, xs[xs.length - 1 - i]? = some x → i < xs.length → Pv i σ H → g x σ H fun σ2 H2 => tb { D with nx := Pv (i + 1), ct := Pv (i + 1), bk := D.nx } σ2 H2) (hd : ∀ σ H, Pv xs.length σ H → D.nx σ H) :
    ∃ W : Nat → Nat → St → Hp → Prop, (∃ m, W 0 m σ H) ∧ ∀ i m σ H, W i m σ H →
      ((Itv K a xs).stop i H ∧ D.nx σ H) ∨ ((Itv K a xs).go i H ∧ ∃ N : St → Hp → Prop, (∀ σ' H', N σ' H' → ∃ m', m' < m ∧ W (i + 1) m' σ' H') ∧ ∀ x H', (Itv K a xs).yld i H x H' → g x σ H' fun σ2 H2 => tb { D with nx := N, ct := N, bk := D.nx } σ2 H2) := by
  refine ⟨fun i m σ H => m = xs.length - i ∧ i ≤ xs.length ∧ Pv i σ H, ⟨xs.length, by simp, Nat.zero_le _, h0⟩, ?_⟩
  rintro i m σ H ⟨rfl, hi, p⟩
  have q := hl i σ H hi p
  by_cases hlt : i < xs.length
  · refine .inr ⟨⟨q, hlt⟩, Pv (i + 1), fun σ' H' p' => ⟨xs.length - (i + 1), by omega, rfl, hlt, p'⟩, fun x H' y => ?_⟩
    obtain ⟨e, y⟩ := y
    subst e
    exact hs i x σ _ y hlt p
  · have e : i = xs.length := by omega
    exact .inl ⟨e, hd σ H (by rw [← e]; exact p)⟩
end L2
namespace L2
open PySem PySem.Spec PyProof.Rows
end L2
namespace L2
open PySem PySem.Spec PyProof.Rows
end L2
namespace L2
open PySem PySem.Spec PyProof.Rows
section
variable {X : Cx}
theorem pe_any {ι : Type} {e : Expr} {t : ι → TE} (h : ∀ i, PE X e (t i)) : PE X e (fun σ H Q => ∃ i, t i σ H Q) := fun pins s σ H Q I ⟨i, q⟩ => h i pins s σ H Q I q
end
end L2
namespace L2
open PySem PySem.Spec PyProof.Rows
section
variable {prog : Program} {w : World} {A : Around} {E : Value → Shared → Prop} {s : Shared}
theorem pyHash_non {Q : Int → Shared → Prop} (h : Q 0xFCA86420 { s with toks := s.toks + 1 }) : wpAny (model prog w) A (pyHash .none) Q E s := by
  unfold pyHash
  have hv : [Value.none].any Value.onHeap = false := rfl
  refine wpAny_bind ?_
  rw [cRoomFor, if_neg (by rw [hv]; exact Bool.false_ne_true)]; refine wpAny_pure ?_
  refine wpAny_bind (wpAny_specialOf (typeIs_none s) PySem.F.slot_NoneType_hash.lookup ?_)
  show wpAny _ _ (if (some (Value.builtin "NoneType.__hash__") == some Value.none) = true then _ else _) Q E s
  rw [if_neg (by rw [beq_builtin_none]; exact Bool.false_ne_true)]
  refine wpAny_bind (wpAny_specialOf (typeIs_none s) PySem.F.slot_NoneType_hash.lookup ?_)
  show wpAny _ _ (callSpecialIfBoundUnlessNone? .none "__hash__" _ >>= _) Q E s
  refine wpAny_bind (wpAny_callSpecialIfBoundUnlessNone?_slot (typeIs_none s) PySem.F.slot_NoneType_hash
    (wpAny_call_entry PySem.F.slot_NoneType_hash (typeIs_none s) PySem.F.entry_NoneType_hash
      (show wpAny _ _ (do ret (← mkInt 0xFCA86420)) _ _ s from wpAny_ret_mkInt ?_) (PySem.F.args_NoneType_hash_1 _)))
  exact wpAny_pure h
end
def isN : Option Key → Value → Bool
  | none, .none => true
  | none, _ => false
  | some k, v => keyIs k v
theorem isN_none {v : Value} (h : isN none v = true) : v = .none := by
  cases v with
  | none => rfl
  | _ => cases h
theorem isN_key {k : Key} {v : Value} (h : keyIs k v = true) : isN none v = false := by
  rcases keyIs_shape h with ⟨i, t, rfl, rfl⟩ | ⟨x, t, rfl, rfl⟩ <;> rfl
def nonKind (prog : Program) (w : World) : PySem.KeyKind prog w (Option Key) where
  is := isN
  hash := fun k => match k with | none => 0xFCA86420 | some k => keyH w k
  inj := fun v a b ha hb => by
    cases a with
    | none =>
      cases b with
      | none => rfl
      | some k => rw [isN_key hb] at ha; cases ha
    | some k =>
      cases b with
      | none => rw [isN_key ha] at hb; cases hb
      | some k' => rw [(mixKind prog w).inj v k k' ha hb]
  byValue := fun k v h => by
    cases k with
    | none => rw [isN_none h]; rfl
    | some k => exact (mixKind prog w).byValue k v h
  pyHash := fun {A E s k v Q} hv h => by
    cases k with
    | none => rw [isN_none hv]; exact pyHash_non h
    | some k => exact (mixKind prog w).pyHash (k := k) hv h
  eqBool := fun {A E s a b u v Q} hu hv h => by
    cases a with
    | none =>
      have eu := isN_none hu
      subst eu
      cases b with
      | none =>
        have ev := isN_none hv
        subst ev
        rw [decide_eq_true rfl] at h
        unfold eqBool
        rw [if_pos (show (Value.none == Value.none) = true from rfl)]
        exact wpAny_bind (wpAny_rule (wpAny_pure (by simpa using h)))
      | some k =>
        rw [decide_eq_false (fun z => nomatch z)] at h
        rcases keyIs_shape hv with ⟨i, t, rfl, rfl⟩ | ⟨x, t, rfl, rfl⟩
        · exact SeqAt.EqAt.none_int i t _ _ _ _ h
        · exact SeqAt.EqAt.none_str x t _ _ _ _ h
    | some k =>
      cases b with
      | none =>
        have ev := isN_none hv
        subst ev
        rw [decide_eq_false (fun z => nomatch z)] at h
        rcases keyIs_shape hu with ⟨i, t, rfl, rfl⟩ | ⟨x, t, rfl, rfl⟩
        · exact SeqAt.EqAt.int_none i t _ _ _ _ h
        · exact SeqAt.EqAt.str_none x t _ _ _ _ h
      | some k' =>
        refine (mixKind prog w).eqBool (a := k) (b := k') hu hv ?_
        have e : decide ((some k : Option Key) = some k') = decide (k = k') := by
          by_cases q : k = k'
          · subst q; simp
          · rw [decide_eq_false q, decide_eq_false (fun z => q (Option.some.inj z))]
        rw [e] at h
        exact h
  «strs» := fun k x t v h => by
    cases k with
    | none => cases h
    | some k => exact (mixKind prog w).strs k x t v h
theorem map_non {prog : Program} {w : World} {h : Heap} {a : Addr} {f : Key → Option Value} (hm : h.MapOf (mixKind prog w) a f) : h.MapOf (nonKind prog w) a (fun k => match k with | none => none | some k => f k) := by
  obtain ⟨o, es, ep, ho, hx, hd, hk, hf⟩ := hm
  refine ⟨o, es, ep, ho, hx, hd, fun e he => ?_, fun k => ?_⟩
  · obtain ⟨k, h1, h2⟩ := hk e he
    exact ⟨some k, h1, h2⟩
  · cases k with
    | some k => exact hf k
    | none =>
      show findBy isN es none = none
      unfold findBy
      have e : (es.find? fun e => isN none e.key) = none := by
        rw [Array.find?_eq_none]
        intro e he
        obtain ⟨k, h1, _⟩ := hk e he
        rw [isN_key h1]
        exact Bool.false_ne_true
      rw [e]
      rfl
def DGetN (H : Hp) (a : Addr) (y : V) (o : Option V) : Prop := DGet H a y o ∨ (y = .non ∧ (∃ kvs, Rd H a (.dK kvs)) ∧ o = none)
section
variable {X : Cx} {pins : List (Addr × Obj)} {σ : St} {H : Hp} {s : Shared} {A : Around} {E : Value → Shared → Prop}
theorem d_inN {a : Addr} {y : V} {o : Option V} {u : Value} {Q : Value → Shared → Prop} (hu : A.units + 1 < cLine) (I : Inv X pins σ H s) (g : DGetN H a y o) (ry : RelV y u) (h : ∀ s', Inv X pins σ H s' → Q (.bool o.isSome) s') :
    wpAny (model X.prog X.w) A (compareOp .In u (.ref a)) Q E s := by
  rcases g with g | ⟨rfl, ⟨kvs, e⟩, rfl⟩
  · exact d_in hu I g ry h
  · obtain rfl : u = Value.none := ry
    obtain ⟨z, hd, vs, rel, dd⟩ := dk_rd I.hok e
    exact wpAny_in_of (k := none) (show (nonKind X.prog X.w).is none .none = true from rfl) hd (map_non dd.mapOf) (h _ (I.tok _))
def tDInN (ty td : TE) : TE := fun σ H Q => ty σ H fun y H1 => td σ H1 fun x H2 => ∃ a o, x = .ref a ∧ DGetN H2 a y o ∧ Q (.bl o.isSome) H2
theorem pc_dinN {i o : Expr} {ty td : TE} (hu : X.A.units + 1 < cLine) (hi : PE X i ty) (ho : PE X o td) : PC X .In i o (tDInN ty td) := by
  intro pins s σ H Q I h
  refine thn (hi pins s σ H _ I h) fun iv s1 ⟨y, H1, I1, ry, q1⟩ => thn (ho pins s1 σ H1 _ I1 q1) fun u s2 ⟨x, H2, I2, rx, a, ov, ex, g, q2⟩ => ?_
  subst ex
  obtain rfl : u = Value.ref a := rx
  exact d_inN hu I2 g ry fun s3 I3 => ⟨.bl ov.isSome, H2, I3, rfl, q2⟩
end
end L2
namespace L2
open PySem PySem.Spec PyProof.Rows
theorem noFill_tuple_mul : fillsNumberSlot (.type "tuple") "mul" = pure false :=
  PySem.fillsNumberSlot_seq (id := "tuple.__mul__") (r := some (.builtin "tuple.__rmul__")) PySem.F.slot_tuple_mul.lookup (by decide +kernel) PySem.F.slot_tuple_rmul.lookup (by decide +kernel)
theorem repeat_tuple : seqRepeat? (.type "tuple") = pure (some (.builtin "tuple.__mul__")) := by
  unfold seqRepeat?
  rw [PySem.seqSlot_of (T := "tuple") (name := "__mul__") (id := "tuple.__mul__") PySem.F.slot_tuple_mul.lookup (by decide +kernel), PySem.seqSlot_of (T := "tuple") (name := "__rmul__") (id := "tuple.__rmul__") PySem.F.slot_tuple_rmul.lookup (by decide +kernel)]
  rfl
theorem int_rmul_tuple (a : Int) (t : Tok) (l : Addr) (items : Array Value) (n : Nat) (dd : Option Addr) (sl : Array (Option Value)) :
    Meets (Builtin.«int.__rmul__» ⟨[.int a t, .ref l], []⟩) (fun _ R s => s.heap.get? l = some { cls := .type "tuple", dict := dd, data := .seq items n, slots := sl } ∧ R (.ok (.ret Value.notImplemented)) s) :=
  .of_wp fun prog w A R s h => by obtain ⟨hp, g, d, tk, os⟩ := s; obtain ⟨hl, h⟩ := h; wp_walk; exact ⟨_, rfl, h⟩
theorem tuple_mul1 (l : Addr) (items : Array Value) (n : Nat) (dd : Option Addr) (sl : Array (Option Value)) (t : Tok) :
    Meets (Builtin.«tuple.__mul__» ⟨[.ref l, .int 1 t], []⟩) (fun _ R s => s.heap.get? l = some { cls := .type "tuple", dict := dd, data := .seq items n, slots := sl } ∧ R (.ok (.ret (Value.ref l))) { s with heap := s.heap, toks := s.toks }) :=
  .of_wp fun prog w A R s h => by
    obtain ⟨hp, g, d, tk, os⟩ := s; obtain ⟨hl, h⟩ := h; have f2 := sub_tuple_tuple; have f1 := AutoSeq1.idx_int
    have hc1 : ((1 : Int) == 1) = true := rfl
    wp_walk using wpAny_loadPart' hl
    
    exact ⟨_, rfl, h⟩
theorem tuple_mul0 (l : Addr) (items : Array Value) (n : Nat) (dd : Option Addr) (sl : Array (Option Value)) (t : Tok) (hc0 : ¬ items.isEmpty = true) :
    Meets (Builtin.«tuple.__mul__» ⟨[.ref l, .int 0 t], []⟩) (fun _ R s => s.heap.get? l = some { cls := .type "tuple", dict := dd, data := .seq items n, slots := sl } ∧ R (.ok (.ret (Value.ref s.heap.objs.size))) { s with heap := s.heap.push { cls := Value.type "tuple", data := Data.seq #[] }, toks := s.toks }) :=
  .of_wp fun prog w A R s h => by
    obtain ⟨hp, g, d, tk, os⟩ := s; obtain ⟨hl, h⟩ := h; have f2 := sub_tuple_tuple; have f1 := AutoSeq1.idx_int
    wp_walk using wpAny_loadPart' hl
    
    exact ⟨_, rfl, h⟩
def rMulT (K : PySem.W.Frag) : R2 := fun x y H Q => ∃ (a : Addr) (xs : List V) (k : Int), x = .ref a ∧ y = .int k ∧ SqT K H a xs ∧ xs ≠ [] ∧ (k = 0 ∧ (∀ p, H p = none → Q (.ref p) (upd H p (.tup []))) ∨ k = 1 ∧ Q (.ref a) H)
theorem op_mulT {X : Cx} : OpR X (binaryOp .Mult) (rMulT X.K) := by
  intro pins s σ H x y v u Q I rx ry h
  obtain ⟨a, xs, k, rfl, rfl, ha, hx, h⟩ := h
  cases rx
  obtain ⟨t, rfl⟩ := ry
  obtain ⟨its, r1, p1, _⟩ := I.tuple ha
  obtain ⟨⟨cls, dd, data, sl⟩, ho, hc, n, hd⟩ := id p1
  simp only at hc hd
  subst hc hd
  have hne : ¬ its.toArray.isEmpty = true := fun z => hx (r1.nil_iff.mp (by simpa using z))
  refine wpAny_binaryOp_repeat_ref (T := "tuple") (U := "int") (by decide) ⟨_, ho, rfl⟩ (fun s' => typeIs_int s' k t) noFill_tuple_mul F.fills_int_mul F.slot_int_rmul repeat_tuple F.slot_int_index.lookup
    (call_meets F.slot_int_rmul (typeIs_int s k t) F.entry_int_rmul (F.args_int_rmul_2 _ _) (int_rmul_tuple k t a its.toArray n dd sl)
      ⟨ho, rfl, ⟨_, ho, rfl⟩, ?_⟩)
  rcases h with ⟨rfl, q⟩ | ⟨rfl, q⟩
  · refine call_meets F.slot_tuple_mul ⟨_, ho, rfl⟩ F.entry_tuple_mul (F.args_tuple_mul_2 _ _) (tuple_mul0 a its.toArray n dd sl t hne) ⟨ho, ?_⟩
    refine ⟨.ref s.heap.objs.size, _, I.laid (t' := s.toks) (o := .tup []) (fun b ob q => Heap.get?_push_of_some _ q) (Nat.le_refl _) ?_, rfl, q _ (I.hok.fresh (Nat.le_refl _))⟩
    exact ⟨Nat.zero_le _, _, .nil, IsTup.new _ _⟩
  · exact call_meets F.slot_tuple_mul ⟨_, ho, rfl⟩ F.entry_tuple_mul (F.args_tuple_mul_2 _ _) (tuple_mul1 a its.toArray n dd sl t) ⟨ho, .ref a, H, I, rfl, q⟩
end L2
namespace L2
open PySem PySem.Spec PyProof.Rows
theorem op_neN {X : Cx} (hu : X.A.units + 100 < cLine) : OpR X (compareOp .NotEq) (fun x y H Q => rEqT X.K true x y H Q ∨ ∃ b ys, x = .non ∧ y = .ref b ∧ SqT X.K H b ys ∧ Q (.bl true) H) := by
  intro pins s σ H x y v u Q I rx ry h
  rcases h with h | ⟨b, ys, rfl, rfl, hy, q⟩
  · exact op_neT hu pins s σ H x y v u Q I rx ry h
  · cases rx
    cases ry
    obtain ⟨ib, rb, pb, _⟩ := I.tuple hy
    exact SeqAt.RcNeAt.none_tuple pb.isTuple' (by omega) _ _ _ _ ⟨.bl _, H, I, rfl, q⟩
theorem sub_ri_reversed : isSubtype (.type "range_iterator") (.type "reversed") = pure false := by rw [isSubtype_type]; kernel_rfl
section
variable {prog : Program} {w : World} {A : Around} {E : Value → Shared → Prop} {s : Shared}
def rrObj (n : Int) : Obj := { cls := .type "range_iterator", data := .fields #[rawInt (n - 1), rawInt n, rawInt (-1)] }
theorem call_range_reversed {r : Addr} {n : Int} {t u v : Tok} {Q : Value → Shared → Prop} (hr : IsRange s.heap r 0 n 1 t u v) (h0 : 0 ≤ n) (h1 : n < 2 ^ 62)
    (h : Q (.ref s.heap.objs.size) { s with heap := s.heap.push (rrObj n) }) : wpAny (model prog w) A (call (.builtin "range.__reversed__") [.ref r]) Q E s := by
  have hT : s.TypeIs (.ref r) "range" := ⟨_, hr, rfl⟩
  refine wpAny_call_entry F.slot_range_reversed hT F.entry_range_reversed ?_ (F.args_range_reversed_1 _)
  unfold Builtin.«range.__reversed__»
  refine wpAny_bind (wpAny_of_eq (a := Value.ref r) rfl ?_)
  refine wpAny_bind (m := Builtin.Range.rangeFields (.ref r)) ?_
  unfold Builtin.Range.rangeFields
  refine wpAny_bind (wpAny_field hr rfl (x := .int 0 t) rfl ?_)
  refine wpAny_bind (wpAny_of_eq (a := some 0) rfl ?_)
  refine wpAny_bind (wpAny_field hr rfl (x := .int n u) rfl ?_)
  refine wpAny_bind (wpAny_of_eq (a := some n) rfl ?_)
  refine wpAny_bind (wpAny_field hr rfl (x := .int 1 v) rfl ?_)
  refine wpAny_bind (wpAny_of_eq (a := some 1) rfl ?_)
  refine wpAny_pure ?_
  have hn : Builtin.Range.rangeSize 0 n 1 = n := by rw [rangeSize_one]; split <;> omega
  have hs : (Builtin.Range.rangeFitsLong 0 && Builtin.Range.rangeFitsLong n && Builtin.Range.rangeFitsLong 1 && Builtin.Range.rangeFitsLong (-1) && Builtin.Range.rangeFitsLong (0 - 1) && Builtin.Range.rangeFitsLong n) = true := by
    simp only [Builtin.Range.rangeFitsLong, Bool.and_eq_true, Bool.or_eq_true, decide_eq_true_eq, beq_iff_eq]
    omega
  simp only [hn, hs, Bool.not_true, Bool.false_eq_true, if_false, if_true]
  exact wpAny_bind (wpAny_newObj_type (wpAny_pure ⟨_, rfl, by
    have e : (0 : Int) + (n - 1) * 1 = n - 1 := by omega
    rw [e]; exact h⟩))
theorem code_reversed_newR {r : Addr} {n : Int} {t u v : Tok} {Q₁ : Value → Shared → Prop} (hr : IsRange s.heap r 0 n 1 t u v) (h0 : 0 ≤ n) (h1 : n < 2 ^ 62)
    (h : Q₁ (.ref s.heap.objs.size) { s with heap := s.heap.push (rrObj n) }) :
    codeAny (model prog w) A (.call (.builtin "reversed.__new__") ⟨[.type "reversed", .ref r], []⟩) (wants Q₁ E) s := by
  have hT : s.TypeIs (.ref r) "range" := ⟨_, hr, rfl⟩
  refine codeAny_of_tree ?_
  show wpAny _ A.in1 (do checkBuiltinCall "reversed.__new__" ⟨[.type "reversed", .ref r], []⟩; again (.builtin "reversed.__new__" ⟨[.type "reversed", .ref r], []⟩)) _ _ s
  refine wpAny_bind (wpAny_of_eq (F.newCall_reversed_1 _) (wpAny_pure ⟨plainId_quiet F.plain_reversed_new _, codeAny_builtin F.entry_reversed_new ?_⟩))
  rw [Around.under_plainId F.plain_reversed_new _]
  unfold Builtin.«reversed.__new__»
  refine wpAny_bind (wpAny_of_eq (newClass_reversed _) ?_)
  try dsimp only
  refine wpAny_bind (wpAny_of_eq (a := ()) (by first | rfl | kernel_rfl) ?_)
  refine wpAny_bind (wpAny_of_eq (a := ()) (by first | rfl | kernel_rfl) ?_)
  try dsimp only
  refine wpAny_bind (wpAny_specialOf hT F.slot_range_reversed.lookup ?_)
  try dsimp only
  refine wpAny_bind (wpAny_of_eq (F.slot_range_reversed.bind _) ?_)
  try dsimp only
  first
  | rw [if_neg (show ¬ ((Value.builtin "range.__reversed__" == Value.none) = true) from Bool.false_ne_true)]
  | (show wpAny _ _ (if (Value.builtin "range.__reversed__" == Value.none) = true then _ else _) _ _ _; rw [if_neg (show ¬ ((Value.builtin "range.__reversed__" == Value.none) = true) from Bool.false_ne_true)])
  refine wpAny_bind (wpAny_rule ?_)
  refine wpAny_bind (m := runValue (.call (.builtin "range.__reversed__") ⟨[.ref r], []⟩)) (show wpAny _ _ (call (.builtin "range.__reversed__") [.ref r]) _ _ _ from call_range_reversed hr h0 h1 ?_)
  first
  | exact wpAny_pure h
  | exact wpAny_bind (wpAny_pure (wpAny_pure h))
theorem call_reversed_range {r : Addr} {n : Int} {t u v : Tok} {Q : Value → Shared → Prop} (hr : IsRange s.heap r 0 n 1 t u v) (h0 : 0 ≤ n) (h1 : n < 2 ^ 62)
    (h : Q (.ref s.heap.objs.size) { s with heap := s.heap.push (rrObj n) }) : wpAny (model prog w) A (call (.type "reversed") [.ref r]) Q E s := by
  refine callType_other (U := "range_iterator") (Q₁ := fun obj s₁ => obj = .ref s.heap.objs.size ∧ s₁ = { s with heap := s.heap.push (rrObj n) }) (by decide +kernel) F.create_reversed ⟨_, _, F.mro_reversed⟩ F.made_reversed sub_ri_reversed (F.typeCall_reversed_1 _) (code_reversed_newR hr h0 h1 ⟨rfl, rfl⟩) ?_
  rintro obj s₁ ⟨rfl, rfl⟩
  exact ⟨⟨_, Heap.get?_push_size _ rfl, rfl⟩, h⟩
end
def Itd (n : Nat) : It := ⟨fun i _ => i < n, fun i H x H' => H' = H ∧ x = .int ((n : Int) - 1 - i), fun i _ => n ≤ i⟩
theorem turn_rrng {P : Program} {w : World} {K : PySem.W.Frag} {tg : Expr} (it : Addr) (n : Nat) : Turn P w K tg (Itd n) [it] it (fun i h => IsRangeIter h it ((n : Int) - 1 + (i : Nat) * (-1)) ((n : Int) - (i : Nat)) (-1)) where
  mem := by simp
  obj := fun i h st b hb => by
    have e : b = it := by simpa using hb
    subst e
    exact ⟨_, st, fun v z => by
      have z' : Data.fields _ = Data.cell v := z
      cases z'⟩
  keep := fun i h h' st k => k it (by simp) _ st
  item := by
    intro X hP hw hK hc i pins s σ H E I hf st hg
    subst hP hw hK
    obtain ⟨f0, f1, f2, f3, f4, f5⟩ := hf it (by simp)
    have W := Walks.range (prog := X.prog) (w := X.w) (I.ok.hd hc) it ((n : Int) - 1) (-1) n
    refine W.item i s _ _ hg st fun v h' tk hv st' kk => ?_
    obtain ⟨t, rfl⟩ := hv
    have I1 : Inv X pins σ H { s with heap := h', toks := tk } := I.turned (fun b o hb e => kk b o (by simpa using hb) e) f0 f1 f3 f4 f5
    refine ⟨_, rfl, go_of (s := { s with heap := h', toks := tk }) (n := "range_iterator") st' rfl rfl (by decide) ⟨.int ((n : Int) - 1 - i), H, I1, ⟨t, ?_⟩, ⟨rfl, rfl⟩, st', fun b hb => (hf b hb).1⟩⟩
    congr 1
    omega
  done := by
    intro X hP hw hK hc i pins s σ H E I hf st hg
    subst hP hw hK
    obtain ⟨f0, f1, f2, f3, f4, f5⟩ := hf it (by simp)
    exact wpAny_pyNext_range_end (I.ok.hd hc) st (by have : n ≤ i := hg; omega) fun h' eb => ⟨rfl, I.turned (t' := s.toks) (fun b o hb e => eb b o hb e) f0 f1 f3 f4 f5⟩
  self := fun _ _ _ _ _ st h => wpAny_pyIter_rangeiter st h
def iRrg (ta : TA) : TI := fun σ H R => ta σ H fun vs H1 => ∃ j : Int, vs = [.int j] ∧ 0 ≤ j ∧ j < 2 ^ 62 ∧ R (Itd j.toNat) H1
theorem pi_rrng {X : Cx} {tg a : Expr} {ta : TA} {p p2 pos pos2 : Pos} (hg : Gl X "reversed") (hm : X.mg "reversed" = none) (hg2 : Gl X "range") (hm2 : X.mg "range" = none) (ha : PA X [a] ta) (hs : starEach [a] X.env = [(false, eval a X.env)] := by rfl)
    (hs2 : starEach [.Call (.Name "range" p2) [a] [] pos2] X.env = [(false, eval (.Call (.Name "range" p2) [a] [] pos2) X.env)] := by rfl) : PI X tg (.Call (.Name "reversed" p) [.Call (.Name "range" p2) [a] [] pos2] [] pos) (iRrg ta) := by
  intro pins s σ H R I h
  refine Call_ (ld_blt I hg hm boot_reversed (PyProof.Rows.callWith_type1 ?_ hs2 rfl))
  rw [hs2]
  show wpAny _ _ (spliced ((false, eval (.Call (.Name "range" p2) [a] [] pos2) X.env) :: backTo pos (starEach [] X.env))) _ _ s
  refine Calls.spliced_cons (thn (Q := fun u s1 => ∃ (r : Addr) (j : Int) (t u' v : Tok) (H1 : Hp), u = .ref r ∧ IsRange s1.heap r 0 j 1 t u' v ∧ 0 ≤ j ∧ j < 2 ^ 62 ∧ Inv X pins σ H1 s1 ∧ R (Itd j.toNat) H1) ?_ fun u s1 ⟨r, j, t, u', v, H1, e, hr, h0, h1, I1, q⟩ => ?_)
  · refine Call_ (ld_blt I hg2 hm2 boot_range (PyProof.Rows.callWith_type1 (thn (ha pos2 pins s σ H _ I h) fun us s1 ⟨vs, H1, I1, r1, q1⟩ => ?_) hs rfl))
    obtain ⟨j, e, q1, q2, q⟩ := q1
    subst e
    cases r1 with
    | cons r rr =>
      cases rr
      obtain ⟨t, rfl⟩ := r
      refine call_range_1 ⟨_, j, _, _, _, H1, rfl, IsRange.new .., q1, q2, ?_, q⟩
      exact I1.kept fun b o e => Heap.get?_push_of_some _ e
  · subst e
    refine Calls.spliced_nil ?_
    refine call_reversed_range hr h0 h1 (wpAny_pyIter_rangeiter (it := s1.heap.objs.size) (Heap.get?_push_size _ rfl) ?_)
    refine ⟨s1.heap.objs.size, [s1.heap.objs.size], _, _, H1, rfl, I1.kept (t' := s1.toks) fun b o e => Heap.get?_push_of_some _ e, turn_rrng _ j.toNat, ?_, fun b hb => ?_, q⟩
    · have e1 : ((j.toNat : Nat) : Int) - 1 + ((0 : Nat) : Int) * (-1) = j - 1 := by omega
      have e2 : ((j.toNat : Nat) : Int) - ((0 : Nat) : Int) = j := by omega
      show IsRangeIter _ _ (((j.toNat : Nat) : Int) - 1 + ((0 : Nat) : Int) * (-1)) (((j.toNat : Nat) : Int) - ((0 : Nat) : Int)) (-1)
      rw [e1, e2]
      exact Heap.get?_push_size _ rfl
    · have e : b = s1.heap.objs.size := by simpa using hb
      subst e
      exact I1.fpOk (Nat.le_refl _) (I1.hok.fresh (Nat.le_refl _))
theorem for_rrng {n : Nat} {g : TG} {tb : TS} {D : Ends} {σ : St} {H : Hp} (Pv : Nat → St → Hp → Prop) (h0 : Pv 0 σ H)
    (hs : ∀ i σ H, i < n → Pv i σ H → g (.int ((n : Int) - 1 - i)) σ H fun σ2 H2 => tb { D with nx := Pv (i + 1), ct := Pv (i + 1), bk := D.nx } σ2 H2) (hd : ∀ σ H, Pv n σ H → D.nx σ H) :
    ∃ W : Nat → Nat → St → Hp → Prop, (∃ m, W 0 m σ H) ∧ ∀ i m σ H, W i m σ H →
      ((Itd n).stop i H ∧ D.nx σ H) ∨ ((Itd n).go i H ∧ ∃ N : St → Hp → Prop, (∀ σ' H', N σ' H' → ∃ m', m' < m ∧ W (i + 1) m' σ' H') ∧ ∀ x H', (Itd n).yld i H x H' → g x σ H' fun σ2 H2 => tb { D with nx := N, ct := N, bk := D.nx } σ2 H2) := by
  refine ⟨fun i m σ H => m = n - i ∧ i ≤ n ∧ Pv i σ H, ⟨n, by simp, Nat.zero_le _, h0⟩, ?_⟩
  rintro i m σ H ⟨rfl, hi, p⟩
  by_cases hlt : i < n
  · refine .inr ⟨hlt, Pv (i + 1), fun σ' H' p' => ⟨n - (i + 1), by omega, rfl, hlt, p'⟩, fun x H' y => ?_⟩
    obtain ⟨e, y⟩ := y
    subst e y
    exact hs i σ _ hlt p
  · have e : i = n := by omega
    exact .inl ⟨by show n ≤ i; omega, hd σ H (by rw [← e]; exact p)⟩
end L2
namespace L2
open PySem PySem.Spec PyProof.Rows
end L2
namespace K54
open PySem L2
theorem ifT {c A B : Prop} [Decidable c] (hc : c) (h : A) : if decide c = true then A else B := by
  rw [if_pos (decide_eq_true hc)]; exact h
theorem ifF {c A B : Prop} [Decidable c] (hc : ¬ c) (h : B) : if decide c = true then A else B := by
  rw [if_neg (by rw [decide_eq_false hc]; exact Bool.false_ne_true)]; exact h
def WORDS : List Str := ["wait", "hear", "take", "ask"]
theorem bT {x : Bool} {A B : Prop} (h : x = true) (a : A) : if x = true then A else B := by rw [if_pos h]; exact a
theorem bF {x : Bool} {A B : Prop} (h : x = false) (b : B) : if x = true then A else B := by rw [h, if_neg Bool.false_ne_true]; exact b

def top (i : Nat) : Stmt := PySem.Challenge.pw_nightwatch_k54_faults_go_out.main.body.getD i (.Pass ⟨0, 0, 0, 0⟩)
inductive Kd where
  | frame | rounds | kept | tried | cleaned | limited | grouped
deriving DecidableEq
inductive Fl where
  | rows | line | scope | begun | named | held | left | fault | others | cleaning | told
deriving DecidableEq
def Fl.name : Fl → Str
  | .rows => "rows" | .line => "line" | .scope => "scope" | .begun => "begun_rows" | .named => "named" | .held => "held" | .left => "rounds_left" | .fault => "fault" | .others => "others" | .cleaning => "cleaning" | .told => "told_faults"
def qHides : Kd → Str
  | .kept => "Kept.hides" | .cleaned => "Cleaned.hides" | _ => "Frame.hides"
def sHides : Kd → Stmt
  | .kept => inClass (top 4) 0 | .cleaned => inClass (top 6) 2 | _ => inClass (top 2) 3
def qOver : Kd → Str
  | .rounds => "Rounds.over" | .cleaned => "Cleaned.over" | .grouped => "Grouped.over" | _ => "Frame.over"
def sOver : Kd → Stmt
  | .rounds => inClass (top 3) 1 | .cleaned => inClass (top 6) 3 | .grouped => inClass (top 8) 3 | _ => inClass (top 2) 4
def qMeets : Kd → Str
  | .tried => "Tried.meets" | .cleaned => "Cleaned.meets" | .limited => "Limited.meets" | .grouped => "Grouped.meets" | _ => "Frame.meets"
def sMeets : Kd → Stmt
  | .tried => inClass (top 5) 1 | .cleaned => inClass (top 6) 4 | .limited => inClass (top 7) 1 | .grouped => inClass (top 8) 4 | _ => inClass (top 2) 5

set_option genInjectivity false in
structure Tx (K : PySem.W.Frag) (mg : Str → Option Value) where
  d_is_name_of_value : Def K mg "is_name_of_value" (top 11) ["value"]
  d_l_cell_at : Def K mg "_law_cell_at" (top 14) ["_law_script", "_law_k"]
  d_l_mixed : Def K mg "_law_mixed" (top 15) ["_law_cell", "_law_k"]
  d_l_chain : Def K mg "_law_chain" (top 16) ["_law_script", "_law_turn"]
  d_l_nested : Def K mg "_law_nested" (top 17) ["_law_chain_here", "_law_inner"]
  d_l_scopes : Def K mg "_law_scopes" (top 18) ["_law_chain_here"]
  d_l_entered : Def K mg "_law_entered" (top 20) ["_law_machine", "_law_chain_here"]
  d_l_halted : Def K mg "_law_halted" (top 21) ["_law_machine", "_law_line", "_law_scope", "_law_faults", "_law_pick"]
  d_l_out : Def K mg "_law_out" (top 22) ["_law_machine", "_law_chain_here", "_law_frames", "_law_faults"]
  d_l_right : Def K mg "_law_right" (top 23) ["_law_script", "_law_turn"]
  C_Machine : Addr
  k_Machine : Cls K C_Machine
  h_Machine : mg "Machine" = some (.ref C_Machine)
  n_Machine_frames : NoAttr K C_Machine "frames"
  n_Machine_last_scope : NoAttr K C_Machine "last_scope"
  n_Machine_named_values : NoAttr K C_Machine "named_values"
  n_Machine_given : NoAttr K C_Machine "given"
  n_Machine_marks : NoAttr K C_Machine "marks"
  n_Machine_signal : NoAttr K C_Machine "signal"
  n_Machine_struck : NoAttr K C_Machine "struck"
  n_Machine_want : NoAttr K C_Machine "want"
  n_Machine_ending : NoAttr K C_Machine "ending"
  m_Machine___init__ : MDef K C_Machine "__init__" "Machine.__init__" (inClass (top 12) 0) ["self", "rows"]
  m_Machine_waiting : MDef K C_Machine "waiting" "Machine.waiting" (inClass (top 12) 1) ["self"]
  m_Machine_outcome : MDef K C_Machine "outcome" "Machine.outcome" (inClass (top 12) 2) ["self"]
  m_Machine_target : MDef K C_Machine "target" "Machine.target" (inClass (top 12) 5) ["self"]
  m_Machine_joined : MDef K C_Machine "joined" "Machine.joined" (inClass (top 12) 12) ["self", "faults"]
  m_Machine_step : MDef K C_Machine "step" "Machine.step" (inClass (top 12) 13) ["self"]
  m_Machine_go_on : MDef K C_Machine "go_on" "Machine.go_on" (inClass (top 12) 14) ["self"]
  m_Machine_leave_innermost : MDef K C_Machine "leave_innermost" "Machine.leave_innermost" (inClass (top 12) 15) ["self"]
  m_Machine_wait_at : MDef K C_Machine "wait_at" "Machine.wait_at" (inClass (top 12) 16) ["self", "want"]
  m_Machine_leave_group : MDef K C_Machine "leave_group" "Machine.leave_group" (inClass (top 12) 17) ["self", "frame"]
  m_Machine_begin_clean_up : MDef K C_Machine "begin_clean_up" "Machine.begin_clean_up" (inClass (top 12) 18) ["self", "frame", "signal"]
  m_Machine_end_with : MDef K C_Machine "end_with" "Machine.end_with" (inClass (top 12) 19) ["self", "outcome"]
  m_Machine_send_out : MDef K C_Machine "send_out" "Machine.send_out" (inClass (top 12) 20) ["self"]
  m_Machine_halt_at : MDef K C_Machine "halt_at" "Machine.halt_at" (inClass (top 12) 21) ["self", "frame", "signal"]
  m_Machine_value_of : MDef K C_Machine "value_of" "Machine.value_of" (inClass (top 12) 22) ["self", "value"]
  m_Machine_do_row : MDef K C_Machine "do_row" "Machine.do_row" (inClass (top 12) 24) ["self", "row"]
  m_Machine_enter_scope : MDef K C_Machine "enter_scope" "Machine.enter_scope" (inClass (top 12) 25) ["self", "row"]
  m_Machine_do_quietly : MDef K C_Machine "do_quietly" "Machine.do_quietly" (inClass (top 12) 26) ["self", "row"]
  M_Machine : Mk K C_Machine m_Machine___init__.f
  ww : Addr
  wwm : mg "WAITING_WORDS" = some (.ref ww)
  wws : ∀ H : Hp, SqT K H ww (WORDS.map V.str)
  C : Kd → Addr
  cl : ∀ c, Cls K (C c)
  na : ∀ c l, NoAttr K (C c) (Fl.name l)
  m_next_row : ∀ c, MDef K (C c) "next_row" "Frame.next_row" (inClass (top 2) 1) ["self"]
  m_begin_anew : ∀ c, MDef K (C c) "begin_anew" "Frame.begin_anew" (inClass (top 2) 2) ["self", "rows"]
  m_hides : ∀ c, MDef K (C c) "hides" (qHides c) (sHides c) ["self"]
  m_over : ∀ c, MDef K (C c) "over" (qOver c) (sOver c) ["self"]
  m_meets : ∀ c, MDef K (C c) "meets" (qMeets c) (sMeets c) ["self", "signal"]
  m_halt : MDef K (C .grouped) "halt" "Grouped.halt" (inClass (top 8) 1) ["self", "signal"]
  m_tell_joined : MDef K (C .grouped) "tell_joined" "Grouped.tell_joined" (inClass (top 8) 2) ["self", "faults"]
  m_clean : MDef K (C .cleaned) "clean" "Cleaned.clean" (inClass (top 6) 1) ["self", "signal"]
  h_frame : mg "Frame" = some (.ref (C .frame))
  h_rounds : mg "Rounds" = some (.ref (C .rounds))
  h_kept : mg "Kept" = some (.ref (C .kept))
  h_tried : mg "Tried" = some (.ref (C .tried))
  h_cleaned : mg "Cleaned" = some (.ref (C .cleaned))
  h_limited : mg "Limited" = some (.ref (C .limited))
  h_grouped : mg "Grouped" = some (.ref (C .grouped))
  i_frame : MDefD K (C .frame) "__init__" "Frame.__init__" (inClass (top 2) 0) ["self", "rows", "line", "scope"]
  i_rounds : MDef K (C .rounds) "__init__" "Rounds.__init__" (inClass (top 3) 0) ["self", "rows", "line", "many"]
  i_kept : MDefD K (C .kept) "__init__" "Frame.__init__" (inClass (top 2) 0) ["self", "rows", "line", "scope"]
  i_tried : MDef K (C .tried) "__init__" "Tried.__init__" (inClass (top 5) 0) ["self", "rows", "line", "fault", "others"]
  i_cleaned : MDef K (C .cleaned) "__init__" "Cleaned.__init__" (inClass (top 6) 0) ["self", "rows", "line", "others"]
  i_limited : MDef K (C .limited) "__init__" "Limited.__init__" (inClass (top 7) 0) ["self", "rows", "line", "scope", "others"]
  i_grouped : MDef K (C .grouped) "__init__" "Grouped.__init__" (inClass (top 8) 0) ["self", "rows", "line", "scope", "named"]
  M_frame : Mk K (C .frame) i_frame.f
  M_rounds : Mk K (C .rounds) i_rounds.f
  M_kept : Mk K (C .kept) i_kept.f
  M_tried : Mk K (C .tried) i_tried.f
  M_cleaned : Mk K (C .cleaned) i_cleaned.f
  M_limited : Mk K (C .limited) i_limited.f
  M_grouped : Mk K (C .grouped) i_grouped.f
  n_len : mg "len" = none
  n_range : mg "range" = none
  n_tuple : mg "tuple" = none
  n_list : mg "list" = none
  n_int : mg "int" = none
  n_all : mg "all" = none
  n_isinstance : mg "isinstance" = none
  n_min : mg "min" = none
  n_reversed : mg "reversed" = none
  n_str : mg "str" = none
section
variable {P : Program} {w : World} {K : PySem.W.Frag} {mg : Str → Option Value} {base : Heap}
seal PE PT PW PA PS PSs PG PGs PI PC PTs PO
theorem name_inj : ∀ a b : Fl, a.name = b.name → a = b := by
  intro a b
  cases a <;> cases b <;> first
    | (intro _; rfl)
    | (intro h; exact absurd h (by decide +kernel))
def setG (g : Fl → Option V) (l : Fl) (v : V) : Fl → Option V := fun x => if x = l then some v else g x
def But (d : Addr) (H H' : Hp) : Prop := ∀ c o, c ≠ d → H c = some o → H' c = some o
theorem But.refl (d : Addr) (H : Hp) : But d H H := fun _ _ _ h => h
theorem But.trans {d : Addr} {H H1 H2 : Hp} (a : But d H H1) (b : But d H1 H2) : But d H H2 := fun c o n h => b c o n (a c o n h)
theorem But.of {d : Addr} {H H' : Hp} (s : Same H H') : But d H H' := fun c o _ h => s c o h
theorem But.tup {d : Addr} {H H' : Hp} {C dx : Addr} {fs : List (Str × V)} {a : Addr} {xs : List V} (b : But d H H') (e : H d = some (.ins C dx fs)) (h : H a = some (.tup xs)) : H' a = some (.tup xs) := b _ _ (ne_of h e (fun z => nomatch z)) h
structure FrAt (T : Tx K mg) (n : Nat) (c : Kd) (H : Hp) (p : Addr) (g : Fl → Option V) : Prop where
  ex : ∃ dx fs, H p = some (.ins (T.C c) dx fs) ∧ fs.length ≤ n ∧ (∀ l : Fl, fs.lookup l.name = g l) ∧ ∀ m : Str, (∀ l : Fl, l.name ≠ m) → fs.lookup m = none
theorem FrAt.same {T : Tx K mg} {n : Nat} {c : Kd} {H H' : Hp} {p : Addr} {g : Fl → Option V} (F : FrAt T n c H p g) (s : Same H H') : FrAt T n c H' p g := by
  obtain ⟨dx, fs, h1, h2⟩ := F.ex
  exact ⟨dx, fs, s _ _ h1, h2⟩
theorem FrAt.mono {T : Tx K mg} {n m : Nat} {c : Kd} {H : Hp} {p : Addr} {g : Fl → Option V} (F : FrAt T n c H p g) (h : n ≤ m) : FrAt T m c H p g := by
  obtain ⟨dx, fs, h1, h2, h3⟩ := F.ex
  exact ⟨dx, fs, h1, Nat.le_trans h2 h, h3⟩
theorem FrAt.new {T : Tx K mg} {c : Kd} {H : Hp} {p dx : Addr} (h : H p = some (.ins (T.C c) dx [])) : FrAt T 0 c H p (fun _ => none) := ⟨dx, [], h, Nat.le_refl _, fun _ => rfl, fun _ _ => rfl⟩
theorem FrAt.fld {T : Tx K mg} {n : Nat} {c : Kd} {H : Hp} {p : Addr} {g : Fl → Option V} (F : FrAt T n c H p g) {l : Fl} {v : V} {σ : St} {i : Nat} {R : VK} (hσ : σ[i]? = some (some (.ref p))) (e : g l = some v) (k : R v H) : tFld K (tVar i) l.name σ H R := by
  obtain ⟨dx, fs, h1, _, h3, _⟩ := F.ex
  exact ⟨_, hσ, p, _, dx, fs, v, rfl, h1, T.cl c, T.na c l, (h3 l).trans e, k⟩
theorem len_putF_old {f : Str} {v : V} : ∀ {fs : List (Str × V)}, fs.lookup f ≠ none → (putF f v fs).length = fs.length
  | [], h => absurd rfl h
  | (g, x) :: r, h => by
    show (if g = f then (g, v) :: r else (g, x) :: putF f v r).length = _
    by_cases e : g = f
    · rw [if_pos e]; rfl
    · rw [if_neg e]
      show (putF f v r).length + 1 = r.length + 1
      rw [len_putF_old]
      intro z
      apply h
      rw [List.lookup_cons]
      have : (f == g) = false := by simp [Ne.symm e]
      rw [this]; exact z
theorem FrAt.put {T : Tx K mg} {n : Nat} {c : Kd} {H : Hp} {p : Addr} {g : Fl → Option V} (F : FrAt T n c H p g) (l : Fl) (v : V) : ∃ dx fs, H p = some (.ins (T.C c) dx fs) ∧ fs.length ≤ n ∧
    FrAt T (n + 1) c (upd H p (.ins (T.C c) dx (putF l.name v fs))) p (setG g l v) ∧ (g l ≠ none → FrAt T n c (upd H p (.ins (T.C c) dx (putF l.name v fs))) p (setG g l v)) := by
  obtain ⟨dx, fs, h1, h2, h3, h4⟩ := F.ex
  have q1 : ∀ x : Fl, (putF l.name v fs).lookup x.name = setG g l v x := fun x => by
    rw [lookup_putF]
    unfold setG
    by_cases e : x = l
    · rw [if_pos (by rw [e]), if_pos e]
    · rw [if_neg (fun z => e (name_inj _ _ z)), if_neg e, h3]
  have q2 : ∀ m : Str, (∀ l : Fl, l.name ≠ m) → (putF l.name v fs).lookup m = none := fun m hm => by
    rw [lookup_putF, if_neg (Ne.symm (hm l)), h4 m hm]
  refine ⟨dx, fs, h1, h2, ⟨dx, _, upd_same, ?_, q1, q2⟩, fun hg => ⟨dx, _, upd_same, ?_, q1, q2⟩⟩
  · have := length_putF l.name v fs; omega
  · rw [len_putF_old (by rw [h3]; exact hg)]; exact h2
def stG (K : PySem.W.Frag) (i : Nat) (l : Fl) (y : V) (N : Hp → Prop) (σ : St) (H : Hp) : Prop := tVar i σ H fun x H2 => ∃ a C dx fs, x = .ref a ∧ H2 a = some (.ins C dx fs) ∧ Cls K C ∧ NoAttr K C l.name ∧ fs.length < 1000 ∧ N (upd H2 a (.ins C dx (putF l.name y fs)))
theorem FrAt.st {T : Tx K mg} {n : Nat} {c : Kd} {H : Hp} {p : Addr} {g : Fl → Option V} (F : FrAt T n c H p g) (hn : n < 900) {l : Fl} {y : V} {N : Hp → Prop} {σ : St} {i : Nat} (hσ : σ[i]? = some (some (.ref p))) (k : ∀ H2, But p H H2 → FrAt T (n + 1) c H2 p (setG g l y) → N H2) : stG K i l y N σ H := by
  obtain ⟨dx, fs, h1, h2, h3, _⟩ := F.put l y
  exact ⟨_, hσ, p, _, dx, fs, rfl, h1, T.cl c, T.na c l, by omega, k _ (fun b o nb e => by rw [upd_ne nb]; exact e) h3⟩
theorem FrAt.re {T : Tx K mg} {n : Nat} {c : Kd} {H : Hp} {p : Addr} {g : Fl → Option V} (F : FrAt T n c H p g) (hn : n < 900) {l : Fl} {y : V} {N : Hp → Prop} {σ : St} {i : Nat} (hσ : σ[i]? = some (some (.ref p))) (hg : g l ≠ none) (k : ∀ H2, But p H H2 → FrAt T n c H2 p (setG g l y) → N H2) : stG K i l y N σ H := by
  obtain ⟨dx, fs, h1, h2, _, h3⟩ := F.put l y
  exact ⟨_, hσ, p, _, dx, fs, rfl, h1, T.cl c, T.na c l, by omega, k _ (fun b o nb e => by rw [upd_ne nb]; exact e) (h3 hg)⟩
structure Sf where
  line : Int
  ra : Addr
  rows : List V
  oa : Addr
  others : List V
  sc : V
  place : Nat
  left : Int
  fault : Str
  cleaning : Bool
  named : V
  held : V
  told : V
def gOf (c : Kd) (s : Sf) : Fl → Option V
  | .rows => some (.ref s.ra)
  | .line => some (.int s.line)
  | .scope => some s.sc
  | .begun => some (.int (s.place : Nat))
  | .named => some s.named
  | .held => some s.held
  | .left => if c = .rounds then some (.int s.left) else none
  | .fault => if c = .tried then some (.str s.fault) else none
  | .others => if c = .tried ∨ c = .cleaned ∨ c = .limited then some (.ref s.oa) else none
  | .cleaning => if c = .cleaned then some (.bl s.cleaning) else none
  | .told => if c = .grouped then some s.told else none
structure FAt (T : Tx K mg) (c : Kd) (H : Hp) (p : Addr) (s : Sf) : Prop where
  fr : FrAt T 11 c H p (gOf c s)
  rs : H s.ra = some (.tup s.rows)
  os : H s.oa = some (.tup s.others)
  pl : s.place ≤ s.rows.length
  rl : s.rows.length ≤ 10
  ol : s.others.length ≤ 10
theorem FAt.same {T : Tx K mg} {c : Kd} {H H' : Hp} {p : Addr} {s : Sf} (F : FAt T c H p s) (e : Same H H') : FAt T c H' p s := ⟨F.fr.same e, e _ _ F.rs, e _ _ F.os, F.pl, F.rl, F.ol⟩
theorem FAt.but {T : Tx K mg} {c : Kd} {H H' : Hp} {p a : Addr} {s : Sf} {xs : List V} (F : FAt T c H p s) (b : But p H H') (h : H a = some (.tup xs)) : H' a = some (.tup xs) := by
  obtain ⟨dx, fs, h1, _⟩ := F.fr.ex
  exact b.tup h1 h
def hidesF (c : Kd) (s : Sf) : Bool := if c = .kept then true else if c = .cleaned then s.cleaning else false
def overF (c : Kd) (s : Sf) : Str := if c = .rounds then (if s.left < 1 then "out" else "on") else if c = .cleaned then (if s.cleaning = true then "out" else "clean") else if c = .grouped then (if s.told = .non then "join" else "leave") else "out"
def overS (c : Kd) (s : Sf) : Sf := if c = .rounds ∧ ¬ s.left < 1 then { s with left := s.left - 1, place := 0 } else s
theorem overS_no {c : Kd} {s : Sf} (h : c ≠ .rounds) : overS c s = s := by unfold overS; rw [if_neg (fun z => h z.1)]
inductive Sig where
  | strike (n : Int)
  | faults (a : Str) (r : List Str)
def SigAt (H : Hp) (t : Addr) : Sig → Prop
  | .strike n => H t = some (.tup [.str "strike", .int n])
  | .faults a r => ∃ u, H t = some (.tup [.str "faults", .ref u]) ∧ H u = some (.tup (.str a :: r.map V.str))
theorem SigAt.same {H H' : Hp} {t : Addr} {g : Sig} (h : SigAt H t g) (s : Same H H') : SigAt H' t g := by
  cases g with
  | strike n => exact s _ _ h
  | faults a r =>
    obtain ⟨u, h1, h2⟩ := h
    exact ⟨u, s _ _ h1, s _ _ h2⟩
def meetsF (c : Kd) (s : Sf) (g : Sig) : Str :=
  if c = .tried then (match g with
    | .faults a _ => if s.fault = "any" ∨ s.fault = a then "caught" else "out"
    | .strike _ => "out")
  else if c = .cleaned then (if s.cleaning = true then "out" else "clean")
  else if c = .limited then (match g with
    | .strike n => if s.sc = .int n then "late" else "out"
    | .faults _ _ => "out")
  else if c = .grouped then "halt" else "out"
def spFInit (T : Tx K mg) : Sp := fun vs H Q _ => ∃ (c : Kd) (p a : Addr) (xs : List V) (ln sc : V), vs = [.ref p, .ref a, ln, sc] ∧ FrAt T 0 c H p (fun _ => none) ∧ H a = some (.tup xs) ∧
  ∀ H', But p H H' → FrAt T 6 c H' p (fun l => match l with | .rows => some (.ref a) | .line => some ln | .scope => some sc | .begun => some (.int 0) | .named => some .non | .held => some .non | _ => none) → Q .non H'
def spNext (T : Tx K mg) : Sp := fun vs H Q _ => ∃ (c : Kd) (p : Addr) (s : Sf), vs = [.ref p] ∧ FAt T c H p s ∧ (s.place = s.rows.length → Q .non H) ∧ (∀ v, s.rows[s.place]? = some v → ∀ H', But p H H' → FAt T c H' p { s with place := s.place + 1 } → Q v H')
def spAnew (T : Tx K mg) : Sp := fun vs H Q _ => ∃ (c : Kd) (p a : Addr) (s : Sf) (xs : List V), vs = [.ref p, .ref a] ∧ FAt T c H p s ∧ H a = some (.tup xs) ∧ xs.length ≤ 10 ∧ ∀ H', But p H H' → FAt T c H' p { s with ra := a, rows := xs, place := 0 } → Q .non H'
def spHides (T : Tx K mg) (c : Kd) : Sp := fun vs H Q _ => ∃ (p : Addr) (s : Sf), vs = [.ref p] ∧ FAt T c H p s ∧ Q (.bl (hidesF c s)) H
def spOver (T : Tx K mg) (c : Kd) : Sp := fun vs H Q _ => ∃ (p : Addr) (s : Sf), vs = [.ref p] ∧ FAt T c H p s ∧ ∀ H', But p H H' → FAt T c H' p (overS c s) → Q (.str (overF c s)) H'
def spMeets (T : Tx K mg) (c : Kd) : Sp := fun vs H Q _ => ∃ (p t : Addr) (s : Sf) (g : Sig), vs = [.ref p, .ref t] ∧ FAt T c H p s ∧ SigAt H t g ∧ (c = .limited → ∃ n, s.sc = .int n) ∧ ∀ H', Same H H' → Q (.str (meetsF c s g)) H'
def spClean (T : Tx K mg) : Sp := fun vs H Q _ => ∃ (p : Addr) (s : Sf) (v : V), vs = [.ref p, v] ∧ FAt T .cleaned H p s ∧ ∀ H', But p H H' → FAt T .cleaned H' p { s with ra := s.oa, rows := s.others, place := 0, cleaning := true, held := v } → Q .non H'
def haltS (s : Sf) (a t : Addr) (g : Sig) : Sf := { s with ra := a, rows := [], place := 0, held := (match g with | .strike _ => .ref t | .faults _ _ => .non) }
def cleanS (s : Sf) (v : V) : Sf := { s with ra := s.oa, rows := s.others, place := 0, cleaning := true, held := v }
def spTell (T : Tx K mg) : Sp := fun vs H Q _ => ∃ (p a : Addr) (s : Sf) (xs : List V), vs = [.ref p, .ref a] ∧ FAt T .grouped H p s ∧ H a = some (.tup xs) ∧ ∀ H', But p H H' → FAt T .grouped H' p { s with told := .ref a } → Q .non H'
def spHalt (T : Tx K mg) : Sp := fun vs H Q _ => ∃ (p t : Addr) (s : Sf) (g : Sig), vs = [.ref p, .ref t] ∧ FAt T .grouped H p s ∧ SigAt H t g ∧ ∀ H' a, (∀ c o, c ≠ p → H c = some o → H' c = some o) → FAt T .grouped H' p { s with ra := a, rows := [], place := 0, held := (match g with | .strike _ => .ref t | .faults _ _ => .non) } → Q .non H'
theorem FAt.mt {T : Tx K mg} {c : Kd} {H : Hp} {p : Addr} {s : Sf} (F : FAt T c H p s) {m : Str} (hm : ∀ l : Fl, l.name ≠ m) {N : Prop} (k : N) : ∃ (x : Addr) (x_1 : List (Str × V)), H p = some (.ins (T.C c) x x_1) ∧ List.lookup m x_1 = none ∧ N := by
  obtain ⟨dx, fs, h1, _, _, h4⟩ := F.fr.ex
  exact ⟨dx, fs, h1, h4 m hm, k⟩
theorem nf_anew : ∀ l : Fl, l.name ≠ "begin_anew" := by intro l; cases l <;> decide +kernel
theorem nf_next : ∀ l : Fl, l.name ≠ "next_row" := by intro l; cases l <;> decide +kernel
theorem nf_hides : ∀ l : Fl, l.name ≠ "hides" := by intro l; cases l <;> decide +kernel
theorem nf_over : ∀ l : Fl, l.name ≠ "over" := by intro l; cases l <;> decide +kernel
theorem nf_meets : ∀ l : Fl, l.name ≠ "meets" := by intro l; cases l <;> decide +kernel
theorem nf_clean : ∀ l : Fl, l.name ≠ "clean" := by intro l; cases l <;> decide +kernel
theorem FAt.re {T : Tx K mg} {c : Kd} {H : Hp} {p : Addr} {s s' : Sf} (F : FAt T c H p s) {l : Fl} {y : V} {N : Hp → Prop} {σ : St} {i : Nat} (hσ : σ[i]? = some (some (.ref p))) (hg : gOf c s l ≠ none) (e : setG (gOf c s) l y = gOf c s')
    (h1 : H s'.ra = some (.tup s'.rows)) (h2 : H s'.oa = some (.tup s'.others)) (h3 : s'.place ≤ s'.rows.length) (h4 : s'.rows.length ≤ 10) (h5 : s'.others.length ≤ 10) (k : ∀ H2, But p H H2 → FAt T c H2 p s' → N H2) : stG K i l y N σ H :=
  F.fr.re (by decide) hσ hg fun H2 b2 F2 => k H2 b2 ⟨by rw [← e]; exact F2, F.but b2 h1, F.but b2 h2, h3, h4, h5⟩
def newS (c : Kd) (s : Sf) : Prop := s.place = 0 ∧ s.held = .non ∧ (c ≠ .grouped → s.named = .non) ∧ (c = .rounds ∨ c = .tried ∨ c = .cleaned → s.sc = .non) ∧ (c = .cleaned → s.cleaning = false) ∧ (c = .grouped → s.told = .non)
def argsI (c : Kd) (s : Sf) : List V :=
  match c with
  | .rounds => [.ref s.ra, .int s.line, .int (s.left + 1)]
  | .tried => [.ref s.ra, .int s.line, .str s.fault, .ref s.oa]
  | .cleaned => [.ref s.ra, .int s.line, .ref s.oa]
  | .limited => [.ref s.ra, .int s.line, s.sc, .ref s.oa]
  | .grouped => [.ref s.ra, .int s.line, s.sc, s.named]
  | _ => [.ref s.ra, .int s.line, s.sc]
def spI (T : Tx K mg) (c : Kd) : Sp := fun vs H Q _ => ∃ (p : Addr) (s : Sf), vs = .ref p :: argsI c s ∧ newS c s ∧ FrAt T 0 c H p (fun _ => none) ∧ H s.ra = some (.tup s.rows) ∧ H s.oa = some (.tup s.others) ∧ s.rows.length ≤ 10 ∧ s.others.length ≤ 10 ∧ ∀ H', But p H H' → FAt T c H' p s → Q .non H'
theorem FrAt.tup {T : Tx K mg} {n : Nat} {c : Kd} {H H' : Hp} {p a : Addr} {g : Fl → Option V} {xs : List V} (F : FrAt T n c H p g) (b : But p H H') (h : H a = some (.tup xs)) : H' a = some (.tup xs) := by
  obtain ⟨dx, fs, h1, _⟩ := F.ex
  exact b.tup h1 h
theorem mk_new {T : Tx K mg} {c : Kd} {H : Hp} {x dx : Addr} (nx : H x = none) (ndx : H dx = none) (nex : dx ≠ x) : FrAt T 0 c (upd (upd H dx (.own x)) x (.ins (T.C c) dx [])) x (fun _ => none) ∧ Same H (upd (upd H dx (.own x)) x (.ins (T.C c) dx [])) :=
  ⟨.new upd_same, (Same.upd ndx).trans (Same.upd (by rw [upd_ne (Ne.symm nex)]; exact nx))⟩
theorem same_new {H H1 H' : Hp} {x : Addr} (nx : H x = none) (s : Same H H1) (b : But x H1 H') : Same H H' := fun c o e => b c o (ne_of_none e nx) (s c o e)
inductive Ml where
  | frames | lastS | values | given | marks | signal | struck | want | ending
deriving DecidableEq
def Ml.name : Ml → Str
  | .frames => "frames" | .lastS => "last_scope" | .values => "named_values" | .given => "given" | .marks => "marks" | .signal => "signal" | .struck => "struck" | .want => "want" | .ending => "ending"
def Ml.ix : Ml → Fin 9
  | .frames => 0 | .lastS => 1 | .values => 2 | .given => 3 | .marks => 4 | .signal => 5 | .struck => 6 | .want => 7 | .ending => 8
def MLS : List Ml := [.frames, .lastS, .values, .given, .marks, .signal, .struck, .want, .ending]
theorem mls_nd : (MLS.map Ml.name).Nodup := by decide +kernel
theorem mls_all (l : Ml) : MLS[l.ix.val]? = some l := by cases l <;> rfl
theorem mname_inj (a b : Ml) (h : a.name = b.name) : a = b := by
  have ha := mls_all a
  have hb := mls_all b
  have e1 : (MLS.map Ml.name)[a.ix.val]? = some a.name := by rw [List.getElem?_map, ha]; rfl
  have e2 : (MLS.map Ml.name)[b.ix.val]? = some a.name := by rw [List.getElem?_map, hb, h]; rfl
  have l1 := (List.getElem?_eq_some_iff.mp e1).1
  have e := (List.getElem?_inj l1 mls_nd).mp (e1.trans e2.symm)
  rw [e] at ha
  exact Option.some.inj (ha.symm.trans hb)
theorem Tx.nm (T : Tx K mg) (l : Ml) : NoAttr K T.C_Machine l.name := match l with
  | .frames => T.n_Machine_frames | .lastS => T.n_Machine_last_scope | .values => T.n_Machine_named_values | .given => T.n_Machine_given | .marks => T.n_Machine_marks | .signal => T.n_Machine_signal | .struck => T.n_Machine_struck | .want => T.n_Machine_want | .ending => T.n_Machine_ending
def setM (g : Ml → Option V) (l : Ml) (v : V) : Ml → Option V := fun x => if x = l then some v else g x
structure ObAt (T : Tx K mg) (n : Nat) (H : Hp) (p : Addr) (g : Ml → Option V) : Prop where
  ex : ∃ dx fs, H p = some (.ins (T.C_Machine) dx fs) ∧ fs.length ≤ n ∧ (∀ l : Ml, fs.lookup l.name = g l) ∧ ∀ m : Str, (∀ l : Ml, l.name ≠ m) → fs.lookup m = none
theorem ObAt.same {T : Tx K mg} {n : Nat} {H H' : Hp} {p : Addr} {g : Ml → Option V} (F : ObAt T n H p g) (s : Same H H') : ObAt T n H' p g := by
  obtain ⟨dx, fs, h1, h2⟩ := F.ex
  exact ⟨dx, fs, s _ _ h1, h2⟩
theorem ObAt.new {T : Tx K mg} {H : Hp} {p dx : Addr} (h : H p = some (.ins (T.C_Machine) dx [])) : ObAt T 0 H p (fun _ => none) := ⟨dx, [], h, Nat.le_refl _, fun _ => rfl, fun _ _ => rfl⟩
theorem ObAt.fld {T : Tx K mg} {n : Nat} {H : Hp} {p : Addr} {g : Ml → Option V} (F : ObAt T n H p g) {l : Ml} {v : V} {σ : St} {i : Nat} {R : VK} (hσ : σ[i]? = some (some (.ref p))) (e : g l = some v) (k : R v H) : tFld K (tVar i) l.name σ H R := by
  obtain ⟨dx, fs, h1, _, h3, _⟩ := F.ex
  exact ⟨_, hσ, p, _, dx, fs, v, rfl, h1, T.k_Machine, T.nm l, (h3 l).trans e, k⟩
theorem ObAt.put {T : Tx K mg} {n : Nat} {H : Hp} {p : Addr} {g : Ml → Option V} (F : ObAt T n H p g) (l : Ml) (v : V) : ∃ dx fs, H p = some (.ins (T.C_Machine) dx fs) ∧ fs.length ≤ n ∧
    ObAt T (n + 1) (upd H p (.ins (T.C_Machine) dx (putF l.name v fs))) p (setM g l v) ∧ (g l ≠ none → ObAt T n (upd H p (.ins (T.C_Machine) dx (putF l.name v fs))) p (setM g l v)) := by
  obtain ⟨dx, fs, h1, h2, h3, h4⟩ := F.ex
  have q1 : ∀ x : Ml, (putF l.name v fs).lookup x.name = setM g l v x := fun x => by
    rw [lookup_putF]
    unfold setM
    by_cases e : x = l
    · rw [if_pos (by rw [e]), if_pos e]
    · rw [if_neg (fun z => e (mname_inj _ _ z)), if_neg e, h3]
  have q2 : ∀ m : Str, (∀ l : Ml, l.name ≠ m) → (putF l.name v fs).lookup m = none := fun m hm => by
    rw [lookup_putF, if_neg (Ne.symm (hm l)), h4 m hm]
  refine ⟨dx, fs, h1, h2, ⟨dx, _, upd_same, ?_, q1, q2⟩, fun hg => ⟨dx, _, upd_same, ?_, q1, q2⟩⟩
  · have := length_putF l.name v fs; omega
  · rw [len_putF_old (by rw [h3]; exact hg)]; exact h2
def mtG (K : PySem.W.Frag) (i : Nat) (l : Ml) (y : V) (N : Hp → Prop) (σ : St) (H : Hp) : Prop := tVar i σ H fun x H2 => ∃ a C dx fs, x = .ref a ∧ H2 a = some (.ins C dx fs) ∧ Cls K C ∧ NoAttr K C l.name ∧ fs.length < 1000 ∧ N (upd H2 a (.ins C dx (putF l.name y fs)))
theorem ObAt.st {T : Tx K mg} {n : Nat} {H : Hp} {p : Addr} {g : Ml → Option V} (F : ObAt T n H p g) {l : Ml} {y : V} {N : Hp → Prop} {σ : St} {i : Nat} (hσ : σ[i]? = some (some (.ref p))) (k : ∀ H2, But p H H2 → ObAt T (n + 1) H2 p (setM g l y) → N H2) (hn : n < 900 := by decide) : mtG K i l y N σ H := by
  obtain ⟨dx, fs, h1, h2, h3, _⟩ := F.put l y
  exact ⟨_, hσ, p, _, dx, fs, rfl, h1, T.k_Machine, T.nm l, by omega, k _ (fun b o nb e => by rw [upd_ne nb]; exact e) h3⟩
theorem ObAt.re {T : Tx K mg} {n : Nat} {H : Hp} {p : Addr} {g : Ml → Option V} (F : ObAt T n H p g) {l : Ml} {y : V} {N : Hp → Prop} {σ : St} {i : Nat} (hσ : σ[i]? = some (some (.ref p))) (hg : g l ≠ none) (k : ∀ H2, But p H H2 → ObAt T n H2 p (setM g l y) → N H2) (hn : n < 900 := by decide) : mtG K i l y N σ H := by
  obtain ⟨dx, fs, h1, h2, _, h3⟩ := F.put l y
  exact ⟨_, hσ, p, _, dx, fs, rfl, h1, T.k_Machine, T.nm l, by omega, k _ (fun b o nb e => by rw [upd_ne nb]; exact e) (h3 hg)⟩
theorem noml {z : Str} (h : (MLS.map Ml.name).contains z = false) (l : Ml) : l.name ≠ z := fun e => by
  have m : l.name ∈ MLS.map Ml.name := List.mem_map.mpr ⟨l, List.mem_of_getElem? (mls_all l), rfl⟩
  rw [e] at m
  rw [List.contains_eq_mem, decide_eq_true m] at h
  cases h
theorem ObAt.call {T : Tx K mg} {n : Nat} {H : Hp} {p : Addr} {g : Ml → Option V} (F : ObAt T n H p g) {z : Str} {A : Prop} (k : A) (h : (MLS.map Ml.name).contains z = false := by decide +kernel) : ∃ x y, H p = some (.ins (T.C_Machine) x y) ∧ y.lookup z = none ∧ A := by
  obtain ⟨dx, fs, h1, _, _, h4⟩ := F.ex
  exact ⟨dx, fs, h1, h4 z (noml h), k⟩
set_option genInjectivity false in
structure Mc where
  fl : Addr
  nv : Addr
  mr : Addr
  ls : Int
  gv : V
  sg : V
  st : Bool
  wt : V
  en : V
def Mc.g (m : Mc) : Ml → Option V
  | .frames => some (.ref m.fl) | .lastS => some (.int m.ls) | .values => some (.ref m.nv) | .given => some m.gv | .marks => some (.ref m.mr) | .signal => some m.sg | .struck => some (.bl m.st) | .want => some m.wt | .ending => some m.en
set_option genInjectivity false in
structure Fm where
  a : Addr
  c : Kd
  s : Sf
structure MAt (T : Tx K mg) (H : Hp) (p : Addr) (stk : List Fm) (kv mk : List (Key × V)) (m : Mc) : Prop where
  ob : ObAt T 9 H p m.g
  fl : H m.fl = some (.lst (stk.map fun x => V.ref x.a))
  fr : ∀ x ∈ stk, FAt T x.c H x.a x.s
  nd : (p :: stk.map (·.a)).Nodup
  nv : H m.nv = some (.dK kv)
  mr : H m.mr = some (.dK mk)
  ne : m.nv ≠ m.mr
  sc : ∀ x ∈ stk, x.s.sc = .non ∨ ∃ i, x.s.sc = .int i
theorem MAt.same {T : Tx K mg} {H H' : Hp} {p : Addr} {stk : List Fm} {kv mk : List (Key × V)} {m : Mc} (M : MAt T H p stk kv mk m) (s : Same H H') : MAt T H' p stk kv mk m :=
  ⟨M.ob.same s, s _ _ M.fl, fun x hx => (M.fr x hx).same s, M.nd, s _ _ M.nv, s _ _ M.mr, M.ne, M.sc⟩
def inM (mk : List (Key × V)) : V → Bool
  | .int i => (valV mk (Sum.inl i : Key)).isSome
  | _ => false
def targR (mk : List (Key × V)) : List Fm → V → V
  | [], found => found
  | x :: r, found => if hidesF x.c x.s = true then found else targR mk r (if inM mk x.s.sc = true then x.s.sc else found)
def spTarget (T : Tx K mg) : Sp := fun vs H Q _ => ∃ (p : Addr) (stk : List Fm) (kv mk : List (Key × V)) (m : Mc), vs = [.ref p] ∧ MAt T H p stk kv mk m ∧ Q (targR mk stk.reverse .non) H
def spWaiting (T : Tx K mg) : Sp := fun vs H Q _ => ∃ (p : Addr) (m : Mc), vs = [.ref p] ∧ ObAt T 9 H p m.g ∧ Q m.wt H
theorem FAt.off {T : Tx K mg} {c : Kd} {H H' : Hp} {a p C dx : Addr} {fs : List (Str × V)} {s : Sf} (F : FAt T c H a s) (b : But p H H') (n : a ≠ p) (hp : H p = some (.ins C dx fs)) : FAt T c H' a s := by
  obtain ⟨dy, gs, h1, h2⟩ := F.fr.ex
  exact ⟨⟨dy, gs, b _ _ n h1, h2⟩, b.tup hp F.rs, b.tup hp F.os, F.pl, F.rl, F.ol⟩
theorem MAt.byP {T : Tx K mg} {H H' : Hp} {p : Addr} {stk : List Fm} {kv mk : List (Key × V)} {m m' : Mc} (M : MAt T H p stk kv mk m) (b : But p H H') (ob : ObAt T 9 H' p m'.g) (e1 : m'.fl = m.fl) (e2 : m'.nv = m.nv) (e3 : m'.mr = m.mr) : MAt T H' p stk kv mk m' := by
  obtain ⟨dx, fs, h1, _⟩ := M.ob.ex
  refine ⟨ob, ?_, fun x hx => (M.fr x hx).off b (fun z => (List.nodup_cons.mp M.nd).1 (z ▸ List.mem_map.mpr ⟨x, hx, rfl⟩)) h1, M.nd, ?_, ?_, ?_, M.sc⟩
  · rw [e1]; exact b _ _ (ne_of M.fl h1 (fun z => nomatch z)) M.fl
  · rw [e2]; exact b _ _ (ne_of M.nv h1 (fun z => nomatch z)) M.nv
  · rw [e3]; exact b _ _ (ne_of M.mr h1 (fun z => nomatch z)) M.mr
  · rw [e2, e3]; exact M.ne
theorem g_wt (m : Mc) (v : V) : setM m.g .want v = { m with wt := v }.g := by funext l; cases l <;> rfl
theorem g_sg (m : Mc) (v : V) : setM m.g .signal v = { m with sg := v }.g := by funext l; cases l <;> rfl
theorem g_en (m : Mc) (v : V) : setM m.g .ending v = { m with en := v }.g := by funext l; cases l <;> rfl
theorem g_fl (m : Mc) (l : Addr) : setM m.g .frames (.ref l) = { m with fl := l }.g := by funext x; cases x <;> rfl
def spWaitAt (T : Tx K mg) : Sp := fun vs H Q _ => ∃ (p : Addr) (stk : List Fm) (kv mk : List (Key × V)) (m : Mc) (q : Addr), vs = [.ref p, .ref q] ∧ MAt T H p stk kv mk m ∧
  (targR mk stk.reverse .non = .non → ∀ H', But p H H' → MAt T H' p stk kv mk { m with wt := .ref q } → Q (.ref q) H') ∧
  (∀ i, targR mk stk.reverse .non = .int i → ∀ H' t, But p H H' → H' t = some (.tup [.str "strike", .int i]) → MAt T H' p stk kv mk { m with sg := .ref t } → Q .non H')
def spEndWith (T : Tx K mg) : Sp := fun vs H Q _ => ∃ (p : Addr) (m : Mc) (q : Addr), vs = [.ref p, .ref q] ∧ ObAt T 9 H p m.g ∧
  ∀ H' t l, But p H H' → ObAt T 9 H' p { m with fl := l, en := .ref q }.g → H' t = some (.tup [.str "ended", .int 0, .ref q]) → Q (.ref t) H'
theorem targ_is {T : Tx K mg} {H : Hp} {p : Addr} {stk : List Fm} {kv mk : List (Key × V)} {m : Mc} (M : MAt T H p stk kv mk m) : targR mk stk.reverse .non = .non ∨ ∃ i, targR mk stk.reverse .non = .int i := by
  have : ∀ (l : List Fm) (fd : V), (∀ x ∈ l, x ∈ stk) → (fd = .non ∨ ∃ i, fd = .int i) → targR mk l fd = .non ∨ ∃ i, targR mk l fd = .int i := by
    intro l
    induction l with
    | nil => exact fun fd _ h => h
    | cons x r ih =>
      intro fd hl h
      show (if hidesF x.c x.s = true then fd else targR mk r (if inM mk x.s.sc = true then x.s.sc else fd)) = .non ∨ ∃ i, (if hidesF x.c x.s = true then fd else targR mk r (if inM mk x.s.sc = true then x.s.sc else fd)) = .int i
      by_cases c : hidesF x.c x.s = true
      · rw [if_pos c]; exact h
      · rw [if_neg c]
        refine ih _ (fun y hy => hl y (List.mem_cons_of_mem _ hy)) ?_
        by_cases c2 : inM mk x.s.sc = true
        · rw [if_pos c2]; exact M.sc x (hl x List.mem_cons_self)
        · rw [if_neg c2]; exact h
  exact this _ _ (fun x hx => List.mem_reverse.mp hx) (.inl rfl)
def spIsName : Sp := fun vs H Q _ => ∃ v : V, vs = [v] ∧ ((∃ n, v = .int n) ∧ Q (.bl false) H ∨ v = .str "x" ∧ Q (.bl true) H)
def spValueOf (T : Tx K mg) : Sp := fun vs H Q _ => ∃ (p : Addr) (m : Mc) (v : V), vs = [.ref p, v] ∧ ObAt T 9 H p m.g ∧ H m.nv = some (.dK []) ∧ (v = .int 0 ∨ v = .str "x") ∧ Q (.int 0) H
theorem MAt.byR {T : Tx K mg} {H : Hp} {p : Addr} {stk : List Fm} {kv mk mk' : List (Key × V)} {m : Mc} (M : MAt T H p stk kv mk m) : MAt T (upd H m.mr (.dK mk')) p stk kv mk' m := by
  obtain ⟨dx, fs, h1, h3⟩ := M.ob.ex
  refine ⟨⟨dx, fs, by rw [upd_ne (ne_of h1 M.mr (fun z => nomatch z))]; exact h1, h3⟩, by rw [upd_ne (ne_of M.fl M.mr (fun z => nomatch z))]; exact M.fl, fun x hx => ?_, M.nd, by rw [upd_ne M.ne]; exact M.nv, upd_same, M.ne, M.sc⟩
  have F := M.fr x hx
  obtain ⟨dy, gs, h2, h4⟩ := F.fr.ex
  exact ⟨⟨dy, gs, by rw [upd_ne (ne_of h2 M.mr (fun z => nomatch z))]; exact h2, h4⟩, by rw [upd_ne (ne_of F.rs M.mr (fun z => nomatch z))]; exact F.rs, by rw [upd_ne (ne_of F.os M.mr (fun z => nomatch z))]; exact F.os, F.pl, F.rl, F.ol⟩
def leaveF (mk : List (Key × V)) (v : V) : List (Key × V) := match v with
  | .int i => dropK mk (Sum.inl i)
  | _ => mk
theorem leave_no {mk : List (Key × V)} {i : Int} (h : (valV mk (Sum.inl i : Key)).isSome = false) : dropK mk (Sum.inl i) = mk := by
  have h : valV mk (Sum.inl i : Key) = none := by
    cases e : valV mk (Sum.inl i : Key) with
    | none => rfl
    | some v => rw [e] at h; cases h
  have hn := valV_not h
  unfold dropK
  exact List.filter_eq_self.mpr fun x hx => decide_eq_true fun e => hn (List.mem_map.mpr ⟨x, hx, e⟩)
def spLeaveIn (T : Tx K mg) : Sp := fun vs H Q _ => ∃ (p : Addr) (stk : List Fm) (x : Fm) (kv mk : List (Key × V)) (m : Mc), vs = [.ref p] ∧ MAt T H p (stk ++ [x]) kv mk m ∧
  ∀ H', (∀ c o, c ≠ m.fl → c ≠ m.mr → H c = some o → H' c = some o) → MAt T H' p stk kv (leaveF mk x.s.sc) m → Q .non H'
theorem MAt.byL {T : Tx K mg} {H : Hp} {p : Addr} {stk stk' : List Fm} {kv mk : List (Key × V)} {m : Mc} (M : MAt T H p stk kv mk m) (hf : ∀ x ∈ stk', FAt T x.c H x.a x.s) (hn : (p :: stk'.map (·.a)).Nodup) (hs : ∀ x ∈ stk', x.s.sc = .non ∨ ∃ i, x.s.sc = .int i) : MAt T (upd H m.fl (.lst (stk'.map fun x => V.ref x.a))) p stk' kv mk m := by
  obtain ⟨dx, fs, h1, h3⟩ := M.ob.ex
  refine ⟨⟨dx, fs, by rw [upd_ne (ne_of h1 M.fl (fun z => nomatch z))]; exact h1, h3⟩, upd_same, fun x hx => ?_, hn, by rw [upd_ne (ne_of M.nv M.fl (fun z => nomatch z))]; exact M.nv, by rw [upd_ne (ne_of M.mr M.fl (fun z => nomatch z))]; exact M.mr, M.ne, hs⟩
  have F := hf x hx
  obtain ⟨dy, gs, h2, h4⟩ := F.fr.ex
  exact ⟨⟨dy, gs, by rw [upd_ne (ne_of h2 M.fl (fun z => nomatch z))]; exact h2, h4⟩, by rw [upd_ne (ne_of F.rs M.fl (fun z => nomatch z))]; exact F.rs, by rw [upd_ne (ne_of F.os M.fl (fun z => nomatch z))]; exact F.os, F.pl, F.rl, F.ol⟩
theorem MAt.pop {T : Tx K mg} {H : Hp} {p : Addr} {stk : List Fm} {x : Fm} {kv mk : List (Key × V)} {m : Mc} (M : MAt T H p (stk ++ [x]) kv mk m) : MAt T (upd H m.fl (.lst (stk.map fun x => V.ref x.a))) p stk kv mk m := by
  refine M.byL (fun y hy => M.fr y (List.mem_append_left _ hy)) ?_ (fun y hy => M.sc y (List.mem_append_left _ hy))
  refine M.nd.sublist (List.Sublist.cons₂ _ ?_)
  rw [List.map_append]
  exact List.sublist_append_left _ _
theorem MAt.push {T : Tx K mg} {H H1 : Hp} {p : Addr} {stk : List Fm} {x : Fm} {kv mk : List (Key × V)} {m : Mc} (M : MAt T H p stk kv mk m) (s : Same H H1) (ha : H x.a = none) (F : FAt T x.c H1 x.a x.s) (hs : x.s.sc = .non ∨ ∃ i, x.s.sc = .int i) : MAt T (upd H1 m.fl (.lst ((stk ++ [x]).map fun x => V.ref x.a))) p (stk ++ [x]) kv mk m := by
  have M1 := M.same s
  refine M1.byL (fun y hy => ?_) ?_ (fun y hy => ?_)
  · rcases List.mem_append.mp hy with q | q
    · exact M1.fr y q
    · rw [List.mem_singleton.mp q]; exact F
  · obtain ⟨_, _, hp, _⟩ := M.ob.ex
    have hn := List.nodup_cons.mp M.nd
    rw [List.map_append, List.nodup_cons]
    refine ⟨fun z => ?_, ?_⟩
    · rcases List.mem_append.mp z with q | q
      · exact hn.1 q
      · have e : p = x.a := by simpa using q
        rw [e, ha] at hp; cases hp
    · rw [List.nodup_append]
      refine ⟨hn.2, by simp, fun y hy z hz e => ?_⟩
      have ez : z = x.a := by simpa using hz
      obtain ⟨w, hw, rfl⟩ := List.mem_map.mp hy
      obtain ⟨_, _, q, _⟩ := (M.fr w hw).fr.ex
      rw [e, ez, ha] at q
      cases q
  · rcases List.mem_append.mp hy with q | q
    · exact M.sc y q
    · rw [List.mem_singleton.mp q]; exact hs
def spBegClean (T : Tx K mg) : Sp := fun vs H Q _ => ∃ (p q : Addr) (x : Addr) (s : Sf), vs = [.ref p, .ref x, .ref q] ∧ FAt T .cleaned H x s ∧ ∀ H' t, But x H H' → FAt T .cleaned H' x (cleanS s (.ref q)) → H' t = some (.tup [.str "clean", .int s.line]) → Q (.ref t) H'
theorem nf_tell : ∀ l : Fl, l.name ≠ "tell_joined" := by intro l; cases l <;> decide +kernel
theorem nf_halt : ∀ l : Fl, l.name ≠ "halt" := by intro l; cases l <;> decide +kernel
theorem g_ls (m : Mc) (v : Int) : setM m.g .lastS (.int v) = { m with ls := v }.g := by funext l; cases l <;> rfl
def faultsOf : Sig → List V
  | .strike _ => []
  | .faults a r => .str a :: r.map V.str
def spHaltAt (T : Tx K mg) : Sp := fun vs H Q _ => ∃ (p x t : Addr) (m : Mc) (s : Sf) (g : Sig), vs = [.ref p, .ref x, .ref t] ∧ ObAt T 9 H p m.g ∧ p ≠ x ∧ FAt T .grouped H x s ∧ SigAt H t g ∧
  ∀ H' w u a, (∀ c o, c ≠ p → c ≠ x → H c = some o → H' c = some o) → H' w = some (.tup [.str "halt", .int s.line, s.sc, .ref u]) → H' u = some (.tup (faultsOf g)) → FAt T .grouped H' x (haltS s a t g) → ObAt T 9 H' p { m with wt := .ref w }.g → Q (.ref w) H'
def grpS (ln : Int) (ra : Addr) (rows : List V) (sc : Int) (nm : V) : Sf := { line := ln, ra := ra, rows := rows, oa := ra, others := rows, sc := .int sc, place := 0, left := 0, fault := "", cleaning := false, named := nm, held := .non, told := .non }
def limS (ln : Int) (ra : Addr) (rows : List V) (oa : Addr) (others : List V) (sc : Int) : Sf := { line := ln, ra := ra, rows := rows, oa := oa, others := others, sc := .int sc, place := 0, left := 0, fault := "", cleaning := false, named := .non, held := .non, told := .non }
def spEnter (T : Tx K mg) : Sp := fun vs H Q _ => ∃ (p q : Addr) (stk : List Fm) (kv mk : List (Key × V)) (m : Mc), vs = [.ref p, .ref q] ∧ MAt T H p stk kv mk m ∧ stk.length ≤ 100 ∧
  ((∃ (ln : Int) (nm : Str) (ra : Addr) (rows : List V), H q = some (.tup [.str "group", .int ln, .str nm, .ref ra]) ∧ H ra = some (.tup rows) ∧ rows.length ≤ 10 ∧
    ∀ a t H', (∀ c o, c ≠ p → c ≠ m.fl → H c = some o → H' c = some o) → H a = none → H' t = some (.tup [.str "group", .int ln, .int (m.ls + 1)]) → MAt T H' p (stk ++ [⟨a, .grouped, grpS ln ra rows (m.ls + 1) (.str nm)⟩]) kv mk { m with ls := m.ls + 1 } → Q (.ref t) H') ∨
   ∃ (ln n : Int) (ra oa : Addr) (rows others : List V), H q = some (.tup [.str "limit", .int ln, .int n, .ref ra, .ref oa]) ∧ H ra = some (.tup rows) ∧ H oa = some (.tup others) ∧ rows.length ≤ 10 ∧ others.length ≤ 10 ∧
    ∀ a t H', (∀ c o, c ≠ p → c ≠ m.fl → H c = some o → H' c = some o) → H a = none → H' t = some (.tup [.str "limit", .int ln, .int (m.ls + 1), .int n]) → MAt T H' p (stk ++ [⟨a, .limited, limS ln ra rows oa others (m.ls + 1)⟩]) kv mk { m with ls := m.ls + 1 } → Q (.ref t) H')

def QRow (H : Hp) (q : Addr) (c : Kd) (s : Sf) : Prop := match c with
  | .frame => H q = some (.tup [.str "when", .int s.line, .str "x", .int 0, .ref s.ra])
  | .rounds => H q = some (.tup [.str "repeat", .int s.line, .int (s.left + 1), .ref s.ra])
  | .kept => H q = some (.tup [.str "keep", .int s.line, .ref s.ra])
  | .tried => H q = some (.tup [.str "try", .int s.line, .ref s.ra, .str s.fault, .ref s.oa])
  | .cleaned => H q = some (.tup [.str "do", .int s.line, .ref s.ra, .ref s.oa])
  | _ => False
structure NewQ (H : Hp) (s : Sf) : Prop where
  pl : s.place = 0
  hd : s.held = .non
  nm : s.named = .non
  sc : s.sc = .non
  cl : s.cleaning = false
  tl : s.told = .non
  rs : H s.ra = some (.tup s.rows)
  os : H s.oa = some (.tup s.others)
  rl : s.rows.length ≤ 10
  ol : s.others.length ≤ 10
def spQuiet (T : Tx K mg) : Sp := fun vs H Q _ => ∃ (p q : Addr) (stk : List Fm) (mk : List (Key × V)) (m : Mc) (c : Kd) (s : Sf), vs = [.ref p, .ref q] ∧ MAt T H p stk [] mk m ∧ stk.length ≤ 100 ∧ QRow H q c s ∧ NewQ H s ∧
  ∀ a H', (∀ c o, c ≠ m.fl → H c = some o → H' c = some o) → H a = none → MAt T H' p (stk ++ [⟨a, c, s⟩]) [] mk m → Q .non H'
theorem pushed {T : Tx K mg} {H H2 : Hp} {p x : Addr} {stk : List Fm} {kv mk : List (Key × V)} {m : Mc} {c : Kd} {s : Sf} {Q : VK} (M : MAt T H p stk kv mk m) (hl : stk.length ≤ 100) (nx : H x = none) (s2 : Same H H2) (F2 : FAt T c H2 x s) (hs : s.sc = .non ∨ ∃ i, s.sc = .int i)
    (k : ∀ a H', (∀ c o, c ≠ m.fl → H c = some o → H' c = some o) → H a = none → MAt T H' p (stk ++ [⟨a, c, s⟩]) kv mk m → Q .non H') : rAppend (.ref m.fl) [.ref x] H2 fun _ H1 => Q .non H1 := by
  refine ⟨m.fl, _, _, rfl, rfl, s2 _ _ M.fl, by rw [List.length_map]; exact small1000 (by omega), ?_⟩
  have M3 := M.push (x := ⟨x, c, s⟩) s2 nx F2 hs
  have e : (stk ++ [(⟨x, c, s⟩ : Fm)]).map (fun x => V.ref x.a) = stk.map (fun x => V.ref x.a) ++ [V.ref x] := by simp
  rw [e] at M3
  exact k x _ (fun c o n h => by rw [upd_ne n]; exact s2 c o h) nx M3
theorem frm_of {T : Tx K mg} {c : Kd} {H : Hp} {x : Addr} {s : Sf} (hc : c = .frame ∨ c = .kept) (N : NewQ H s) (F : FrAt T 6 c H x (fun l => match l with | .rows => some (.ref s.ra) | .line => some (.int s.line) | .scope => some .non | .begun => some (.int 0) | .named => some .non | .held => some .non | _ => none)) : FAt T c H x s := by
  refine ⟨?_, N.rs, N.os, by rw [N.pl]; exact Nat.zero_le _, N.rl, N.ol⟩
  have F := F.mono (m := 11) (by decide)
  refine cast ?_ F
  congr 1
  funext l
  have e1 := N.pl
  have e2 := N.hd
  have e3 := N.nm
  have e4 := N.sc
  rcases hc with rfl | rfl <;> cases l <;> simp [gOf, e1, e2, e3, e4]

def spDoRow (T : Tx K mg) : Sp := fun vs H Q _ => ∃ (p q : Addr) (stk : List Fm) (mk : List (Key × V)) (m : Mc), vs = [.ref p, .ref q] ∧ MAt T H p stk [] mk m ∧ stk.length ≤ 100 ∧
  ((∃ (z : Str) (r : List V), (z = "wait" ∨ z = "hear") ∧ H q = some (.tup (.str z :: r)) ∧ spWaitAt T [.ref p, .ref q] H Q E0) ∨
   (∃ (z : Str) (r : List V), (z = "group" ∨ z = "limit") ∧ H q = some (.tup (.str z :: r)) ∧ spEnter T [.ref p, .ref q] H Q E0) ∨
   (∃ (ln : Int) (z : Str), H q = some (.tup [.str "ring", .int ln, .str z]) ∧ ∀ t H', Same H H' → H' t = some (.tup [.str "ring", .int ln, .str z]) → Q (.ref t) H') ∨
   (∃ (ln : Int) (z : Str), H q = some (.tup [.str "raise", .int ln, .str z]) ∧ ∀ t u w H', But p H H' → H' u = some (.tup [.str z]) → H' t = some (.tup [.str "faults", .ref u]) → H' w = some (.tup [.str "raise", .int ln, .str z]) → MAt T H' p stk [] mk { m with sg := .ref t } → Q (.ref w) H') ∨
   ∃ (c : Kd) (s : Sf), QRow H q c s ∧ NewQ H s ∧ ∀ a t H', (∀ c o, c ≠ m.fl → H c = some o → H' c = some o) → H a = none → H' t = some (.tup [.str "did", .int s.line]) → MAt T H' p (stk ++ [⟨a, c, s⟩]) [] mk m → Q (.ref t) H')
theorem q_word {H : Hp} {q : Addr} {c : Kd} {s : Sf} (h : QRow H q c s) : ∃ (z : Str) (r : List V), H q = some (.tup (.str z :: .int s.line :: r)) ∧ (z = "when" ∨ z = "repeat" ∨ z = "keep" ∨ z = "try" ∨ z = "do") := by
  cases c with
  | frame => exact ⟨_, _, h, .inl rfl⟩
  | rounds => exact ⟨_, _, h, .inr (.inl rfl)⟩
  | kept => exact ⟨_, _, h, .inr (.inr (.inl rfl))⟩
  | tried => exact ⟨_, _, h, .inr (.inr (.inr (.inl rfl)))⟩
  | cleaned => exact ⟨_, _, h, .inr (.inr (.inr (.inr rfl)))⟩
  | _ => exact h.elim
theorem enter_same {T : Tx K mg} {vs : List V} {H H1 : Hp} {Q : VK} {E : XK} (h : spEnter T vs H Q E) (s : Same H H1) : spEnter T vs H1 Q E := by
  obtain ⟨p, q, stk, kv, mk, m, e, M, hl, hk⟩ := h
  refine ⟨p, q, stk, kv, mk, m, e, M.same s, hl, ?_⟩
  rcases hk with ⟨ln, nm, ra, rows, h1, h2, h3, k⟩ | ⟨ln, n, ra, oa, rows, others, h1, h2, h3, h4, h5, k⟩
  · exact .inl ⟨ln, nm, ra, rows, s _ _ h1, s _ _ h2, h3, fun a t H' kp ha ht M' => k a t H' (fun c o n1 n2 h => kp c o n1 n2 (s c o h)) (s.free ha) ht M'⟩
  · exact .inr ⟨ln, n, ra, oa, rows, others, s _ _ h1, s _ _ h2, s _ _ h3, h4, h5, fun a t H' kp ha ht M' => k a t H' (fun c o n1 n2 h => kp c o n1 n2 (s c o h)) (s.free ha) ht M'⟩
theorem atI_last (l : List V) (v : V) : atI (l ++ [v]) (-1) = some v := by
  unfold atI ixN
  rw [if_neg (by decide), if_pos (by rw [List.length_append]; show -((l.length + 1 : Nat) : Int) ≤ -1; omega)]
  have e : (-1 + ((l ++ [v]).length : Int)).toNat = l.length := by rw [List.length_append]; show (-1 + ((l.length + 1 : Nat) : Int)).toNat = l.length; omega
  simp only [e]
  simp
theorem MAt.byX {T : Tx K mg} {H H' : Hp} {p : Addr} {stk : List Fm} {x : Fm} {kv mk : List (Key × V)} {m : Mc} {s' : Sf} (M : MAt T H p (stk ++ [x]) kv mk m) (b : But x.a H H') (F' : FAt T x.c H' x.a s') (hs : s'.sc = x.s.sc) : MAt T H' p (stk ++ [⟨x.a, x.c, s'⟩]) kv mk m := by
  have hx : x ∈ stk ++ [x] := List.mem_append_right _ List.mem_cons_self
  obtain ⟨dx, fs, h1, h3⟩ := M.ob.ex
  obtain ⟨_, _, hX, _⟩ := (M.fr x hx).fr.ex
  have hn := List.nodup_cons.mp M.nd
  have hn2 := hn.2
  rw [List.map_append, List.nodup_append] at hn2
  have nx : ∀ y ∈ stk, y.a ≠ x.a := fun y hy e => hn2.2.2 y.a (List.mem_map.mpr ⟨y, hy, rfl⟩) x.a (by simp) e
  have np : p ≠ x.a := fun e => hn.1 (by rw [List.map_append]; exact List.mem_append_right _ (by simp [e]))
  refine ⟨⟨dx, fs, b _ _ np h1, h3⟩, ?_, fun y hy => ?_, ?_, b _ _ (ne_of M.nv hX (fun z => nomatch z)) M.nv, b _ _ (ne_of M.mr hX (fun z => nomatch z)) M.mr, M.ne, fun y hy => ?_⟩
  · have := b _ _ (ne_of M.fl hX (fun z => nomatch z)) M.fl
    rw [this]; simp
  · rcases List.mem_append.mp hy with q | q
    · exact (M.fr y (List.mem_append_left _ q)).off b (nx y q) hX
    · rw [List.mem_singleton.mp q]; exact F'
  · have := M.nd
    simpa using this
  · rcases List.mem_append.mp hy with q | q
    · exact M.sc y (List.mem_append_left _ q)
    · rw [List.mem_singleton.mp q]
      show s'.sc = .non ∨ _
      rw [hs]; exact M.sc x hx

def Cm (H : Hp) (y : V) : Prop := flatV y = true ∨ ∃ a xs, y = .ref a ∧ H a = some (.tup xs)
def Kn (f r : Addr) (H H' : Hp) : Prop := ∀ c o, c ≠ f → c ≠ r → (∀ C dx fs, o ≠ .ins C dx fs) → H c = some o → H' c = some o
theorem Kn.of {f r : Addr} {H H' : Hp} (s : Same H H') : Kn f r H H' := fun c o _ _ _ h => s c o h
theorem Kn.refl (f r : Addr) (H : Hp) : Kn f r H H := fun c o _ _ _ h => h
theorem Kn.trans {f r : Addr} {H H1 H2 : Hp} (a : Kn f r H H1) (b : Kn f r H1 H2) : Kn f r H H2 := fun c o n1 n2 m h => b c o n1 n2 m (a c o n1 n2 m h)
theorem Kn.but {f r p C dx : Addr} {fs : List (Str × V)} {H H' : Hp} (b : But p H H') (hp : H p = some (.ins C dx fs)) : Kn f r H H' := fun c o _ _ m h => b c o (ne_of h hp (m _ _ _)) h
theorem Kn.two {f r : Addr} {H H' : Hp} (b : ∀ c o, c ≠ f → c ≠ r → H c = some o → H' c = some o) : Kn f r H H' := fun c o n1 n2 _ h => b c o n1 n2 h
def Mk0 (mk mk1 : List (Key × V)) : Prop := valV mk1 (Sum.inl 0 : Key) = valV mk (Sum.inl 0 : Key)
theorem leave_zero {mk : List (Key × V)} {v : V} (h : v ≠ .int 0) : Mk0 mk (leaveF mk v) := by
  unfold Mk0
  cases v with
  | int i =>
    have hi : i ≠ 0 := fun z => h (by rw [z])
    show valV (dropK mk (Sum.inl i)) _ = _
    unfold valV dropK
    rw [List.find?_filter]
    congr 2
    funext kv
    by_cases e : kv.1 = (Sum.inl 0 : Key)
    · have : kv.1 ≠ (Sum.inl i : Key) := fun z => hi (Sum.inl.inj (z.symm.trans e))
      simp [e]
      exact fun z => hi z.symm
    · simp [e]
  | _ => rfl
theorem MAt.byPX {T : Tx K mg} {H H' : Hp} {p : Addr} {stk : List Fm} {x : Fm} {kv mk : List (Key × V)} {m m' : Mc} {s' : Sf} (M : MAt T H p (stk ++ [x]) kv mk m) (b : ∀ c o, c ≠ p → c ≠ x.a → H c = some o → H' c = some o) (F' : FAt T x.c H' x.a s') (hs : s'.sc = x.s.sc) (ob : ObAt T 9 H' p m'.g) (e1 : m'.fl = m.fl) (e2 : m'.nv = m.nv) (e3 : m'.mr = m.mr) : MAt T H' p (stk ++ [⟨x.a, x.c, s'⟩]) kv mk m' := by
  have hx : x ∈ stk ++ [x] := List.mem_append_right _ List.mem_cons_self
  obtain ⟨dx, fs, h1, h3⟩ := M.ob.ex
  obtain ⟨_, _, hX, _⟩ := (M.fr x hx).fr.ex
  have hn := List.nodup_cons.mp M.nd
  have hn2 := hn.2
  rw [List.map_append, List.nodup_append] at hn2
  have nx : ∀ y ∈ stk, y.a ≠ x.a := fun y hy e => hn2.2.2 y.a (List.mem_map.mpr ⟨y, hy, rfl⟩) x.a (by simp) e
  have np : ∀ y ∈ stk, y.a ≠ p := fun y hy e => hn.1 (e ▸ List.mem_map.mpr ⟨y, List.mem_append_left _ hy, rfl⟩)
  have bb : ∀ {c o}, (∀ C dx fs, o ≠ .ins C dx fs) → H c = some o → H' c = some o := fun {c o} n h => b c o (ne_of h h1 (n _ _ _)) (ne_of h hX (n _ _ _)) h
  refine ⟨ob, ?_, fun y hy => ?_, ?_, ?_, ?_, ?_, fun y hy => ?_⟩
  · have q : H' m.fl = some (.lst _) := bb (fun _ _ _ z => nomatch z) M.fl
    rw [e1, q]; simp
  · rcases List.mem_append.mp hy with q | q
    · have F := M.fr y (List.mem_append_left _ q)
      obtain ⟨dy, gs, g1, g2⟩ := F.fr.ex
      exact ⟨⟨dy, gs, b _ _ (np y q) (nx y q) g1, g2⟩, bb (fun _ _ _ z => nomatch z) F.rs, bb (fun _ _ _ z => nomatch z) F.os, F.pl, F.rl, F.ol⟩
    · rw [List.mem_singleton.mp q]; exact F'
  · have := M.nd
    simpa using this
  · rw [e2]; exact bb (fun _ _ _ z => nomatch z) M.nv
  · rw [e3]; exact bb (fun _ _ _ z => nomatch z) M.mr
  · rw [e2, e3]; exact M.ne
  · rcases List.mem_append.mp hy with q | q
    · exact M.sc y (List.mem_append_left _ q)
    · rw [List.mem_singleton.mp q]
      show s'.sc = .non ∨ _
      rw [hs]; exact M.sc x hx
def plainS (s : Sf) : Sf := { line := s.line, ra := s.oa, rows := s.others, oa := s.oa, others := s.others, sc := .non, place := 0, left := 0, fault := "", cleaning := false, named := .non, held := .non, told := .non }
structure SoA (T : Tx K mg) (H : Hp) (p : Addr) (base : List Fm) (x : Fm) (mk : List (Key × V)) (m : Mc) (t : Addr) (g : Sig) (Q : VK) : Prop where
  clean : meetsF x.c x.s g = "clean" → x.c = .cleaned → ∀ H' w mk1, Kn m.fl m.mr H H' → Mk0 mk mk1 → H' w = some (.tup [.str "clean", .int x.s.line]) → MAt T H' p (base ++ [⟨x.a, x.c, cleanS x.s (.ref t)⟩]) [] mk1 { m with sg := .non } → Q (.ref w) H'
  halt : meetsF x.c x.s g = "halt" → x.c = .grouped → ∀ H' w u a mk1, Kn m.fl m.mr H H' → Mk0 mk mk1 → H' w = some (.tup [.str "halt", .int x.s.line, x.s.sc, .ref u]) → H' u = some (.tup (faultsOf g)) → MAt T H' p (base ++ [⟨x.a, x.c, haltS x.s a t g⟩]) [] mk1 { m with sg := .non, wt := .ref w } → Q (.ref w) H'
  late : meetsF x.c x.s g = "late" → x.c = .limited → ∀ H' w y mk1, Kn m.fl m.mr H H' → Mk0 mk mk1 → H' w = some (.tup [.str "late", .int x.s.line, x.s.sc]) → MAt T H' p (base ++ [⟨y, .frame, plainS x.s⟩]) [] mk1 { m with sg := .non } → Q (.ref w) H'
  caught : meetsF x.c x.s g = "caught" → x.c = .tried → ∀ H' w u y mk1, Kn m.fl m.mr H H' → Mk0 mk mk1 → H' w = some (.tup [.str "caught", .int x.s.line, .ref u]) → H' u = some (.tup (faultsOf g)) → MAt T H' p (base ++ [⟨y, .frame, plainS x.s⟩]) [] mk1 { m with sg := .non } → Q (.ref w) H'
  ended : meetsF x.c x.s g = "out" → base = [] → ∀ H' w u l, Kn m.fl m.mr H H' → H' w = some (.tup [.str "ended", .int 0, .ref u]) → (∀ n v, g = .strike n → valV mk (Sum.inl 0 : Key) = some v → H' u = some (.tup [v])) → (∀ a r, g = .faults a r → u = t) → ObAt T 9 H' p { m with sg := .non, fl := l, en := .ref u }.g → Q (.ref w) H'
theorem SoA.kn {T : Tx K mg} {H H1 : Hp} {p : Addr} {base : List Fm} {x : Fm} {mk mk1 : List (Key × V)} {m : Mc} {t : Addr} {g : Sig} {Q : VK} (S : SoA T H p base x mk m t g Q) (k : Kn m.fl m.mr H H1) (e : Mk0 mk mk1) : SoA T H1 p base x mk1 m t g Q :=
  ⟨fun a b H' w mk2 k2 e2 => S.clean a b H' w mk2 (k.trans k2) (e2.trans e), fun a b H' w u c mk2 k2 e2 => S.halt a b H' w u c mk2 (k.trans k2) (e2.trans e), fun a b H' w y mk2 k2 e2 => S.late a b H' w y mk2 (k.trans k2) (e2.trans e), fun a b H' w u y mk2 k2 e2 => S.caught a b H' w u y mk2 (k.trans k2) (e2.trans e), fun a b H' w u l k2 hw h1 h2 ob => S.ended a b H' w u l (k.trans k2) hw (fun n v eg ev => h1 n v eg (e.trans ev)) h2 ob⟩
theorem meets5 (c : Kd) (s : Sf) (g : Sig) : meetsF c s g = "out" ∨ (meetsF c s g = "clean" ∧ c = .cleaned) ∨ (meetsF c s g = "halt" ∧ c = .grouped) ∨ (meetsF c s g = "late" ∧ c = .limited) ∨ (meetsF c s g = "caught" ∧ c = .tried ∧ ∃ a r, g = .faults a r) := by
  cases c with
  | cleaned =>
    show (if s.cleaning = true then ("out" : Str) else "clean") = "out" ∨ ((if s.cleaning = true then ("out" : Str) else "clean") = "clean" ∧ _) ∨ _
    by_cases h : s.cleaning = true
    · rw [if_pos h]; exact .inl rfl
    · rw [if_neg h]; exact .inr (.inl ⟨rfl, rfl⟩)
  | grouped => exact .inr (.inr (.inl ⟨rfl, rfl⟩))
  | limited =>
    cases g with
    | strike n =>
      by_cases h : s.sc = .int n
      · refine .inr (.inr (.inr (.inl ⟨?_, rfl⟩)))
        show (if s.sc = .int n then ("late" : Str) else "out") = "late"
        rw [if_pos h]
      · refine .inl ?_
        show (if s.sc = .int n then ("late" : Str) else "out") = "out"
        rw [if_neg h]
    | faults a r => exact .inl rfl
  | tried =>
    cases g with
    | strike n => exact .inl rfl
    | faults a r =>
      by_cases h : s.fault = "any" ∨ s.fault = a
      · refine .inr (.inr (.inr (.inr ⟨?_, rfl, a, r, rfl⟩)))
        show (if s.fault = "any" ∨ s.fault = a then ("caught" : Str) else "out") = "caught"
        rw [if_pos h]
      · refine .inl ?_
        show (if s.fault = "any" ∨ s.fault = a then ("caught" : Str) else "out") = "out"
        rw [if_neg h]
  | _ => exact .inl rfl
theorem g_st (m : Mc) (b : Bool) : setM m.g .struck (.bl b) = { m with st := b }.g := by funext l; cases l <;> rfl
structure OutS (base : List Fm) (x : Fm) (ext : List Fm) (mk : List (Key × V)) (g : Sig) : Prop where
  out : ∀ y ∈ ext, meetsF y.c y.s g = "out"
  at_ : base = [] ∨ meetsF x.c x.s g ≠ "out"
  lim : ∀ y ∈ x :: ext, y.c = .limited → ∃ n, y.s.sc = .int n
  nz : ∀ y ∈ ext, y.s.sc ≠ .int 0
  xz : x.c ≠ .frame → x.s.sc ≠ .int 0
  m0 : base = [] → meetsF x.c x.s g = "out" → ∀ n, g = .strike n → ∃ v, valV mk (Sum.inl 0 : Key) = some v
def spSendOut (T : Tx K mg) : Sp := fun vs H Q _ => ∃ (p t : Addr) (base : List Fm) (x : Fm) (ext : List Fm) (mk : List (Key × V)) (m : Mc) (g : Sig), vs = [.ref p] ∧ MAt T H p (base ++ [x] ++ ext) [] mk m ∧ OutS base x ext mk g ∧ m.sg = .ref t ∧ SigAt H t g ∧ (base ++ [x] ++ ext).length ≤ 100 ∧ SoA T H p base x mk m t g Q
theorem while_hold {c : TT} {tb : TS} {D : Ends} {σ : St} {H : Hp} (Po : St → Hp → Prop) (hr : ∀ σ' H', Po σ' H' → D.nx σ' H') (h : ∀ U : St → Hp → Prop, (∀ σ' H', Po σ' H' → U σ' H') → tWhile c tb { D with nx := U } σ H) : tWhile c tb D σ H := h D.nx hr
structure LvA (T : Tx K mg) (H : Hp) (p : Addr) (stk : List Fm) (x : Fm) (mk : List (Key × V)) (m : Mc) (a : Addr) (xs : List V) (Q : VK) : Prop where
  some_ : xs ≠ [] → ∀ H' w t, Kn m.fl m.mr H H' → H' w = some (.tup [.str "left", .int x.s.line, x.s.sc]) → H' t = some (.tup [.str "faults", .ref a]) → MAt T H' p stk [] (leaveF mk x.s.sc) { m with sg := .ref t } → Q (.ref w) H'
  none_ : xs = [] → ∀ H' w sg, Kn m.fl m.mr H H' → H' w = some (.tup [.str "left", .int x.s.line, x.s.sc]) → (x.s.held = .non ∧ sg = .non ∨ ∃ t n, x.s.held = .ref t ∧ H t = some (.tup [.str "strike", .int n]) ∧ (if x.s.sc = .int n then sg = .non else sg = .ref t)) → MAt T H' p stk [] (leaveF mk x.s.sc) { m with sg := sg } → Q (.ref w) H'
structure LvP (H : Hp) (x : Fm) (m : Mc) (a : Addr) (xs : List V) : Prop where
  c : x.c = .grouped
  told : x.s.told = .ref a
  ha : H a = some (.tup xs)
  fl : ∀ y ∈ xs, ∃ z, y = .str z
  held : x.s.held = .non ∨ ∃ t n, x.s.held = .ref t ∧ H t = some (.tup [.str "strike", .int n])
  sg : m.sg = .non
  sc : ∃ j, x.s.sc = .int j
def spLeaveG (T : Tx K mg) : Sp := fun vs H Q _ => ∃ (p : Addr) (stk : List Fm) (x : Fm) (mk : List (Key × V)) (m : Mc) (a : Addr) (xs : List V), vs = [.ref p, .ref x.a] ∧ MAt T H p (stk ++ [x]) [] mk m ∧ LvP H x m a xs ∧ LvA T H p stk x mk m a xs Q
structure Over (x : Fm) : Prop where
  pl : x.s.place = x.s.rows.length
  ov : overF x.c x.s = "out"
  os : overS x.c x.s = x.s
def spGoOn (T : Tx K mg) : Sp := fun vs H Q _ => ∃ (p : Addr) (stk : List Fm) (x : Fm) (mk : List (Key × V)) (m : Mc), vs = [.ref p] ∧ MAt T H p (stk ++ [x]) [] mk m ∧
  ((∃ q, x.s.rows[x.s.place]? = some (.ref q) ∧ ∀ H', But x.a H H' → MAt T H' p (stk ++ [⟨x.a, x.c, { x.s with place := x.s.place + 1 }⟩]) [] mk m → spDoRow T [.ref p, .ref q] H' Q E0) ∨
   (Over x ∧ stk ≠ [] ∧ ∀ H', Kn m.fl m.mr H H' → MAt T H' p stk [] (leaveF mk x.s.sc) { m with sg := x.s.held } → Q .non H') ∨
   ∃ a xs, x.s.place = x.s.rows.length ∧ LvP H x m a xs ∧ LvA T H p stk x mk m a xs Q)
def Pend (H : Hp) (base : List Fm) (x : Fm) (ext : List Fm) (mk : List (Key × V)) (m : Mc) (g : Sig) (stk : List Fm) : Prop :=
  (m.st = true ∧ m.sg = .non ∧ stk = base ++ [x] ++ ext ∧ ∃ n, g = .strike n ∧ targR mk stk.reverse .non = .int n) ∨
  (m.st = false ∧ stk = base ++ [x] ++ ext ∧ ∃ t, m.sg = .ref t ∧ SigAt H t g) ∨
  (m.st = false ∧ m.sg = .non ∧ ∃ y t, stk = base ++ [x] ++ ext ++ [y] ∧ Over y ∧ y.s.sc = .non ∧ y.s.held = .ref t ∧ SigAt H t g)
def FR (m : Mc) (H : Hp) : Prop := ∃ l kl, H m.fl = some (.lst l) ∧ H m.mr = some (.dK kl)
def Idle (y : Fm) : Prop := Over y ∧ y.s.sc = .non ∧ y.s.held = .non
def spStep (T : Tx K mg) : Sp := fun vs H Q _ => ∃ (p : Addr) (mk : List (Key × V)) (m : Mc), vs = [.ref p] ∧
  ((∃ stk x ext q, MAt T H p (stk ++ [x] ++ ext) [] mk m ∧ m.st = false ∧ m.sg = .non ∧ (∀ y ∈ ext, Idle y) ∧ x.s.rows[x.s.place]? = some (.ref q) ∧
      ∀ (H' : Hp) (R : VK), Kn m.fl m.mr H H' → MAt T H' p (stk ++ [⟨x.a, x.c, { x.s with place := x.s.place + 1 }⟩]) [] mk m → (∀ v H2, v ≠ .non → Q v H2 → R v H2) → spDoRow T [.ref p, .ref q] H' R E0) ∨
   (∃ stk base x ext g, MAt T H p stk [] mk m ∧ stk.length ≤ 100 ∧ Pend H base x ext mk m g stk ∧ OutS base x ext mk g ∧ ∀ H1 t, Kn m.fl m.mr H H1 → FR m H1 → SigAt H1 t g → SoA T H1 p base x mk { m with st := false, sg := .ref t } t g Q) ∨
   ∃ stk x a xs, MAt T H p (stk ++ [x]) [] mk m ∧ m.st = false ∧ x.s.place = x.s.rows.length ∧ LvP H x m a xs ∧ LvA T H p stk x mk m a xs Q)
def spJoined (T : Tx K mg) : Sp := fun vs H Q _ => ∃ (p a : Addr) (stk : List Fm) (x : Fm) (kv mk : List (Key × V)) (m : Mc) (xs : List V), vs = [.ref p, .ref a] ∧ MAt T H p (stk ++ [x]) kv mk m ∧ x.c = .grouped ∧ H a = some (.tup xs) ∧ ∀ H', (∀ c o, c ≠ p → c ≠ x.a → H c = some o → H' c = some o) → MAt T H' p (stk ++ [⟨x.a, x.c, { x.s with told := .ref a }⟩]) kv mk { m with wt := .non } → Q .non H'
def spOutcome (T : Tx K mg) : Sp := fun vs H Q _ => ∃ (p : Addr) (m : Mc), vs = [.ref p] ∧ ObAt T 9 H p m.g ∧ Q m.en H
def rootS (a : Addr) (rows : List V) : Sf := { line := 0, ra := a, rows := rows, oa := a, others := rows, sc := .int 0, place := 0, left := 0, fault := "", cleaning := false, named := .non, held := .non, told := .non }
def spMInit (T : Tx K mg) : Sp := fun vs H Q _ => ∃ (p a : Addr) (rows : List V), vs = [.ref p, .ref a] ∧ ObAt T 0 H p (fun _ => none) ∧ H a = some (.tup rows) ∧ rows.length ≤ 10 ∧
  ∀ H' f m, But p H H' → MAt T H' p [⟨f, .frame, rootS a rows⟩] [] [] m → m.ls = 0 → m.sg = .non → m.wt = .non → m.st = false → m.en = .non → H f = none → H m.fl = none → H m.nv = none → H m.mr = none → Q .non H'
theorem is_flat' {v : V} (h : (∃ n, v = .int n) ∨ ∃ z, v = .str z) : flatV v = true := by rcases h with ⟨n, rfl⟩ | ⟨z, rfl⟩ <;> rfl
def IS (v : V) : Prop := (∃ n, v = .int n) ∨ ∃ z, v = .str z
theorem is_self {v : V} (h : IS v) : eqV v v = true := by
  rcases h with ⟨n, rfl⟩ | ⟨z, rfl⟩ <;> simp [eqV]
theorem eqd_is {K : PySem.W.Frag} {H : Hp} {n : Nat} {v : V} (h : IS v) : EqD K H n v v true := by
  have := EqD.flat (K := K) (H := H) (n := n) (is_flat' h) (is_flat' h)
  rw [is_self h] at this
  exact this
theorem eqT {K : PySem.W.Frag} {neg : Bool} {H : Hp} {n : Nat} {a b : Addr} {xs ys : List V} {R : VK} (ha : H a = some (.tup xs)) (hb : H b = some (.tup ys)) (hl : xs.length = ys.length) (h : ∀ (i : Nat) (x y : V), xs[i]? = some x → ys[i]? = some y → EqD K H n x y true) (hn : n ≤ 90) (k : R (.bl (neg ^^ true)) H) : rEqT K neg (.ref a) (.ref b) H R := by
  refine ⟨a, b, _, _, n, fun _ => true, rfl, rfl, SqT.of ha, SqT.of hb, hn, h, ?_⟩
  have q : ((List.range (min xs.length ys.length)).all (fun _ => true) && xs.length == ys.length) = true := by
    rw [hl]; simp
  rw [q]
  exact k
theorem eqI {K : PySem.W.Frag} {H : Hp} {n : Nat} {xs : List V} (h : ∀ x ∈ xs, IS x) : ∀ (i : Nat) (x y : V), xs[i]? = some x → xs[i]? = some y → EqD K H n x y true := fun i x y ex ey => by
  rw [ex] at ey
  cases ey
  exact eqd_is (h x (List.mem_of_getElem? ex))
def wordK : Kd → Str
  | .grouped => "group" | .limited => "limit" | .kept => "keep" | .tried => "try" | .cleaned => "do" | .frame => "when" | .rounds => "repeat"
set_option genInjectivity false in
structure Ce where
  k : Kd
  ln : Int
  pk : Int
def Ce.vs (c : Ce) : List V := [.str (wordK c.k), .int c.ln, .int c.pk]
structure LT (H : Hp) (l : Addr) (ts : List (List V)) : Prop where
  ex : ∃ ps : List Addr, H l = some (.lst (ps.map V.ref)) ∧ ps.length = ts.length ∧ ∀ (i : Nat) q t, ps[i]? = some q → ts[i]? = some t → H q = some (.tup t)
theorem LT.kp {H H' : Hp} {l : Addr} {ts : List (List V)} (L : LT H l ts) (hl : ∀ xs, H l = some (.lst xs) → H' l = some (.lst xs)) (ht : ∀ a xs, H a = some (.tup xs) → H' a = some (.tup xs)) : LT H' l ts := by
  obtain ⟨ps, h1, h2, h3⟩ := L.ex
  exact ⟨ps, hl _ h1, h2, fun i q t e1 e2 => ht _ _ (h3 i q t e1 e2)⟩
theorem LT.same {H H' : Hp} {l : Addr} {ts : List (List V)} (L : LT H l ts) (s : Same H H') : LT H' l ts := L.kp (fun _ h => s _ _ h) (fun _ _ h => s _ _ h)
theorem LT.nil {H : Hp} {l : Addr} (h : H l = some (.lst [])) : LT H l [] := ⟨[], h, rfl, fun i q t e => by cases e⟩
theorem LT.add {H : Hp} {l q : Addr} {ts : List (List V)} {t : List V} (L : LT H l ts) (hq : H q = some (.tup t)) : ∃ xs, H l = some (.lst xs) ∧ xs.length = ts.length ∧ LT (upd H l (.lst (xs ++ [.ref q]))) l (ts ++ [t]) := by
  obtain ⟨ps, h1, h2, h3⟩ := L.ex
  refine ⟨_, h1, by rw [List.length_map, h2], ps ++ [q], by rw [upd_same, List.map_append]; rfl, by rw [List.length_append, List.length_append, h2]; rfl, fun i a t' e1 e2 => ?_⟩
  have nt : ∀ (a : Addr) xs, H a = some (.tup xs) → upd H l (.lst (ps.map V.ref ++ [.ref q])) a = some (.tup xs) := fun a xs h => by rw [upd_ne (ne_of h h1 (fun z => nomatch z))]; exact h
  refine nt _ _ ?_
  by_cases c : i < ps.length
  · rw [List.getElem?_append_left c] at e1
    rw [List.getElem?_append_left (by omega)] at e2
    exact h3 i a t' e1 e2
  · rw [List.getElem?_append_right (by omega)] at e1
    rw [List.getElem?_append_right (by omega)] at e2
    have : i - ps.length = 0 := by
      have := (List.getElem?_eq_some_iff.mp e1).1
      simp at this
      omega
    rw [this] at e1
    rw [show i - ts.length = 0 by omega] at e2
    cases e1
    cases e2
    exact hq
theorem LT.at {H : Hp} {l : Addr} {ts : List (List V)} (L : LT H l ts) : ∃ ps : List Addr, H l = some (.lst (ps.map V.ref)) ∧ ps.length = ts.length ∧ ∀ (i : Nat) (y : V), (ps.map V.ref)[i]? = some y → ∃ q t, y = .ref q ∧ ts[i]? = some t ∧ H q = some (.tup t) := by
  obtain ⟨ps, h1, h2, h3⟩ := L.ex
  refine ⟨ps, h1, h2, fun i y e => ?_⟩
  rw [List.getElem?_map] at e
  cases c : ps[i]? with
  | none => rw [c] at e; cases e
  | some q =>
    rw [c] at e
    cases e
    have hi := (List.getElem?_eq_some_iff.mp c).1
    exact ⟨q, ts[i]'(by omega), rfl, List.getElem?_eq_getElem _, h3 i q _ c (List.getElem?_eq_getElem (by omega))⟩
def ringV (n : Int) (z : Str) : List V := [.str "ring", .int n, .str z]
def fltOf (c : Ce) : Str := if c.pk % 3 = 0 then "boom" else if c.pk % 3 = 1 then "oops" else "any"
def OthC (H : Hp) (c : Ce) (others : List V) : Prop :=
  (c.k = .cleaned → ∃ q, others = [.ref q] ∧ H q = some (.tup (ringV (100 + c.ln) "clean"))) ∧
  (c.k = .tried → ∃ q, others = [.ref q] ∧ H q = some (.tup (ringV (100 + c.ln) "caught"))) ∧
  (c.k = .limited → if c.pk / 100 % 2 = 1 then ∃ q, others = [.ref q] ∧ H q = some (.tup (ringV (100 + c.ln) "late")) else others = [])
def RowC (H : Hp) (q b : Addr) (c : Ce) : Prop :=
  if c.k = .grouped then ∃ nm : Str, H q = some (.tup [.str "group", .int c.ln, .str nm, .ref b])
  else if c.k = .limited then ∃ (oa : Addr) (others : List V), H q = some (.tup [.str "limit", .int c.ln, .int (1 + c.pk % 99), .ref b, .ref oa]) ∧ H oa = some (.tup others) ∧ others.length ≤ 10 ∧ OthC H c others
  else ∃ s : Sf, QRow H q c.k s ∧ NewQ H s ∧ s.line = c.ln ∧ s.ra = b ∧ OthC H c s.others ∧ (c.k = .tried → s.fault = fltOf c)
def Nest (H : Hp) (inner : Addr) : Addr → List Ce → Prop
  | a, [] => a = inner
  | a, c :: r => ∃ q b rg, H a = some (.tup [.ref q, .ref rg]) ∧ H rg = some (.tup (ringV (200 + c.ln) "behind")) ∧ RowC H q b c ∧ Nest H inner b r
def Tk (H H' : Hp) : Prop := ∀ a xs, H a = some (.tup xs) → H' a = some (.tup xs)
theorem Kn.tk {f r : Addr} {H H' : Hp} {l : List V} {kl : List (Key × V)} (k : Kn f r H H') (hf : H f = some (.lst l)) (hr : H r = some (.dK kl)) : Tk H H' := fun c xs h => k c _ (ne_of h hf (fun z => nomatch z)) (ne_of h hr (fun z => nomatch z)) (fun _ _ _ z => nomatch z) h
theorem Kn.lst {f r c : Addr} {H H' : Hp} {l : List V} {kl : List (Key × V)} (k : Kn f r H H') (n : c ≠ f) (hr : H r = some (.dK kl)) (h : H c = some (.lst l)) : H' c = some (.lst l) := k c _ n (ne_of h hr (fun z => nomatch z)) (fun _ _ _ z => nomatch z) h
theorem SigAt.tk {H H' : Hp} {t : Addr} {g : Sig} (h : SigAt H t g) (s : Tk H H') : SigAt H' t g := by
  cases g with
  | strike n => exact s _ _ h
  | faults a r =>
    obtain ⟨u, h1, h2⟩ := h
    exact ⟨u, s _ _ h1, s _ _ h2⟩
theorem OthC.tk {H H' : Hp} {c : Ce} {os : List V} (h : OthC H c os) (t : Tk H H') : OthC H' c os := by
  obtain ⟨h1, h2, h3⟩ := h
  refine ⟨fun e => ?_, fun e => ?_, fun e => ?_⟩
  · obtain ⟨q, a, b⟩ := h1 e; exact ⟨q, a, t _ _ b⟩
  · obtain ⟨q, a, b⟩ := h2 e; exact ⟨q, a, t _ _ b⟩
  · have := h3 e
    by_cases c1 : c.pk / 100 % 2 = 1
    · rw [if_pos c1] at this ⊢; obtain ⟨q, a, b⟩ := this; exact ⟨q, a, t _ _ b⟩
    · rw [if_neg c1] at this ⊢; exact this
theorem QRow.tk {H H' : Hp} {q : Addr} {c : Kd} {s : Sf} (h : QRow H q c s) (t : Tk H H') : QRow H' q c s := by
  cases c with
  | grouped => exact h
  | limited => exact h
  | _ => exact t _ _ h
theorem RowC.tk {H H' : Hp} {q b : Addr} {c : Ce} (h : RowC H q b c) (t : Tk H H') : RowC H' q b c := by
  unfold RowC at h ⊢
  by_cases c1 : c.k = .grouped
  · rw [if_pos c1] at h ⊢
    obtain ⟨nm, h⟩ := h
    exact ⟨nm, t _ _ h⟩
  · rw [if_neg c1] at h ⊢
    by_cases c2 : c.k = .limited
    · rw [if_pos c2] at h ⊢
      obtain ⟨oa, os, h1, h2, h3, h4⟩ := h
      exact ⟨oa, os, t _ _ h1, t _ _ h2, h3, h4.tk t⟩
    · rw [if_neg c2] at h ⊢
      obtain ⟨s, h1, N, h3, h4, h5, h6⟩ := h
      exact ⟨s, h1.tk t, ⟨N.pl, N.hd, N.nm, N.sc, N.cl, N.tl, t _ _ N.rs, t _ _ N.os, N.rl, N.ol⟩, h3, h4, h5.tk t, h6⟩
theorem Nest.tk {H H' : Hp} {inner : Addr} (t : Tk H H') : ∀ {cs : List Ce} {a : Addr}, Nest H inner a cs → Nest H' inner a cs
  | [], _, h => h
  | _ :: _, _, ⟨q, b, rg, h1, h0, h2, h3⟩ => ⟨q, b, rg, t _ _ h1, t _ _ h0, h2.tk t, Nest.tk t h3⟩
theorem Nest.tup {H : Hp} {inner : Addr} {u v : V} (hi : H inner = some (.tup [u, v])) {cs : List Ce} {a : Addr} (h : Nest H inner a cs) : ∃ x y, H a = some (.tup [x, y]) := by
  cases cs with
  | nil =>
    have h : a = inner := h
    rw [h]
    exact ⟨_, _, hi⟩
  | cons c r =>
    obtain ⟨q, b, rg, h1, _⟩ := h
    exact ⟨_, _, h1⟩
def isS (k : Kd) : Bool := decide (k = .grouped) || decide (k = .limited)
def scStep (st : List (V × Bool) × Int) (c : Ce) : List (V × Bool) × Int := if isS c.k = true then (st.1 ++ [(.int st.2, false)], st.2 + 1) else (st.1 ++ [(.non, decide (c.k = .kept))], st.2)
def scAll (cs : List Ce) : List (V × Bool) × Int := cs.foldl scStep ([(.int 0, false)], 1)
theorem sc_take {cs : List Ce} {i : Nat} {c : Ce} (h : cs[i]? = some c) : scAll (cs.take (i + 1)) = scStep (scAll (cs.take i)) c := by
  unfold scAll
  rw [List.take_succ, h, List.foldl_append]
  rfl
theorem sc_len (cs : List Ce) : (scAll cs).1.length = cs.length + 1 := by
  have : ∀ (cs : List Ce) (st : List (V × Bool) × Int), (cs.foldl scStep st).1.length = st.1.length + cs.length := by
    intro cs
    induction cs with
    | nil => intro st; rfl
    | cons c r ih =>
      intro st
      rw [List.foldl_cons, ih]
      unfold scStep
      by_cases c : isS c.k = true
      · rw [if_pos c, List.length_append, List.length_cons]; simp; omega
      · rw [if_neg c, List.length_append, List.length_cons]; simp; omega
  show (cs.foldl scStep ([(.int 0, false)], 1)).1.length = _
  rw [this]
  simp; omega
def fv (f : V × Bool) : List V := [f.1, .bl f.2]
def Km (f : Addr) (H H' : Hp) : Prop := ∀ c o, c ≠ f → (∀ C dx fs, o ≠ .ins C dx fs) → H c = some o → H' c = some o
theorem Km.of {f : Addr} {H H' : Hp} (s : Same H H') : Km f H H' := fun c o _ _ h => s c o h
theorem Km.trans {f : Addr} {H H1 H2 : Hp} (a : Km f H H1) (b : Km f H1 H2) : Km f H H2 := fun c o n m h => b c o n m (a c o n m h)
theorem Km.lst {f c : Addr} {H H' : Hp} {l : List V} (k : Km f H H') (n : c ≠ f) (h : H c = some (.lst l)) : H' c = some (.lst l) := k c _ n (fun _ _ _ z => nomatch z) h
theorem Km.tk {f : Addr} {H H' : Hp} {l : List V} (k : Km f H H') (hf : H f = some (.lst l)) : Tk H H' := fun c xs h => k c _ (ne_of h hf (fun z => nomatch z)) (fun _ _ _ z => nomatch z) h
theorem Km.but {f p C dx : Addr} {fs : List (Str × V)} {H H' : Hp} (b : But p H H') (hp : H p = some (.ins C dx fs)) : Km f H H' := fun c o _ m h => b c o (ne_of h hp (m _ _ _)) h
theorem Km.sq {f a : Addr} {H H' : Hp} {xs : List V} (k : Km f H H') (n : a ≠ f) (h : SqL K H a xs) : SqL K H' a xs := by
  rcases h with (h | ⟨o, h⟩) | h
  · exact .inl (.inl (k.lst n h))
  · exact .inl (.inr ⟨o, k _ _ n (fun _ _ _ z => nomatch z) h⟩)
  · exact .inr h
def fx (y : Fm) : V × Bool := (y.s.sc, hidesF y.c y.s)
def FOk (y : Fm) : Prop := (y.s.sc = .non ∧ y.c ≠ .limited ∧ y.c ≠ .grouped) ∨ ((y.c = .grouped ∨ y.c = .limited) ∧ ∃ j, 0 < j ∧ y.s.sc = .int j)
def FrOk (l : List Fm) : Prop := ∃ r t, l = r :: t ∧ r.s.sc = .int 0 ∧ r.c = .frame ∧ ∀ y ∈ t, FOk y
theorem FrOk.upd {l : List Fm} {x : Fm} {s' : Sf} (h : FrOk (l ++ [x])) (e : s'.sc = x.s.sc) : FrOk (l ++ [⟨x.a, x.c, s'⟩]) := by
  obtain ⟨r, t, e0, e1, e2, h3⟩ := h
  cases l with
  | nil =>
    obtain ⟨rfl, rfl⟩ := List.cons.inj e0
    exact ⟨_, [], rfl, e.trans e1, e2, fun y hy => by cases hy⟩
  | cons a l =>
    obtain ⟨rfl, rfl⟩ := List.cons.inj e0
    refine ⟨_, _, rfl, e1, e2, fun y hy => ?_⟩
    rcases List.mem_append.mp hy with q | q
    · exact h3 y (List.mem_append_left _ q)
    · rw [List.mem_singleton.mp q]
      have := h3 x (List.mem_append_right _ List.mem_cons_self)
      unfold FOk at this ⊢
      show (s'.sc = _ ∧ _) ∨ _ ∧ ∃ j, 0 < j ∧ s'.sc = _
      rw [e]; exact this
theorem FrOk.add {l : List Fm} {y : Fm} (h : FrOk l) (hy : FOk y) : FrOk (l ++ [y]) := by
  obtain ⟨r, t, rfl, e1, e2, h3⟩ := h
  refine ⟨r, t ++ [y], rfl, e1, e2, fun z hz => ?_⟩
  rcases List.mem_append.mp hz with q | q
  · exact h3 z q
  · rw [List.mem_singleton.mp q]; exact hy
theorem fx_upd {l : List Fm} {x : Fm} {n : Nat} : (l ++ [(⟨x.a, x.c, { x.s with place := n }⟩ : Fm)]).map fx = (l ++ [x]).map fx := by
  rw [List.map_append, List.map_append]; rfl
structure FEnt (H : Hp) (c : Ce) (y : Fm) : Prop where
  k : y.c = c.k
  ln : y.s.line = c.ln
  cl : y.s.cleaning = false
  tl : y.s.told = .non
  hd : y.s.held = .non
  ot : OthC H c y.s.others
  fl : c.k = .tried → y.s.fault = fltOf c
structure Beh (H : Hp) (c : Ce) (y : Fm) : Prop where
  pl : y.s.place = 1
  rows : ∃ q rg, y.s.rows = [.ref q, .ref rg] ∧ H rg = some (.tup (ringV (200 + c.ln) "behind"))
theorem FEnt.tk {H H' : Hp} {c : Ce} {y : Fm} (h : FEnt H c y) (t : Tk H H') : FEnt H' c y := ⟨h.k, h.ln, h.cl, h.tl, h.hd, h.ot.tk t, h.fl⟩
theorem Beh.tk {H H' : Hp} {c : Ce} {y : Fm} (h : Beh H c y) (t : Tk H H') : Beh H' c y := by
  obtain ⟨q, rg, h1, h2⟩ := h.rows
  exact ⟨h.pl, q, rg, h1, t _ _ h2⟩
def Fes (H : Hp) (cs : List Ce) (S : List Fm) : Prop := ∀ j c, cs[j]? = some c → ∃ y par, S[j + 1]? = some y ∧ FEnt H c y ∧ S[j]? = some par ∧ Beh H c par
theorem Fes.tk {H H' : Hp} {cs : List Ce} {S : List Fm} (h : Fes H cs S) (t : Tk H H') : Fes H' cs S := fun j c e => by
  obtain ⟨y, par, h1, h2, h3, h4⟩ := h j c e
  exact ⟨y, par, h1, h2.tk t, h3, h4.tk t⟩
structure EnAt (T : Tx K mg) (H : Hp) (p inner : Addr) (cs : List Ce) (i : Nat) (m : Mc) (stk : List Fm) (x : Fm) : Prop where
  M : MAt T H p (stk ++ [x]) [] [] m
  pl : x.s.place = 0
  nest : Nest H inner x.s.ra (cs.drop i)
  st : m.st = false
  sg : m.sg = .non
  wt : m.wt = .non
  l0 : 0 ≤ m.ls
  ls : m.ls + 1 = (scAll (cs.take i)).2
  sc : (stk ++ [x]).map fx = (scAll (cs.take i)).1
  ok : FrOk (stk ++ [x])
  len : stk.length = i
  en : m.en = .non
  fe : Fes H (cs.take i) (stk ++ [x])
theorem EnAt.same {T : Tx K mg} {H H' : Hp} {p inner : Addr} {cs : List Ce} {i : Nat} {m : Mc} {stk : List Fm} {x : Fm} (E : EnAt T H p inner cs i m stk x) (s : Same H H') : EnAt T H' p inner cs i m stk x :=
  ⟨E.M.same s, E.pl, E.nest.tk (fun _ _ h => s _ _ h), E.st, E.sg, E.wt, E.l0, E.ls, E.sc, E.ok, E.len, E.en, E.fe.tk (fun _ _ h => s _ _ h)⟩
theorem EnAt.next {T : Tx K mg} {H : Hp} {p inner : Addr} {cs : List Ce} {i : Nat} {m : Mc} {stk : List Fm} {x : Fm} {c : Ce} (E : EnAt T H p inner cs i m stk x) (hc : cs[i]? = some c) : ∃ q b rg, x.s.rows = [.ref q, .ref rg] ∧ H rg = some (.tup (ringV (200 + c.ln) "behind")) ∧ RowC H q b c ∧ Nest H inner b (cs.drop (i + 1)) := by
  have hi := (List.getElem?_eq_some_iff.mp hc).1
  have ec := (List.getElem?_eq_some_iff.mp hc).2
  have n := E.nest
  rw [List.drop_eq_getElem_cons hi, ec] at n
  obtain ⟨q, b, rg, h1, h0, h2, h3⟩ := n
  have F := E.M.fr x (List.mem_append_right _ List.mem_cons_self)
  have e := F.rs.symm.trans h1
  injection e with e
  injection e with e
  exact ⟨q, b, rg, e, h0, h2, h3⟩
theorem EnAt.go {T : Tx K mg} {H H' : Hp} {p inner : Addr} {cs : List Ce} {i : Nat} {m m' : Mc} {stk : List Fm} {x y : Fm} {c : Ce} (E : EnAt T H p inner cs i m stk x) (hc : cs[i]? = some c) (M' : MAt T H' p ((stk ++ [⟨x.a, x.c, { x.s with place := x.s.place + 1 }⟩]) ++ [y]) [] [] m') (hp : y.s.place = 0) (hn : Nest H' inner y.s.ra (cs.drop (i + 1)))
    (e1 : m'.st = m.st) (e2 : m'.sg = m.sg) (e3 : m'.wt = m.wt) (els : m'.ls = if isS c.k = true then m.ls + 1 else m.ls) (esc : fx y = if isS c.k = true then (.int (m.ls + 1), false) else (.non, decide (c.k = .kept))) (hk : y.c = c.k) (e5 : m'.en = m.en) (tk : Tk H H') (hf : FEnt H' c y) : EnAt T H' p inner cs (i + 1) m' (stk ++ [⟨x.a, x.c, { x.s with place := x.s.place + 1 }⟩]) y := by
  have e1 := e1.trans E.st
  have e2 := e2.trans E.sg
  have e3 := e3.trans E.wt
  have e5 := e5.trans E.en
  obtain ⟨q, b, rg, hq, hrg, _, _⟩ := E.next hc
  have fe : Fes H' (cs.take (i + 1)) (stk ++ [⟨x.a, x.c, { x.s with place := x.s.place + 1 }⟩] ++ [y]) := by
    intro j c' hj
    have hlen := E.len
    have hi := (List.getElem?_eq_some_iff.mp hc).1
    have hj1 : j < i + 1 := by
      have := (List.getElem?_eq_some_iff.mp hj).1
      rw [List.length_take] at this
      omega
    rw [List.getElem?_take_of_lt hj1] at hj
    by_cases cj : j = i
    · subst cj
      rw [hc] at hj
      cases hj
      refine ⟨y, ⟨x.a, x.c, { x.s with place := x.s.place + 1 }⟩, ?_, hf, ?_, ?_⟩
      · rw [List.getElem?_append_right (by simp; omega)]; simp [hlen]
      · rw [List.getElem?_append_left (by simp; omega), List.getElem?_append_right (by omega)]; simp [hlen]
      · exact ⟨by show x.s.place + 1 = 1; rw [E.pl], q, rg, hq, tk _ _ hrg⟩
    · have hj2 : j < i := by omega
      obtain ⟨y', par, h1, h2, h3, h4⟩ := E.fe j c' (by rw [List.getElem?_take_of_lt hj2]; exact hj)
      have same : ∀ {n : Nat} {z : Fm}, n ≤ i → (stk ++ [x])[n]? = some z → ∃ z', (stk ++ [(⟨x.a, x.c, { x.s with place := x.s.place + 1 }⟩ : Fm)] ++ [y])[n]? = some z' ∧ (n < i → z' = z) ∧ (n = i → z = x ∧ z' = ⟨x.a, x.c, { x.s with place := x.s.place + 1 }⟩) := by
        intro n z hn hz
        by_cases cn : n < i
        · rw [List.getElem?_append_left (by omega)] at hz
          exact ⟨z, by rw [List.getElem?_append_left (by simp; omega), List.getElem?_append_left (by omega)]; exact hz, fun _ => rfl, fun z' => by omega⟩
        · have : n = i := by omega
          subst this
          rw [List.getElem?_append_right (by omega)] at hz
          have : z = x := by simpa [hlen] using hz.symm
          exact ⟨_, by rw [List.getElem?_append_left (by simp; omega), List.getElem?_append_right (by omega)]; simp [hlen], fun z' => by omega, fun _ => ⟨this, rfl⟩⟩
      obtain ⟨z1, a1, a2, a3⟩ := same (by omega) h1
      obtain ⟨z2, b1, b2, b3⟩ := same (by omega) h3
      refine ⟨z1, z2, a1, ?_, b1, ?_⟩
      · by_cases cn : j + 1 < i
        · rw [a2 cn]; exact h2.tk tk
        · obtain ⟨e1', e2'⟩ := a3 (by omega)
          rw [e2']
          rw [e1'] at h2
          exact ⟨h2.k, h2.ln, h2.cl, h2.tl, h2.hd, h2.ot.tk tk, h2.fl⟩
      · rw [b2 hj2]; exact h4.tk tk
  have l0 := E.l0
  have sc := E.sc
  have ls := E.ls
  have ok := E.ok.upd (s' := { x.s with place := x.s.place + 1 }) rfl
  have hsc : y.s.sc = (fx y).1 := rfl
  have l1 : (stk ++ [(⟨x.a, x.c, { x.s with place := x.s.place + 1 }⟩ : Fm)]).length = i + 1 := by rw [List.length_append, E.len]; rfl
  by_cases cc : isS c.k = true
  · rw [if_pos cc] at els esc
    refine ⟨M', hp, hn, e1, e2, e3, by omega, ?_, ?_, ok.add (.inr ⟨?_, m.ls + 1, by omega, by rw [hsc, esc]⟩), l1, e5, fe⟩
    · rw [sc_take hc]; unfold scStep; rw [if_pos cc, ← ls, els]
    · rw [sc_take hc]; unfold scStep; rw [if_pos cc, List.map_append, fx_upd, sc, ← ls, ← esc]; rfl
    · rw [hk]
      unfold isS at cc
      simpa using cc
  · rw [if_neg cc] at els esc
    refine ⟨M', hp, hn, e1, e2, e3, by omega, ?_, ?_, ok.add (.inl ⟨by rw [hsc, esc], ?_, ?_⟩), l1, e5, fe⟩
    · rw [sc_take hc]; unfold scStep; rw [if_neg cc, ← ls, els]
    · rw [sc_take hc]; unfold scStep; rw [if_neg cc, List.map_append, fx_upd, sc, ← esc]; rfl
    · rw [hk]; intro z; rw [z] at cc; exact cc rfl
    · rw [hk]; intro z; rw [z] at cc; exact cc rfl
theorem hides_new {k : Kd} {s : Sf} (h : s.cleaning = false) : hidesF k s = decide (k = .kept) := by
  cases k <;> simp [hidesF, h]
def spCell (K : PySem.W.Frag) : Sp := fun vs H Q _ => ∃ (a : Addr) (ns : List Int) (k : Nat), vs = [.ref a, .int k] ∧ SqL K H a (ns.map V.int) ∧ ∀ n, Q (.int n) H
def spMixed : Sp := fun vs H Q _ => ∃ a b : Int, vs = [.int a, .int b] ∧ 0 ≤ b ∧ b ≤ 1000 ∧ ∀ n, 0 ≤ n → Q (.int n) H
def spChain (K : PySem.W.Frag) : Sp := fun vs H Q _ => ∃ (a : Addr) (ns : List Int) (tn : Nat), vs = [.ref a, .int tn] ∧ tn ≤ 9 ∧ SqL K H a (ns.map V.int) ∧ ns.length ≤ 63 ∧ ∀ (H' : Hp) (l : Addr) (cs : List Ce), Same H H' → H l = none → LT H' l (cs.map Ce.vs) → cs.length ≤ 7 → (∀ c ∈ cs, 0 ≤ c.ln ∧ c.ln ≤ 100 ∧ 0 ≤ c.pk) → Q (.ref l) H'
def spNested (K : PySem.W.Frag) : Sp := fun vs H Q _ => ∃ (l inner : Addr) (cs : List Ce) (u v : V), vs = [.ref l, .ref inner] ∧ LT H l (cs.map Ce.vs) ∧ cs.length ≤ 7 ∧ (∀ c ∈ cs, 0 ≤ c.ln ∧ c.ln ≤ 100 ∧ 0 ≤ c.pk) ∧ H inner = some (.tup [u, v]) ∧ ∀ H' a, Same H H' → Nest H' inner a cs → Q (.ref a) H'
def spScopesL (K : PySem.W.Frag) : Sp := fun vs H Q _ => ∃ (l : Addr) (cs : List Ce), vs = [.ref l] ∧ LT H l (cs.map Ce.vs) ∧ cs.length ≤ 7 ∧ ∀ H' f, Same H H' → H f = none → LT H' f ((scAll cs).1.map fv) → Q (.ref f) H'
theorem EnAt.init {T : Tx K mg} {H : Hp} {p inner a f : Addr} {rows : List V} {cs : List Ce} {m : Mc} (M : MAt T H p [⟨f, .frame, rootS a rows⟩] [] [] m) (hn : Nest H inner a cs) (e0 : m.ls = 0) (e1 : m.sg = .non) (e2 : m.wt = .non) (e3 : m.st = false) (e4 : m.en = .non) : EnAt T H p inner cs 0 m [] ⟨f, .frame, rootS a rows⟩ :=
  ⟨M, rfl, hn, e3, e1, e2, by omega, by rw [e0]; rfl, rfl, ⟨_, [], rfl, rfl, rfl, fun y hy => by cases hy⟩, rfl, e4, fun j c hc => by cases hc⟩
theorem same_put {H G : Hp} {l : Addr} {o : HO} (s : Same H G) (h : H l = none) : Same H (upd G l o) := fun c u e => by rw [upd_ne (ne_of_none e h)]; exact s c u e
def spEntered (T : Tx K mg) : Sp := fun vs H Q _ => ∃ (p l inner : Addr) (cs : List Ce) (m : Mc) (x : Fm), vs = [.ref p, .ref l] ∧ EnAt T H p inner cs 0 m [] x ∧ LT H l (cs.map Ce.vs) ∧ l ≠ m.fl ∧ cs.length ≤ 7 ∧ (∀ c ∈ cs, 0 ≤ c.ln ∧ c.ln ≤ 100 ∧ 0 ≤ c.pk) ∧ (∃ u v, H inner = some (.tup [u, v])) ∧
  ∀ (H' : Hp) (m' : Mc) (stk : List Fm) (x' : Fm), Kn m.fl m.mr H H' → EnAt T H' p inner cs cs.length m' stk x' → m'.fl = m.fl → m'.mr = m.mr → m'.nv = m.nv → Q (.bl true) H'
def spLaw (K : PySem.W.Frag) : Sp := fun vs H Q _ => ∃ (a : Addr) (ns : List Int), vs = [.ref a] ∧ SqL K H a (ns.map V.int) ∧ ns.length ≤ 63 ∧ ∀ H', Q (.bl true) H'
theorem in_gl (k : Kd) : inV (.str (wordK k)) [.str "group", .str "limit"] = isS k := by cases k <;> decide +kernel
theorem is_keep (k : Kd) : decide (wordK k = "keep") = decide (k = .kept) := by cases k <;> decide +kernel
theorem rowc_g {H : Hp} {q b : Addr} {ln pk : Int} {nm : Str} (h : H q = some (.tup [.str "group", .int ln, .str nm, .ref b])) : RowC H q b ⟨.grouped, ln, pk⟩ := by
  unfold RowC; rw [if_pos rfl]; exact ⟨nm, h⟩
theorem rowc_l {H : Hp} {q b oa : Addr} {ln pk : Int} {others : List V} (h : H q = some (.tup [.str "limit", .int ln, .int (1 + pk % 99), .ref b, .ref oa])) (ho : H oa = some (.tup others)) (hl : others.length ≤ 10) (oth : OthC H ⟨.limited, ln, pk⟩ others) : RowC H q b ⟨.limited, ln, pk⟩ := by
  unfold RowC; rw [if_neg (fun z => nomatch z), if_pos rfl]; exact ⟨oa, others, h, ho, hl, oth⟩
def qS (ln : Int) (ra : Addr) (rows : List V) (oa : Addr) (others : List V) (left : Int) (fault : Str) : Sf := { line := ln, ra := ra, rows := rows, oa := oa, others := others, sc := .non, place := 0, left := left, fault := fault, cleaning := false, named := .non, held := .non, told := .non }
theorem rowc_q {H : Hp} {k : Kd} {q b oa : Addr} {ln pk left : Int} {rows others : List V} {fault : Str} (h : QRow H q k (qS ln b rows oa others left fault)) (hb : H b = some (.tup rows)) (ho : H oa = some (.tup others)) (h1 : rows.length ≤ 10) (h2 : others.length ≤ 10) (n1 : k ≠ .grouped) (n2 : k ≠ .limited) (oth : OthC H ⟨k, ln, pk⟩ others) (hf : k = .tried → fault = fltOf ⟨k, ln, pk⟩) : RowC H q b ⟨k, ln, pk⟩ := by
  unfold RowC
  rw [if_neg n1, if_neg n2]
  exact ⟨_, h, ⟨rfl, rfl, rfl, rfl, rfl, rfl, hb, ho, h1, h2⟩, rfl, rfl, oth, hf⟩
theorem oth_no {H : Hp} {c : Ce} {os : List V} (h1 : c.k ≠ .cleaned) (h2 : c.k ≠ .tried) (h3 : c.k ≠ .limited) : OthC H c os := ⟨fun e => absurd e h1, fun e => absurd e h2, fun e => absurd e h3⟩
theorem oth_c {H : Hp} {ln pk : Int} {q : Addr} (h : H q = some (.tup (ringV (100 + ln) "clean"))) : OthC H ⟨.cleaned, ln, pk⟩ [.ref q] := ⟨fun _ => ⟨q, rfl, h⟩, (fun e => nomatch e), (fun e => nomatch e)⟩
theorem oth_t {H : Hp} {ln pk : Int} {q : Addr} (h : H q = some (.tup (ringV (100 + ln) "caught"))) : OthC H ⟨.tried, ln, pk⟩ [.ref q] := ⟨(fun e => nomatch e), fun _ => ⟨q, rfl, h⟩, (fun e => nomatch e)⟩
theorem oth_l1 {H : Hp} {ln pk : Int} {q : Addr} (e : pk / 100 % 2 = 1) (h : H q = some (.tup (ringV (100 + ln) "late"))) : OthC H ⟨.limited, ln, pk⟩ [.ref q] := ⟨(fun e => nomatch e), (fun e => nomatch e), fun _ => by show (if pk / 100 % 2 = 1 then _ else _); rw [if_pos e]; exact ⟨q, rfl, h⟩⟩
theorem oth_l0 {H : Hp} {ln pk : Int} (e : pk / 100 % 2 = 0) : OthC H ⟨.limited, ln, pk⟩ [] := ⟨(fun e => nomatch e), (fun e => nomatch e), fun _ => by show (if pk / 100 % 2 = 1 then _ else _); rw [if_neg (by omega)]⟩
def dueV (c : Ce) (n : Int) : List V := if c.k = .grouped then [.str "group", .int c.ln, .int n] else if c.k = .limited then [.str "limit", .int c.ln, .int n, .int (1 + c.pk % 99)] else [.str "did", .int c.ln]
def due1 (c : Ce) (n : Int) : List V := if c.k = .grouped then [.str "group", .int c.ln, .int n] else [.str "did", .int c.ln]
theorem due_is (c : Ce) (n : Int) : ∀ x ∈ dueV c n, IS x := by
  have s : ∀ z : Str, IS (.str z) := fun z => .inr ⟨z, rfl⟩
  have i : ∀ z : Int, IS (.int z) := fun z => .inl ⟨z, rfl⟩
  unfold dueV
  by_cases c1 : c.k = .grouped
  · rw [if_pos c1]; intro x hx; simp at hx; rcases hx with rfl | rfl | rfl <;> first | exact s _ | exact i _
  · rw [if_neg c1]
    by_cases c2 : c.k = .limited
    · rw [if_pos c2]; intro x hx; simp at hx; rcases hx with rfl | rfl | rfl | rfl <;> first | exact s _ | exact i _
    · rw [if_neg c2]; intro x hx; simp at hx; rcases hx with rfl | rfl <;> first | exact s _ | exact i _
theorem is_word {k : Kd} {z : Str} {k0 : Kd} (h : z = wordK k0) : decide (wordK k = z) = decide (k = k0) := by subst h; cases k <;> cases k0 <;> decide +kernel
theorem ifB {b b' : Bool} {A B : Prop} (e : b = b') (h : if b' = true then A else B) : if b = true then A else B := by rw [e]; exact h
theorem MAt.gen {T : Tx K mg} {H H' : Hp} {p c : Addr} {stk : List Fm} {kv mk : List (Key × V)} {m : Mc} {o : HO} (M : MAt T H p stk kv mk m) (b : But c H H') (hc : H c = some o) (h1 : ∀ C dx fs, o ≠ .ins C dx fs) (h2 : ∀ xs, o ≠ .tup xs) (n1 : c ≠ m.fl) (n2 : c ≠ m.nv) (n3 : c ≠ m.mr) : MAt T H' p stk kv mk m := by
  obtain ⟨dx, fs, hp, h3⟩ := M.ob.ex
  refine ⟨⟨dx, fs, b _ _ (ne_of hp hc (Ne.symm (h1 _ _ _))) hp, h3⟩, b _ _ n1.symm M.fl, fun x hx => ?_, M.nd, b _ _ n2.symm M.nv, b _ _ n3.symm M.mr, M.ne, M.sc⟩
  have F := M.fr x hx
  obtain ⟨dy, gs, h4, h5⟩ := F.fr.ex
  exact ⟨⟨dy, gs, b _ _ (ne_of h4 hc (Ne.symm (h1 _ _ _))) h4, h5⟩, b _ _ (ne_of F.rs hc (Ne.symm (h2 _))) F.rs, b _ _ (ne_of F.os hc (Ne.symm (h2 _))) F.os, F.pl, F.rl, F.ol⟩
def SqN (fs : List Addr) (H : Hp) (a : Addr) (xs : List V) : Prop := (∀ H', SqL K H' a xs) ∨ (Rd H a (.lst xs) ∧ a ∉ fs)
theorem SqN.of {H : Hp} {a : Addr} {xs : List V} (h : SqL K H a xs) : SqN (K := K) [] H a xs := by
  rcases h with h | h
  · exact .inr ⟨h, fun z => by cases z⟩
  · exact .inl fun _ => .inr h
theorem SqN.sq {fs : List Addr} {H : Hp} {a : Addr} {xs : List V} (h : SqN (K := K) fs H a xs) : SqL K H a xs := by
  rcases h with h | ⟨h, _⟩
  · exact h H
  · exact .inl h
theorem SqN.add {fs : List Addr} {H : Hp} {a f : Addr} {xs : List V} (h : SqN (K := K) fs H a xs) (hf : H f = none) : SqN (K := K) (f :: fs) H a xs := by
  rcases h with h | ⟨h, n⟩
  · exact .inl h
  · refine .inr ⟨h, fun z => ?_⟩
    rcases List.mem_cons.mp z with e | e
    · rcases h with h | ⟨o, h⟩
      · rw [e, hf] at h; cases h
      · rw [e, hf] at h; cases h
    · exact n e
theorem SqN.kp {fs : List Addr} {H H' : Hp} {a : Addr} {xs : List V} (h : SqN (K := K) fs H a xs) (k : a ∉ fs → ∀ o, (∀ C dx gs, o ≠ .ins C dx gs) → (∀ kl, o ≠ .dK kl) → H a = some o → H' a = some o) : SqN (K := K) fs H' a xs := by
  rcases h with h | ⟨h, n⟩
  · exact .inl h
  · refine .inr ⟨?_, n⟩
    rcases h with h | ⟨o, h⟩
    · exact .inl (k n _ (fun _ _ _ z => nomatch z) (fun _ z => nomatch z) h)
    · exact .inr ⟨o, k n _ (fun _ _ _ z => nomatch z) (fun _ z => nomatch z) h⟩
theorem SqN.same {fs : List Addr} {H H' : Hp} {a : Addr} {xs : List V} (h : SqN (K := K) fs H a xs) (s : Same H H') : SqN (K := K) fs H' a xs := h.kp fun _ _ _ _ h => s _ _ h
theorem SqN.kn {fs : List Addr} {H H' : Hp} {a f r : Addr} {xs : List V} {kl : List (Key × V)} (h : SqN (K := K) fs H a xs) (hf : f ∈ fs) (k : Kn f r H H') (hr : H r = some (.dK kl)) : SqN (K := K) fs H' a xs := h.kp fun n _ h1 h2 h => k _ _ (fun z => n (z ▸ hf)) (ne_of h hr (h2 _)) h1 h
theorem SqN.ins {fs : List Addr} {H H' : Hp} {a c C dx : Addr} {xs : List V} {gs : List (Str × V)} (h : SqN (K := K) fs H a xs) (b : But c H H') (hc : H c = some (.ins C dx gs)) : SqN (K := K) fs H' a xs := h.kp fun _ _ h1 _ h => b _ _ (ne_of h hc (h1 _ _ _)) h
theorem SqN.lst {fs : List Addr} {H H' : Hp} {a c : Addr} {xs : List V} (h : SqN (K := K) fs H a xs) (b : But c H H') (hc : c ∈ fs) : SqN (K := K) fs H' a xs := h.kp fun n _ _ _ h => b _ _ (fun z => n (z ▸ hc)) h
def Klt (H H' : Hp) : Prop := (∀ c l, H c = some (.lst l) → H' c = some (.lst l)) ∧ Tk H H'
theorem Klt.ins {H H' : Hp} {c C dx : Addr} {fs : List (Str × V)} (b : But c H H') (hc : H c = some (.ins C dx fs)) : Klt H H' := ⟨fun a _ h => b a _ (ne_of h hc (fun z => nomatch z)) h, fun a _ h => b a _ (ne_of h hc (fun z => nomatch z)) h⟩
theorem Klt.of {H H' : Hp} (s : Same H H') : Klt H H' := ⟨fun _ _ h => s _ _ h, fun _ _ h => s _ _ h⟩
theorem Cm.same {H H' : Hp} {y : V} (h : Cm H y) (s : Same H H') : Cm H' y := by
  rcases h with h | ⟨a, xs, e, h⟩
  · exact .inl h
  · exact .inr ⟨a, xs, e, s _ _ h⟩
theorem frok_at {S : List Fm} (h : FrOk S) {j : Nat} {y : Fm} (hj : S[j + 1]? = some y) : FOk y := by
  obtain ⟨r, t, rfl, _, _, h3⟩ := h
  rw [List.getElem?_cons_succ] at hj
  exact h3 y (List.mem_of_getElem? hj)
theorem frok_zero {S : List Fm} (h : FrOk S) {y : Fm} (hj : S[0]? = some y) : y.s.sc = .int 0 ∧ y.c = .frame := by
  obtain ⟨r, t, rfl, h1, h2, _⟩ := h
  cases hj
  exact ⟨h1, h2⟩
theorem FOk.nz {y : Fm} (h : FOk y) : y.s.sc ≠ .int 0 := by
  rcases h with ⟨e, _⟩ | ⟨_, j, n, e⟩
  · rw [e]; exact fun z => nomatch z
  · rw [e]; intro z; injection z with z; omega
theorem FOk.lim {y : Fm} (h : FOk y) (c : y.c = .limited) : ∃ n, y.s.sc = .int n := by
  rcases h with ⟨_, n, _⟩ | ⟨_, j, _, e⟩
  · exact absurd c n
  · exact ⟨j, e⟩
theorem FOk.grp {y : Fm} (h : FOk y) (c : y.c = .grouped) : ∃ n, y.s.sc = .int n := by
  rcases h with ⟨_, _, n⟩ | ⟨_, j, _, e⟩
  · exact absurd c n
  · exact ⟨j, e⟩
theorem FOk.out {y : Fm} {n : Int} (h : FOk y) (hc : y.c = .cleaned → y.s.cleaning = true) (hg : y.c ≠ .grouped) (hl : y.c = .limited → y.s.sc ≠ .int n) : meetsF y.c y.s (.strike n) = "out" := by
  unfold meetsF
  by_cases c1 : y.c = .tried
  · rw [if_pos c1]
  · rw [if_neg c1]
    by_cases c2 : y.c = .cleaned
    · rw [if_pos c2, if_pos (hc c2)]
    · rw [if_neg c2]
      by_cases c3 : y.c = .limited
      · rw [if_pos c3]
        show (if y.s.sc = .int n then ("late" : Str) else "out") = "out"
        rw [if_neg (hl c3)]
      · rw [if_neg c3, if_neg hg]
structure Lv (T : Tx K mg) (H0 H : Hp) (p : Addr) (S : List Fm) (g : Sig) (j : Nat) (mk0 mk : List (Key × V)) (m0 m : Mc) (stk ext : List Fm) (x : Fm) : Prop where
  M : MAt T H p stk [] mk m
  hx : S[j]? = some x
  pend : Pend H (S.take j) x ext mk m g stk
  eo : ∀ y ∈ ext, meetsF y.c y.s g = "out" ∧ FOk y
  len : stk.length ≤ 20
  en : m.en = .non
  wt : m.wt = .non
  kn : Kn m0.fl m0.mr H0 H
  e1 : m.fl = m0.fl
  e2 : m.mr = m0.mr
  mz : Mk0 mk0 mk
theorem take_last {S : List Fm} {j : Nat} {x : Fm} (h : S[j]? = some x) : S.take (j + 1) = S.take j ++ [x] := by
  rw [List.take_succ, h]; rfl
theorem Lv.down {T : Tx K mg} {H0 H : Hp} {p : Addr} {S : List Fm} {g : Sig} {j : Nat} {mk0 mk : List (Key × V)} {m0 m : Mc} {stk ext : List Fm} {x x' : Fm} (L : Lv T H0 H p S g (j + 1) mk0 mk m0 m stk ext x) (ok : FOk x) (hx' : S[j]? = some x') (ho : meetsF x.c x.s g = "out") : Lv T H0 H p S g j mk0 mk m0 m stk (x :: ext) x' := by
  have e := take_last hx'
  have q : S.take (j + 1) ++ [x] ++ ext = S.take j ++ [x'] ++ (x :: ext) := by rw [e]; simp
  refine ⟨L.M, hx', ?_, fun y hy => ?_, L.len, L.en, L.wt, L.kn, L.e1, L.e2, L.mz⟩
  · rcases L.pend with ⟨a, b, c, d⟩ | ⟨a, c, d⟩ | ⟨a, b, y, t, c, d⟩
    · exact .inl ⟨a, b, by rw [c, q], d⟩
    · exact .inr (.inl ⟨a, by rw [c, q], d⟩)
    · exact .inr (.inr ⟨a, b, y, t, by rw [c, q], d⟩)
  · rcases List.mem_cons.mp hy with rfl | h
    · exact ⟨ho, ok⟩
    · exact L.eo y h
theorem Lv.outs {T : Tx K mg} {H0 H : Hp} {p : Addr} {S : List Fm} {g : Sig} {j : Nat} {mk0 mk : List (Key × V)} {m0 m : Mc} {stk ext : List Fm} {x : Fm} (L : Lv T H0 H p S g j mk0 mk m0 m stk ext x) (ok : FrOk S) (ho : j = 0 ∨ meetsF x.c x.s g ≠ "out") (h0 : j = 0 → ∀ n, g = .strike n → ∃ v, valV mk0 (Sum.inl 0 : Key) = some v) : OutS (S.take j) x ext mk g := by
  have hj := (List.getElem?_eq_some_iff.mp L.hx).1
  have ht : S.take j = [] → j = 0 := fun e => by
    have := congrArg List.length e
    rw [List.length_take] at this
    simp at this
    rcases this with h | h
    · exact h
    · rw [h] at hj; exact absurd hj (Nat.not_lt_zero _)
  refine ⟨fun y hy => (L.eo y hy).1, ?_, fun y hy hc => ?_, fun y hy => (L.eo y hy).2.nz, fun hb => ?_, fun hb _ n eg => ?_⟩
  · rcases ho with e | e
    · left; rw [e]; rfl
    · exact .inr e
  · rcases List.mem_cons.mp hy with rfl | h
    · cases j with
      | zero => exact ⟨0, (frok_zero ok L.hx).1⟩
      | succ j => exact (frok_at ok L.hx).lim hc
    · exact (L.eo y h).2.lim hc
  · cases j with
    | zero => exact absurd (frok_zero ok L.hx).2 hb
    | succ j => exact (frok_at ok L.hx).nz
  · obtain ⟨v, hv⟩ := h0 (ht hb) n eg
    exact ⟨v, by rw [L.mz]; exact hv⟩
theorem Kn.tkF {m : Mc} {H H' : Hp} (k : Kn m.fl m.mr H H') (f : FR m H) : Tk H H' := by
  obtain ⟨l, kl, h1, h2⟩ := f
  exact k.tk h1 h2
theorem LT.kn {f r : Addr} {H H' : Hp} {l : Addr} {ts : List (List V)} {fl : List V} {kl : List (Key × V)} (L : LT H l ts) (k : Kn f r H H') (hf : H f = some (.lst fl)) (hr : H r = some (.dK kl)) (n : l ≠ f) : LT H' l ts := L.kp (fun _ h => k.lst n hr h) (k.tk hf hr)
theorem LvP.tk {H H' : Hp} {x : Fm} {m : Mc} {a : Addr} {xs : List V} (P : LvP H x m a xs) (t : Tk H H') : LvP H' x m a xs := ⟨P.c, P.told, t _ _ P.ha, P.fl, by
  rcases P.held with e | ⟨u, n, e1, e2⟩
  · exact .inl e
  · exact .inr ⟨u, n, e1, t _ _ e2⟩, P.sg, P.sc⟩
theorem LvA.kn {T : Tx K mg} {H H1 : Hp} {p : Addr} {stk : List Fm} {x : Fm} {mk : List (Key × V)} {m : Mc} {a : Addr} {xs : List V} {Q : VK} (A : LvA T H p stk x mk m a xs Q) (P : LvP H x m a xs) (k : Kn m.fl m.mr H H1) (tk : Tk H H1) : LvA T H1 p stk x mk m a xs Q := by
  refine ⟨fun hx H' w t k2 => A.some_ hx H' w t (k.trans k2), fun hx H' w sg k2 hw hh => A.none_ hx H' w sg (k.trans k2) hw ?_⟩
  rcases hh with h | ⟨t, n, e1, e2, e3⟩
  · exact .inl h
  · rcases P.held with z | ⟨t0, n0, f1, f2⟩
    · rw [z] at e1; cases e1
    · rw [f1] at e1
      injection e1 with e1
      subst e1
      have q := (tk _ _ f2).symm.trans e2
      injection q with q
      injection q with q
      injection q with _ q
      injection q with q _
      injection q with q
      subst q
      exact .inr ⟨t0, n0, f1, f2, e3⟩
theorem eq_nil {K : PySem.W.Frag} {H : Hp} {a u : Addr} {xs : List V} {R : VK} (ha : H a = some (.tup xs)) (hu : H u = some (.tup [])) (k : R (.bl (!decide (xs = []))) H) : rEqT K true (.ref a) (.ref u) H R := by
  refine ⟨a, u, xs, [], 0, fun _ => true, rfl, rfl, SqT.of ha, SqT.of hu, by decide, fun i x y _ h => (by cases h), ?_⟩
  have q : (true ^^ ((List.range (min xs.length ([] : List V).length)).all (fun _ => true) && xs.length == ([] : List V).length)) = !decide (xs = []) := by
    cases xs <;> simp
  rw [q]
  exact k
theorem fes_at {H : Hp} {cs : List Ce} {S : List Fm} (h : Fes H cs S) {j : Nat} {c : Ce} {x : Fm} (hc : cs[j]? = some c) (hx : S[j + 1]? = some x) : FEnt H c x ∧ ∃ par, S[j]? = some par ∧ Beh H c par := by
  obtain ⟨y, par, h1, h2, h3, h4⟩ := h j c hc
  rw [h1] at hx
  cases hx
  exact ⟨h2, par, h3, h4⟩
theorem Lv.cleaned {T : Tx K mg} {H0 H : Hp} {p : Addr} {S : List Fm} {g : Sig} {j : Nat} {mk0 mk : List (Key × V)} {m0 m : Mc} {x x' : Fm} {t : Addr} {o : V} (hx' : S[j]? = some x') (hl : S.length ≤ 10) (ok : FOk x) (hc : x.c = .cleaned) (ho : x.s.others = [o])
    (M : MAt T H p (S.take (j + 1) ++ [⟨x.a, x.c, { cleanS x.s (.ref t) with place := 1 }⟩]) [] mk m) (st : m.st = false) (sg : m.sg = .non) (ht : SigAt H t g) (en : m.en = .non) (wt : m.wt = .non) (kn : Kn m0.fl m0.mr H0 H) (e1 : m.fl = m0.fl) (e2 : m.mr = m0.mr) (mz : Mk0 mk0 mk) : Lv T H0 H p S g j mk0 mk m0 m (S.take (j + 1) ++ [⟨x.a, x.c, { cleanS x.s (.ref t) with place := 1 }⟩]) [] x' := by
  refine ⟨M, hx', (.inr (.inr ⟨st, sg, ⟨x.a, x.c, { cleanS x.s (.ref t) with place := 1 }⟩, t, ?_, ⟨?_, ?_, ?_⟩, ?_, rfl, ht⟩)), (fun y hy => by cases hy), ?_, en, wt, kn, e1, e2, mz⟩
  · rw [take_last hx', List.append_nil]
  · show 1 = x.s.others.length
    rw [ho]; rfl
  · show overF x.c _ = _
    rw [hc]; rfl
  · show overS x.c _ = _
    rw [hc]; rfl
  · rcases ok with ⟨e, _⟩ | ⟨c | c, _⟩
    · exact e
    · rw [hc] at c; cases c
    · rw [hc] at c; cases c
  · rw [List.length_append, List.length_take]; simp; omega
theorem scs_ne {cs : List Ce} {S : List Fm} (h : S.map fx = (scAll cs).1) {j : Nat} {x : Fm} (hx : S[j]? = some x) : ∃ f, (scAll cs).1[j]? = some f ∧ f.1 = x.s.sc := ⟨fx x, by rw [← h, List.getElem?_map, hx]; rfl, rfl⟩
theorem FrOk.pos {S : List Fm} (h : FrOk S) {y : Fm} {n : Int} (hy : y ∈ S) (e : y.s.sc = .int n) : 0 ≤ n := by
  obtain ⟨r, t, rfl, h1, _, h3⟩ := h
  rcases List.mem_cons.mp hy with rfl | q
  · rw [h1] at e; injection e with e; omega
  · rcases h3 y q with ⟨e', _⟩ | ⟨_, j, hj, e'⟩
    · rw [e'] at e; cases e
    · rw [e'] at e; injection e with e; omega
theorem Fes.last {H : Hp} {cs : List Ce} {stk : List Fm} {x : Fm} {n : Nat} (h : Fes H cs (stk ++ [x])) (hl : stk.length = cs.length) : Fes H cs (stk ++ [⟨x.a, x.c, { x.s with place := n }⟩]) := fun j c hc => by
  obtain ⟨y, par, h1, h2, h3, h4⟩ := h j c hc
  have hj := (List.getElem?_eq_some_iff.mp hc).1
  rw [List.getElem?_append_left (by omega)] at h3
  by_cases e : j + 1 < stk.length
  · rw [List.getElem?_append_left e] at h1
    exact ⟨y, par, by rw [List.getElem?_append_left e]; exact h1, h2, by rw [List.getElem?_append_left (by omega)]; exact h3, h4⟩
  · rw [List.getElem?_append_right (by omega)] at h1
    have e0 : j + 1 - stk.length = 0 := by omega
    rw [e0] at h1
    cases h1
    exact ⟨⟨x.a, x.c, { x.s with place := n }⟩, par, by rw [List.getElem?_append_right (by omega), e0]; rfl, ⟨h2.k, h2.ln, h2.cl, h2.tl, h2.hd, h2.ot, h2.fl⟩, by rw [List.getElem?_append_left (by omega)]; exact h3, h4⟩
def spRight (T : Tx K mg) : Sp := fun vs H Q _ => ∃ (a : Addr) (ns : List Int) (tn : Nat), vs = [.ref a, .int tn] ∧ tn ≤ 9 ∧ SqL K H a (ns.map V.int) ∧ ns.length ≤ 63 ∧ ∀ H', SqL K H' a (ns.map V.int) → Q (.bl true) H'
theorem SigAt.tkS {H H' : Hp} {t : Addr} {g : Sig} (h : SigAt H t g) (s : Same H H') : SigAt H' t g := h.tk fun _ _ e => s _ _ e
theorem Lv.same {T : Tx K mg} {H0 H H' : Hp} {p : Addr} {S : List Fm} {g : Sig} {j : Nat} {mk0 mk : List (Key × V)} {m0 m : Mc} {stk ext : List Fm} {x : Fm} (L : Lv T H0 H p S g j mk0 mk m0 m stk ext x) (s : Same H H') : Lv T H0 H' p S g j mk0 mk m0 m stk ext x := by
  refine ⟨L.M.same s, L.hx, ?_, L.eo, L.len, L.en, L.wt, L.kn.trans (Kn.of s), L.e1, L.e2, L.mz⟩
  rcases L.pend with h | ⟨a, c, t, d, e⟩ | ⟨a, b, y, t, c, d, e, f, i⟩
  · exact .inl h
  · exact .inr (.inl ⟨a, c, t, d, e.tkS s⟩)
  · exact .inr (.inr ⟨a, b, y, t, c, d, e, f, i.tkS s⟩)
section
variable {T : Tx K mg} {H : Hp} {p : Addr} {base : List Fm} {x : Fm} {mk : List (Key × V)} {m : Mc} {t : Addr} {g : Sig} {Q : VK}
theorem SoA.mkClean (e : meetsF x.c x.s g = "clean") (k : ∀ H' w mk1, Kn m.fl m.mr H H' → Mk0 mk mk1 → H' w = some (.tup [.str "clean", .int x.s.line]) → MAt T H' p (base ++ [⟨x.a, x.c, cleanS x.s (.ref t)⟩]) [] mk1 { m with sg := .non } → Q (.ref w) H') : SoA T H p base x mk m t g Q :=
  ⟨fun _ _ => k, fun z => absurd (e.symm.trans z) (by decide +kernel), fun z => absurd (e.symm.trans z) (by decide +kernel), fun z => absurd (e.symm.trans z) (by decide +kernel), fun z => absurd (e.symm.trans z) (by decide +kernel)⟩
theorem SoA.mkHalt (e : meetsF x.c x.s g = "halt") (k : ∀ H' w u a mk1, Kn m.fl m.mr H H' → Mk0 mk mk1 → H' w = some (.tup [.str "halt", .int x.s.line, x.s.sc, .ref u]) → H' u = some (.tup (faultsOf g)) → MAt T H' p (base ++ [⟨x.a, x.c, haltS x.s a t g⟩]) [] mk1 { m with sg := .non, wt := .ref w } → Q (.ref w) H') : SoA T H p base x mk m t g Q :=
  ⟨fun z => absurd (e.symm.trans z) (by decide +kernel), fun _ _ => k, fun z => absurd (e.symm.trans z) (by decide +kernel), fun z => absurd (e.symm.trans z) (by decide +kernel), fun z => absurd (e.symm.trans z) (by decide +kernel)⟩
theorem SoA.mkCaught (e : meetsF x.c x.s g = "caught") (k : ∀ H' w u y mk1, Kn m.fl m.mr H H' → Mk0 mk mk1 → H' w = some (.tup [.str "caught", .int x.s.line, .ref u]) → H' u = some (.tup (faultsOf g)) → MAt T H' p (base ++ [⟨y, .frame, plainS x.s⟩]) [] mk1 { m with sg := .non } → Q (.ref w) H') : SoA T H p base x mk m t g Q :=
  ⟨fun z => absurd (e.symm.trans z) (by decide +kernel), fun z => absurd (e.symm.trans z) (by decide +kernel), fun z => absurd (e.symm.trans z) (by decide +kernel), fun _ _ => k, fun z => absurd (e.symm.trans z) (by decide +kernel)⟩
theorem SoA.mkEnd (e : meetsF x.c x.s g = "out") (k : ∀ H' w u l, Kn m.fl m.mr H H' → H' w = some (.tup [.str "ended", .int 0, .ref u]) → (∀ n v, g = .strike n → valV mk (Sum.inl 0 : Key) = some v → H' u = some (.tup [v])) → (∀ a r, g = .faults a r → u = t) → ObAt T 9 H' p { m with sg := .non, fl := l, en := .ref u }.g → Q (.ref w) H') : SoA T H p base x mk m t g Q :=
  ⟨fun z => absurd (e.symm.trans z) (by decide +kernel), fun z => absurd (e.symm.trans z) (by decide +kernel), fun z => absurd (e.symm.trans z) (by decide +kernel), fun z => absurd (e.symm.trans z) (by decide +kernel), fun _ _ => k⟩
end
theorem Lv.stepB {T : Tx K mg} {H0 H : Hp} {p : Addr} {S : List Fm} {g : Sig} {j : Nat} {mk0 mk : List (Key × V)} {m0 m : Mc} {stk ext : List Fm} {x : Fm} {Q : VK} (L : Lv T H0 H p S g j mk0 mk m0 m stk ext x) (ok : FrOk S) (ho : j = 0 ∨ meetsF x.c x.s g ≠ "out") (h0 : j = 0 → ∀ n, g = .strike n → ∃ v, valV mk0 (Sum.inl 0 : Key) = some v)
    (A : ∀ H1 t, Kn m.fl m.mr H H1 → FR m H1 → SigAt H1 t g → SoA T H1 p (S.take j) x mk { m with st := false, sg := .ref t } t g Q) : spStep T [.ref p] H Q E0 :=
  ⟨p, mk, m, rfl, .inr (.inl ⟨stk, S.take j, x, ext, g, L.M, by have := L.len; omega, L.pend, L.outs ok ho h0, A⟩)⟩
theorem stepRing {T : Tx K mg} {H : Hp} {p q : Addr} {stk ext : List Fm} {x : Fm} {mk : List (Key × V)} {m : Mc} {ln : Int} {z : Str} {Q : VK} (M : MAt T H p (stk ++ [x] ++ ext) [] mk m) (st : m.st = false) (sg : m.sg = .non) (hid : ∀ y ∈ ext, Idle y) (hq : x.s.rows[x.s.place]? = some (.ref q)) (hr : H q = some (.tup (ringV ln z))) (hl : stk.length ≤ 90)
    (k : ∀ H' t, Kn m.fl m.mr H H' → H' t = some (.tup (ringV ln z)) → MAt T H' p (stk ++ [⟨x.a, x.c, { x.s with place := x.s.place + 1 }⟩]) [] mk m → Q (.ref t) H') : spStep T [.ref p] H Q E0 :=
  ⟨p, mk, m, rfl, .inl ⟨stk, x, ext, q, M, st, sg, hid, hq, fun H1 R kn M1 hR => ⟨p, q, _, mk, m, rfl, M1, by rw [List.length_append]; show _ + 1 ≤ 100; omega, .inr (.inr (.inl ⟨ln, z, (kn.tk M.fl M.mr) _ _ hr, fun t H2 s2 ht => hR _ _ (fun z => nomatch z) (k H2 t (kn.trans (Kn.of s2)) ht (M1.same s2))⟩))⟩⟩⟩
theorem eqd_tup {K : PySem.W.Frag} {H : Hp} {n : Nat} {a b : Addr} {xs ys : List V} (ha : H a = some (.tup xs)) (hb : H b = some (.tup ys)) (hl : xs.length = ys.length) (h : ∀ (i : Nat) (x y : V), xs[i]? = some x → ys[i]? = some y → EqD K H n x y true) : EqD K H (n + 1) (.ref a) (.ref b) true := by
  by_cases e : a = b
  · subst e; exact .same
  · have := EqD.tup (n := n) (e := fun _ => true) (SqT.of ha) (SqT.of hb) e h
    have q : ((List.range (min xs.length ys.length)).all (fun _ => true) && xs.length == ys.length) = true := by
      rw [hl]; simp
    rw [q] at this
    exact this
inductive EqLs (K : PySem.W.Frag) (H : Hp) (n : Nat) : List V → List V → Prop
  | nil : EqLs K H n [] []
  | cons {x y : V} {xs ys : List V} : EqD K H n x y true → EqLs K H n xs ys → EqLs K H n (x :: xs) (y :: ys)
theorem EqLs.len {K : PySem.W.Frag} {H : Hp} {n : Nat} {xs ys : List V} (h : EqLs K H n xs ys) : xs.length = ys.length := by
  induction h with
  | nil => rfl
  | cons _ _ ih => rw [List.length_cons, List.length_cons, ih]
theorem EqLs.get {K : PySem.W.Frag} {H : Hp} {n : Nat} {xs ys : List V} (h : EqLs K H n xs ys) : ∀ (i : Nat) (x y : V), xs[i]? = some x → ys[i]? = some y → EqD K H n x y true := by
  induction h with
  | nil => intro i x y e; cases e
  | cons hd _ ih =>
    intro i x y ex ey
    cases i with
    | zero => cases ex; cases ey; exact hd
    | succ i => exact ih i x y (by simpa using ex) (by simpa using ey)
theorem eqTL {K : PySem.W.Frag} {neg : Bool} {H : Hp} {n : Nat} {a b : Addr} {xs ys : List V} {R : VK} (ha : H a = some (.tup xs)) (hb : H b = some (.tup ys)) (h : EqLs K H n xs ys) (hn : n ≤ 90) (k : R (.bl (neg ^^ true)) H) : rEqT K neg (.ref a) (.ref b) H R := eqT ha hb h.len h.get hn k
theorem el_s {K : PySem.W.Frag} {H : Hp} {n : Nat} {z : Str} {xs ys : List V} (h : EqLs K H n xs ys) : EqLs K H n (.str z :: xs) (.str z :: ys) := .cons (eqd_is (.inr ⟨z, rfl⟩)) h
theorem el_i {K : PySem.W.Frag} {H : Hp} {n : Nat} {z : Int} {xs ys : List V} (h : EqLs K H n xs ys) : EqLs K H n (.int z :: xs) (.int z :: ys) := .cons (eqd_is (.inl ⟨z, rfl⟩)) h
theorem Kn.cast {f r f' r' : Addr} {H H' : Hp} (k : Kn f r H H') (e1 : f = f') (e2 : r = r') : Kn f' r' H H' := by subst e1; subst e2; exact k
theorem el_strs {K : PySem.W.Frag} {H : Hp} {n : Nat} : ∀ (l : List Str), EqLs K H n (l.map V.str) (l.map V.str)
  | [] => .nil
  | _ :: r => el_s (el_strs r)
theorem eq_nilE {K : PySem.W.Frag} {H : Hp} {a u : Addr} {xs : List V} {R : VK} (ha : H a = some (.tup xs)) (hu : H u = some (.tup [])) (k : R (.bl (decide (xs = []))) H) : rEqT K false (.ref a) (.ref u) H R := by
  refine ⟨a, u, xs, [], 0, fun _ => true, rfl, rfl, SqT.of ha, SqT.of hu, by decide, fun i x y _ h => (by cases h), ?_⟩
  have q : (false ^^ ((List.range (min xs.length ([] : List V).length)).all (fun _ => true) && xs.length == ([] : List V).length)) = decide (xs = []) := by
    cases xs <;> simp
  rw [q]
  exact k
def spHalted (T : Tx K mg) : Sp := fun vs H Q _ => ∃ (p : Addr) (H0 : Hp) (S : List Fm) (z : Str) (r : List Str) (j : Nat) (mk0 mk : List (Key × V)) (m0 m : Mc) (stk ext : List Fm) (x : Fm) (ln sc : Int) (fa : Addr) (pk : Int), vs = [.ref p, .int ln, .int sc, .ref fa, .int pk] ∧ Lv T H0 H p S (.faults z r) (j + 1) mk0 mk m0 m stk ext x ∧ FrOk S ∧ x.c = .grouped ∧ x.s.line = ln ∧ x.s.sc = .int sc ∧ H fa = some (.tup ((z :: r).map V.str)) ∧ r.length ≤ 30 ∧ 0 ≤ pk ∧
  ∀ (H' : Hp) (u : Addr) (zs : List Str) (mk' : List (Key × V)) (m' : Mc), Kn m0.fl m0.mr H0 H' → MAt T H' p (S.take (j + 1)) [] mk' m' → Mk0 mk0 mk' → m'.fl = m0.fl → m'.mr = m0.mr → m'.st = false → m'.en = .non → m'.wt = .non → H' u = some (.tup (zs.map V.str)) → zs.length ≤ r.length + 2 → (zs = [] → m'.sg = .non) → (∀ a b, zs = a :: b → ∃ t, m'.sg = .ref t ∧ SigAt H' t (.faults a b)) → Q (.ref u) H'
structure OutP (T : Tx K mg) (H : Hp) (p l fr fa t : Addr) (z : Str) (cs : List Ce) (S : List Fm) (mk : List (Key × V)) (m : Mc) : Prop where
  M : MAt T H p S [] mk m
  sc : S.map fx = (scAll cs).1
  ok : FrOk S
  fe : Fes H cs S
  len : S.length = cs.length + 1
  l7 : cs.length ≤ 7
  bd : ∀ c ∈ cs, 0 ≤ c.ln ∧ c.ln ≤ 100 ∧ 0 ≤ c.pk
  lc : LT H l (cs.map Ce.vs)
  lf : LT H fr ((scAll cs).1.map fv)
  n1 : l ≠ m.fl
  n2 : fr ≠ m.fl
  st : m.st = false
  sg : m.sg = .ref t
  ht : SigAt H t (.faults z [])
  wt : m.wt = .non
  en : m.en = .non
  hf : H fa = some (.tup [.str z])
theorem OutP.start {T : Tx K mg} {H : Hp} {p l fr fa t : Addr} {z : Str} {cs : List Ce} {S : List Fm} {mk : List (Key × V)} {m : Mc} (O : OutP T H p l fr fa t z cs S mk m) : ∃ x, Lv T H H p S (.faults z []) cs.length mk mk m m S [] x := by
  have hl := O.len
  have hi : cs.length < S.length := by omega
  have hx : S[cs.length]? = some S[cs.length] := List.getElem?_eq_getElem hi
  refine ⟨S[cs.length], O.M, hx, .inr (.inl ⟨O.st, ?_, t, O.sg, O.ht⟩), (fun y hy => by cases hy), by have := O.l7; omega, O.en, O.wt, Kn.refl _ _ _, rfl, rfl, rfl⟩
  rw [List.append_nil, ← take_last hx, List.take_of_length_le (by omega)]
def DueR (T : Tx K mg) (H G : Hp) (p due : Addr) (m : Mc) : Prop := ∃ (ln : Int) (stk : List Fm) (x : Fm) (ext : List Fm) (q : Addr) (mk' : List (Key × V)) (m' : Mc), G due = some (.tup (ringV ln "behind")) ∧ MAt T G p (stk ++ [x] ++ ext) [] mk' m' ∧ (∀ y ∈ ext, Idle y) ∧ m'.st = false ∧ m'.sg = .non ∧ m'.en = .non ∧ m'.wt = .non ∧ x.s.rows[x.s.place]? = some (.ref q) ∧ G q = some (.tup (ringV ln "behind")) ∧ stk.length ≤ 90 ∧ Kn m.fl m.mr H G ∧ m'.fl = m.fl ∧ m'.mr = m.mr
def DueE (T : Tx K mg) (H G : Hp) (p due : Addr) (S : List Fm) (mk : List (Key × V)) (m : Mc) : Prop := ∃ (z : Str) (r : List Str) (v fa : Addr) (mk' : List (Key × V)) (m' : Mc) (stk ext : List Fm) (x : Fm), G due = some (.tup [.str "ended", .int 0, .ref v]) ∧ G v = some (.tup [.str "faults", .ref fa]) ∧ G fa = some (.tup ((z :: r).map V.str)) ∧ Lv T H G p S (.faults z r) 0 mk mk' m m' stk ext x
def spOut (T : Tx K mg) : Sp := fun vs H Q _ => ∃ (p l fr fa t : Addr) (z : Str) (cs : List Ce) (S : List Fm) (mk : List (Key × V)) (m : Mc), vs = [.ref p, .ref l, .ref fr, .ref fa] ∧ OutP T H p l fr fa t z cs S mk m ∧
  ∀ H' due, DueR T H H' p due m ∨ DueE T H H' p due S mk m → Q (.ref due) H'
def LvF (T : Tx K mg) (H G : Hp) (p : Addr) (S : List Fm) (zs : List Str) (j : Nat) (mk : List (Key × V)) (m : Mc) : Prop := ∃ (a : Str) (b : List Str) (mk' : List (Key × V)) (m' : Mc) (stk ext : List Fm) (x : Fm), zs = a :: b ∧ Lv T H G p S (.faults a b) j mk mk' m m' stk ext x
def RB (T : Tx K mg) (H G : Hp) (p : Addr) (S : List Fm) (k0 : Nat) (m : Mc) : Prop := ∃ (mk' : List (Key × V)) (m' : Mc) (ext : List Fm), MAt T G p (S.take (k0 + 1) ++ ext) [] mk' m' ∧ (∀ y ∈ ext, Idle y) ∧ m'.st = false ∧ m'.sg = .non ∧ m'.en = .non ∧ m'.wt = .non ∧ Kn m.fl m.mr H G ∧ m'.fl = m.fl ∧ m'.mr = m.mr
def OF1 (T : Tx K mg) (H : Hp) (p : Addr) (S : List Fm) (zs : List Str) (c : Ce) (k0 : Nat) (mk : List (Key × V)) (m : Mc) (fa : Addr) (G : Hp) : Prop := G fa = some (.tup (zs.map V.str)) ∧ (c.k = .cleaned → LvF T H G p S zs k0 mk m) ∧ (c.k ≠ .cleaned → LvF T H G p S zs (k0 + 1) mk m)
def OF2 (T : Tx K mg) (H : Hp) (p : Addr) (S : List Fm) (b : Nat) (c : Ce) (k0 : Nat) (mk : List (Key × V)) (m : Mc) (fa : Addr) (G : Hp) : Prop := ∃ zs : List Str, G fa = some (.tup (zs.map V.str)) ∧ zs.length ≤ b ∧ Kn m.fl m.mr H G ∧ (zs = [] → RB T H G p S k0 m) ∧ (zs ≠ [] → (c.k = .cleaned ∨ c.k = .grouped → LvF T H G p S zs k0 mk m) ∧ (c.k ≠ .cleaned → c.k ≠ .grouped → LvF T H G p S zs (k0 + 1) mk m))
theorem LvF.same {T : Tx K mg} {H G G' : Hp} {p : Addr} {S : List Fm} {zs : List Str} {j : Nat} {mk : List (Key × V)} {m : Mc} (h : LvF T H G p S zs j mk m) (s : Same G G') : LvF T H G' p S zs j mk m := by
  obtain ⟨a, b, c, d, e, f, g, h1, L⟩ := h
  exact ⟨a, b, c, d, e, f, g, h1, L.same s⟩
theorem RB.same {T : Tx K mg} {H G G' : Hp} {p : Addr} {S : List Fm} {k0 : Nat} {m : Mc} (h : RB T H G p S k0 m) (s : Same G G') : RB T H G' p S k0 m := by
  obtain ⟨a, b, c, M, h1, h2, h3, h4, h5, h6, h7⟩ := h
  exact ⟨a, b, c, M.same s, h1, h2, h3, h4, h5, h6.trans (Kn.of s), h7⟩
def HaltM (T : Tx K mg) (H1 : Hp) (p : Addr) (S : List Fm) (j : Nat) (x : Fm) (g : Sig) (mk : List (Key × V)) (m : Mc) (G : Hp) : Prop := ∃ (w a t : Addr) (mk1 : List (Key × V)), MAt T G p (S.take (j + 1) ++ [⟨x.a, x.c, haltS x.s a t g⟩]) [] mk1 { m with st := false, sg := .non, wt := .ref w } ∧ Kn m.fl m.mr H1 G ∧ Mk0 mk mk1
def foundF (z : Str) (r : List Str) (n : Nat) : List Str := if n = 1 then (z :: r) ++ (["lost"] : List Str) else if n = 2 then ("first" : Str) :: z :: r else if n = 3 then (["oops"] : List Str) else if n = 5 then [] else z :: r
theorem found_len (z : Str) (r : List Str) (n : Nat) : (foundF z r n).length ≤ r.length + 2 := by
  unfold foundF
  by_cases h1 : n = 1
  · rw [if_pos h1, List.length_append]; simp
  · rw [if_neg h1]
    by_cases h2 : n = 2
    · rw [if_pos h2]; simp
    · rw [if_neg h2]
      by_cases h3 : n = 3
      · rw [if_pos h3]; simp
      · rw [if_neg h3]
        by_cases h5 : n = 5
        · rw [if_pos h5]; simp
        · rw [if_neg h5]; simp
def HaltE (T : Tx K mg) (H0 : Hp) (p : Addr) (S : List Fm) (j : Nat) (mk0 : List (Key × V)) (m0 : Mc) (u : Addr) (zs : List Str) (G : Hp) : Prop := ∃ (mk' : List (Key × V)) (m' : Mc), Kn m0.fl m0.mr H0 G ∧ MAt T G p (S.take (j + 1)) [] mk' m' ∧ Mk0 mk0 mk' ∧ m'.fl = m0.fl ∧ m'.mr = m0.mr ∧ m'.st = false ∧ m'.en = .non ∧ m'.wt = .non ∧ G u = some (.tup (zs.map V.str)) ∧ (zs = [] → m'.sg = .non) ∧ (∀ a b, zs = a :: b → ∃ t, m'.sg = .ref t ∧ SigAt G t (.faults a b))
def OF2n (T : Tx K mg) (H : Hp) (p : Addr) (S : List Fm) (b : Nat) (c : Ce) (k0 : Nat) (mk : List (Key × V)) (m : Mc) (fa : Addr) (G : Hp) : Prop := ∃ zs : List Str, G fa = some (.tup (zs.map V.str)) ∧ zs.length ≤ b ∧ (c.k = .cleaned ∨ c.k = .grouped → LvF T H G p S zs k0 mk m) ∧ (c.k ≠ .cleaned → c.k ≠ .grouped → LvF T H G p S zs (k0 + 1) mk m)
theorem RB.due {T : Tx K mg} {H G : Hp} {p due : Addr} {S : List Fm} {k0 : Nat} {m : Mc} {par : Fm} {c : Ce} (h : RB T H G p S k0 m) (hpar : S[k0]? = some par) (hb : Beh G c par) (hd : G due = some (.tup (ringV (200 + c.ln) "behind"))) (hl : S.length ≤ 10) : DueR T H G p due m := by
  obtain ⟨mk', m', ext, M, h1, h2, h3, h4, h5, h6, h7, h8⟩ := h
  obtain ⟨q, rg, hr, hrg⟩ := hb.rows
  rw [take_last hpar] at M
  exact ⟨_, S.take k0, par, ext, rg, mk', m', hd, M, h1, h2, h3, h4, h5, by rw [hr, hb.pl]; rfl, hrg, by rw [List.length_take]; omega, h6, h7, h8⟩
theorem FOk.outF {y : Fm} {a : Str} {b : List Str} (hc : y.c = .cleaned → y.s.cleaning = true) (hg : y.c ≠ .grouped) (ht : y.c = .tried → ¬ (y.s.fault = "any" ∨ y.s.fault = a)) : meetsF y.c y.s (.faults a b) = "out" := by
  unfold meetsF
  by_cases c1 : y.c = .tried
  · rw [if_pos c1]
    show (if y.s.fault = "any" ∨ y.s.fault = a then ("caught" : Str) else "out") = "out"
    rw [if_neg (ht c1)]
  · rw [if_neg c1]
    by_cases c2 : y.c = .cleaned
    · rw [if_pos c2, if_pos (hc c2)]
    · rw [if_neg c2]
      by_cases c3 : y.c = .limited
      · rw [if_pos c3]
      · rw [if_neg c3, if_neg hg]
structure RtF (T : Tx K mg) (G : Hp) (p l a : Addr) (ns : List Int) (cs : List Ce) (S : List Fm) (z : Str) (t : Addr) (m : Mc) : Prop where
  M : MAt T G p S [] [] m
  sc : S.map fx = (scAll cs).1
  ok : FrOk S
  fe : Fes G cs S
  len : S.length = cs.length + 1
  st : m.st = false
  sg : m.sg = .ref t
  ht : SigAt G t (.faults z [])
  wt : m.wt = .non
  en : m.en = .non
  lc : LT G l (cs.map Ce.vs)
  n1 : l ≠ m.fl
  scr : SqN (K := K) [m.fl] G a (ns.map V.int)
theorem RtF.same {T : Tx K mg} {G G' : Hp} {p l a : Addr} {ns : List Int} {cs : List Ce} {S : List Fm} {z : Str} {t : Addr} {m : Mc} (R : RtF T G p l a ns cs S z t m) (s : Same G G') : RtF T G' p l a ns cs S z t m :=
  ⟨R.M.same s, R.sc, R.ok, R.fe.tk (fun _ _ h => s _ _ h), R.len, R.st, R.sg, R.ht.tkS s, R.wt, R.en, R.lc.same s, R.n1, R.scr.same s⟩
def FinR (T : Tx K mg) (p due : Addr) (G : Hp) : Prop := (∃ (ln : Int) (m' : Mc), G due = some (.tup (ringV ln "behind")) ∧ ObAt T 9 G p m'.g ∧ m'.en = .non ∧ m'.wt = .non) ∨
  (∃ (zs : List Str) (v fa t u : Addr) (m' : Mc), G due = some (.tup [.str "ended", .int 0, .ref v]) ∧ G v = some (.tup [.str "faults", .ref fa]) ∧ G fa = some (.tup (zs.map V.str)) ∧ ObAt T 9 G p m'.g ∧ m'.en = .ref t ∧ G t = some (.tup [.str "faults", .ref u]) ∧ G u = some (.tup (zs.map V.str)))

theorem sc_Frame___init__ : FnScope ["self", "rows", "line", "scope"] ["self", "rows", "line", "scope"] (defScope (inClass (top 2) 0)) := ⟨rfl, rfl, rfl, by decide +kernel, rfl, by decide +kernel, by decide +kernel⟩
theorem ok_Frame___init__ (T : Tx K mg) {f : Addr} {fd : FuncData} {dV : Value} (F : FunD K "__init__" "Frame.__init__" (inClass (top 2) 0) dV f fd) : FnOk P w K mg base CX0 1 f fd ["self", "rows", "line", "scope"] (spFInit T) := by
  refine F.ok sc_Frame___init__ (fun vs H Q E h => ?_) (fun cdv A outer s H vs Q E hr h => ?_)
  · obtain ⟨c, p, a, xs, ln, sc, rfl, _⟩ := h
    rfl
  · obtain ⟨c, p, a, xs, ln, sc, rfl, F0, ha, k⟩ := h
    refine ⟨_, (pss_cons (ps_fld (pv 0) (pe_callTy call_tuple_of (by rfl) T.n_tuple bt_tuple (pa_cons (pv 1) pa_nil)) rfl)
    (pss_cons (ps_fld (pv 0) (pv 2) rfl)
    (pss_cons (ps_fld (pv 0) (pv 3) rfl)
    (pss_cons (ps_fld (pv 0) pe_int rfl)
    (pss_cons (ps_fld (pv 0) pe_non rfl)
    (pss_one (ps_fld (pv 0) pe_non rfl))))))), ?_⟩
    refine ⟨_, rfl, a, xs, rfl, .inr ⟨SqT.of ha, ?_⟩⟩
    refine F0.st (l := .rows) (by decide) rfl fun H1 b1 F1 => ?_
    refine ⟨_, rfl, F1.st (l := .line) (by decide) rfl fun H2 b2 F2 => ?_⟩
    refine ⟨_, rfl, F2.st (l := .scope) (by decide) rfl fun H3 b3 F3 => ?_⟩
    refine F3.st (l := .begun) (by decide) rfl fun H4 b4 F4 => ?_
    refine F4.st (l := .named) (by decide) rfl fun H5 b5 F5 => ?_
    refine F5.st (l := .held) (by decide) rfl fun H6 b6 F6 => ?_
    refine k H6 (b1.trans (b2.trans (b3.trans (b4.trans (b5.trans b6))))) ?_
    refine cast ?_ F6
    congr 1
    funext l
    cases l <;> rfl
theorem sc_Frame_next_row : FnScope ["self"] ["self"] (defScope (inClass (top 2) 1)) := ⟨rfl, rfl, rfl, by decide +kernel, rfl, by decide +kernel, by decide +kernel⟩
theorem ok_Frame_next_row (T : Tx K mg) {f : Addr} {fd : FuncData} (F : Fun K "next_row" "Frame.next_row" (inClass (top 2) 1) f fd) : FnOk P w K mg base CX0 1 f fd ["self"] (spNext T) := by
  refine F.ok sc_Frame_next_row (fun vs H Q E h => ?_) (fun cdv A outer s H vs Q E hr h => ?_)
  · obtain ⟨c, p, s, rfl, _⟩ := h
    rfl
  · obtain ⟨c, p, s, rfl, F, k1, k2⟩ := h
    refine ⟨_, (pss_cons (ps_if (pt_cmpR op_eq (pe_fld (pv 0) rfl) (pe_callB call_len (by rfl) T.n_len bt_len (pa_cons (pe_fld (pv 0) rfl) pa_nil)) (nomark _))
    (pss_one (ps_ret pe_non))
    pss_nil)
    (pss_cons (ps_fld (pv 0) (pe_op op_add (pe_fld (pv 0) rfl) pe_int) rfl)
    (pss_one (ps_ret (pe_ix ix_tup (pe_fld (pv 0) rfl) (pe_op op_sub (pe_fld (pv 0) rfl) pe_int) (fun _ _ => rfl)))))), ?_⟩
    (simp only [_root_.L2.start, cxOf_K, cxComp_K, tSeq, tAsg, gName, tRet, tRetN, tDrop, tIfS, tTest, tB, tNot, tAnd, tOr, tAndV, tOrV, tNotV, tOp, tUn, tVar, tC, tCons, tNil, tStrs, tCB, tCall, tChain, tBM, tBM0, tPart, tNoPart, tSl, tIf, tNext, tTrue, selS, Option.bind_none, Option.bind_some, Option.join_some, if_true, rI, rI0, rU, rEq, rNe, rStarts, rSlS, lenV_str, tyV, List.map_cons, List.map_nil, List.length_cons, List.length_nil, List.replicate, List.cons_append, List.nil_append, List.append_nil, Nat.reduceAdd, Nat.reduceSub, Nat.zero_add, Nat.add_zero, Nat.sub_self, List.getElem?_cons_zero, List.getElem?_cons_succ, List.set_cons_zero, List.set_cons_succ, Option.some.injEq, V.int.injEq, V.str.injEq, V.ref.injEq, V.bl.injEq, V.ty.injEq, List.cons.injEq, exists_eq_left, exists_eq_left', exists_eq_right, exists_and_left, exists_eq, and_true, true_and, and_self, and_assoc, iRrg, tMeth, tMake, tCMeth, tDIn, tDNotIn, tDPop1, tNever, iRev, tDInN])
    refine F.fr.fld (l := .begun) rfl rfl (F.fr.fld (l := .rows) rfl rfl ⟨_, .inr ⟨_, SqT.of F.rs, rfl⟩, rfl, ?_⟩)
    by_cases e : s.place = s.rows.length
    · exact ifT (by rw [e]) (k1 e)
    refine ifF (fun z => e (by have := V.int.inj z; omega)) ?_
    have hlt : s.place < s.rows.length := by have := F.pl; omega
    simp only [sFld, tOp, tC]
    refine F.fr.fld (l := .begun) rfl rfl ⟨_, _, rfl, rfl, ?_⟩
    refine F.re (s' := { s with place := s.place + 1 }) (l := .begun) rfl (fun z => nomatch z) (by funext l; cases l <;> rfl) F.rs F.os hlt F.rl F.ol fun H2 b2 F2 => ?_
    simp only [tRet]
    refine F2.fr.fld (l := .rows) rfl rfl (F2.fr.fld (l := .begun) rfl rfl ?_)
    refine ⟨_, _, rfl, rfl, s.ra, _, _, s.rows[s.place], rfl, rfl, SqT.of F2.rs, ?_, k2 _ (List.getElem?_eq_getElem hlt) H2 b2 F2⟩
    rw [show ((s.place + 1 : Nat) : Int) - 1 = (s.place : Int) by omega]
    exact atI_nat (List.getElem?_eq_getElem hlt)
theorem sc_Frame_begin_anew : FnScope ["self", "rows"] ["self", "rows"] (defScope (inClass (top 2) 2)) := ⟨rfl, rfl, rfl, by decide +kernel, rfl, by decide +kernel, by decide +kernel⟩
theorem ok_Frame_begin_anew (T : Tx K mg) {f : Addr} {fd : FuncData} (F : Fun K "begin_anew" "Frame.begin_anew" (inClass (top 2) 2) f fd) : FnOk P w K mg base CX0 1 f fd ["self", "rows"] (spAnew T) := by
  refine F.ok sc_Frame_begin_anew (fun vs H Q E h => ?_) (fun cdv A outer s H vs Q E hr h => ?_)
  · obtain ⟨c, p, a, s, xs, rfl, _⟩ := h
    rfl
  · obtain ⟨c, p, a, s, xs, rfl, F, ha, hx, k⟩ := h
    have hu := hu100 hr
    refine ⟨_, (pss_cons (ps_fld (pv 0) (pe_callTy call_tuple_of (by rfl) T.n_tuple bt_tuple (pa_cons (pv 1) pa_nil)) rfl)
    (pss_one (ps_fld (pv 0) pe_int rfl))), ?_⟩
    (simp only [_root_.L2.start, cxOf_K, cxComp_K, tSeq, tAsg, gName, tRet, tRetN, tDrop, tIfS, tTest, tB, tNot, tAnd, tOr, tAndV, tOrV, tNotV, tOp, tUn, tVar, tC, tCons, tNil, tStrs, tCB, tCall, tChain, tBM, tBM0, tPart, tNoPart, tSl, tIf, tNext, tTrue, selS, Option.bind_none, Option.bind_some, Option.join_some, if_true, rI, rI0, rU, rEq, rNe, rStarts, rSlS, lenV_str, tyV, List.map_cons, List.map_nil, List.length_cons, List.length_nil, List.replicate, List.cons_append, List.nil_append, List.append_nil, Nat.reduceAdd, Nat.reduceSub, Nat.zero_add, Nat.add_zero, Nat.sub_self, List.getElem?_cons_zero, List.getElem?_cons_succ, List.set_cons_zero, List.set_cons_succ, Option.some.injEq, V.int.injEq, V.str.injEq, V.ref.injEq, V.bl.injEq, V.ty.injEq, List.cons.injEq, exists_eq_left, exists_eq_left', exists_eq_right, exists_and_left, exists_eq, and_true, true_and, and_self, and_assoc, iRrg, tMeth, tMake, tCMeth, tDIn, tDNotIn, tDPop1, tNever, iRev, tDInN])
    refine ⟨_, rfl, a, rfl, xs, .inr ⟨SqT.of ha, ?_⟩⟩
    refine F.fr.re (l := .rows) (by decide) rfl (fun z => nomatch z) fun H1 b1 F1 => ?_
    refine F1.re (l := .begun) (by decide) rfl (fun z => nomatch z) fun H2 b2 F2 => ?_
    refine k H2 (b1.trans b2) ⟨?_, F.but (b1.trans b2) ha, F.but (b1.trans b2) F.os, Nat.zero_le _, hx, F.ol⟩
    refine cast ?_ F2
    congr 1
    funext l
    cases l <;> rfl
theorem sc_Frame_hides : FnScope ["self"] ["self"] (defScope (inClass (top 2) 3)) := ⟨rfl, rfl, rfl, by decide +kernel, rfl, by decide +kernel, by decide +kernel⟩
theorem ok_Frame_hides (T : Tx K mg) {f : Addr} {fd : FuncData} (F : Fun K "hides" "Frame.hides" (inClass (top 2) 3) f fd) {c : Kd} (hh : ∀ s, hidesF c s = false) : FnOk P w K mg base CX0 1 f fd ["self"] (spHides T c) := by
  refine F.ok sc_Frame_hides (fun vs H Q E h => ?_) (fun cdv A outer s H vs Q E hr h => ?_)
  · obtain ⟨p, s, rfl, _⟩ := h
    rfl
  · obtain ⟨p, s, rfl, F, k⟩ := h
    have hu := hu100 hr
    refine ⟨_, (pss_one (ps_ret pe_bl)), ?_⟩
    (simp only [_root_.L2.start, cxOf_K, cxComp_K, tSeq, tAsg, gName, tRet, tRetN, tDrop, tIfS, tTest, tB, tNot, tAnd, tOr, tAndV, tOrV, tNotV, tOp, tUn, tVar, tC, tCons, tNil, tStrs, tCB, tCall, tChain, tBM, tBM0, tPart, tNoPart, tSl, tIf, tNext, tTrue, selS, Option.bind_none, Option.bind_some, Option.join_some, if_true, rI, rI0, rU, rEq, rNe, rStarts, rSlS, lenV_str, tyV, List.map_cons, List.map_nil, List.length_cons, List.length_nil, List.replicate, List.cons_append, List.nil_append, List.append_nil, Nat.reduceAdd, Nat.reduceSub, Nat.zero_add, Nat.add_zero, Nat.sub_self, List.getElem?_cons_zero, List.getElem?_cons_succ, List.set_cons_zero, List.set_cons_succ, Option.some.injEq, V.int.injEq, V.str.injEq, V.ref.injEq, V.bl.injEq, V.ty.injEq, List.cons.injEq, exists_eq_left, exists_eq_left', exists_eq_right, exists_and_left, exists_eq, and_true, true_and, and_self, and_assoc, iRrg, tMeth, tMake, tCMeth, tDIn, tDNotIn, tDPop1, tNever, iRev, tDInN])
    rw [hh] at k
    exact k
theorem sc_Kept_hides : FnScope ["self"] ["self"] (defScope (inClass (top 4) 0)) := ⟨rfl, rfl, rfl, by decide +kernel, rfl, by decide +kernel, by decide +kernel⟩
theorem ok_Kept_hides (T : Tx K mg) {f : Addr} {fd : FuncData} (F : Fun K "hides" "Kept.hides" (inClass (top 4) 0) f fd) : FnOk P w K mg base CX0 1 f fd ["self"] (spHides T .kept) := by
  refine F.ok sc_Kept_hides (fun vs H Q E h => ?_) (fun cdv A outer s H vs Q E hr h => ?_)
  · obtain ⟨p, s, rfl, _⟩ := h
    rfl
  · obtain ⟨p, s, rfl, F, k⟩ := h
    have hu := hu100 hr
    refine ⟨_, (pss_one (ps_ret pe_bl)), ?_⟩
    (simp only [_root_.L2.start, cxOf_K, cxComp_K, tSeq, tAsg, gName, tRet, tRetN, tDrop, tIfS, tTest, tB, tNot, tAnd, tOr, tAndV, tOrV, tNotV, tOp, tUn, tVar, tC, tCons, tNil, tStrs, tCB, tCall, tChain, tBM, tBM0, tPart, tNoPart, tSl, tIf, tNext, tTrue, selS, Option.bind_none, Option.bind_some, Option.join_some, if_true, rI, rI0, rU, rEq, rNe, rStarts, rSlS, lenV_str, tyV, List.map_cons, List.map_nil, List.length_cons, List.length_nil, List.replicate, List.cons_append, List.nil_append, List.append_nil, Nat.reduceAdd, Nat.reduceSub, Nat.zero_add, Nat.add_zero, Nat.sub_self, List.getElem?_cons_zero, List.getElem?_cons_succ, List.set_cons_zero, List.set_cons_succ, Option.some.injEq, V.int.injEq, V.str.injEq, V.ref.injEq, V.bl.injEq, V.ty.injEq, List.cons.injEq, exists_eq_left, exists_eq_left', exists_eq_right, exists_and_left, exists_eq, and_true, true_and, and_self, and_assoc, iRrg, tMeth, tMake, tCMeth, tDIn, tDNotIn, tDPop1, tNever, iRev, tDInN])
    exact k
theorem sc_Cleaned_hides : FnScope ["self"] ["self"] (defScope (inClass (top 6) 2)) := ⟨rfl, rfl, rfl, by decide +kernel, rfl, by decide +kernel, by decide +kernel⟩
theorem ok_Cleaned_hides (T : Tx K mg) {f : Addr} {fd : FuncData} (F : Fun K "hides" "Cleaned.hides" (inClass (top 6) 2) f fd) : FnOk P w K mg base CX0 1 f fd ["self"] (spHides T .cleaned) := by
  refine F.ok sc_Cleaned_hides (fun vs H Q E h => ?_) (fun cdv A outer s H vs Q E hr h => ?_)
  · obtain ⟨p, s, rfl, _⟩ := h
    rfl
  · obtain ⟨p, s, rfl, F, k⟩ := h
    have hu := hu100 hr
    refine ⟨_, (pss_one (ps_ret (pe_fld (pv 0) rfl))), ?_⟩
    (simp only [_root_.L2.start, cxOf_K, cxComp_K, tSeq, tAsg, gName, tRet, tRetN, tDrop, tIfS, tTest, tB, tNot, tAnd, tOr, tAndV, tOrV, tNotV, tOp, tUn, tVar, tC, tCons, tNil, tStrs, tCB, tCall, tChain, tBM, tBM0, tPart, tNoPart, tSl, tIf, tNext, tTrue, selS, Option.bind_none, Option.bind_some, Option.join_some, if_true, rI, rI0, rU, rEq, rNe, rStarts, rSlS, lenV_str, tyV, List.map_cons, List.map_nil, List.length_cons, List.length_nil, List.replicate, List.cons_append, List.nil_append, List.append_nil, Nat.reduceAdd, Nat.reduceSub, Nat.zero_add, Nat.add_zero, Nat.sub_self, List.getElem?_cons_zero, List.getElem?_cons_succ, List.set_cons_zero, List.set_cons_succ, Option.some.injEq, V.int.injEq, V.str.injEq, V.ref.injEq, V.bl.injEq, V.ty.injEq, List.cons.injEq, exists_eq_left, exists_eq_left', exists_eq_right, exists_and_left, exists_eq, and_true, true_and, and_self, and_assoc, iRrg, tMeth, tMake, tCMeth, tDIn, tDNotIn, tDPop1, tNever, iRev, tDInN])
    exact F.fr.fld (l := .cleaning) rfl rfl k
theorem sc_Frame_over : FnScope ["self"] ["self"] (defScope (inClass (top 2) 4)) := ⟨rfl, rfl, rfl, by decide +kernel, rfl, by decide +kernel, by decide +kernel⟩
theorem ok_Frame_over (T : Tx K mg) {f : Addr} {fd : FuncData} (F : Fun K "over" "Frame.over" (inClass (top 2) 4) f fd) {c : Kd} (ho : ∀ s, overF c s = "out" ∧ overS c s = s) : FnOk P w K mg base CX0 1 f fd ["self"] (spOver T c) := by
  refine F.ok sc_Frame_over (fun vs H Q E h => ?_) (fun cdv A outer s H vs Q E hr h => ?_)
  · obtain ⟨p, s, rfl, _⟩ := h
    rfl
  · obtain ⟨p, s, rfl, F, k⟩ := h
    have hu := hu100 hr
    refine ⟨_, (pss_one (ps_ret pe_str)), ?_⟩
    (simp only [_root_.L2.start, cxOf_K, cxComp_K, tSeq, tAsg, gName, tRet, tRetN, tDrop, tIfS, tTest, tB, tNot, tAnd, tOr, tAndV, tOrV, tNotV, tOp, tUn, tVar, tC, tCons, tNil, tStrs, tCB, tCall, tChain, tBM, tBM0, tPart, tNoPart, tSl, tIf, tNext, tTrue, selS, Option.bind_none, Option.bind_some, Option.join_some, if_true, rI, rI0, rU, rEq, rNe, rStarts, rSlS, lenV_str, tyV, List.map_cons, List.map_nil, List.length_cons, List.length_nil, List.replicate, List.cons_append, List.nil_append, List.append_nil, Nat.reduceAdd, Nat.reduceSub, Nat.zero_add, Nat.add_zero, Nat.sub_self, List.getElem?_cons_zero, List.getElem?_cons_succ, List.set_cons_zero, List.set_cons_succ, Option.some.injEq, V.int.injEq, V.str.injEq, V.ref.injEq, V.bl.injEq, V.ty.injEq, List.cons.injEq, exists_eq_left, exists_eq_left', exists_eq_right, exists_and_left, exists_eq, and_true, true_and, and_self, and_assoc, iRrg, tMeth, tMake, tCMeth, tDIn, tDNotIn, tDPop1, tNever, iRev, tDInN])
    have := k H (But.refl _ _)
    rw [(ho s).1, (ho s).2] at this
    exact this F
theorem sc_Rounds_over : FnScope ["self"] ["self"] (defScope (inClass (top 3) 1)) := ⟨rfl, rfl, rfl, by decide +kernel, rfl, by decide +kernel, by decide +kernel⟩
theorem ok_Rounds_over (T : Tx K mg) {f : Addr} {fd : FuncData} (F : Fun K "over" "Rounds.over" (inClass (top 3) 1) f fd) (G_begin_anew : ∀ c, FnOk P w K mg base CX0 1 (T.m_begin_anew c).f (T.m_begin_anew c).fd ["self", "rows"] (spAnew T)) : FnOk P w K mg base CX0 2 f fd ["self"] (spOver T .rounds) := by
  refine F.ok sc_Rounds_over (fun vs H Q E h => ?_) (fun cdv A outer s H vs Q E hr h => ?_)
  · obtain ⟨p, s, rfl, _⟩ := h
    rfl
  · obtain ⟨p, s, rfl, F, k⟩ := h
    have hu := hu100 hr
    refine ⟨_, (pss_cons (ps_if (pt_cmpR op_lt (pe_fld (pv 0) rfl) pe_int (nomark _))
    (pss_one (ps_ret pe_str))
    pss_nil)
    (pss_cons (ps_fld (pv 0) (pe_op op_sub (pe_fld (pv 0) rfl) pe_int) rfl)
    (pss_cons (ps_expr (pe_meth (pv 0) (T.cl .rounds) (T.m_begin_anew .rounds).me (G_begin_anew .rounds) (hr.mono (by omega)) (T.m_begin_anew .rounds).b .nil pass0 (pa_cons (pe_fld (pv 0) rfl) pa_nil)))
    (pss_one (ps_ret pe_str))))), ?_⟩
    (simp only [_root_.L2.start, cxOf_K, cxComp_K, tSeq, tAsg, gName, tRet, tRetN, tDrop, tIfS, tTest, tB, tNot, tAnd, tOr, tAndV, tOrV, tNotV, tOp, tUn, tVar, tC, tCons, tNil, tStrs, tCB, tCall, tChain, tBM, tBM0, tPart, tNoPart, tSl, tIf, tNext, tTrue, selS, Option.bind_none, Option.bind_some, Option.join_some, if_true, rI, rI0, rU, rEq, rNe, rStarts, rSlS, lenV_str, tyV, List.map_cons, List.map_nil, List.length_cons, List.length_nil, List.replicate, List.cons_append, List.nil_append, List.append_nil, Nat.reduceAdd, Nat.reduceSub, Nat.zero_add, Nat.add_zero, Nat.sub_self, List.getElem?_cons_zero, List.getElem?_cons_succ, List.set_cons_zero, List.set_cons_succ, Option.some.injEq, V.int.injEq, V.str.injEq, V.ref.injEq, V.bl.injEq, V.ty.injEq, List.cons.injEq, exists_eq_left, exists_eq_left', exists_eq_right, exists_and_left, exists_eq, and_true, true_and, and_self, and_assoc, iRrg, tMeth, tMake, tCMeth, tDIn, tDNotIn, tDPop1, tNever, iRev, tDInN])
    refine F.fr.fld (l := .left) rfl rfl ⟨_, rfl, ?_⟩
    by_cases e : s.left < 1
    · have e1 : overF .rounds s = "out" := by unfold overF; rw [if_pos rfl, if_pos e]
      have e2 : overS .rounds s = s := by unfold overS; rw [if_neg (fun z => z.2 e)]
      have := k H (But.refl _ _)
      rw [e1, e2] at this
      exact ifT e (this F)
    refine ifF e ?_
    have e1 : overF .rounds s = "on" := by unfold overF; rw [if_pos rfl, if_neg e]
    have e2 : overS .rounds s = { s with left := s.left - 1, place := 0 } := by unfold overS; rw [if_pos ⟨rfl, e⟩]
    rw [e1, e2] at k
    simp only [sFld, tOp, tC]
    refine F.fr.fld (l := .left) rfl rfl ⟨_, _, rfl, rfl, ?_⟩
    refine F.re (s' := { s with left := s.left - 1 }) (l := .left) rfl (fun z => nomatch z) (by funext l; cases l <;> rfl) F.rs F.os F.pl F.rl F.ol fun H2 b2 F2 => ?_
    obtain ⟨dx, fs, g1, _, _, g4⟩ := F2.fr.ex
    refine ⟨_, rfl, p, dx, fs, rfl, g1, g4 _ nf_anew, ?_⟩
    simp only [tCons]
    refine F2.fr.fld (l := .rows) rfl rfl ?_
    exact ⟨.rounds, p, _, _, _, rfl, F2, F2.rs, F2.rl, fun H3 b3 F3 => k H3 (b2.trans b3) F3⟩
theorem sc_Cleaned_over : FnScope ["self"] ["self"] (defScope (inClass (top 6) 3)) := ⟨rfl, rfl, rfl, by decide +kernel, rfl, by decide +kernel, by decide +kernel⟩
theorem ok_Cleaned_over (T : Tx K mg) {f : Addr} {fd : FuncData} (F : Fun K "over" "Cleaned.over" (inClass (top 6) 3) f fd) : FnOk P w K mg base CX0 1 f fd ["self"] (spOver T .cleaned) := by
  refine F.ok sc_Cleaned_over (fun vs H Q E h => ?_) (fun cdv A outer s H vs Q E hr h => ?_)
  · obtain ⟨p, s, rfl, _⟩ := h
    rfl
  · obtain ⟨p, s, rfl, F, k⟩ := h
    have hu := hu100 hr
    refine ⟨_, (pss_one (ps_ret (pe_ifExp (pt_val (pe_fld (pv 0) rfl)) pe_str pe_str))), ?_⟩
    (simp only [_root_.L2.start, cxOf_K, cxComp_K, tSeq, tAsg, gName, tRet, tRetN, tDrop, tIfS, tTest, tB, tNot, tAnd, tOr, tAndV, tOrV, tNotV, tOp, tUn, tVar, tC, tCons, tNil, tStrs, tCB, tCall, tChain, tBM, tBM0, tPart, tNoPart, tSl, tIf, tNext, tTrue, selS, Option.bind_none, Option.bind_some, Option.join_some, if_true, rI, rI0, rU, rEq, rNe, rStarts, rSlS, lenV_str, tyV, List.map_cons, List.map_nil, List.length_cons, List.length_nil, List.replicate, List.cons_append, List.nil_append, List.append_nil, Nat.reduceAdd, Nat.reduceSub, Nat.zero_add, Nat.add_zero, Nat.sub_self, List.getElem?_cons_zero, List.getElem?_cons_succ, List.set_cons_zero, List.set_cons_succ, Option.some.injEq, V.int.injEq, V.str.injEq, V.ref.injEq, V.bl.injEq, V.ty.injEq, List.cons.injEq, exists_eq_left, exists_eq_left', exists_eq_right, exists_and_left, exists_eq, and_true, true_and, and_self, and_assoc, iRrg, tMeth, tMake, tCMeth, tDIn, tDNotIn, tDPop1, tNever, iRev, tDInN])
    refine F.fr.fld (l := .cleaning) rfl rfl ⟨_, rfl, ?_⟩
    have := k H (But.refl _ _) F
    cases e : s.cleaning with
    | true =>
      rw [show overF .cleaned s = "out" by unfold overF; rw [if_neg (by decide), if_pos rfl, if_pos e]] at this
      exact iteT this
    | false =>
      rw [show overF .cleaned s = "clean" by unfold overF; rw [if_neg (by decide), if_pos rfl, if_neg (by rw [e]; exact Bool.false_ne_true)]] at this
      exact iteF this
theorem sc_Grouped_over : FnScope ["self"] ["self"] (defScope (inClass (top 8) 3)) := ⟨rfl, rfl, rfl, by decide +kernel, rfl, by decide +kernel, by decide +kernel⟩
theorem ok_Grouped_over (T : Tx K mg) {f : Addr} {fd : FuncData} (F : Fun K "over" "Grouped.over" (inClass (top 8) 3) f fd) : FnOk P w K mg base CX0 1 f fd ["self"] (spOver T .grouped) := by
  refine F.ok sc_Grouped_over (fun vs H Q E h => ?_) (fun cdv A outer s H vs Q E hr h => ?_)
  · obtain ⟨p, s, rfl, _⟩ := h
    rfl
  · obtain ⟨p, s, rfl, F, k⟩ := h
    have hu := hu100 hr
    refine ⟨_, (pss_one (ps_ret (pe_ifExp (pt_cmpR op_isN (pe_fld (pv 0) rfl) pe_non (nomark _)) pe_str pe_str))), ?_⟩
    (simp only [_root_.L2.start, cxOf_K, cxComp_K, tSeq, tAsg, gName, tRet, tRetN, tDrop, tIfS, tTest, tB, tNot, tAnd, tOr, tAndV, tOrV, tNotV, tOp, tUn, tVar, tC, tCons, tNil, tStrs, tCB, tCall, tChain, tBM, tBM0, tPart, tNoPart, tSl, tIf, tNext, tTrue, selS, Option.bind_none, Option.bind_some, Option.join_some, if_true, rI, rI0, rU, rEq, rNe, rStarts, rSlS, lenV_str, tyV, List.map_cons, List.map_nil, List.length_cons, List.length_nil, List.replicate, List.cons_append, List.nil_append, List.append_nil, Nat.reduceAdd, Nat.reduceSub, Nat.zero_add, Nat.add_zero, Nat.sub_self, List.getElem?_cons_zero, List.getElem?_cons_succ, List.set_cons_zero, List.set_cons_succ, Option.some.injEq, V.int.injEq, V.str.injEq, V.ref.injEq, V.bl.injEq, V.ty.injEq, List.cons.injEq, exists_eq_left, exists_eq_left', exists_eq_right, exists_and_left, exists_eq, and_true, true_and, and_self, and_assoc, iRrg, tMeth, tMake, tCMeth, tDIn, tDNotIn, tDPop1, tNever, iRev, tDInN])
    refine F.fr.fld (l := .told) rfl rfl ?_
    have kk := k H (But.refl _ _) (by rw [overS_no (by decide)]; exact F)
    have eo : overF .grouped s = (if s.told = .non then ("join" : Str) else "leave") := rfl
    rw [eo] at kk
    by_cases c : s.told = .non
    · rw [if_pos c] at kk
      exact ifT c kk
    · rw [if_neg c] at kk
      exact ifF c kk
theorem sc_Frame_meets : FnScope ["self", "signal"] ["self", "signal"] (defScope (inClass (top 2) 5)) := ⟨rfl, rfl, rfl, by decide +kernel, rfl, by decide +kernel, by decide +kernel⟩
theorem ok_Frame_meets (T : Tx K mg) {f : Addr} {fd : FuncData} (F : Fun K "meets" "Frame.meets" (inClass (top 2) 5) f fd) {c : Kd} (hm : ∀ s g, meetsF c s g = "out") : FnOk P w K mg base CX0 1 f fd ["self", "signal"] (spMeets T c) := by
  refine F.ok sc_Frame_meets (fun vs H Q E h => ?_) (fun cdv A outer s H vs Q E hr h => ?_)
  · obtain ⟨p, t, s, g, rfl, _⟩ := h
    rfl
  · obtain ⟨p, t, s, g, rfl, F, hg, hl, k⟩ := h
    have hu := hu100 hr
    refine ⟨_, (pss_one (ps_ret pe_str)), ?_⟩
    (simp only [_root_.L2.start, cxOf_K, cxComp_K, tSeq, tAsg, gName, tRet, tRetN, tDrop, tIfS, tTest, tB, tNot, tAnd, tOr, tAndV, tOrV, tNotV, tOp, tUn, tVar, tC, tCons, tNil, tStrs, tCB, tCall, tChain, tBM, tBM0, tPart, tNoPart, tSl, tIf, tNext, tTrue, selS, Option.bind_none, Option.bind_some, Option.join_some, if_true, rI, rI0, rU, rEq, rNe, rStarts, rSlS, lenV_str, tyV, List.map_cons, List.map_nil, List.length_cons, List.length_nil, List.replicate, List.cons_append, List.nil_append, List.append_nil, Nat.reduceAdd, Nat.reduceSub, Nat.zero_add, Nat.add_zero, Nat.sub_self, List.getElem?_cons_zero, List.getElem?_cons_succ, List.set_cons_zero, List.set_cons_succ, Option.some.injEq, V.int.injEq, V.str.injEq, V.ref.injEq, V.bl.injEq, V.ty.injEq, List.cons.injEq, exists_eq_left, exists_eq_left', exists_eq_right, exists_and_left, exists_eq, and_true, true_and, and_self, and_assoc, iRrg, tMeth, tMake, tCMeth, tDIn, tDNotIn, tDPop1, tNever, iRev, tDInN])
    have := k H (Same.refl _)
    rw [hm] at this
    exact this
theorem sc_Tried_meets : FnScope ["self", "signal"] ["self", "signal"] (defScope (inClass (top 5) 1)) := ⟨rfl, rfl, rfl, by decide +kernel, rfl, by decide +kernel, by decide +kernel⟩
theorem ok_Tried_meets (T : Tx K mg) {f : Addr} {fd : FuncData} (F : Fun K "meets" "Tried.meets" (inClass (top 5) 1) f fd) : FnOk P w K mg base CX0 1 f fd ["self", "signal"] (spMeets T .tried) := by
  refine F.ok sc_Tried_meets (fun vs H Q E h => ?_) (fun cdv A outer s H vs Q E hr h => ?_)
  · obtain ⟨p, t, s, g, rfl, _⟩ := h
    rfl
  · obtain ⟨p, t, s, g, rfl, F, hg, hl, k⟩ := h
    have hu := hu100 hr
    refine ⟨_, (pss_cons (ps_if (PW.pt (pw_and (pt_cmpR op_eq (pe_ix ix_tup (pv 1) pe_int (fun _ _ => rfl)) pe_str (nomark _)) (pw_and1 (pt_cmpR op_in_seq (pe_fld (pv 0) rfl) (pe_tup (pa_cons pe_str (pa_cons (pe_ix ix_tup (pe_ix ix_tup (pv 1) pe_int (fun _ _ => rfl)) pe_int (fun _ _ => rfl)) pa_nil))) (by with_unfolding_all rfl)))))
    (pss_one (ps_ret pe_str))
    pss_nil)
    (pss_one (ps_ret pe_str))), ?_⟩
    (simp only [tLst, tTup, tDNewK, _root_.L2.start, cxOf_K, cxComp_K, tSeq, tAsg, gName, tRet, tRetN, tDrop, tIfS, tTest, tB, tNot, tAnd, tOr, tAndV, tOrV, tNotV, tOp, tUn, tVar, tC, tCons, tNil, tStrs, tCB, tCall, tChain, tBM, tBM0, tPart, tNoPart, tSl, tIf, tNext, tTrue, selS, Option.bind_none, Option.bind_some, Option.join_some, if_true, rI, rI0, rU, rEq, rNe, rStarts, rSlS, lenV_str, tyV, List.map_cons, List.map_nil, List.length_cons, List.length_nil, List.replicate, List.cons_append, List.nil_append, List.append_nil, Nat.reduceAdd, Nat.reduceSub, Nat.zero_add, Nat.add_zero, Nat.sub_self, List.getElem?_cons_zero, List.getElem?_cons_succ, List.set_cons_zero, List.set_cons_succ, Option.some.injEq, V.int.injEq, V.str.injEq, V.ref.injEq, V.bl.injEq, V.ty.injEq, List.cons.injEq, exists_eq_left, exists_eq_left', exists_eq_right, exists_and_left, exists_eq, and_true, true_and, and_self, and_assoc, iRrg, tMeth, tMake, tCMeth, tDIn, tDNotIn, tDPop1, tNever, iRev, tDInN])
    cases g with
    | strike n =>
      have ht : H t = some (.tup [.str "strike", .int n]) := hg
      refine ⟨t, _, _, _, rfl, rfl, SqT.of ht, rfl, rfl, ifF (fun z => absurd (V.str.inj z) (by decide +kernel)) (iteF ?_)⟩
      exact k H (Same.refl _)
    | faults a r =>
      obtain ⟨u, ht, hu2⟩ := hg
      refine ⟨t, _, _, _, rfl, rfl, SqT.of ht, rfl, rfl, ifT rfl (F.fr.fld (l := .fault) rfl rfl ?_)⟩
      refine ⟨t, _, _, _, rfl, rfl, SqT.of ht, rfl, u, _, _, _, rfl, rfl, SqT.of hu2, atI_nat (j := 0) rfl, by decide, fun q hq => ?_⟩
      refine ⟨q, _, rfl, .inr (SqT.of upd_same), rfl, rfl, _, rfl, ?_⟩
      have e : inV (.str s.fault) [.str "any", .str a] = decide (s.fault = "any" ∨ s.fault = a) := by
        show (("any" : Str) == s.fault || (a == s.fault || false)) = _
        by_cases e1 : s.fault = "any"
        · rw [e1]; simp
        · by_cases e2 : s.fault = a
          · simp [e2]
          · simp [e1, e2, Ne.symm e1, Ne.symm e2]
      show if inV (.str s.fault) [.str "any", .str a] = true then _ else _
      rw [e]
      have kk := k (upd H q (.tup [V.str "any", V.str a])) (Same.upd hq)
      by_cases e2 : s.fault = "any" ∨ s.fault = a
      · rw [show meetsF .tried s (.faults a r) = "caught" by unfold meetsF; rw [if_pos rfl]; show (if _ then _ else _) = _; rw [if_pos e2]] at kk
        exact ifT e2 kk
      · rw [show meetsF .tried s (.faults a r) = "out" by unfold meetsF; rw [if_pos rfl]; show (if _ then _ else _) = _; rw [if_neg e2]] at kk
        exact ifF e2 kk
theorem sc_Cleaned_meets : FnScope ["self", "signal"] ["self", "signal"] (defScope (inClass (top 6) 4)) := ⟨rfl, rfl, rfl, by decide +kernel, rfl, by decide +kernel, by decide +kernel⟩
theorem ok_Cleaned_meets (T : Tx K mg) {f : Addr} {fd : FuncData} (F : Fun K "meets" "Cleaned.meets" (inClass (top 6) 4) f fd) : FnOk P w K mg base CX0 1 f fd ["self", "signal"] (spMeets T .cleaned) := by
  refine F.ok sc_Cleaned_meets (fun vs H Q E h => ?_) (fun cdv A outer s H vs Q E hr h => ?_)
  · obtain ⟨p, t, s, g, rfl, _⟩ := h
    rfl
  · obtain ⟨p, t, s, g, rfl, F, hg, hl, k⟩ := h
    have hu := hu100 hr
    refine ⟨_, (pss_one (ps_ret (pe_ifExp (pt_val (pe_fld (pv 0) rfl)) pe_str pe_str))), ?_⟩
    (simp only [_root_.L2.start, cxOf_K, cxComp_K, tSeq, tAsg, gName, tRet, tRetN, tDrop, tIfS, tTest, tB, tNot, tAnd, tOr, tAndV, tOrV, tNotV, tOp, tUn, tVar, tC, tCons, tNil, tStrs, tCB, tCall, tChain, tBM, tBM0, tPart, tNoPart, tSl, tIf, tNext, tTrue, selS, Option.bind_none, Option.bind_some, Option.join_some, if_true, rI, rI0, rU, rEq, rNe, rStarts, rSlS, lenV_str, tyV, List.map_cons, List.map_nil, List.length_cons, List.length_nil, List.replicate, List.cons_append, List.nil_append, List.append_nil, Nat.reduceAdd, Nat.reduceSub, Nat.zero_add, Nat.add_zero, Nat.sub_self, List.getElem?_cons_zero, List.getElem?_cons_succ, List.set_cons_zero, List.set_cons_succ, Option.some.injEq, V.int.injEq, V.str.injEq, V.ref.injEq, V.bl.injEq, V.ty.injEq, List.cons.injEq, exists_eq_left, exists_eq_left', exists_eq_right, exists_and_left, exists_eq, and_true, true_and, and_self, and_assoc, iRrg, tMeth, tMake, tCMeth, tDIn, tDNotIn, tDPop1, tNever, iRev, tDInN])
    refine F.fr.fld (l := .cleaning) rfl rfl ⟨_, rfl, ?_⟩
    have := k H (Same.refl _)
    cases e : s.cleaning with
    | true =>
      rw [show meetsF .cleaned s g = "out" by unfold meetsF; rw [if_neg (by decide), if_pos rfl, if_pos e]] at this
      exact iteT this
    | false =>
      rw [show meetsF .cleaned s g = "clean" by unfold meetsF; rw [if_neg (by decide), if_pos rfl, if_neg (by rw [e]; exact Bool.false_ne_true)]] at this
      exact iteF this
theorem sc_Limited_meets : FnScope ["self", "signal"] ["self", "signal"] (defScope (inClass (top 7) 1)) := ⟨rfl, rfl, rfl, by decide +kernel, rfl, by decide +kernel, by decide +kernel⟩
theorem ok_Limited_meets (T : Tx K mg) {f : Addr} {fd : FuncData} (F : Fun K "meets" "Limited.meets" (inClass (top 7) 1) f fd) : FnOk P w K mg base CX0 1 f fd ["self", "signal"] (spMeets T .limited) := by
  refine F.ok sc_Limited_meets (fun vs H Q E h => ?_) (fun cdv A outer s H vs Q E hr h => ?_)
  · obtain ⟨p, t, s, g, rfl, _⟩ := h
    rfl
  · obtain ⟨p, t, s, g, rfl, F, hg, hl, k⟩ := h
    have hu := hu100 hr
    refine ⟨_, (pss_one (ps_ret (pe_ifExp (pt_cmpR (op_eqT hu) (pv 1) (pe_tup (pa_cons pe_str (pa_cons (pe_fld (pv 0) rfl) pa_nil))) (nomark _)) pe_str pe_str))), ?_⟩
    (simp only [tLst, tTup, tDNewK, _root_.L2.start, cxOf_K, cxComp_K, tSeq, tAsg, gName, tRet, tRetN, tDrop, tIfS, tTest, tB, tNot, tAnd, tOr, tAndV, tOrV, tNotV, tOp, tUn, tVar, tC, tCons, tNil, tStrs, tCB, tCall, tChain, tBM, tBM0, tPart, tNoPart, tSl, tIf, tNext, tTrue, selS, Option.bind_none, Option.bind_some, Option.join_some, if_true, rI, rI0, rU, rEq, rNe, rStarts, rSlS, lenV_str, tyV, List.map_cons, List.map_nil, List.length_cons, List.length_nil, List.replicate, List.cons_append, List.nil_append, List.append_nil, Nat.reduceAdd, Nat.reduceSub, Nat.zero_add, Nat.add_zero, Nat.sub_self, List.getElem?_cons_zero, List.getElem?_cons_succ, List.set_cons_zero, List.set_cons_succ, Option.some.injEq, V.int.injEq, V.str.injEq, V.ref.injEq, V.bl.injEq, V.ty.injEq, List.cons.injEq, exists_eq_left, exists_eq_left', exists_eq_right, exists_and_left, exists_eq, and_true, true_and, and_self, and_assoc, iRrg, tMeth, tMake, tCMeth, tDIn, tDNotIn, tDPop1, tNever, iRev, tDInN])
    obtain ⟨m, hm⟩ := hl rfl
    refine F.fr.fld (l := .scope) rfl rfl ⟨by decide, fun q hq => ?_⟩
    have eL : ∀ n, (s.sc = .int n) = (m = n) := fun n => by rw [hm]; exact propext ⟨fun z => V.int.inj z, fun z => by rw [z]⟩
    have kk := k (upd H q (.tup [V.str "strike", s.sc])) (Same.upd hq)
    have s1 : Same H (upd H q (.tup [V.str "strike", s.sc])) := Same.upd hq
    rw [hm] at kk s1 ⊢
    cases g with
    | strike n =>
      have ht : H t = some (.tup [.str "strike", .int n]) := hg
      refine ⟨t, q, _, _, 0, fun i => eqV (([V.str "strike", V.int n] : List V)[i]?.getD .non) (([V.str "strike", V.int m] : List V)[i]?.getD .non), rfl, rfl, SqT.of (s1 _ _ ht), SqT.of upd_same, by decide, fun i x y ex ey => ?_, _, rfl, ?_⟩
      · show EqD _ _ _ _ _ (eqV (([V.str "strike", V.int n] : List V)[i]?.getD .non) (([V.str "strike", V.int m] : List V)[i]?.getD .non))
        rw [ex, ey]
        have fx : ∀ z ∈ ([V.str "strike", V.int n] : List V), flatV z = true := fun z hz => by
          rcases List.mem_cons.mp hz with rfl | hz
          · rfl
          · rw [List.mem_singleton.mp hz]; rfl
        have fy : ∀ z ∈ ([V.str "strike", V.int m] : List V), flatV z = true := fun z hz => by
          rcases List.mem_cons.mp hz with rfl | hz
          · rfl
          · rw [List.mem_singleton.mp hz]; rfl
        exact .flat (fx x (List.mem_of_getElem? ex)) (fy y (List.mem_of_getElem? ey))
      · have e : (false ^^ ((List.range (min 2 2)).all (fun i => eqV (([V.str "strike", V.int n] : List V)[i]?.getD .non) (([V.str "strike", V.int m] : List V)[i]?.getD .non)) && (2 == 2))) = decide (m = n) := by
          show (false ^^ (((("strike" : Str) == "strike") && ((n == m) && true)) && true)) = _
          by_cases e : m = n
          · subst e; simp
          · simp [e, Ne.symm e]
        show if (false ^^ ((List.range (min 2 2)).all (fun i => eqV (([V.str "strike", V.int n] : List V)[i]?.getD .non) (([V.str "strike", V.int m] : List V)[i]?.getD .non)) && (2 == 2))) = true then _ else _
        rw [e]
        have e2 : meetsF .limited s (.strike n) = if m = n then "late" else "out" := by
          unfold meetsF
          rw [if_neg (by decide), if_neg (by decide), if_pos rfl]
          show (if s.sc = .int n then _ else _) = _
          by_cases z : m = n
          · rw [if_pos (by rw [eL]; exact z), if_pos z]
          · rw [if_neg (by rw [eL]; exact z), if_neg z]
        rw [e2] at kk
        by_cases e3 : m = n
        · rw [if_pos e3] at kk; exact ifT e3 kk
        · rw [if_neg e3] at kk; exact ifF e3 kk
    | faults a r =>
      obtain ⟨u, ht, hu2⟩ := hg
      refine ⟨t, q, _, _, 1, fun i => if i = 0 then false else false, rfl, rfl, SqT.of (s1 _ _ ht), SqT.of upd_same, by decide, fun i x y ex ey => ?_, _, rfl, ?_⟩
      · match i, ex, ey with
        | 0, ex, ey =>
          cases ex; cases ey
          have z : eqV (.str "faults") (.str "strike") = false := by decide +kernel
          show EqD _ _ _ _ _ false
          rw [← z]
          exact .flat rfl rfl
        | 1, ex, ey =>
          cases ex; cases ey
          exact .tupF (SqT.of (s1 _ _ hu2)) rfl
        | i + 2, ex, ey => cases ex
      · exact iteF kk
theorem sc_Grouped_meets : FnScope ["self", "signal"] ["self", "signal"] (defScope (inClass (top 8) 4)) := ⟨rfl, rfl, rfl, by decide +kernel, rfl, by decide +kernel, by decide +kernel⟩
theorem ok_Grouped_meets (T : Tx K mg) {f : Addr} {fd : FuncData} (F : Fun K "meets" "Grouped.meets" (inClass (top 8) 4) f fd) : FnOk P w K mg base CX0 1 f fd ["self", "signal"] (spMeets T .grouped) := by
  refine F.ok sc_Grouped_meets (fun vs H Q E h => ?_) (fun cdv A outer s H vs Q E hr h => ?_)
  · obtain ⟨p, t, s, g, rfl, _⟩ := h
    rfl
  · obtain ⟨p, t, s, g, rfl, F, hg, hl, k⟩ := h
    have hu := hu100 hr
    refine ⟨_, (pss_one (ps_ret pe_str)), ?_⟩
    (simp only [_root_.L2.start, cxOf_K, cxComp_K, tSeq, tAsg, gName, tRet, tRetN, tDrop, tIfS, tTest, tB, tNot, tAnd, tOr, tAndV, tOrV, tNotV, tOp, tUn, tVar, tC, tCons, tNil, tStrs, tCB, tCall, tChain, tBM, tBM0, tPart, tNoPart, tSl, tIf, tNext, tTrue, selS, Option.bind_none, Option.bind_some, Option.join_some, if_true, rI, rI0, rU, rEq, rNe, rStarts, rSlS, lenV_str, tyV, List.map_cons, List.map_nil, List.length_cons, List.length_nil, List.replicate, List.cons_append, List.nil_append, List.append_nil, Nat.reduceAdd, Nat.reduceSub, Nat.zero_add, Nat.add_zero, Nat.sub_self, List.getElem?_cons_zero, List.getElem?_cons_succ, List.set_cons_zero, List.set_cons_succ, Option.some.injEq, V.int.injEq, V.str.injEq, V.ref.injEq, V.bl.injEq, V.ty.injEq, List.cons.injEq, exists_eq_left, exists_eq_left', exists_eq_right, exists_and_left, exists_eq, and_true, true_and, and_self, and_assoc, iRrg, tMeth, tMake, tCMeth, tDIn, tDNotIn, tDPop1, tNever, iRev, tDInN])
    exact k H (Same.refl _)
theorem sc_Cleaned_clean : FnScope ["self", "signal"] ["self", "signal"] (defScope (inClass (top 6) 1)) := ⟨rfl, rfl, rfl, by decide +kernel, rfl, by decide +kernel, by decide +kernel⟩
theorem ok_Cleaned_clean (T : Tx K mg) {f : Addr} {fd : FuncData} (F : Fun K "clean" "Cleaned.clean" (inClass (top 6) 1) f fd) (G_begin_anew : ∀ c, FnOk P w K mg base CX0 1 (T.m_begin_anew c).f (T.m_begin_anew c).fd ["self", "rows"] (spAnew T)) : FnOk P w K mg base CX0 2 f fd ["self", "signal"] (spClean T) := by
  refine F.ok sc_Cleaned_clean (fun vs H Q E h => ?_) (fun cdv A outer s H vs Q E hr h => ?_)
  · obtain ⟨p, s, v, rfl, _⟩ := h
    rfl
  · obtain ⟨p, s, v, rfl, F, k⟩ := h
    have hu := hu100 hr
    refine ⟨_, (pss_cons (ps_expr (pe_meth (pv 0) (T.cl .cleaned) (T.m_begin_anew .cleaned).me (G_begin_anew .cleaned) (hr.mono (by omega)) (T.m_begin_anew .cleaned).b .nil pass0 (pa_cons (pe_fld (pv 0) rfl) pa_nil)))
    (pss_cons (ps_fld (pv 0) pe_bl rfl)
    (pss_one (ps_fld (pv 0) (pv 1) rfl)))), ?_⟩
    (simp only [_root_.L2.start, cxOf_K, cxComp_K, tSeq, tAsg, gName, tRet, tRetN, tDrop, tIfS, tTest, tB, tNot, tAnd, tOr, tAndV, tOrV, tNotV, tOp, tUn, tVar, tC, tCons, tNil, tStrs, tCB, tCall, tChain, tBM, tBM0, tPart, tNoPart, tSl, tIf, tNext, tTrue, selS, Option.bind_none, Option.bind_some, Option.join_some, if_true, rI, rI0, rU, rEq, rNe, rStarts, rSlS, lenV_str, tyV, List.map_cons, List.map_nil, List.length_cons, List.length_nil, List.replicate, List.cons_append, List.nil_append, List.append_nil, Nat.reduceAdd, Nat.reduceSub, Nat.zero_add, Nat.add_zero, Nat.sub_self, List.getElem?_cons_zero, List.getElem?_cons_succ, List.set_cons_zero, List.set_cons_succ, Option.some.injEq, V.int.injEq, V.str.injEq, V.ref.injEq, V.bl.injEq, V.ty.injEq, List.cons.injEq, exists_eq_left, exists_eq_left', exists_eq_right, exists_and_left, exists_eq, and_true, true_and, and_self, and_assoc, iRrg, tMeth, tMake, tCMeth, tDIn, tDNotIn, tDPop1, tNever, iRev, tDInN])
    refine F.mt nf_anew (F.fr.fld (l := .others) rfl rfl ⟨.cleaned, p, s.oa, s, s.others, rfl, F, F.os, F.ol, fun H1 b1 F1 => ?_⟩)
    refine F1.fr.re (l := .cleaning) (by decide) rfl (fun z => nomatch z) fun H2 b2 F2 => ?_
    refine ⟨_, rfl, F2.re (l := .held) (by decide) rfl (fun z => nomatch z) fun H3 b3 F3 => ?_⟩
    have b := b1.trans (b2.trans b3)
    refine k H3 b ⟨?_, F.but b F.os, F.but b F.os, Nat.zero_le _, F.ol, F.ol⟩
    refine cast ?_ F3
    congr 1
    funext l
    cases l <;> rfl
theorem sc_Grouped_halt : FnScope ["self", "signal"] ["self", "signal"] (defScope (inClass (top 8) 1)) := ⟨rfl, rfl, rfl, by decide +kernel, rfl, by decide +kernel, by decide +kernel⟩
theorem ok_Grouped_halt (T : Tx K mg) {f : Addr} {fd : FuncData} (F : Fun K "halt" "Grouped.halt" (inClass (top 8) 1) f fd) (G_begin_anew : ∀ c, FnOk P w K mg base CX0 1 (T.m_begin_anew c).f (T.m_begin_anew c).fd ["self", "rows"] (spAnew T)) : FnOk P w K mg base CX0 2 f fd ["self", "signal"] (spHalt T) := by
  refine F.ok sc_Grouped_halt (fun vs H Q E h => ?_) (fun cdv A outer s H vs Q E hr h => ?_)
  · obtain ⟨p, t, s, g, rfl, _⟩ := h
    rfl
  · obtain ⟨p, t, s, g, rfl, F, hg, k⟩ := h
    have hu := hu100 hr
    refine ⟨_, (pss_cons (ps_expr (pe_meth (pv 0) (T.cl .grouped) (T.m_begin_anew .grouped).me (G_begin_anew .grouped) (hr.mono (by omega)) (T.m_begin_anew .grouped).b .nil pass0 (pa_cons (pe_tup pa_nil) pa_nil)))
    (pss_one (ps_fld (pv 0) (pe_ifExp (pt_cmpR op_eq (pe_ix ix_tup (pv 1) pe_int (fun _ _ => rfl)) pe_str (nomark _)) (pv 1) pe_non) rfl))), ?_⟩
    (simp only [_root_.L2.start, cxOf_K, cxComp_K, tSeq, tAsg, gName, tRet, tRetN, tDrop, tIfS, tTest, tB, tNot, tAnd, tOr, tAndV, tOrV, tNotV, tOp, tUn, tVar, tC, tCons, tNil, tStrs, tCB, tCall, tChain, tBM, tBM0, tPart, tNoPart, tSl, tIf, tNext, tTrue, selS, Option.bind_none, Option.bind_some, Option.join_some, if_true, rI, rI0, rU, rEq, rNe, rStarts, rSlS, lenV_str, tyV, List.map_cons, List.map_nil, List.length_cons, List.length_nil, List.replicate, List.cons_append, List.nil_append, List.append_nil, Nat.reduceAdd, Nat.reduceSub, Nat.zero_add, Nat.add_zero, Nat.sub_self, List.getElem?_cons_zero, List.getElem?_cons_succ, List.set_cons_zero, List.set_cons_succ, Option.some.injEq, V.int.injEq, V.str.injEq, V.ref.injEq, V.bl.injEq, V.ty.injEq, List.cons.injEq, exists_eq_left, exists_eq_left', exists_eq_right, exists_and_left, exists_eq, and_true, true_and, and_self, and_assoc, iRrg, tMeth, tMake, tCMeth, tDIn, tDNotIn, tDPop1, tNever, iRev, tDInN])
    refine F.mt nf_anew ⟨by decide, fun a ha => ?_⟩
    have s1 := Same.upd (o := .tup []) ha
    have F1 := F.same s1
    refine ⟨.grouped, p, a, s, [], rfl, F1, upd_same, by decide, fun H2 b2 F2 => ?_⟩
    have keep : ∀ c o, c ≠ p → H c = some o → H2 c = some o := fun c o n h => b2 c o n (s1 c o h)
    have tk : ∀ {c xs}, H c = some (.tup xs) → H2 c = some (.tup xs) := fun {c xs} h => F1.but b2 (s1 _ _ h)
    have ha2 : H2 a = some (.tup []) := F1.but b2 upd_same
    cases g with
    | strike n =>
      refine ⟨_, rfl, t, _, _, .str "strike", rfl, rfl, SqT.of (tk hg), atI_nat (j := 0) rfl, rfl, _, rfl, ifT rfl ⟨_, rfl, F2.fr.re (l := .held) (by decide) rfl (fun z => nomatch z) fun H3 b3 F3 => ?_⟩⟩
      refine k H3 a (fun c o n h => b3 c o n (keep c o n h)) ⟨?_, F2.but b3 ha2, F2.but b3 F2.os, Nat.le_refl _, Nat.zero_le _, F2.ol⟩
      refine cast ?_ F3
      congr 1
      funext l
      cases l <;> rfl
    | faults z r =>
      obtain ⟨u, h1, h2⟩ := hg
      refine ⟨_, rfl, t, _, _, .str "faults", rfl, rfl, SqT.of (tk h1), atI_nat (j := 0) rfl, rfl, _, rfl, ifF (fun z => absurd (V.str.inj z) (by decide +kernel)) (F2.fr.re (l := .held) (by decide) rfl (fun z => nomatch z) fun H3 b3 F3 => ?_)⟩
      refine k H3 a (fun c o n h => b3 c o n (keep c o n h)) ⟨?_, F2.but b3 ha2, F2.but b3 F2.os, Nat.le_refl _, Nat.zero_le _, F2.ol⟩
      refine cast ?_ F3
      congr 1
      funext l
      cases l <;> rfl
theorem sc_Grouped_tell_joined : FnScope ["self", "faults"] ["self", "faults"] (defScope (inClass (top 8) 2)) := ⟨rfl, rfl, rfl, by decide +kernel, rfl, by decide +kernel, by decide +kernel⟩
theorem ok_Grouped_tell_joined (T : Tx K mg) {f : Addr} {fd : FuncData} (F : Fun K "tell_joined" "Grouped.tell_joined" (inClass (top 8) 2) f fd) : FnOk P w K mg base CX0 1 f fd ["self", "faults"] (spTell T) := by
  refine F.ok sc_Grouped_tell_joined (fun vs H Q E h => ?_) (fun cdv A outer s H vs Q E hr h => ?_)
  · obtain ⟨p, a, s, xs, rfl, _⟩ := h
    rfl
  · obtain ⟨p, a, s, xs, rfl, F, ha, k⟩ := h
    have hu := hu100 hr
    refine ⟨_, (pss_one (ps_fld (pv 0) (pe_callTy call_tuple_of (by rfl) T.n_tuple bt_tuple (pa_cons (pv 1) pa_nil)) rfl)), ?_⟩
    refine ⟨_, rfl, a, xs, rfl, .inr ⟨SqT.of ha, ?_⟩⟩
    refine F.fr.re (l := .told) (by decide) rfl (fun z => nomatch z) fun H2 b2 F2 => k H2 b2 ⟨?_, F.but b2 F.rs, F.but b2 F.os, F.pl, F.rl, F.ol⟩
    refine cast ?_ F2
    congr 1
    funext l
    cases l <;> rfl
theorem sc_Rounds___init__ : FnScope ["self", "rows", "line", "many"] ["self", "rows", "line", "many"] (defScope (inClass (top 3) 0)) := ⟨rfl, rfl, rfl, by decide +kernel, rfl, by decide +kernel, by decide +kernel⟩
theorem ok_Rounds___init__ (T : Tx K mg) {f : Addr} {fd : FuncData} (F : Fun K "__init__" "Rounds.__init__" (inClass (top 3) 0) f fd) (G_i_frame : FnOk P w K mg base CX0 1 T.i_frame.f T.i_frame.fd ["self", "rows", "line", "scope"] (spFInit T)) : FnOk P w K mg base CX0 2 f fd ["self", "rows", "line", "many"] (spI T .rounds) := by
  refine F.ok sc_Rounds___init__ (fun vs H Q E h => ?_) (fun cdv A outer s H vs Q E hr h => ?_)
  · obtain ⟨p, s, rfl, _⟩ := h
    rfl
  · obtain ⟨p, s, rfl, ⟨n1, n2, n3, n4, n5, n6⟩, F0, h1, h2, hr1, ho1, k⟩ := h
    refine ⟨_, (pss_cons (ps_expr (pe_cmeth (pe_glob (v := .ref (T.C .frame)) rfl T.h_frame rfl) T.i_frame.cm G_i_frame (hr.mono (by omega)) T.i_frame.b1 (show Vals [V.non] [Value.none] from .cons rfl .nil) pass0 (pa_cons (pv 0) (pa_cons (pv 1) (pa_cons (pv 2) pa_nil)))))
    (pss_one (ps_fld (pv 0) (pe_op op_sub (pv 3) pe_int) rfl))), ?_⟩
    refine ⟨rfl, _, rfl, _, rfl, _, rfl, .rounds, p, s.ra, s.rows, .int s.line, .non, rfl, F0, h1, fun H1 b1 F1 => ?_⟩
    refine ⟨_, rfl, _, _, rfl, rfl, F1.st (l := .left) (by decide) rfl fun H2 b2 F2 => ?_⟩
    refine k H2 (b1.trans b2) ⟨?_, F0.tup (b1.trans b2) h1, F0.tup (b1.trans b2) h2, by rw [n1]; exact Nat.zero_le _, hr1, ho1⟩
    refine (FrAt.mono ?_ (show 7 ≤ 11 by decide))
    refine cast ?_ F2
    congr 1
    funext l
    cases l <;> simp [setG, gOf, n1, n2, n3, n4]
theorem sc_Tried___init__ : FnScope ["self", "rows", "line", "fault", "others"] ["self", "rows", "line", "fault", "others"] (defScope (inClass (top 5) 0)) := ⟨rfl, rfl, rfl, by decide +kernel, rfl, by decide +kernel, by decide +kernel⟩
theorem ok_Tried___init__ (T : Tx K mg) {f : Addr} {fd : FuncData} (F : Fun K "__init__" "Tried.__init__" (inClass (top 5) 0) f fd) (G_i_frame : FnOk P w K mg base CX0 1 T.i_frame.f T.i_frame.fd ["self", "rows", "line", "scope"] (spFInit T)) : FnOk P w K mg base CX0 2 f fd ["self", "rows", "line", "fault", "others"] (spI T .tried) := by
  refine F.ok sc_Tried___init__ (fun vs H Q E h => ?_) (fun cdv A outer s H vs Q E hr h => ?_)
  · obtain ⟨p, s, rfl, _⟩ := h
    rfl
  · obtain ⟨p, s, rfl, ⟨n1, n2, n3, n4, n5, n6⟩, F0, h1, h2, hr1, ho1, k⟩ := h
    refine ⟨_, (pss_cons (ps_expr (pe_cmeth (pe_glob (v := .ref (T.C .frame)) rfl T.h_frame rfl) T.i_frame.cm G_i_frame (hr.mono (by omega)) T.i_frame.b1 (show Vals [V.non] [Value.none] from .cons rfl .nil) pass0 (pa_cons (pv 0) (pa_cons (pv 1) (pa_cons (pv 2) pa_nil)))))
    (pss_cons (ps_fld (pv 0) (pv 3) rfl)
    (pss_one (ps_fld (pv 0) (pe_callTy call_tuple_of (by rfl) T.n_tuple bt_tuple (pa_cons (pv 4) pa_nil)) rfl)))), ?_⟩
    refine ⟨rfl, _, rfl, _, rfl, _, rfl, .tried, p, s.ra, s.rows, .int s.line, .non, rfl, F0, h1, fun H1 b1 F1 => ?_⟩
    refine ⟨_, rfl, F1.st (l := .fault) (by decide) rfl fun H2 b2 F2 => ?_⟩
    refine ⟨_, rfl, _, _, rfl, .inr ⟨SqT.of (F1.tup b2 (F0.tup b1 h2)), F2.st (l := .others) (by decide) rfl fun H3 b3 F3 => ?_⟩⟩
    refine k H3 ((b1.trans b2).trans b3) ⟨?_, F0.tup ((b1.trans b2).trans b3) h1, F0.tup ((b1.trans b2).trans b3) h2, by rw [n1]; exact Nat.zero_le _, hr1, ho1⟩
    refine (FrAt.mono ?_ (show 8 ≤ 11 by decide))
    refine cast ?_ F3
    congr 1
    funext l
    cases l <;> simp [setG, gOf, n1, n2, n3, n4]
theorem sc_Cleaned___init__ : FnScope ["self", "rows", "line", "others"] ["self", "rows", "line", "others"] (defScope (inClass (top 6) 0)) := ⟨rfl, rfl, rfl, by decide +kernel, rfl, by decide +kernel, by decide +kernel⟩
theorem ok_Cleaned___init__ (T : Tx K mg) {f : Addr} {fd : FuncData} (F : Fun K "__init__" "Cleaned.__init__" (inClass (top 6) 0) f fd) (G_i_frame : FnOk P w K mg base CX0 1 T.i_frame.f T.i_frame.fd ["self", "rows", "line", "scope"] (spFInit T)) : FnOk P w K mg base CX0 2 f fd ["self", "rows", "line", "others"] (spI T .cleaned) := by
  refine F.ok sc_Cleaned___init__ (fun vs H Q E h => ?_) (fun cdv A outer s H vs Q E hr h => ?_)
  · obtain ⟨p, s, rfl, _⟩ := h
    rfl
  · obtain ⟨p, s, rfl, ⟨n1, n2, n3, n4, n5, n6⟩, F0, h1, h2, hr1, ho1, k⟩ := h
    refine ⟨_, (pss_cons (ps_expr (pe_cmeth (pe_glob (v := .ref (T.C .frame)) rfl T.h_frame rfl) T.i_frame.cm G_i_frame (hr.mono (by omega)) T.i_frame.b1 (show Vals [V.non] [Value.none] from .cons rfl .nil) pass0 (pa_cons (pv 0) (pa_cons (pv 1) (pa_cons (pv 2) pa_nil)))))
    (pss_cons (ps_fld (pv 0) (pe_callTy call_tuple_of (by rfl) T.n_tuple bt_tuple (pa_cons (pv 3) pa_nil)) rfl)
    (pss_one (ps_fld (pv 0) pe_bl rfl)))), ?_⟩
    refine ⟨rfl, _, rfl, _, rfl, _, rfl, .cleaned, p, s.ra, s.rows, .int s.line, .non, rfl, F0, h1, fun H1 b1 F1 => ?_⟩
    refine ⟨_, rfl, _, _, rfl, .inr ⟨SqT.of (F0.tup b1 h2), F1.st (l := .others) (by decide) rfl fun H2 b2 F2 => ?_⟩⟩
    refine F2.st (l := .cleaning) (by decide) rfl fun H3 b3 F3 => ?_
    refine k H3 ((b1.trans b2).trans b3) ⟨?_, F0.tup ((b1.trans b2).trans b3) h1, F0.tup ((b1.trans b2).trans b3) h2, by rw [n1]; exact Nat.zero_le _, hr1, ho1⟩
    refine (FrAt.mono ?_ (show 8 ≤ 11 by decide))
    refine cast ?_ F3
    congr 1
    funext l
    cases l <;> simp [setG, gOf, n1, n2, n3, n4, n5]
theorem sc_Limited___init__ : FnScope ["self", "rows", "line", "scope", "others"] ["self", "rows", "line", "scope", "others"] (defScope (inClass (top 7) 0)) := ⟨rfl, rfl, rfl, by decide +kernel, rfl, by decide +kernel, by decide +kernel⟩
theorem ok_Limited___init__ (T : Tx K mg) {f : Addr} {fd : FuncData} (F : Fun K "__init__" "Limited.__init__" (inClass (top 7) 0) f fd) (G_i_frame : FnOk P w K mg base CX0 1 T.i_frame.f T.i_frame.fd ["self", "rows", "line", "scope"] (spFInit T)) : FnOk P w K mg base CX0 2 f fd ["self", "rows", "line", "scope", "others"] (spI T .limited) := by
  refine F.ok sc_Limited___init__ (fun vs H Q E h => ?_) (fun cdv A outer s H vs Q E hr h => ?_)
  · obtain ⟨p, s, rfl, _⟩ := h
    rfl
  · obtain ⟨p, s, rfl, ⟨n1, n2, n3, n4, n5, n6⟩, F0, h1, h2, hr1, ho1, k⟩ := h
    refine ⟨_, (pss_cons (ps_expr (pe_cmeth (pe_glob (v := .ref (T.C .frame)) rfl T.h_frame rfl) T.i_frame.cm G_i_frame (hr.mono (by omega)) T.i_frame.b .nil pass0 (pa_cons (pv 0) (pa_cons (pv 1) (pa_cons (pv 2) (pa_cons (pv 3) pa_nil))))))
    (pss_one (ps_fld (pv 0) (pe_callTy call_tuple_of (by rfl) T.n_tuple bt_tuple (pa_cons (pv 4) pa_nil)) rfl))), ?_⟩
    refine ⟨rfl, _, rfl, _, rfl, _, rfl, _, rfl, .limited, p, s.ra, s.rows, .int s.line, s.sc, rfl, F0, h1, fun H1 b1 F1 => ?_⟩
    refine ⟨_, rfl, _, _, rfl, .inr ⟨SqT.of (F0.tup b1 h2), F1.st (l := .others) (by decide) rfl fun H2 b2 F2 => ?_⟩⟩
    refine k H2 (b1.trans b2) ⟨?_, F0.tup (b1.trans b2) h1, F0.tup (b1.trans b2) h2, by rw [n1]; exact Nat.zero_le _, hr1, ho1⟩
    refine (FrAt.mono ?_ (show 7 ≤ 11 by decide))
    refine cast ?_ F2
    congr 1
    funext l
    cases l <;> simp [setG, gOf, n1, n2, n3]
theorem sc_Grouped___init__ : FnScope ["self", "rows", "line", "scope", "named"] ["self", "rows", "line", "scope", "named"] (defScope (inClass (top 8) 0)) := ⟨rfl, rfl, rfl, by decide +kernel, rfl, by decide +kernel, by decide +kernel⟩
theorem ok_Grouped___init__ (T : Tx K mg) {f : Addr} {fd : FuncData} (F : Fun K "__init__" "Grouped.__init__" (inClass (top 8) 0) f fd) (G_i_frame : FnOk P w K mg base CX0 1 T.i_frame.f T.i_frame.fd ["self", "rows", "line", "scope"] (spFInit T)) : FnOk P w K mg base CX0 2 f fd ["self", "rows", "line", "scope", "named"] (spI T .grouped) := by
  refine F.ok sc_Grouped___init__ (fun vs H Q E h => ?_) (fun cdv A outer s H vs Q E hr h => ?_)
  · obtain ⟨p, s, rfl, _⟩ := h
    rfl
  · obtain ⟨p, s, rfl, ⟨n1, n2, n3, n4, n5, n6⟩, F0, h1, h2, hr1, ho1, k⟩ := h
    refine ⟨_, (pss_cons (ps_expr (pe_cmeth (pe_glob (v := .ref (T.C .frame)) rfl T.h_frame rfl) T.i_frame.cm G_i_frame (hr.mono (by omega)) T.i_frame.b .nil pass0 (pa_cons (pv 0) (pa_cons (pv 1) (pa_cons (pv 2) (pa_cons (pv 3) pa_nil))))))
    (pss_cons (ps_fld (pv 0) (pv 4) rfl)
    (pss_one (ps_fld (pv 0) pe_non rfl)))), ?_⟩
    refine ⟨rfl, _, rfl, _, rfl, _, rfl, _, rfl, .grouped, p, s.ra, s.rows, .int s.line, s.sc, rfl, F0, h1, fun H1 b1 F1 => ?_⟩
    refine ⟨_, rfl, F1.re (l := .named) (by decide) rfl (fun z => nomatch z) fun H2 b2 F2 => ?_⟩
    refine F2.st (l := .told) (by decide) rfl fun H3 b3 F3 => ?_
    refine k H3 ((b1.trans b2).trans b3) ⟨?_, F0.tup ((b1.trans b2).trans b3) h1, F0.tup ((b1.trans b2).trans b3) h2, by rw [n1]; exact Nat.zero_le _, hr1, ho1⟩
    refine (FrAt.mono ?_ (show 7 ≤ 11 by decide))
    refine cast ?_ F3
    congr 1
    funext l
    cases l <;> simp [setG, gOf, n1, n2, n6 rfl]
theorem ok_all_next_row (T : Tx K mg) : ∀ c, FnOk P w K mg base CX0 1 (T.m_next_row c).f (T.m_next_row c).fd ["self"] (spNext T) := fun c => ok_Frame_next_row T (T.m_next_row c).F
theorem ok_all_begin_anew (T : Tx K mg) : ∀ c, FnOk P w K mg base CX0 1 (T.m_begin_anew c).f (T.m_begin_anew c).fd ["self", "rows"] (spAnew T) := fun c => ok_Frame_begin_anew T (T.m_begin_anew c).F
theorem ok_all_hides (T : Tx K mg) : ∀ c, FnOk P w K mg base CX0 1 (T.m_hides c).f (T.m_hides c).fd ["self"] (spHides T c)
  | .frame => ok_Frame_hides T (T.m_hides .frame).F (fun _ => rfl)
  | .rounds => ok_Frame_hides T (T.m_hides .rounds).F (fun _ => rfl)
  | .kept => ok_Kept_hides T (T.m_hides .kept).F
  | .tried => ok_Frame_hides T (T.m_hides .tried).F (fun _ => rfl)
  | .cleaned => ok_Cleaned_hides T (T.m_hides .cleaned).F
  | .limited => ok_Frame_hides T (T.m_hides .limited).F (fun _ => rfl)
  | .grouped => ok_Frame_hides T (T.m_hides .grouped).F (fun _ => rfl)
theorem ok_all_over (T : Tx K mg) : ∀ c, FnOk P w K mg base CX0 2 (T.m_over c).f (T.m_over c).fd ["self"] (spOver T c)
  | .frame => (ok_Frame_over T (c := .frame) (T.m_over .frame).F (fun _ => ⟨rfl, overS_no (by decide)⟩)).mono (by decide)
  | .rounds => ok_Rounds_over T (T.m_over .rounds).F (ok_all_begin_anew T)
  | .kept => (ok_Frame_over T (c := .kept) (T.m_over .kept).F (fun _ => ⟨rfl, overS_no (by decide)⟩)).mono (by decide)
  | .tried => (ok_Frame_over T (c := .tried) (T.m_over .tried).F (fun _ => ⟨rfl, overS_no (by decide)⟩)).mono (by decide)
  | .cleaned => (ok_Cleaned_over T (T.m_over .cleaned).F).mono (by decide)
  | .limited => (ok_Frame_over T (c := .limited) (T.m_over .limited).F (fun _ => ⟨rfl, overS_no (by decide)⟩)).mono (by decide)
  | .grouped => (ok_Grouped_over T (T.m_over .grouped).F).mono (by decide)
theorem ok_all_meets (T : Tx K mg) : ∀ c, FnOk P w K mg base CX0 1 (T.m_meets c).f (T.m_meets c).fd ["self", "signal"] (spMeets T c)
  | .frame => ok_Frame_meets T (T.m_meets .frame).F (fun _ _ => rfl)
  | .rounds => ok_Frame_meets T (T.m_meets .rounds).F (fun _ _ => rfl)
  | .kept => ok_Frame_meets T (T.m_meets .kept).F (fun _ _ => rfl)
  | .tried => ok_Tried_meets T (T.m_meets .tried).F
  | .cleaned => ok_Cleaned_meets T (T.m_meets .cleaned).F
  | .limited => ok_Limited_meets T (T.m_meets .limited).F
  | .grouped => ok_Grouped_meets T (T.m_meets .grouped).F

theorem sc_is_name_of_value : FnScope ["value"] ["value"] (defScope (top 11)) := ⟨rfl, rfl, rfl, by decide +kernel, rfl, by decide +kernel, by decide +kernel⟩
theorem ok_is_name_of_value (T : Tx K mg) : FnOk P w K mg base CX0 1 T.d_is_name_of_value.f T.d_is_name_of_value.fd ["value"] (spIsName) := by
  refine T.d_is_name_of_value.F.ok sc_is_name_of_value (fun vs H Q E h => ?_) (fun cdv A outer s H vs Q E hr h => ?_)
  · obtain ⟨v, rfl, _⟩ := h
    rfl
  · obtain ⟨v, rfl, hv⟩ := h
    refine ⟨_, (pss_one (ps_ret (pe_and (pe_callB call_isinst (by rfl) T.n_isinstance bt_isinstance (pa_cons (pv 0) (pa_cons (pe_bltn (v := .ty "str") rfl T.n_str bt_str rfl) pa_nil))) (pe_one (pe_not (pe_bm PySem.F.plainAttrs_str PySem.F.slot_str_startswith PySem.F.type_str_startswith mt_startswith (pv 0) (pa_cons pe_str pa_nil))))))), ?_⟩
    (simp only [tLst, tTup, tDNewK, _root_.L2.start, cxOf_K, cxComp_K, tSeq, tAsg, gName, tRet, tRetN, tDrop, tIfS, tTest, tB, tNot, tAnd, tOr, tAndV, tOrV, tNotV, tOp, tUn, tVar, tC, tCons, tNil, tStrs, tCB, tCall, tChain, tBM, tBM0, tPart, tNoPart, tSl, tIf, tNext, tTrue, selS, Option.bind_none, Option.bind_some, Option.join_some, if_true, rI, rI0, rU, rEq, rNe, rStarts, rSlS, lenV_str, tyV, List.map_cons, List.map_nil, List.length_cons, List.length_nil, List.replicate, List.cons_append, List.nil_append, List.append_nil, Nat.reduceAdd, Nat.reduceSub, Nat.zero_add, Nat.add_zero, Nat.sub_self, List.getElem?_cons_zero, List.getElem?_cons_succ, List.set_cons_zero, List.set_cons_succ, Option.some.injEq, V.int.injEq, V.str.injEq, V.ref.injEq, V.bl.injEq, V.ty.injEq, List.cons.injEq, exists_eq_left, exists_eq_left', exists_eq_right, exists_and_left, exists_eq, and_true, true_and, and_self, and_assoc, iRrg, tMeth, tMake, tCMeth, tDIn, tDNotIn, tDPop1, tNever, iRev, tDInN])
    rcases hv with ⟨⟨n, rfl⟩, k⟩ | ⟨rfl, k⟩
    · exact ⟨_, .int n, false, rfl, iteF k⟩
    · exact ⟨_, .str _, true, rfl, iteT ⟨trivial, _, rfl, k⟩⟩
theorem sc_Machine___init__ : FnScope ["self", "rows"] ["self", "rows"] (defScope (inClass (top 12) 0)) := ⟨rfl, rfl, rfl, by decide +kernel, rfl, by decide +kernel, by decide +kernel⟩
theorem ok_Machine___init__ (T : Tx K mg) (G_i_frame : FnOk P w K mg base CX0 1 T.i_frame.f T.i_frame.fd ["self", "rows", "line", "scope"] (spFInit T)) (G_i_rounds : FnOk P w K mg base CX0 2 T.i_rounds.f T.i_rounds.fd ["self", "rows", "line", "many"] (spI T .rounds)) (G_i_kept : FnOk P w K mg base CX0 1 T.i_kept.f T.i_kept.fd ["self", "rows", "line", "scope"] (spFInit T)) (G_i_tried : FnOk P w K mg base CX0 2 T.i_tried.f T.i_tried.fd ["self", "rows", "line", "fault", "others"] (spI T .tried)) (G_i_cleaned : FnOk P w K mg base CX0 2 T.i_cleaned.f T.i_cleaned.fd ["self", "rows", "line", "others"] (spI T .cleaned)) (G_i_limited : FnOk P w K mg base CX0 2 T.i_limited.f T.i_limited.fd ["self", "rows", "line", "scope", "others"] (spI T .limited)) (G_i_grouped : FnOk P w K mg base CX0 2 T.i_grouped.f T.i_grouped.fd ["self", "rows", "line", "scope", "named"] (spI T .grouped)) : FnOk P w K mg base CX0 4 T.m_Machine___init__.f T.m_Machine___init__.fd ["self", "rows"] (spMInit T) := by
  refine T.m_Machine___init__.F.ok sc_Machine___init__ (fun vs H Q E h => ?_) (fun cdv A outer s H vs Q E hr h => ?_)
  · obtain ⟨p, a, rows, rfl, _⟩ := h
    rfl
  · obtain ⟨p, a, rows, rfl, F, ha, hrl, k⟩ := h
    have hu1 := hu_of hr
    refine ⟨_, (pss_cons (ps_fld (pv 0) (pe_lst (pa_cons (pe_make T.M_frame G_i_frame (hr.mono (by omega)) rfl T.h_frame T.i_frame.b .nil pass0 (pa_cons (pv 1) (pa_cons pe_int (pa_cons pe_int pa_nil)))) pa_nil)) rfl)
    (pss_cons (ps_fld (pv 0) pe_int rfl)
    (pss_cons (ps_fld (pv 0) pe_dnewK rfl)
    (pss_cons (ps_fld (pv 0) pe_int rfl)
    (pss_cons (ps_fld (pv 0) pe_dnewK rfl)
    (pss_cons (ps_fld (pv 0) pe_non rfl)
    (pss_cons (ps_fld (pv 0) pe_bl rfl)
    (pss_cons (ps_fld (pv 0) pe_non rfl)
    (pss_one (ps_fld (pv 0) pe_non rfl)))))))))), ?_⟩
    (simp only [tLst, tTup, tDNewK, _root_.L2.start, cxOf_K, cxComp_K, tSeq, tAsg, gName, tRet, tRetN, tDrop, tIfS, tTest, tB, tNot, tAnd, tOr, tAndV, tOrV, tNotV, tOp, tUn, tVar, tC, tCons, tNil, tStrs, tCB, tCall, tChain, tBM, tBM0, tPart, tNoPart, tSl, tIf, tNext, tTrue, selS, Option.bind_none, Option.bind_some, Option.join_some, if_true, rI, rI0, rU, rEq, rNe, rStarts, rSlS, lenV_str, tyV, List.map_cons, List.map_nil, List.length_cons, List.length_nil, List.replicate, List.cons_append, List.nil_append, List.append_nil, Nat.reduceAdd, Nat.reduceSub, Nat.zero_add, Nat.add_zero, Nat.sub_self, List.getElem?_cons_zero, List.getElem?_cons_succ, List.set_cons_zero, List.set_cons_succ, Option.some.injEq, V.int.injEq, V.str.injEq, V.ref.injEq, V.bl.injEq, V.ty.injEq, List.cons.injEq, exists_eq_left, exists_eq_left', exists_eq_right, exists_and_left, exists_eq, and_true, true_and, and_self, and_assoc, iRrg, tMeth, tMake, tCMeth, tDIn, tDNotIn, tDPop1, tNever, iRev, tDInN])
    obtain ⟨dp, fs0, hp0, hF0⟩ := F.ex
    refine ⟨_, rfl, ?_⟩
    intro f dx nf ndx nef
    have s0 : Same H (upd (upd H dx (.own f)) f (.ins (T.C .frame) dx [])) := (Same.upd ndx).trans (Same.upd (by rw [upd_ne (Ne.symm nef)]; exact nf))
    have pf : p ≠ f := ne_of_none hp0 nf
    refine ⟨.frame, f, a, rows, .int 0, .int 0, rfl, FrAt.new upd_same, s0 _ _ ha, fun G1 c1 Ff => ⟨rfl, (by show (1 : Nat) ≤ sizeLine; decide), fun l hl => ?_⟩⟩
    have ha1 := c1 _ _ (ne_of_none ha nf) (s0 _ _ ha)
    have hp1 := c1 _ _ pf (s0 _ _ hp0)
    have bH : But p H G1 := fun c o n h => c1 c o (ne_of_none h nf) (s0 c o h)
    clear c1 s0
    have bH0 := bH
    have hl0 := hl
    have s2 := Same.upd (o := .lst [V.ref f]) hl
    have hl2 : (upd G1 l (.lst [V.ref f])) l = some (.lst [V.ref f]) := upd_same
    have Ff := Ff.same s2
    have F0 : ObAt T 0 (upd G1 l (.lst [V.ref f])) p (fun _ => none) := ⟨dp, fs0, s2 _ _ hp1, hF0⟩
    have ha2 := s2 _ _ ha1
    have bH := bH.trans (But.of s2)
    have hlp : l ≠ p := fun z => by rw [z, hp1] at hl; cases hl
    generalize upd G1 l (.lst [V.ref f]) = G2 at hl2 Ff F0 ha2 bH ⊢
    clear hl s2 hp1 ha1
    refine F0.st (l := .frames) rfl fun H2 b2 F2 => ?_
    refine F2.st (l := .lastS) rfl fun H3 b3 F3 => ?_
    intro d1 hd1
    have s4 := Same.upd (o := .dK []) hd1
    have e1 : (upd H3 d1 (.dK [])) d1 = some (.dK []) := upd_same
    have d1p : d1 ≠ p := fun z => by
      obtain ⟨_, _, q, _⟩ := F3.ex
      rw [← z, hd1] at q; cases q
    have hlH : H l = none := by
      cases e : H l with
      | none => rfl
      | some o =>
        have := bH0 l o hlp e
        rw [hl0] at this; cases this
    have hd1H : H d1 = none := by
      cases e : H d1 with
      | none => rfl
      | some o =>
        have := (bH.trans (b2.trans b3)) d1 o d1p e
        rw [hd1] at this; cases this
    have F3 := F3.same s4
    generalize upd H3 d1 (.dK []) = H3' at s4 e1 F3 ⊢
    refine F3.st (l := .values) rfl fun H4 b4 F4 => ?_
    refine F4.st (l := .given) rfl fun H5 b5 F5 => ?_
    intro d2 hd2
    have s6 := Same.upd (o := .dK []) hd2
    have e2 : (upd H5 d2 (.dK [])) d2 = some (.dK []) := upd_same
    have d2p : d2 ≠ p := fun z => by
      obtain ⟨_, _, q, _⟩ := F5.ex
      rw [← z, hd2] at q; cases q
    have hd2H : H d2 = none := by
      cases e : H d2 with
      | none => rfl
      | some o =>
        have := (bH.trans (b2.trans (b3.trans ((But.of s4).trans (b4.trans b5))))) d2 o d2p e
        rw [hd2] at this; cases this
    have e1 := b5 _ _ d1p (b4 _ _ d1p e1)
    have d12 : d1 ≠ d2 := ne_of_none e1 hd2
    have F5 := F5.same s6
    have e1 := s6 _ _ e1
    generalize upd H5 d2 (.dK []) = H5' at s6 e1 e2 F5 ⊢
    refine F5.st (l := .marks) rfl fun H6 b6 F6 => ?_
    refine F6.st (l := .signal) rfl fun H7 b7 F7 => ?_
    refine F7.st (l := .struck) rfl fun H8 b8 F8 => ?_
    refine F8.st (l := .want) rfl fun H9 b9 F9 => ?_
    refine F9.st (l := .ending) rfl fun H10 b10 F10 => ?_
    have c6 := b6.trans (b7.trans (b8.trans (b9.trans b10)))
    have c2 := b2.trans (b3.trans ((But.of s4).trans (b4.trans (b5.trans ((But.of s6).trans c6)))))
    obtain ⟨df, fsf, hf1, hf2⟩ := Ff.ex
    obtain ⟨_, _, hpz, _⟩ := F0.ex
    have ha9 := c2 _ _ (ne_of ha2 hpz (fun z => nomatch z)) ha2
    have Fr : FAt T .frame H10 f (rootS a rows) := by
      have F9 : FrAt T 6 .frame H10 f _ := ⟨df, fsf, c2 _ _ pf.symm hf1, hf2⟩
      refine ⟨?_, ha9, ha9, Nat.zero_le _, hrl, hrl⟩
      refine cast ?_ (F9.mono (m := 11) (by decide))
      congr 1
      funext x
      cases x <;> rfl
    refine k H10 f ⟨l, d1, d2, 0, .int 0, .non, false, .non, .non⟩ (bH.trans c2) ⟨?_, c2 _ _ hlp hl2, ?_, ?_, c6 _ _ d1p e1, c6 _ _ d2p e2, d12, ?_⟩ rfl rfl rfl rfl rfl nf hlH hd1H hd2H
    · refine cast ?_ F10
      congr 1
      funext x
      cases x <;> rfl
    · intro x hx
      rw [List.mem_singleton.mp hx]; exact Fr
    · simp [pf]
    · intro x hx
      rw [List.mem_singleton.mp hx]; exact .inr ⟨0, rfl⟩
theorem sc_Machine_waiting : FnScope ["self"] ["self"] (defScope (inClass (top 12) 1)) := ⟨rfl, rfl, rfl, by decide +kernel, rfl, by decide +kernel, by decide +kernel⟩
theorem ok_Machine_waiting (T : Tx K mg) : FnOk P w K mg base CX0 1 T.m_Machine_waiting.f T.m_Machine_waiting.fd ["self"] (spWaiting T) := by
  refine T.m_Machine_waiting.F.ok sc_Machine_waiting (fun vs H Q E h => ?_) (fun cdv A outer s H vs Q E hr h => ?_)
  · obtain ⟨p, m, rfl, _⟩ := h
    rfl
  · obtain ⟨p, m, rfl, F, k⟩ := h
    refine ⟨_, (pss_one (ps_ret (pe_fld (pv 0) rfl))), ?_⟩
    exact F.fld (l := .want) rfl rfl k
theorem sc_Machine_outcome : FnScope ["self"] ["self"] (defScope (inClass (top 12) 2)) := ⟨rfl, rfl, rfl, by decide +kernel, rfl, by decide +kernel, by decide +kernel⟩
theorem ok_Machine_outcome (T : Tx K mg) : FnOk P w K mg base CX0 1 T.m_Machine_outcome.f T.m_Machine_outcome.fd ["self"] (spOutcome T) := by
  refine T.m_Machine_outcome.F.ok sc_Machine_outcome (fun vs H Q E h => ?_) (fun cdv A outer s H vs Q E hr h => ?_)
  · obtain ⟨p, m, rfl, _⟩ := h
    rfl
  · obtain ⟨p, m, rfl, F, k⟩ := h
    refine ⟨_, (pss_one (ps_ret (pe_fld (pv 0) rfl))), ?_⟩
    (simp only [tLst, tTup, tDNewK, _root_.L2.start, cxOf_K, cxComp_K, tSeq, tAsg, gName, tRet, tRetN, tDrop, tIfS, tTest, tB, tNot, tAnd, tOr, tAndV, tOrV, tNotV, tOp, tUn, tVar, tC, tCons, tNil, tStrs, tCB, tCall, tChain, tBM, tBM0, tPart, tNoPart, tSl, tIf, tNext, tTrue, selS, Option.bind_none, Option.bind_some, Option.join_some, if_true, rI, rI0, rU, rEq, rNe, rStarts, rSlS, lenV_str, tyV, List.map_cons, List.map_nil, List.length_cons, List.length_nil, List.replicate, List.cons_append, List.nil_append, List.append_nil, Nat.reduceAdd, Nat.reduceSub, Nat.zero_add, Nat.add_zero, Nat.sub_self, List.getElem?_cons_zero, List.getElem?_cons_succ, List.set_cons_zero, List.set_cons_succ, Option.some.injEq, V.int.injEq, V.str.injEq, V.ref.injEq, V.bl.injEq, V.ty.injEq, List.cons.injEq, exists_eq_left, exists_eq_left', exists_eq_right, exists_and_left, exists_eq, and_true, true_and, and_self, and_assoc, iRrg, tMeth, tMake, tCMeth, tDIn, tDNotIn, tDPop1, tNever, iRev, tDInN])
    exact F.fld (l := .ending) rfl rfl k
theorem sc_Machine_target : FnScope ["self", "found", "frame"] ["self"] (defScope (inClass (top 12) 5)) := ⟨rfl, rfl, rfl, by decide +kernel, rfl, by decide +kernel, by decide +kernel⟩
theorem ok_Machine_target (T : Tx K mg) (G_hides : ∀ c, FnOk P w K mg base CX0 1 (T.m_hides c).f (T.m_hides c).fd ["self"] (spHides T c)) : FnOk P w K mg base CX0 2 T.m_Machine_target.f T.m_Machine_target.fd ["self"] (spTarget T) := by
  refine T.m_Machine_target.F.ok sc_Machine_target (fun vs H Q E h => ?_) (fun cdv A outer s H vs Q E hr h => ?_)
  · obtain ⟨p, stk, kv, mk, m, rfl, _⟩ := h
    rfl
  · obtain ⟨p, stk, kv, mk, m, rfl, M, k⟩ := h
    have hu1 := hu_of hr
    refine ⟨_, (pss_cons (ps_set (i := 1) sc_Machine_target.nd rfl (Or.inl rfl) pe_non)
    (pss_cons (ps_for PassesOwn.never rfl (pi_rev rfl T.n_reversed (pa_cons (pe_fld (pv 0) rfl) pa_nil)) (pg_name (i := 2) sc_Machine_target.nd rfl (Or.inl rfl))
    (pss_cons (ps_if (pt_val (pe_any fun c => (pe_meth0 (pv 2) (T.cl c) (T.m_hides c).me (G_hides c) (hr.mono (by omega)) (T.m_hides c).b .nil pass0)))
    (pss_one (ps_ret (pv 1)))
    pss_nil)
    (pss_one (ps_if (pt_cmp (pc_dinN hu1 (pe_fld (pv 2) rfl) (pe_fld (pv 0) rfl)))
    (pss_one (ps_set (i := 1) sc_Machine_target.nd rfl (Or.inl rfl) (pe_fld (pv 2) rfl)))
    pss_nil))))
    (pss_one (ps_ret (pv 1))))), ?_⟩
    (simp only [tLst, tTup, tDNewK, _root_.L2.start, cxOf_K, cxComp_K, tSeq, tAsg, gName, tRet, tRetN, tDrop, tIfS, tTest, tB, tNot, tAnd, tOr, tAndV, tOrV, tNotV, tOp, tUn, tVar, tC, tCons, tNil, tStrs, tCB, tCall, tChain, tBM, tBM0, tPart, tNoPart, tSl, tIf, tNext, tTrue, selS, Option.bind_none, Option.bind_some, Option.join_some, if_true, rI, rI0, rU, rEq, rNe, rStarts, rSlS, lenV_str, tyV, List.map_cons, List.map_nil, List.length_cons, List.length_nil, List.replicate, List.cons_append, List.nil_append, List.append_nil, Nat.reduceAdd, Nat.reduceSub, Nat.zero_add, Nat.add_zero, Nat.sub_self, List.getElem?_cons_zero, List.getElem?_cons_succ, List.set_cons_zero, List.set_cons_succ, Option.some.injEq, V.int.injEq, V.str.injEq, V.ref.injEq, V.bl.injEq, V.ty.injEq, List.cons.injEq, exists_eq_left, exists_eq_left', exists_eq_right, exists_and_left, exists_eq, and_true, true_and, and_self, and_assoc, iRrg, tMeth, tMake, tCMeth, tDIn, tDNotIn, tDPop1, tNever, iRev, tDInN])
    refine M.ob.fld (l := .frames) rfl rfl ⟨_, _, rfl, SqL.of M.fl, ?_⟩
    refine for_rev (K := K) (a := m.fl) (xs := stk.map fun x => V.ref x.a) (fun i σ G => ∃ (v2 : Option V) (fd : V), σ = [some (.ref p), some fd, v2] ∧ G = H ∧ targR mk (stk.reverse.drop i) fd = targR mk stk.reverse .non) ⟨none, _, rfl, rfl, rfl⟩ (fun i σ G _ ⟨_, _, _, e, _⟩ => by rw [e]; exact SqL.of M.fl) ?_ ?_
    · rintro i y σ G hx hi ⟨v2, fd, rfl, rfl, et⟩
      rw [List.length_map] at hx hi
      rw [List.getElem?_map] at hx
      cases eb : stk[stk.length - 1 - i]? with
      | none => rw [eb] at hx; cases hx
      | some x =>
        rw [eb] at hx
        cases hx
        have hm : x ∈ stk := List.mem_of_getElem? eb
        have er : stk.reverse[i]? = some x := by rw [List.getElem?_reverse hi]; exact eb
        have ed : stk.reverse.drop i = x :: stk.reverse.drop (i + 1) := by
          obtain ⟨h1, h2⟩ := List.getElem?_eq_some_iff.mp er
          rw [List.drop_eq_getElem_cons h1, h2]
        rw [ed] at et
        (simp only [tLst, tTup, tDNewK, _root_.L2.start, cxOf_K, cxComp_K, tSeq, tAsg, gName, tRet, tRetN, tDrop, tIfS, tTest, tB, tNot, tAnd, tOr, tAndV, tOrV, tNotV, tOp, tUn, tVar, tC, tCons, tNil, tStrs, tCB, tCall, tChain, tBM, tBM0, tPart, tNoPart, tSl, tIf, tNext, tTrue, selS, Option.bind_none, Option.bind_some, Option.join_some, if_true, rI, rI0, rU, rEq, rNe, rStarts, rSlS, lenV_str, tyV, List.map_cons, List.map_nil, List.length_cons, List.length_nil, List.replicate, List.cons_append, List.nil_append, List.append_nil, Nat.reduceAdd, Nat.reduceSub, Nat.zero_add, Nat.add_zero, Nat.sub_self, List.getElem?_cons_zero, List.getElem?_cons_succ, List.set_cons_zero, List.set_cons_succ, Option.some.injEq, V.int.injEq, V.str.injEq, V.ref.injEq, V.bl.injEq, V.ty.injEq, List.cons.injEq, exists_eq_left, exists_eq_left', exists_eq_right, exists_and_left, exists_eq, and_true, true_and, and_self, and_assoc, iRrg, tMeth, tMake, tCMeth, tDIn, tDNotIn, tDPop1, tNever, iRev, tDInN])
        refine ⟨x.c, (M.fr x hm).mt nf_hides ⟨x.a, x.s, rfl, M.fr x hm, _, rfl, ?_⟩⟩
        by_cases hh : hidesF x.c x.s = true
        · have et : fd = targR mk stk.reverse .non := by rw [← et]; show fd = (if hidesF x.c x.s = true then fd else _); rw [if_pos hh]
          rw [if_pos hh, et]
          exact k
        · have et : targR mk (stk.reverse.drop (i + 1)) (if inM mk x.s.sc = true then x.s.sc else fd) = targR mk stk.reverse .non := by
            rw [← et]; show _ = (if hidesF x.c x.s = true then fd else _); rw [if_neg hh]
          rw [if_neg hh]
          refine (M.fr x hm).fr.fld (l := .scope) rfl rfl (M.ob.fld (l := .marks) rfl rfl ⟨_, rfl, ?_⟩)
          rcases M.sc x hm with e | ⟨j, e⟩
          · rw [e] at et ⊢
            exact ⟨none, .inr ⟨rfl, ⟨_, Rd.of M.mr⟩, rfl⟩, bF rfl ⟨rfl, et⟩⟩
          · rw [e] at et ⊢
            refine ⟨_, .inl (DGet.k (k := Sum.inl j) M.mr), ?_⟩
            have et : targR mk (stk.reverse.drop (i + 1)) (if (valV mk (Sum.inl j : Key)).isSome = true then .int j else fd) = targR mk stk.reverse .non := et
            cases c : (valV mk (Sum.inl j : Key)).isSome with
            | true =>
              rw [c] at et
              exact bT rfl ((M.fr x hm).fr.fld (l := .scope) rfl (show some x.s.sc = some (.int j) by rw [e]) ⟨rfl, et⟩)
            | false =>
              rw [c] at et
              exact bF rfl ⟨rfl, et⟩
    · rintro σ G ⟨v2, fd, rfl, rfl, et⟩
      rw [List.length_map, List.drop_eq_nil_of_le (by rw [List.length_reverse]; exact Nat.le_refl _)] at et
      have et : fd = targR mk stk.reverse .non := et
      rw [et]
      exact ⟨_, rfl, k⟩
theorem sc_Machine_joined : FnScope ["self", "faults"] ["self", "faults"] (defScope (inClass (top 12) 12)) := ⟨rfl, rfl, rfl, by decide +kernel, rfl, by decide +kernel, by decide +kernel⟩
theorem ok_Machine_joined (T : Tx K mg) (G_tell_joined : FnOk P w K mg base CX0 1 T.m_tell_joined.f T.m_tell_joined.fd ["self", "faults"] (spTell T)) : FnOk P w K mg base CX0 2 T.m_Machine_joined.f T.m_Machine_joined.fd ["self", "faults"] (spJoined T) := by
  refine T.m_Machine_joined.F.ok sc_Machine_joined (fun vs H Q E h => ?_) (fun cdv A outer s H vs Q E hr h => ?_)
  · obtain ⟨p, a, stk, x, kv, mk, m, xs, rfl, _⟩ := h
    rfl
  · obtain ⟨p, a, stk, x, kv, mk, m, xs, rfl, M, hc, ha, k⟩ := h
    refine ⟨_, (pss_cons (ps_fld (pv 0) pe_non rfl)
    (pss_one (ps_expr (pe_meth (pe_ix ix_list (pe_fld (pv 0) rfl) (pe_un un_neg pe_int) (fun _ _ => rfl)) (T.cl .grouped) T.m_tell_joined.me G_tell_joined (hr.mono (by omega)) T.m_tell_joined.b .nil pass0 (pa_cons (pv 1) pa_nil))))), ?_⟩
    (simp only [tLst, tTup, tDNewK, _root_.L2.start, cxOf_K, cxComp_K, tSeq, tAsg, gName, tRet, tRetN, tDrop, tIfS, tTest, tB, tNot, tAnd, tOr, tAndV, tOrV, tNotV, tOp, tUn, tVar, tC, tCons, tNil, tStrs, tCB, tCall, tChain, tBM, tBM0, tPart, tNoPart, tSl, tIf, tNext, tTrue, selS, Option.bind_none, Option.bind_some, Option.join_some, if_true, rI, rI0, rU, rEq, rNe, rStarts, rSlS, lenV_str, tyV, List.map_cons, List.map_nil, List.length_cons, List.length_nil, List.replicate, List.cons_append, List.nil_append, List.append_nil, Nat.reduceAdd, Nat.reduceSub, Nat.zero_add, Nat.add_zero, Nat.sub_self, List.getElem?_cons_zero, List.getElem?_cons_succ, List.set_cons_zero, List.set_cons_succ, Option.some.injEq, V.int.injEq, V.str.injEq, V.ref.injEq, V.bl.injEq, V.ty.injEq, List.cons.injEq, exists_eq_left, exists_eq_left', exists_eq_right, exists_and_left, exists_eq, and_true, true_and, and_self, and_assoc, iRrg, tMeth, tMake, tCMeth, tDIn, tDNotIn, tDPop1, tNever, iRev, tDInN])
    refine M.ob.re (l := .want) rfl (fun z => nomatch z) fun H1 b1 F1 => ?_
    rw [g_wt] at F1
    have M1 := M.byP b1 F1 rfl rfl rfl
    have hx : x ∈ stk ++ [x] := List.mem_append_right _ List.mem_cons_self
    have F := M1.fr x hx
    have hf := M1.fl
    rw [List.map_append] at hf
    obtain ⟨_, _, hp, _⟩ := M.ob.ex
    have ha1 := b1.tup hp ha
    rw [hc] at F
    (simp only [tLst, tTup, tDNewK, _root_.L2.start, cxOf_K, cxComp_K, tSeq, tAsg, gName, tRet, tRetN, tDrop, tIfS, tTest, tB, tNot, tAnd, tOr, tAndV, tOrV, tNotV, tOp, tUn, tVar, tC, tCons, tNil, tStrs, tCB, tCall, tChain, tBM, tBM0, tPart, tNoPart, tSl, tIf, tNext, tTrue, selS, Option.bind_none, Option.bind_some, Option.join_some, if_true, rI, rI0, rU, rEq, rNe, rStarts, rSlS, lenV_str, tyV, List.map_cons, List.map_nil, List.length_cons, List.length_nil, List.replicate, List.cons_append, List.nil_append, List.append_nil, Nat.reduceAdd, Nat.reduceSub, Nat.zero_add, Nat.add_zero, Nat.sub_self, List.getElem?_cons_zero, List.getElem?_cons_succ, List.set_cons_zero, List.set_cons_succ, Option.some.injEq, V.int.injEq, V.str.injEq, V.ref.injEq, V.bl.injEq, V.ty.injEq, List.cons.injEq, exists_eq_left, exists_eq_left', exists_eq_right, exists_and_left, exists_eq, and_true, true_and, and_self, and_assoc, iRrg, tMeth, tMake, tCMeth, tDIn, tDNotIn, tDPop1, tNever, iRev, tDInN])
    refine M1.ob.fld (l := .frames) rfl rfl ⟨m.fl, _, _, .ref x.a, rfl, rfl, SqL.of hf, atI_last _ _, ?_⟩
    refine ⟨x.a, rfl, F.mt nf_tell ⟨x.a, a, x.s, xs, rfl, F, ha1, fun H2 b2 F2 => k H2 (fun c o n1 n2 h => b2 c o n2 (b1 c o n1 h)) ?_⟩⟩
    have M2 := M1.byX b2 (s' := { x.s with told := .ref a }) (by rw [hc]; exact F2) rfl
    exact M2
theorem sc_Machine_leave_innermost : FnScope ["self", "frame"] ["self"] (defScope (inClass (top 12) 15)) := ⟨rfl, rfl, rfl, by decide +kernel, rfl, by decide +kernel, by decide +kernel⟩
theorem ok_Machine_leave_innermost (T : Tx K mg) : FnOk P w K mg base CX0 1 T.m_Machine_leave_innermost.f T.m_Machine_leave_innermost.fd ["self"] (spLeaveIn T) := by
  refine T.m_Machine_leave_innermost.F.ok sc_Machine_leave_innermost (fun vs H Q E h => ?_) (fun cdv A outer s H vs Q E hr h => ?_)
  · obtain ⟨p, stk, x, kv, mk, m, rfl, _⟩ := h
    rfl
  · obtain ⟨p, stk, x, kv, mk, m, rfl, M, k⟩ := h
    have hu1 := hu_of hr
    refine ⟨_, (pss_cons (ps_set (i := 1) sc_Machine_leave_innermost.nd rfl (Or.inl rfl) (pe_bm0 PySem.F.plainAttrs_list PySem.F.slot_list_pop PySem.F.type_list_pop mt_pop (pe_fld (pv 0) rfl)))
    (pss_one (ps_if (pt_cmp (pc_dinN hu1 (pe_fld (pv 1) rfl) (pe_fld (pv 0) rfl)))
    (pss_one (ps_expr (pe_dpop1 (pe_fld (pv 0) rfl) (pe_fld (pv 1) rfl) ⟨rfl, rfl, rfl, rfl⟩)))
    pss_nil))), ?_⟩
    (simp only [tLst, tTup, tDNewK, _root_.L2.start, cxOf_K, cxComp_K, tSeq, tAsg, gName, tRet, tRetN, tDrop, tIfS, tTest, tB, tNot, tAnd, tOr, tAndV, tOrV, tNotV, tOp, tUn, tVar, tC, tCons, tNil, tStrs, tCB, tCall, tChain, tBM, tBM0, tPart, tNoPart, tSl, tIf, tNext, tTrue, selS, Option.bind_none, Option.bind_some, Option.join_some, if_true, rI, rI0, rU, rEq, rNe, rStarts, rSlS, lenV_str, tyV, List.map_cons, List.map_nil, List.length_cons, List.length_nil, List.replicate, List.cons_append, List.nil_append, List.append_nil, Nat.reduceAdd, Nat.reduceSub, Nat.zero_add, Nat.add_zero, Nat.sub_self, List.getElem?_cons_zero, List.getElem?_cons_succ, List.set_cons_zero, List.set_cons_succ, Option.some.injEq, V.int.injEq, V.str.injEq, V.ref.injEq, V.bl.injEq, V.ty.injEq, List.cons.injEq, exists_eq_left, exists_eq_left', exists_eq_right, exists_and_left, exists_eq, and_true, true_and, and_self, and_assoc, iRrg, tMeth, tMake, tCMeth, tDIn, tDNotIn, tDPop1, tNever, iRev, tDInN])
    have hx : x ∈ stk ++ [x] := List.mem_append_right _ List.mem_cons_self
    have hf := M.fl
    rw [List.map_append] at hf
    refine M.ob.fld (l := .frames) rfl rfl ⟨.inl ⟨_, SqL.of M.fl⟩, m.fl, _, .ref x.a, rfl, rfl, hf, by simp, ?_⟩
    have e : (stk.map (fun x => V.ref x.a) ++ [x].map fun x => V.ref x.a).dropLast = stk.map fun x => V.ref x.a := by simp
    rw [e]
    have M1 := M.pop
    have F := M.fr x hx
    have b1 : ∀ c o, c ≠ m.fl → H c = some o → (upd H m.fl (.lst (stk.map fun x => V.ref x.a))) c = some o := fun c o n h => by rw [upd_ne n]; exact h
    obtain ⟨dy, gs, h2, h4⟩ := F.fr.ex
    have F1 : FrAt T 11 x.c (upd H m.fl (.lst (stk.map fun x => V.ref x.a))) x.a (gOf x.c x.s) := ⟨dy, gs, b1 _ _ (ne_of h2 M.fl (fun z => nomatch z)) h2, h4⟩
    generalize upd H m.fl (.lst (stk.map fun x => V.ref x.a)) = H1 at M1 b1 F1 ⊢
    refine F1.fld (l := .scope) rfl rfl (M1.ob.fld (l := .marks) rfl rfl ⟨_, rfl, ?_⟩)
    rcases M.sc x hx with es | ⟨j, es⟩
    · rw [es] at k ⊢
      exact ⟨none, .inr ⟨rfl, ⟨_, Rd.of M1.mr⟩, rfl⟩, bF rfl (k H1 (fun c o n1 _ h => b1 c o n1 h) M1)⟩
    · rw [es] at k ⊢
      refine ⟨_, .inl (DGet.k (k := Sum.inl j) M1.mr), ?_⟩
      cases c : (valV mk (Sum.inl j : Key)).isSome with
      | false =>
        refine bF rfl (k H1 (fun c o n1 _ h => b1 c o n1 h) ?_)
        show MAt T H1 p stk kv (dropK mk (Sum.inl j)) m
        rw [leave_no c]
        exact M1
      | true =>
        obtain ⟨v, hv⟩ := Option.isSome_iff_exists.mp c
        exact bT rfl (M1.ob.fld (l := .marks) rfl rfl ⟨_, rfl, .inl ⟨_, Rd.of M1.mr⟩, F1.fld (l := .scope) rfl (show some x.s.sc = some (.int j) by rw [es]) ⟨_, M1.mr, Sum.inl j, rfl, v, hv, k _ (fun c o n1 n2 h => by rw [upd_ne n2]; exact b1 c o n1 h) M1.byR⟩⟩)
theorem sc_Machine_wait_at : FnScope ["self", "want", "target"] ["self", "want"] (defScope (inClass (top 12) 16)) := ⟨rfl, rfl, rfl, by decide +kernel, rfl, by decide +kernel, by decide +kernel⟩
theorem ok_Machine_wait_at (T : Tx K mg)
    (G_Machine_target : FnOk P w K mg base CX0 2 T.m_Machine_target.f T.m_Machine_target.fd ["self"] (spTarget T)) : FnOk P w K mg base CX0 3 T.m_Machine_wait_at.f T.m_Machine_wait_at.fd ["self", "want"] (spWaitAt T) := by
  refine T.m_Machine_wait_at.F.ok sc_Machine_wait_at (fun vs H Q E h => ?_) (fun cdv A outer s H vs Q E hr h => ?_)
  · obtain ⟨p, stk, kv, mk, m, q, rfl, _⟩ := h
    rfl
  · obtain ⟨p, stk, kv, mk, m, q, rfl, M, k1, k2⟩ := h
    refine ⟨_, (pss_cons (ps_set (i := 2) sc_Machine_wait_at.nd rfl (Or.inl rfl) (pe_meth0 (pv 0) T.k_Machine T.m_Machine_target.me G_Machine_target (hr.mono (by omega)) T.m_Machine_target.b .nil pass0))
    (pss_cons (ps_if (pt_cmpR op_notN (pv 2) pe_non (nomark _))
    (pss_cons (ps_fld (pv 0) (pe_tup (pa_cons pe_str (pa_cons (pv 2) pa_nil))) rfl)
    (pss_one (ps_ret pe_non)))
    pss_nil)
    (pss_cons (ps_fld (pv 0) (pv 1) rfl)
    (pss_one (ps_ret (pv 1)))))), ?_⟩
    (simp only [tLst, tTup, tDNewK, _root_.L2.start, cxOf_K, cxComp_K, tSeq, tAsg, gName, tRet, tRetN, tDrop, tIfS, tTest, tB, tNot, tAnd, tOr, tAndV, tOrV, tNotV, tOp, tUn, tVar, tC, tCons, tNil, tStrs, tCB, tCall, tChain, tBM, tBM0, tPart, tNoPart, tSl, tIf, tNext, tTrue, selS, Option.bind_none, Option.bind_some, Option.join_some, if_true, rI, rI0, rU, rEq, rNe, rStarts, rSlS, lenV_str, tyV, List.map_cons, List.map_nil, List.length_cons, List.length_nil, List.replicate, List.cons_append, List.nil_append, List.append_nil, Nat.reduceAdd, Nat.reduceSub, Nat.zero_add, Nat.add_zero, Nat.sub_self, List.getElem?_cons_zero, List.getElem?_cons_succ, List.set_cons_zero, List.set_cons_succ, Option.some.injEq, V.int.injEq, V.str.injEq, V.ref.injEq, V.bl.injEq, V.ty.injEq, List.cons.injEq, exists_eq_left, exists_eq_left', exists_eq_right, exists_and_left, exists_eq, and_true, true_and, and_self, and_assoc, iRrg, tMeth, tMake, tCMeth, tDIn, tDNotIn, tDPop1, tNever, iRev, tDInN])
    refine M.ob.call ⟨p, stk, kv, mk, m, rfl, M, ?_⟩
    rcases targ_is M with e | ⟨i, e⟩
    · rw [e]
      refine bF (by simp) ⟨_, rfl, M.ob.re (l := .want) rfl (fun z => nomatch z) fun H1 b1 F1 => ⟨_, rfl, ?_⟩⟩
      rw [g_wt] at F1
      exact k1 e H1 b1 (M.byP b1 F1 rfl rfl rfl)
    · rw [e]
      refine bT (by simp) ⟨_, rfl, (by show (2 : Nat) ≤ sizeLine; decide), fun t ht => ?_⟩
      have s1 := Same.upd (o := .tup [V.str "strike", .int i]) ht
      have M1 := M.same s1
      refine M1.ob.re (l := .signal) rfl (fun z => nomatch z) fun H2 b2 F2 => ?_
      rw [g_sg] at F2
      obtain ⟨_, _, hp, _⟩ := M1.ob.ex
      exact k2 i e H2 t ((But.of s1).trans b2) (b2 _ _ (ne_of upd_same hp (fun z => nomatch z)) upd_same) (M1.byP b2 F2 rfl rfl rfl)
theorem sc_Machine_leave_group : FnScope ["self", "frame"] ["self", "frame"] (defScope (inClass (top 12) 17)) := ⟨rfl, rfl, rfl, by decide +kernel, rfl, by decide +kernel, by decide +kernel⟩
theorem ok_Machine_leave_group (T : Tx K mg)
    (G_Machine_leave_innermost : FnOk P w K mg base CX0 1 T.m_Machine_leave_innermost.f T.m_Machine_leave_innermost.fd ["self"] (spLeaveIn T)) : FnOk P w K mg base CX0 2 T.m_Machine_leave_group.f T.m_Machine_leave_group.fd ["self", "frame"] (spLeaveG T) := by
  refine T.m_Machine_leave_group.F.ok sc_Machine_leave_group (fun vs H Q E h => ?_) (fun cdv A outer s H vs Q E hr h => ?_)
  · obtain ⟨p, stk, x, mk, m, a, xs, rfl, _⟩ := h
    rfl
  · obtain ⟨p, stk, x, mk, m, a, xs, rfl, M, P, A⟩ := h
    have hu := hu100 hr
    refine ⟨_, (pss_cons (ps_expr (pe_meth0 (pv 0) T.k_Machine T.m_Machine_leave_innermost.me G_Machine_leave_innermost (hr.mono (by omega)) T.m_Machine_leave_innermost.b .nil pass0))
    (pss_mid (ps_if (pt_cmpR (op_neT hu) (pe_fld (pv 1) rfl) (pe_tup pa_nil) (nomark _))
    (pss_one (ps_fld (pv 0) (pe_tup (pa_cons pe_str (pa_cons (pe_fld (pv 1) rfl) pa_nil))) rfl))
    (pss_one (ps_if (pt_cmpR (op_neN hu) (pe_fld (pv 1) rfl) (pe_tup (pa_cons pe_str (pa_cons (pe_fld (pv 1) rfl) pa_nil))) (nomark _))
    (pss_one (ps_fld (pv 0) (pe_fld (pv 1) rfl) rfl))
    pss_nil)))
    (pss_one (ps_ret (pe_tup (pa_cons pe_str (pa_cons (pe_fld (pv 1) rfl) (pa_cons (pe_fld (pv 1) rfl) pa_nil)))))))), ?_⟩
    (simp only [tLst, tTup, tDNewK, _root_.L2.start, cxOf_K, cxComp_K, tSeq, tAsg, gName, tRet, tRetN, tDrop, tIfS, tTest, tB, tNot, tAnd, tOr, tAndV, tOrV, tNotV, tOp, tUn, tVar, tC, tCons, tNil, tStrs, tCB, tCall, tChain, tBM, tBM0, tPart, tNoPart, tSl, tIf, tNext, tTrue, selS, Option.bind_none, Option.bind_some, Option.join_some, if_true, rI, rI0, rU, rEq, rNe, rStarts, rSlS, lenV_str, tyV, List.map_cons, List.map_nil, List.length_cons, List.length_nil, List.replicate, List.cons_append, List.nil_append, List.append_nil, Nat.reduceAdd, Nat.reduceSub, Nat.zero_add, Nat.add_zero, Nat.sub_self, List.getElem?_cons_zero, List.getElem?_cons_succ, List.set_cons_zero, List.set_cons_succ, Option.some.injEq, V.int.injEq, V.str.injEq, V.ref.injEq, V.bl.injEq, V.ty.injEq, List.cons.injEq, exists_eq_left, exists_eq_left', exists_eq_right, exists_and_left, exists_eq, and_true, true_and, and_self, and_assoc, iRrg, tMeth, tMake, tCMeth, tDIn, tDNotIn, tDPop1, tNever, iRev, tDInN])
    refine M.ob.call ⟨p, stk, x, [], mk, m, rfl, M, fun H1 kp M1 => ?_⟩
    have k1 : Kn m.fl m.mr H H1 := Kn.two kp
    have t1 := k1.tk M.fl M.mr
    have F := M.fr x (List.mem_append_right _ List.mem_cons_self)
    obtain ⟨dy, gs, h2, h4⟩ := F.fr.ex
    have hx1 := kp _ _ (ne_of h2 M.fl (fun z => nomatch z)) (ne_of h2 M.mr (fun z => nomatch z)) h2
    have F1 : FrAt T 11 x.c H1 x.a (gOf x.c x.s) := ⟨dy, gs, hx1, h4⟩
    have ha1 := t1 _ _ P.ha
    have gt : gOf x.c x.s .told = some (.ref a) := by
      rw [P.c]
      show some x.s.told = _
      rw [P.told]
    have npx : x.a ≠ p := fun z => (List.nodup_cons.mp M.nd).1 (z ▸ List.mem_map.mpr ⟨x, List.mem_append_right _ List.mem_cons_self, rfl⟩)
    obtain ⟨sj, hsj⟩ := P.sc
    refine ⟨fun σ' G' => σ' = [some (.ref p), some (.ref x.a)] ∧ ∃ sg : V, Kn m.fl m.mr H G' ∧ FrAt T 11 x.c G' x.a (gOf x.c x.s) ∧ MAt T G' p stk [] (leaveF mk x.s.sc) { m with sg := sg } ∧ (xs ≠ [] → ∃ t, sg = .ref t ∧ G' t = some (.tup [.str "faults", .ref a])) ∧ (xs = [] → (x.s.held = .non ∧ sg = .non ∨ ∃ t n, x.s.held = .ref t ∧ H t = some (.tup [.str "strike", .int n]) ∧ (if x.s.sc = .int n then sg = .non else sg = .ref t))), ?_, ?_⟩
    · (simp only [tLst, tTup, tDNewK, _root_.L2.start, cxOf_K, cxComp_K, tSeq, tAsg, gName, tRet, tRetN, tDrop, tIfS, tTest, tB, tNot, tAnd, tOr, tAndV, tOrV, tNotV, tOp, tUn, tVar, tC, tCons, tNil, tStrs, tCB, tCall, tChain, tBM, tBM0, tPart, tNoPart, tSl, tIf, tNext, tTrue, selS, Option.bind_none, Option.bind_some, Option.join_some, if_true, rI, rI0, rU, rEq, rNe, rStarts, rSlS, lenV_str, tyV, List.map_cons, List.map_nil, List.length_cons, List.length_nil, List.replicate, List.cons_append, List.nil_append, List.append_nil, Nat.reduceAdd, Nat.reduceSub, Nat.zero_add, Nat.add_zero, Nat.sub_self, List.getElem?_cons_zero, List.getElem?_cons_succ, List.set_cons_zero, List.set_cons_succ, Option.some.injEq, V.int.injEq, V.str.injEq, V.ref.injEq, V.bl.injEq, V.ty.injEq, List.cons.injEq, exists_eq_left, exists_eq_left', exists_eq_right, exists_and_left, exists_eq, and_true, true_and, and_self, and_assoc, iRrg, tMeth, tMake, tCMeth, tDIn, tDNotIn, tDPop1, tNever, iRev, tDInN])
      refine F1.fld (l := .told) rfl gt ⟨by decide, fun u hu' => ?_⟩
      have s2 := Same.upd (o := .tup []) hu'
      have hu2 : (upd H1 u (.tup [])) u = some (.tup []) := upd_same
      generalize upd H1 u (.tup []) = H2 at s2 hu2 ⊢
      have F2 := F1.same s2
      have M2 := M1.same s2
      obtain ⟨_, _, hP2, _⟩ := M2.ob.ex
      obtain ⟨_, _, hX2, _⟩ := F2.ex
      refine eq_nil (s2 _ _ ha1) hu2 ⟨_, rfl, ?_⟩
      by_cases cx : xs = []
      · refine bF (by simp [cx]) ?_
        refine F2.fld (l := .held) rfl rfl (F2.fld (l := .scope) rfl rfl ⟨by decide, fun v hv => ?_⟩)
        have s3 := Same.upd (o := .tup [V.str "strike", x.s.sc]) hv
        have hv3 : (upd H2 v (.tup [V.str "strike", x.s.sc])) v = some (.tup [V.str "strike", x.s.sc]) := upd_same
        generalize upd H2 v (.tup [V.str "strike", x.s.sc]) = H3 at s3 hv3 ⊢
        have F3 := F2.same s3
        have M3 := M2.same s3
        obtain ⟨_, _, hP3, _⟩ := M3.ob.ex
        obtain ⟨_, _, hX3, _⟩ := F3.ex
        have k3 : Kn m.fl m.mr H H3 := (k1.trans (Kn.of s2)).trans (Kn.of s3)
        have put : ∀ N : St → Hp → Prop, (∀ H4, But p H3 H4 → MAt T H4 p stk [] (leaveF mk x.s.sc) { m with sg := x.s.held } → FrAt T 11 x.c H4 x.a (gOf x.c x.s) → N [some (.ref p), some (.ref x.a)] H4) → sFld K (tVar 0) (tFld K (tVar 1) "held") "signal" { nx := N, rt := Q } [some (.ref p), some (.ref x.a)] H3 := fun N hN => by
          simp only [sFld]
          refine F3.fld (l := .held) rfl rfl ?_
          refine M3.ob.re (l := .signal) rfl (fun z => nomatch z) fun H4 b4 O4 => ?_
          rw [g_sg] at O4
          obtain ⟨dz, gz, z1, z2⟩ := F3.ex
          exact hN H4 b4 (M3.byP b4 O4 rfl rfl rfl) ⟨dz, gz, b4 _ _ npx z1, z2⟩
        rcases P.held with e | ⟨t, n, f1, f2⟩
        · refine .inr ⟨e, _, SqT.of hv3, put _ fun H4 b4 M4 F4 => ⟨rfl, k3.trans (Kn.but b4 hP3), F4, _, M4, (fun z => absurd cx z), fun _ => .inl ⟨e, e⟩⟩⟩
        · refine .inl ?_
          have ht3 := (k3.tk M.fl M.mr) _ _ f2
          by_cases c : x.s.sc = .int n
          · rw [f1]
            rw [c] at hv3
            refine eqT ht3 hv3 rfl (eqI (n := 0) (fun y hy => ?_)) (by decide) ⟨_, rfl, bF rfl ⟨k3, F3, m.sg, M3, (fun z => absurd cx z), fun _ => .inr ⟨t, rfl, n, f2, ?_⟩⟩⟩
            · simp at hy
              rcases hy with rfl | rfl
              · exact .inr ⟨_, rfl⟩
              · exact .inl ⟨_, rfl⟩
            · rw [if_pos c]; exact P.sg
          · have nz : n ≠ sj := fun z => c (by rw [hsj, z])
            rw [f1]
            rw [hsj] at hv3
            refine (⟨t, v, _, _, 0, fun i => if i = 0 then true else false, rfl, rfl, SqT.of ht3, SqT.of hv3, by decide, fun i y z ey ez => ?_, _, rfl, bT rfl (put _ fun H4 b4 M4 F4 => ⟨rfl, k3.trans (Kn.but b4 hP3), F4, _, M4, (fun z => absurd cx z), fun _ => .inr ⟨t, rfl, n, f2, by rw [if_neg c]; exact f1⟩⟩)⟩)
            match i, ey, ez with
            | 0, ey, ez =>
              cases ey; cases ez
              exact .flat rfl rfl
            | 1, ey, ez =>
              cases ey; cases ez
              have q := EqD.flat (K := K) (H := H3) (n := 0) (x := .int n) (y := .int sj) rfl rfl
              have q2 : eqV (.int n) (.int sj) = false := by
                show (n == sj) = false
                simp [nz]
              rw [q2] at q
              exact q
            | i + 2, ey, ez => cases ey
      · refine bT (by simp [cx]) ?_
        have put : ∀ N : St → Hp → Prop, (∀ H4 t, Kn m.fl m.mr H H4 → H4 t = some (.tup [.str "faults", .ref a]) → MAt T H4 p stk [] (leaveF mk x.s.sc) { m with sg := .ref t } → FrAt T 11 x.c H4 x.a (gOf x.c x.s) → N [some (.ref p), some (.ref x.a)] H4) → sFld K (tVar 0) (tTup (tCons (tC (.str "faults")) (tCons (tFld K (tVar 1) "told_faults") tNil))) "signal" { nx := N, rt := Q } [some (.ref p), some (.ref x.a)] H2 := fun N hN => by
          simp only [sFld, tTup, tCons, tNil, tC]
          refine F2.fld (l := .told) rfl gt ⟨(by show (2 : Nat) ≤ sizeLine; decide), fun t ht => ?_⟩
          have s3 := Same.upd (o := .tup [V.str "faults", .ref a]) ht
          have M3 := M2.same s3
          have F3 := F2.same s3
          obtain ⟨_, _, hP3, _⟩ := M3.ob.ex
          refine M3.ob.re (l := .signal) rfl (fun z => nomatch z) fun H4 b4 O4 => ?_
          rw [g_sg] at O4
          obtain ⟨dz, gz, z1, z2⟩ := F3.ex
          exact hN H4 t (((k1.trans (Kn.of s2)).trans (Kn.of s3)).trans (Kn.but b4 hP3)) (b4.tup hP3 upd_same) (M3.byP b4 O4 rfl rfl rfl) ⟨dz, gz, b4 _ _ npx z1, z2⟩
        exact put _ fun H4 t kn4 ht4 M4 F4 => ⟨rfl, kn4, F4, _, M4, fun _ => ⟨t, rfl, ht4⟩, fun z => absurd z cx⟩
    · rintro σ' G ⟨rfl, sg, kn, FG, MG, h1, h2'⟩
      (simp only [tLst, tTup, tDNewK, _root_.L2.start, cxOf_K, cxComp_K, tSeq, tAsg, gName, tRet, tRetN, tDrop, tIfS, tTest, tB, tNot, tAnd, tOr, tAndV, tOrV, tNotV, tOp, tUn, tVar, tC, tCons, tNil, tStrs, tCB, tCall, tChain, tBM, tBM0, tPart, tNoPart, tSl, tIf, tNext, tTrue, selS, Option.bind_none, Option.bind_some, Option.join_some, if_true, rI, rI0, rU, rEq, rNe, rStarts, rSlS, lenV_str, tyV, List.map_cons, List.map_nil, List.length_cons, List.length_nil, List.replicate, List.cons_append, List.nil_append, List.append_nil, Nat.reduceAdd, Nat.reduceSub, Nat.zero_add, Nat.add_zero, Nat.sub_self, List.getElem?_cons_zero, List.getElem?_cons_succ, List.set_cons_zero, List.set_cons_succ, Option.some.injEq, V.int.injEq, V.str.injEq, V.ref.injEq, V.bl.injEq, V.ty.injEq, List.cons.injEq, exists_eq_left, exists_eq_left', exists_eq_right, exists_and_left, exists_eq, and_true, true_and, and_self, and_assoc, iRrg, tMeth, tMake, tCMeth, tDIn, tDNotIn, tDPop1, tNever, iRev, tDInN])
      refine FG.fld (l := .line) rfl rfl (FG.fld (l := .scope) rfl rfl ⟨(by show (3 : Nat) ≤ sizeLine; decide), fun w hw => ?_⟩)
      have sw := Same.upd (o := .tup [V.str "left", .int x.s.line, x.s.sc]) hw
      by_cases cx : xs = []
      · exact A.none_ cx _ w sg (kn.trans (Kn.of sw)) upd_same (h2' cx) (MG.same sw)
      · obtain ⟨t, rfl, ht⟩ := h1 cx
        exact A.some_ cx _ w t (kn.trans (Kn.of sw)) upd_same (sw _ _ ht) (MG.same sw)
theorem sc_Machine_begin_clean_up : FnScope ["self", "frame", "signal"] ["self", "frame", "signal"] (defScope (inClass (top 12) 18)) := ⟨rfl, rfl, rfl, by decide +kernel, rfl, by decide +kernel, by decide +kernel⟩
theorem ok_Machine_begin_clean_up (T : Tx K mg) (G_clean : FnOk P w K mg base CX0 2 T.m_clean.f T.m_clean.fd ["self", "signal"] (spClean T)) : FnOk P w K mg base CX0 3 T.m_Machine_begin_clean_up.f T.m_Machine_begin_clean_up.fd ["self", "frame", "signal"] (spBegClean T) := by
  refine T.m_Machine_begin_clean_up.F.ok sc_Machine_begin_clean_up (fun vs H Q E h => ?_) (fun cdv A outer s H vs Q E hr h => ?_)
  · obtain ⟨p, q, x, s, rfl, _⟩ := h
    rfl
  · obtain ⟨p, q, x, s, rfl, F, k⟩ := h
    refine ⟨_, (pss_cons (ps_expr (pe_meth (pv 1) (T.cl .cleaned) T.m_clean.me G_clean (hr.mono (by omega)) T.m_clean.b .nil pass0 (pa_cons (pv 2) pa_nil)))
    (pss_one (ps_ret (pe_tup (pa_cons pe_str (pa_cons (pe_fld (pv 1) rfl) pa_nil)))))), ?_⟩
    (simp only [tLst, tTup, tDNewK, _root_.L2.start, cxOf_K, cxComp_K, tSeq, tAsg, gName, tRet, tRetN, tDrop, tIfS, tTest, tB, tNot, tAnd, tOr, tAndV, tOrV, tNotV, tOp, tUn, tVar, tC, tCons, tNil, tStrs, tCB, tCall, tChain, tBM, tBM0, tPart, tNoPart, tSl, tIf, tNext, tTrue, selS, Option.bind_none, Option.bind_some, Option.join_some, if_true, rI, rI0, rU, rEq, rNe, rStarts, rSlS, lenV_str, tyV, List.map_cons, List.map_nil, List.length_cons, List.length_nil, List.replicate, List.cons_append, List.nil_append, List.append_nil, Nat.reduceAdd, Nat.reduceSub, Nat.zero_add, Nat.add_zero, Nat.sub_self, List.getElem?_cons_zero, List.getElem?_cons_succ, List.set_cons_zero, List.set_cons_succ, Option.some.injEq, V.int.injEq, V.str.injEq, V.ref.injEq, V.bl.injEq, V.ty.injEq, List.cons.injEq, exists_eq_left, exists_eq_left', exists_eq_right, exists_and_left, exists_eq, and_true, true_and, and_self, and_assoc, iRrg, tMeth, tMake, tCMeth, tDIn, tDNotIn, tDPop1, tNever, iRev, tDInN])
    refine F.mt nf_clean ⟨x, s, .ref q, rfl, F, fun H1 b1 F1 => F1.fr.fld (l := .line) rfl rfl ⟨(by show (2 : Nat) ≤ sizeLine; decide), fun t ht => k _ t (b1.trans (But.of (Same.upd ht))) (F1.same (Same.upd ht)) upd_same⟩⟩
theorem sc_Machine_end_with : FnScope ["self", "outcome"] ["self", "outcome"] (defScope (inClass (top 12) 19)) := ⟨rfl, rfl, rfl, by decide +kernel, rfl, by decide +kernel, by decide +kernel⟩
theorem ok_Machine_end_with (T : Tx K mg) : FnOk P w K mg base CX0 1 T.m_Machine_end_with.f T.m_Machine_end_with.fd ["self", "outcome"] (spEndWith T) := by
  refine T.m_Machine_end_with.F.ok sc_Machine_end_with (fun vs H Q E h => ?_) (fun cdv A outer s H vs Q E hr h => ?_)
  · obtain ⟨p, m, q, rfl, _⟩ := h
    rfl
  · obtain ⟨p, m, q, rfl, F, k⟩ := h
    refine ⟨_, (pss_cons (ps_fld (pv 0) (pe_lst pa_nil) rfl)
    (pss_cons (ps_fld (pv 0) (pv 1) rfl)
    (pss_one (ps_ret (pe_tup (pa_cons pe_str (pa_cons pe_int (pa_cons (pv 1) pa_nil)))))))), ?_⟩
    (simp only [tLst, tTup, tDNewK, _root_.L2.start, cxOf_K, cxComp_K, tSeq, tAsg, gName, tRet, tRetN, tDrop, tIfS, tTest, tB, tNot, tAnd, tOr, tAndV, tOrV, tNotV, tOp, tUn, tVar, tC, tCons, tNil, tStrs, tCB, tCall, tChain, tBM, tBM0, tPart, tNoPart, tSl, tIf, tNext, tTrue, selS, Option.bind_none, Option.bind_some, Option.join_some, if_true, rI, rI0, rU, rEq, rNe, rStarts, rSlS, lenV_str, tyV, List.map_cons, List.map_nil, List.length_cons, List.length_nil, List.replicate, List.cons_append, List.nil_append, List.append_nil, Nat.reduceAdd, Nat.reduceSub, Nat.zero_add, Nat.add_zero, Nat.sub_self, List.getElem?_cons_zero, List.getElem?_cons_succ, List.set_cons_zero, List.set_cons_succ, Option.some.injEq, V.int.injEq, V.str.injEq, V.ref.injEq, V.bl.injEq, V.ty.injEq, List.cons.injEq, exists_eq_left, exists_eq_left', exists_eq_right, exists_and_left, exists_eq, and_true, true_and, and_self, and_assoc, iRrg, tMeth, tMake, tCMeth, tDIn, tDNotIn, tDPop1, tNever, iRev, tDInN])
    refine ⟨by decide, fun l hl => ?_⟩
    have s1 := Same.upd (o := .lst []) hl
    refine (F.same s1).re (l := .frames) rfl (fun z => nomatch z) fun H1 b1 F1 => ?_
    rw [g_fl] at F1
    refine ⟨_, rfl, F1.re (l := .ending) rfl (fun z => nomatch z) fun H2 b2 F2 => ⟨_, rfl, (by show (3 : Nat) ≤ sizeLine; decide), fun t ht => ?_⟩⟩
    rw [g_en] at F2
    exact k _ t l ((But.of s1).trans (b1.trans (b2.trans (But.of (Same.upd ht))))) (F2.same (Same.upd ht)) upd_same
theorem sc_Machine_halt_at : FnScope ["self", "frame", "signal", "faults"] ["self", "frame", "signal"] (defScope (inClass (top 12) 21)) := ⟨rfl, rfl, rfl, by decide +kernel, rfl, by decide +kernel, by decide +kernel⟩
theorem ok_Machine_halt_at (T : Tx K mg) (G_halt : FnOk P w K mg base CX0 2 T.m_halt.f T.m_halt.fd ["self", "signal"] (spHalt T)) : FnOk P w K mg base CX0 3 T.m_Machine_halt_at.f T.m_Machine_halt_at.fd ["self", "frame", "signal"] (spHaltAt T) := by
  refine T.m_Machine_halt_at.F.ok sc_Machine_halt_at (fun vs H Q E h => ?_) (fun cdv A outer s H vs Q E hr h => ?_)
  · obtain ⟨p, x, t, m, s, g, rfl, _⟩ := h
    rfl
  · obtain ⟨p, x, t, m, s, g, rfl, O, px, F, ht, k⟩ := h
    have hu := hu100 hr
    refine ⟨_, (pss_cons (ps_expr (pe_meth (pv 1) (T.cl .grouped) T.m_halt.me G_halt (hr.mono (by omega)) T.m_halt.b .nil pass0 (pa_cons (pv 2) pa_nil)))
    (pss_cons (ps_set (i := 3) sc_Machine_halt_at.nd rfl (Or.inl rfl) (pe_ifExp (pt_cmpR op_eq (pe_ix ix_tup (pv 2) pe_int (fun _ _ => rfl)) pe_str (nomark _)) (pe_ix ix_tup (pv 2) pe_int (fun _ _ => rfl)) (pe_tup pa_nil)))
    (pss_cons (ps_fld (pv 0) (pe_tup (pa_cons pe_str (pa_cons (pe_fld (pv 1) rfl) (pa_cons (pe_fld (pv 1) rfl) (pa_cons (pv 3) pa_nil))))) rfl)
    (pss_one (ps_ret (pe_fld (pv 0) rfl)))))), ?_⟩
    (simp only [tLst, tTup, tDNewK, _root_.L2.start, cxOf_K, cxComp_K, tSeq, tAsg, gName, tRet, tRetN, tDrop, tIfS, tTest, tB, tNot, tAnd, tOr, tAndV, tOrV, tNotV, tOp, tUn, tVar, tC, tCons, tNil, tStrs, tCB, tCall, tChain, tBM, tBM0, tPart, tNoPart, tSl, tIf, tNext, tTrue, selS, Option.bind_none, Option.bind_some, Option.join_some, if_true, rI, rI0, rU, rEq, rNe, rStarts, rSlS, lenV_str, tyV, List.map_cons, List.map_nil, List.length_cons, List.length_nil, List.replicate, List.cons_append, List.nil_append, List.append_nil, Nat.reduceAdd, Nat.reduceSub, Nat.zero_add, Nat.add_zero, Nat.sub_self, List.getElem?_cons_zero, List.getElem?_cons_succ, List.set_cons_zero, List.set_cons_succ, Option.some.injEq, V.int.injEq, V.str.injEq, V.ref.injEq, V.bl.injEq, V.ty.injEq, List.cons.injEq, exists_eq_left, exists_eq_left', exists_eq_right, exists_and_left, exists_eq, and_true, true_and, and_self, and_assoc, iRrg, tMeth, tMake, tCMeth, tDIn, tDNotIn, tDPop1, tNever, iRev, tDInN])
    refine F.mt nf_halt ⟨x, t, s, g, rfl, F, ht, fun H1 a kp F1 => ?_⟩
    obtain ⟨dx, fs, hp, hF⟩ := O.ex
    have O1 : ObAt T 9 H1 p m.g := ⟨dx, fs, kp _ _ px hp, hF⟩
    obtain ⟨_, _, hx, _⟩ := F.fr.ex
    have tk1 : Tk H H1 := fun c o h => kp _ _ (ne_of h hx (fun z => nomatch z)) h
    have ht1 := ht.tk tk1
    cases g with
    | strike n =>
      refine ⟨t, _, _, .str "strike", rfl, rfl, SqT.of ht1, atI_nat (j := 0) rfl, rfl, ifF (fun z => absurd (V.str.inj z) (by decide +kernel)) ⟨by decide, fun u hu' => ?_⟩⟩
      have s2 := Same.upd (o := .tup []) hu'
      have F2 := F1.same s2
      have O2 := O1.same s2
      simp only [sFld, tTup, tCons, tNil, tC]
      refine F2.fr.fld (l := .line) rfl rfl (F2.fr.fld (l := .scope) rfl rfl ⟨_, rfl, (by show (4 : Nat) ≤ sizeLine; decide), fun w0 hw => ?_⟩)
      have s3 := Same.upd (o := .tup [V.str "halt", .int s.line, s.sc, .ref u]) hw
      refine (O2.same s3).re (l := .want) rfl (fun z => nomatch z) fun H4 b4 O4 => ?_
      rw [g_wt] at O4
      obtain ⟨_, _, hp3, _⟩ := (O2.same s3).ex
      refine O4.fld (l := .want) rfl rfl (k H4 w0 u a (fun c o n1 n2 h => b4 c o n1 (s3 _ _ (s2 _ _ (kp c o n2 h)))) (b4.tup hp3 upd_same) (b4.tup hp3 (s3 _ _ upd_same)) ?_ O4)
      have F3 := F2.same s3
      exact F3.off b4 (Ne.symm px) hp3
    | faults z r =>
      obtain ⟨u, h1, h2⟩ := ht1
      refine ⟨t, _, _, .str "faults", rfl, rfl, SqT.of h1, atI_nat (j := 0) rfl, rfl, ifT rfl ⟨t, _, _, .ref u, rfl, rfl, SqT.of h1, atI_nat (j := 1) rfl, ?_⟩⟩
      simp only [sFld, tTup, tCons, tNil, tC]
      refine F1.fr.fld (l := .line) rfl rfl (F1.fr.fld (l := .scope) rfl rfl ⟨_, rfl, (by show (4 : Nat) ≤ sizeLine; decide), fun w0 hw => ?_⟩)
      have s3 := Same.upd (o := .tup [V.str "halt", .int s.line, s.sc, .ref u]) hw
      refine (O1.same s3).re (l := .want) rfl (fun z => nomatch z) fun H4 b4 O4 => ?_
      rw [g_wt] at O4
      obtain ⟨_, _, hp3, _⟩ := (O1.same s3).ex
      refine O4.fld (l := .want) rfl rfl (k H4 w0 u a (fun c o n1 n2 h => b4 c o n1 (s3 _ _ (kp c o n2 h))) (b4.tup hp3 upd_same) (b4.tup hp3 (s3 _ _ h2)) ?_ O4)
      have F3 := F1.same s3
      exact F3.off b4 (Ne.symm px) hp3
theorem sc_Machine_value_of : FnScope ["self", "value"] ["self", "value"] (defScope (inClass (top 12) 22)) := ⟨rfl, rfl, rfl, by decide +kernel, rfl, by decide +kernel, by decide +kernel⟩
theorem ok_Machine_value_of (T : Tx K mg)
    (G_is_name_of_value : FnOk P w K mg base CX0 1 T.d_is_name_of_value.f T.d_is_name_of_value.fd ["value"] (spIsName)) : FnOk P w K mg base CX0 2 T.m_Machine_value_of.f T.m_Machine_value_of.fd ["self", "value"] (spValueOf T) := by
  refine T.m_Machine_value_of.F.ok sc_Machine_value_of (fun vs H Q E h => ?_) (fun cdv A outer s H vs Q E hr h => ?_)
  · obtain ⟨p, m, v, rfl, _⟩ := h
    rfl
  · obtain ⟨p, m, v, rfl, F, hn, hv, k⟩ := h
    have hu1 := hu_of hr
    refine ⟨_, (pss_one (ps_ret (pe_ifExp (pt_val (pe_call G_is_name_of_value (hr.mono (by omega)) rfl T.d_is_name_of_value.hm T.d_is_name_of_value.F.kp T.d_is_name_of_value.b .nil pass0 (pa_cons (pv 1) pa_nil))) (pe_dget2 hu1 (pe_fld (pv 0) rfl) (pv 1) pe_int ⟨rfl, rfl, rfl, rfl⟩) (pv 1)))), ?_⟩
    (simp only [tLst, tTup, tDNewK, _root_.L2.start, cxOf_K, cxComp_K, tSeq, tAsg, gName, tRet, tRetN, tDrop, tIfS, tTest, tB, tNot, tAnd, tOr, tAndV, tOrV, tNotV, tOp, tUn, tVar, tC, tCons, tNil, tStrs, tCB, tCall, tChain, tBM, tBM0, tPart, tNoPart, tSl, tIf, tNext, tTrue, selS, Option.bind_none, Option.bind_some, Option.join_some, if_true, rI, rI0, rU, rEq, rNe, rStarts, rSlS, lenV_str, tyV, List.map_cons, List.map_nil, List.length_cons, List.length_nil, List.replicate, List.cons_append, List.nil_append, List.append_nil, Nat.reduceAdd, Nat.reduceSub, Nat.zero_add, Nat.add_zero, Nat.sub_self, List.getElem?_cons_zero, List.getElem?_cons_succ, List.set_cons_zero, List.set_cons_succ, Option.some.injEq, V.int.injEq, V.str.injEq, V.ref.injEq, V.bl.injEq, V.ty.injEq, List.cons.injEq, exists_eq_left, exists_eq_left', exists_eq_right, exists_and_left, exists_eq, and_true, true_and, and_self, and_assoc, iRrg, tMeth, tMake, tCMeth, tDIn, tDNotIn, tDPop1, tNever, iRev, tDInN])
    rcases hv with rfl | rfl
    · exact ⟨_, rfl, .inl ⟨⟨0, rfl⟩, _, rfl, bF rfl k⟩⟩
    · exact ⟨_, rfl, .inr ⟨rfl, _, rfl, bT rfl (F.fld (l := .values) rfl rfl ⟨_, rfl, .inl ⟨_, Rd.of hn⟩, _, rfl, _, DGet.k (k := Sum.inr ("x" : Str)) hn, k⟩)⟩⟩
theorem sc_Machine_enter_scope : FnScope ["self", "row", "scope"] ["self", "row"] (defScope (inClass (top 12) 25)) := ⟨rfl, rfl, rfl, by decide +kernel, rfl, by decide +kernel, by decide +kernel⟩
theorem ok_Machine_enter_scope (T : Tx K mg) (G_i_frame : FnOk P w K mg base CX0 1 T.i_frame.f T.i_frame.fd ["self", "rows", "line", "scope"] (spFInit T)) (G_i_rounds : FnOk P w K mg base CX0 2 T.i_rounds.f T.i_rounds.fd ["self", "rows", "line", "many"] (spI T .rounds)) (G_i_kept : FnOk P w K mg base CX0 1 T.i_kept.f T.i_kept.fd ["self", "rows", "line", "scope"] (spFInit T)) (G_i_tried : FnOk P w K mg base CX0 2 T.i_tried.f T.i_tried.fd ["self", "rows", "line", "fault", "others"] (spI T .tried)) (G_i_cleaned : FnOk P w K mg base CX0 2 T.i_cleaned.f T.i_cleaned.fd ["self", "rows", "line", "others"] (spI T .cleaned)) (G_i_limited : FnOk P w K mg base CX0 2 T.i_limited.f T.i_limited.fd ["self", "rows", "line", "scope", "others"] (spI T .limited)) (G_i_grouped : FnOk P w K mg base CX0 2 T.i_grouped.f T.i_grouped.fd ["self", "rows", "line", "scope", "named"] (spI T .grouped)) : FnOk P w K mg base CX0 4 T.m_Machine_enter_scope.f T.m_Machine_enter_scope.fd ["self", "row"] (spEnter T) := by
  refine T.m_Machine_enter_scope.F.ok sc_Machine_enter_scope (fun vs H Q E h => ?_) (fun cdv A outer s H vs Q E hr h => ?_)
  · obtain ⟨p, q, stk, kv, mk, m, rfl, _⟩ := h
    rfl
  · obtain ⟨p, q, stk, kv, mk, m, rfl, M, hl, hk⟩ := h
    have hu := hu100 hr
    refine ⟨_, (pss_cons (ps_fld (pv 0) (pe_op op_add (pe_fld (pv 0) rfl) pe_int) rfl)
    (pss_cons (ps_set (i := 2) sc_Machine_enter_scope.nd rfl (Or.inl rfl) (pe_fld (pv 0) rfl))
    (pss_cons (ps_if (pt_cmpR op_eq (pe_ix ix_tup (pv 1) pe_int (fun _ _ => rfl)) pe_str (nomark _))
    (pss_cons (ps_expr (pe_bm PySem.F.plainAttrs_list PySem.F.slot_list_append PySem.F.type_list_append mt_append (pe_fld (pv 0) rfl) (pa_cons (pe_make T.M_grouped G_i_grouped (hr.mono (by omega)) rfl T.h_grouped T.i_grouped.b .nil pass0 (pa_cons (pe_ix ix_tup (pv 1) pe_int (fun _ _ => rfl)) (pa_cons (pe_ix ix_tup (pv 1) pe_int (fun _ _ => rfl)) (pa_cons (pv 2) (pa_cons (pe_ix ix_tup (pv 1) pe_int (fun _ _ => rfl)) pa_nil))))) pa_nil)))
    (pss_one (ps_ret (pe_tup (pa_cons pe_str (pa_cons (pe_ix ix_tup (pv 1) pe_int (fun _ _ => rfl)) (pa_cons (pv 2) pa_nil)))))))
    pss_nil)
    (pss_cons (ps_expr (pe_bm PySem.F.plainAttrs_list PySem.F.slot_list_append PySem.F.type_list_append mt_append (pe_fld (pv 0) rfl) (pa_cons (pe_make T.M_limited G_i_limited (hr.mono (by omega)) rfl T.h_limited T.i_limited.b .nil pass0 (pa_cons (pe_ix ix_tup (pv 1) pe_int (fun _ _ => rfl)) (pa_cons (pe_ix ix_tup (pv 1) pe_int (fun _ _ => rfl)) (pa_cons (pv 2) (pa_cons (pe_ix ix_tup (pv 1) pe_int (fun _ _ => rfl)) pa_nil))))) pa_nil)))
    (pss_one (ps_ret (pe_tup (pa_cons pe_str (pa_cons (pe_ix ix_tup (pv 1) pe_int (fun _ _ => rfl)) (pa_cons (pv 2) (pa_cons (pe_ix ix_tup (pv 1) pe_int (fun _ _ => rfl)) pa_nil))))))))))), ?_⟩
    (simp only [tLst, tTup, tDNewK, _root_.L2.start, cxOf_K, cxComp_K, tSeq, tAsg, gName, tRet, tRetN, tDrop, tIfS, tTest, tB, tNot, tAnd, tOr, tAndV, tOrV, tNotV, tOp, tUn, tVar, tC, tCons, tNil, tStrs, tCB, tCall, tChain, tBM, tBM0, tPart, tNoPart, tSl, tIf, tNext, tTrue, selS, Option.bind_none, Option.bind_some, Option.join_some, if_true, rI, rI0, rU, rEq, rNe, rStarts, rSlS, lenV_str, tyV, List.map_cons, List.map_nil, List.length_cons, List.length_nil, List.replicate, List.cons_append, List.nil_append, List.append_nil, Nat.reduceAdd, Nat.reduceSub, Nat.zero_add, Nat.add_zero, Nat.sub_self, List.getElem?_cons_zero, List.getElem?_cons_succ, List.set_cons_zero, List.set_cons_succ, Option.some.injEq, V.int.injEq, V.str.injEq, V.ref.injEq, V.bl.injEq, V.ty.injEq, List.cons.injEq, exists_eq_left, exists_eq_left', exists_eq_right, exists_and_left, exists_eq, and_true, true_and, and_self, and_assoc, iRrg, tMeth, tMake, tCMeth, tDIn, tDNotIn, tDPop1, tNever, iRev, tDInN])
    simp only [sFld, tOp, tC]
    refine M.ob.fld (l := .lastS) rfl rfl ⟨_, _, rfl, rfl, M.ob.re (l := .lastS) rfl (fun z => nomatch z) fun H1 b1 F1 => ?_⟩
    rw [g_ls] at F1
    have M1 := M.byP b1 F1 rfl rfl rfl
    obtain ⟨_, _, hp, _⟩ := M.ob.ex
    have tk : ∀ {c xs}, H c = some (.tup xs) → H1 c = some (.tup xs) := fun {c xs} h => b1 _ _ (ne_of h hp (fun z => nomatch z)) h
    (simp only [tLst, tTup, tDNewK, _root_.L2.start, cxOf_K, cxComp_K, tSeq, tAsg, gName, tRet, tRetN, tDrop, tIfS, tTest, tB, tNot, tAnd, tOr, tAndV, tOrV, tNotV, tOp, tUn, tVar, tC, tCons, tNil, tStrs, tCB, tCall, tChain, tBM, tBM0, tPart, tNoPart, tSl, tIf, tNext, tTrue, selS, Option.bind_none, Option.bind_some, Option.join_some, if_true, rI, rI0, rU, rEq, rNe, rStarts, rSlS, lenV_str, tyV, List.map_cons, List.map_nil, List.length_cons, List.length_nil, List.replicate, List.cons_append, List.nil_append, List.append_nil, Nat.reduceAdd, Nat.reduceSub, Nat.zero_add, Nat.add_zero, Nat.sub_self, List.getElem?_cons_zero, List.getElem?_cons_succ, List.set_cons_zero, List.set_cons_succ, Option.some.injEq, V.int.injEq, V.str.injEq, V.ref.injEq, V.bl.injEq, V.ty.injEq, List.cons.injEq, exists_eq_left, exists_eq_left', exists_eq_right, exists_and_left, exists_eq, and_true, true_and, and_self, and_assoc, iRrg, tMeth, tMake, tCMeth, tDIn, tDNotIn, tDPop1, tNever, iRev, tDInN])
    refine M1.ob.fld (l := .lastS) rfl rfl ?_
    rcases hk with ⟨ln, nm, ra, rows, hq, hr0, hlr, k⟩ | ⟨ln, n, ra, oa, rows, others, hq, hr0, ho0, hlr, hlo, k⟩
    · have hq1 := tk hq
      have hr1 := tk hr0
      refine ⟨q, _, _, .str "group", rfl, rfl, SqT.of hq1, atI_nat (j := 0) rfl, rfl, ifT rfl (M1.ob.fld (l := .frames) rfl rfl ⟨.inl ⟨_, SqL.of M1.fl⟩, q, _, _, .ref ra, rfl, rfl, SqT.of hq1, atI_nat (j := 3) rfl, q, _, _, .int ln, rfl, rfl, SqT.of hq1, atI_nat (j := 1) rfl, q, _, _, .str nm, rfl, rfl, SqT.of hq1, atI_nat (j := 2) rfl, fun x dx nx ndx nex => ?_⟩)⟩
      obtain ⟨F0, s0⟩ := mk_new (T := T) (c := .grouped) nx ndx nex
      refine ⟨x, grpS ln ra rows (m.ls + 1) (.str nm), rfl, ⟨rfl, rfl, (fun z => absurd rfl z), (fun z => by rcases z with z | z | z <;> cases z), (fun z => by cases z), fun _ => rfl⟩, F0, s0 _ _ hr1, s0 _ _ hr1, hlr, hlr, fun H2 b2 F2 => ⟨rfl, ?_⟩⟩
      have s2 := same_new nx s0 b2
      refine ⟨m.fl, _, _, rfl, rfl, s2 _ _ M1.fl, by rw [List.length_map]; exact small1000 (by omega), ?_⟩
      have M3 := M1.push (x := ⟨x, .grouped, grpS ln ra rows (m.ls + 1) (.str nm)⟩) s2 nx F2 (.inr ⟨_, rfl⟩)
      have e : (stk ++ [(⟨x, .grouped, grpS ln ra rows (m.ls + 1) (.str nm)⟩ : Fm)]).map (fun x => V.ref x.a) = stk.map (fun x => V.ref x.a) ++ [V.ref x] := by simp
      rw [e] at M3
      have hq3 : (upd H2 m.fl (.lst (stk.map (fun x => V.ref x.a) ++ [V.ref x]))) q = some (.tup [.str "group", .int ln, .str nm, .ref ra]) := by rw [upd_ne (ne_of (s2 _ _ hq1) (s2 _ _ M1.fl) (fun z => nomatch z))]; exact s2 _ _ hq1
      have kp : ∀ c o, c ≠ p → c ≠ m.fl → H c = some o → (upd H2 m.fl (.lst (stk.map (fun x => V.ref x.a) ++ [V.ref x]))) c = some o := fun c o n1 n2 h => by rw [upd_ne n2]; exact s2 _ _ (b1 c o n1 h)
      have hx : H x = none := by
        cases ex : H x with
        | none => rfl
        | some o =>
          obtain ⟨_, _, hp1, _⟩ := M1.ob.ex
          have := b1 x o (fun z => by rw [z, hp1] at nx; cases nx) ex
          rw [nx] at this; cases this
      exact ⟨q, _, _, .int ln, rfl, rfl, SqT.of hq3, atI_nat (j := 1) rfl, (by show (3 : Nat) ≤ sizeLine; decide), fun t ht => k x t _ (fun c o n1 n2 h => (Same.upd ht) _ _ (kp c o n1 n2 h)) hx upd_same (M3.same (Same.upd ht))⟩
    · have hq1 := tk hq
      have hr1 := tk hr0
      have ho1 := tk ho0
      refine ⟨q, _, _, .str "limit", rfl, rfl, SqT.of hq1, atI_nat (j := 0) rfl, rfl, ifF (fun z => absurd (V.str.inj z) (by decide +kernel)) (M1.ob.fld (l := .frames) rfl rfl ⟨.inl ⟨_, SqL.of M1.fl⟩, q, _, _, .ref ra, rfl, rfl, SqT.of hq1, atI_nat (j := 3) rfl, q, _, _, .int ln, rfl, rfl, SqT.of hq1, atI_nat (j := 1) rfl, q, _, _, .ref oa, rfl, rfl, SqT.of hq1, atI_nat (j := 4) rfl, fun x dx nx ndx nex => ?_⟩)⟩
      obtain ⟨F0, s0⟩ := mk_new (T := T) (c := .limited) nx ndx nex
      refine ⟨x, limS ln ra rows oa others (m.ls + 1), rfl, ⟨rfl, rfl, (fun _ => rfl), (fun z => by rcases z with z | z | z <;> cases z), (fun z => by cases z), (fun z => by cases z)⟩, F0, s0 _ _ hr1, s0 _ _ ho1, hlr, hlo, fun H2 b2 F2 => ⟨rfl, ?_⟩⟩
      have s2 := same_new nx s0 b2
      refine ⟨m.fl, _, _, rfl, rfl, s2 _ _ M1.fl, by rw [List.length_map]; exact small1000 (by omega), ?_⟩
      have M3 := M1.push (x := ⟨x, .limited, limS ln ra rows oa others (m.ls + 1)⟩) s2 nx F2 (.inr ⟨_, rfl⟩)
      have e : (stk ++ [(⟨x, .limited, limS ln ra rows oa others (m.ls + 1)⟩ : Fm)]).map (fun x => V.ref x.a) = stk.map (fun x => V.ref x.a) ++ [V.ref x] := by simp
      rw [e] at M3
      have hq3 : (upd H2 m.fl (.lst (stk.map (fun x => V.ref x.a) ++ [V.ref x]))) q = some (.tup [.str "limit", .int ln, .int n, .ref ra, .ref oa]) := by rw [upd_ne (ne_of (s2 _ _ hq1) (s2 _ _ M1.fl) (fun z => nomatch z))]; exact s2 _ _ hq1
      have kp : ∀ c o, c ≠ p → c ≠ m.fl → H c = some o → (upd H2 m.fl (.lst (stk.map (fun x => V.ref x.a) ++ [V.ref x]))) c = some o := fun c o n1 n2 h => by rw [upd_ne n2]; exact s2 _ _ (b1 c o n1 h)
      have hx : H x = none := by
        cases ex : H x with
        | none => rfl
        | some o =>
          obtain ⟨_, _, hp1, _⟩ := M1.ob.ex
          have := b1 x o (fun z => by rw [z, hp1] at nx; cases nx) ex
          rw [nx] at this; cases this
      exact ⟨q, _, _, .int ln, rfl, rfl, SqT.of hq3, atI_nat (j := 1) rfl, q, _, _, .int n, rfl, rfl, SqT.of hq3, atI_nat (j := 2) rfl, (by show (4 : Nat) ≤ sizeLine; decide), fun t ht => k x t _ (fun c o n1 n2 h => (Same.upd ht) _ _ (kp c o n1 n2 h)) hx upd_same (M3.same (Same.upd ht))⟩
theorem sc_Machine_do_quietly : FnScope ["self", "row"] ["self", "row"] (defScope (inClass (top 12) 26)) := ⟨rfl, rfl, rfl, by decide +kernel, rfl, by decide +kernel, by decide +kernel⟩
theorem ok_Machine_do_quietly (T : Tx K mg) (G_i_frame : FnOk P w K mg base CX0 1 T.i_frame.f T.i_frame.fd ["self", "rows", "line", "scope"] (spFInit T)) (G_i_rounds : FnOk P w K mg base CX0 2 T.i_rounds.f T.i_rounds.fd ["self", "rows", "line", "many"] (spI T .rounds)) (G_i_kept : FnOk P w K mg base CX0 1 T.i_kept.f T.i_kept.fd ["self", "rows", "line", "scope"] (spFInit T)) (G_i_tried : FnOk P w K mg base CX0 2 T.i_tried.f T.i_tried.fd ["self", "rows", "line", "fault", "others"] (spI T .tried)) (G_i_cleaned : FnOk P w K mg base CX0 2 T.i_cleaned.f T.i_cleaned.fd ["self", "rows", "line", "others"] (spI T .cleaned)) (G_i_limited : FnOk P w K mg base CX0 2 T.i_limited.f T.i_limited.fd ["self", "rows", "line", "scope", "others"] (spI T .limited)) (G_i_grouped : FnOk P w K mg base CX0 2 T.i_grouped.f T.i_grouped.fd ["self", "rows", "line", "scope", "named"] (spI T .grouped))
    (G_Machine_value_of : FnOk P w K mg base CX0 2 T.m_Machine_value_of.f T.m_Machine_value_of.fd ["self", "value"] (spValueOf T)) : FnOk P w K mg base CX0 4 T.m_Machine_do_quietly.f T.m_Machine_do_quietly.fd ["self", "row"] (spQuiet T) := by
  refine T.m_Machine_do_quietly.F.ok sc_Machine_do_quietly (fun vs H Q E h => ?_) (fun cdv A outer s H vs Q E hr h => ?_)
  · obtain ⟨p, q, stk, mk, m, c, s, rfl, _⟩ := h
    rfl
  · obtain ⟨p, q, stk, mk, m, c, s, rfl, M, hl, hq, N, k⟩ := h
    have hu := hu100 hr
    have hu1 := hu_of hr
    refine ⟨_, (pss_one (ps_if (pt_cmpR op_eq (pe_ix ix_tup (pv 1) pe_int (fun _ _ => rfl)) pe_str (nomark _))
    (pss_one ps_never)
    (pss_one (ps_if (pt_cmpR op_eq (pe_ix ix_tup (pv 1) pe_int (fun _ _ => rfl)) pe_str (nomark _))
    (pss_one ps_never)
    (pss_one (ps_if (pt_cmpR op_eq (pe_ix ix_tup (pv 1) pe_int (fun _ _ => rfl)) pe_str (nomark _))
    (pss_one (ps_if (pt_cmpR (op_eqM hu) (pe_meth (pv 0) T.k_Machine T.m_Machine_value_of.me G_Machine_value_of (hr.mono (by omega)) T.m_Machine_value_of.b .nil pass0 (pa_cons (pe_ix ix_tup (pv 1) pe_int (fun _ _ => rfl)) pa_nil)) (pe_meth (pv 0) T.k_Machine T.m_Machine_value_of.me G_Machine_value_of (hr.mono (by omega)) T.m_Machine_value_of.b .nil pass0 (pa_cons (pe_ix ix_tup (pv 1) pe_int (fun _ _ => rfl)) pa_nil)) (nomark _))
    (pss_one (ps_expr (pe_bm PySem.F.plainAttrs_list PySem.F.slot_list_append PySem.F.type_list_append mt_append (pe_fld (pv 0) rfl) (pa_cons (pe_make T.M_frame G_i_frame (hr.mono (by omega)) rfl T.h_frame T.i_frame.b1 (show Vals [V.non] [Value.none] from .cons rfl .nil) pass0 (pa_cons (pe_ix ix_tup (pv 1) pe_int (fun _ _ => rfl)) (pa_cons (pe_ix ix_tup (pv 1) pe_int (fun _ _ => rfl)) pa_nil))) pa_nil))))
    pss_nil))
    (pss_one (ps_if (pt_cmpR op_eq (pe_ix ix_tup (pv 1) pe_int (fun _ _ => rfl)) pe_str (nomark _))
    (pss_one (ps_expr (pe_bm PySem.F.plainAttrs_list PySem.F.slot_list_append PySem.F.type_list_append mt_append (pe_fld (pv 0) rfl) (pa_cons (pe_make T.M_rounds G_i_rounds (hr.mono (by omega)) rfl T.h_rounds T.i_rounds.b .nil pass0 (pa_cons (pe_ix ix_tup (pv 1) pe_int (fun _ _ => rfl)) (pa_cons (pe_ix ix_tup (pv 1) pe_int (fun _ _ => rfl)) (pa_cons (pe_ix ix_tup (pv 1) pe_int (fun _ _ => rfl)) pa_nil)))) pa_nil))))
    (pss_one (ps_if (pt_cmpR op_eq (pe_ix ix_tup (pv 1) pe_int (fun _ _ => rfl)) pe_str (nomark _))
    (pss_one (ps_expr (pe_bm PySem.F.plainAttrs_list PySem.F.slot_list_append PySem.F.type_list_append mt_append (pe_fld (pv 0) rfl) (pa_cons (pe_make T.M_kept G_i_kept (hr.mono (by omega)) rfl T.h_kept T.i_kept.b1 (show Vals [V.non] [Value.none] from .cons rfl .nil) pass0 (pa_cons (pe_ix ix_tup (pv 1) pe_int (fun _ _ => rfl)) (pa_cons (pe_ix ix_tup (pv 1) pe_int (fun _ _ => rfl)) pa_nil))) pa_nil))))
    (pss_one (ps_if (pt_cmpR op_eq (pe_ix ix_tup (pv 1) pe_int (fun _ _ => rfl)) pe_str (nomark _))
    (pss_one (ps_expr (pe_bm PySem.F.plainAttrs_list PySem.F.slot_list_append PySem.F.type_list_append mt_append (pe_fld (pv 0) rfl) (pa_cons (pe_make T.M_tried G_i_tried (hr.mono (by omega)) rfl T.h_tried T.i_tried.b .nil pass0 (pa_cons (pe_ix ix_tup (pv 1) pe_int (fun _ _ => rfl)) (pa_cons (pe_ix ix_tup (pv 1) pe_int (fun _ _ => rfl)) (pa_cons (pe_ix ix_tup (pv 1) pe_int (fun _ _ => rfl)) (pa_cons (pe_ix ix_tup (pv 1) pe_int (fun _ _ => rfl)) pa_nil))))) pa_nil))))
    (pss_one (ps_expr (pe_bm PySem.F.plainAttrs_list PySem.F.slot_list_append PySem.F.type_list_append mt_append (pe_fld (pv 0) rfl) (pa_cons (pe_make T.M_cleaned G_i_cleaned (hr.mono (by omega)) rfl T.h_cleaned T.i_cleaned.b .nil pass0 (pa_cons (pe_ix ix_tup (pv 1) pe_int (fun _ _ => rfl)) (pa_cons (pe_ix ix_tup (pv 1) pe_int (fun _ _ => rfl)) (pa_cons (pe_ix ix_tup (pv 1) pe_int (fun _ _ => rfl)) pa_nil)))) pa_nil)))))))))))))))), ?_⟩
    (simp only [tLst, tTup, tDNewK, _root_.L2.start, cxOf_K, cxComp_K, tSeq, tAsg, gName, tRet, tRetN, tDrop, tIfS, tTest, tB, tNot, tAnd, tOr, tAndV, tOrV, tNotV, tOp, tUn, tVar, tC, tCons, tNil, tStrs, tCB, tCall, tChain, tBM, tBM0, tPart, tNoPart, tSl, tIf, tNext, tTrue, selS, Option.bind_none, Option.bind_some, Option.join_some, if_true, rI, rI0, rU, rEq, rNe, rStarts, rSlS, lenV_str, tyV, List.map_cons, List.map_nil, List.length_cons, List.length_nil, List.replicate, List.cons_append, List.nil_append, List.append_nil, Nat.reduceAdd, Nat.reduceSub, Nat.zero_add, Nat.add_zero, Nat.sub_self, List.getElem?_cons_zero, List.getElem?_cons_succ, List.set_cons_zero, List.set_cons_succ, Option.some.injEq, V.int.injEq, V.str.injEq, V.ref.injEq, V.bl.injEq, V.ty.injEq, List.cons.injEq, exists_eq_left, exists_eq_left', exists_eq_right, exists_and_left, exists_eq, and_true, true_and, and_self, and_assoc, iRrg, tMeth, tMake, tCMeth, tDIn, tDNotIn, tDPop1, tNever, iRev, tDInN])
    cases c with
    | frame =>
      have hq : H q = some (.tup [.str "when", .int s.line, .str "x", .int 0, .ref s.ra]) := hq
      refine ⟨q, _, _, .str "when", rfl, rfl, SqT.of hq, atI_nat (j := 0) rfl, rfl, ifF (fun z => absurd (V.str.inj z) (by decide +kernel)) ⟨q, _, _, .str "when", rfl, rfl, SqT.of hq, atI_nat (j := 0) rfl, rfl, ifF (fun z => absurd (V.str.inj z) (by decide +kernel)) ⟨q, _, _, .str "when", rfl, rfl, SqT.of hq, atI_nat (j := 0) rfl, rfl, ifT rfl (M.ob.call ⟨q, _, _, _, rfl, rfl, SqT.of hq, atI_nat (j := 2) rfl, p, m, _, rfl, M.ob, M.nv, .inr rfl, M.ob.call ⟨q, _, _, _, rfl, rfl, SqT.of hq, atI_nat (j := 3) rfl, p, m, _, rfl, M.ob, M.nv, .inl rfl, ?_⟩⟩)⟩⟩⟩
      refine .inl ⟨rfl, ifT rfl (M.ob.fld (l := .frames) rfl rfl ⟨.inl ⟨_, SqL.of M.fl⟩, q, _, _, _, rfl, rfl, SqT.of hq, atI_nat (j := 4) rfl, q, _, _, _, rfl, rfl, SqT.of hq, atI_nat (j := 1) rfl, fun x dx nx ndx nex => ?_⟩)⟩
      obtain ⟨F0, s0⟩ := mk_new (T := T) (c := .frame) nx ndx nex
      refine ⟨.frame, x, s.ra, s.rows, .int s.line, .non, rfl, F0, s0 _ _ N.rs, fun H2 b2 F2 => ⟨rfl, ?_⟩⟩
      have s2 := same_new nx s0 b2
      exact pushed M hl nx s2 (frm_of (.inl rfl) ⟨N.pl, N.hd, N.nm, N.sc, N.cl, N.tl, s2 _ _ N.rs, s2 _ _ N.os, N.rl, N.ol⟩ F2) (.inl N.sc) k
    | rounds =>
      have hq : H q = some (.tup [.str "repeat", .int s.line, .int (s.left + 1), .ref s.ra]) := hq
      refine ⟨q, _, _, .str "repeat", rfl, rfl, SqT.of hq, atI_nat (j := 0) rfl, rfl, ifF (fun z => absurd (V.str.inj z) (by decide +kernel)) ⟨q, _, _, .str "repeat", rfl, rfl, SqT.of hq, atI_nat (j := 0) rfl, rfl, ifF (fun z => absurd (V.str.inj z) (by decide +kernel)) ⟨q, _, _, .str "repeat", rfl, rfl, SqT.of hq, atI_nat (j := 0) rfl, rfl, ifF (fun z => absurd (V.str.inj z) (by decide +kernel)) ⟨q, _, _, .str "repeat", rfl, rfl, SqT.of hq, atI_nat (j := 0) rfl, rfl, ifT rfl (M.ob.fld (l := .frames) rfl rfl ⟨.inl ⟨_, SqL.of M.fl⟩, q, _, _, _, rfl, rfl, SqT.of hq, atI_nat (j := 3) rfl, q, _, _, _, rfl, rfl, SqT.of hq, atI_nat (j := 1) rfl, q, _, _, _, rfl, rfl, SqT.of hq, atI_nat (j := 2) rfl, fun x dx nx ndx nex => ?_⟩)⟩⟩⟩⟩
      obtain ⟨F0, s0⟩ := mk_new (T := T) (c := .rounds) nx ndx nex
      refine ⟨x, s, rfl, ⟨N.pl, N.hd, fun _ => N.nm, fun _ => N.sc, fun _ => N.cl, fun _ => N.tl⟩, F0, s0 _ _ N.rs, s0 _ _ N.os, N.rl, N.ol, fun H2 b2 F2 => ⟨rfl, ?_⟩⟩
      exact pushed M hl nx (same_new nx s0 b2) F2 (.inl N.sc) k
    | kept =>
      have hq : H q = some (.tup [.str "keep", .int s.line, .ref s.ra]) := hq
      refine ⟨q, _, _, .str "keep", rfl, rfl, SqT.of hq, atI_nat (j := 0) rfl, rfl, ifF (fun z => absurd (V.str.inj z) (by decide +kernel)) ⟨q, _, _, .str "keep", rfl, rfl, SqT.of hq, atI_nat (j := 0) rfl, rfl, ifF (fun z => absurd (V.str.inj z) (by decide +kernel)) ⟨q, _, _, .str "keep", rfl, rfl, SqT.of hq, atI_nat (j := 0) rfl, rfl, ifF (fun z => absurd (V.str.inj z) (by decide +kernel)) ⟨q, _, _, .str "keep", rfl, rfl, SqT.of hq, atI_nat (j := 0) rfl, rfl, ifF (fun z => absurd (V.str.inj z) (by decide +kernel)) ⟨q, _, _, .str "keep", rfl, rfl, SqT.of hq, atI_nat (j := 0) rfl, rfl, ifT rfl (M.ob.fld (l := .frames) rfl rfl ⟨.inl ⟨_, SqL.of M.fl⟩, q, _, _, _, rfl, rfl, SqT.of hq, atI_nat (j := 2) rfl, q, _, _, _, rfl, rfl, SqT.of hq, atI_nat (j := 1) rfl, fun x dx nx ndx nex => ?_⟩)⟩⟩⟩⟩⟩
      obtain ⟨F0, s0⟩ := mk_new (T := T) (c := .kept) nx ndx nex
      refine ⟨.kept, x, s.ra, s.rows, .int s.line, .non, rfl, F0, s0 _ _ N.rs, fun H2 b2 F2 => ⟨rfl, ?_⟩⟩
      have s2 := same_new nx s0 b2
      exact pushed M hl nx s2 (frm_of (.inr rfl) ⟨N.pl, N.hd, N.nm, N.sc, N.cl, N.tl, s2 _ _ N.rs, s2 _ _ N.os, N.rl, N.ol⟩ F2) (.inl N.sc) k
    | tried =>
      have hq : H q = some (.tup [.str "try", .int s.line, .ref s.ra, .str s.fault, .ref s.oa]) := hq
      refine ⟨q, _, _, .str "try", rfl, rfl, SqT.of hq, atI_nat (j := 0) rfl, rfl, ifF (fun z => absurd (V.str.inj z) (by decide +kernel)) ⟨q, _, _, .str "try", rfl, rfl, SqT.of hq, atI_nat (j := 0) rfl, rfl, ifF (fun z => absurd (V.str.inj z) (by decide +kernel)) ⟨q, _, _, .str "try", rfl, rfl, SqT.of hq, atI_nat (j := 0) rfl, rfl, ifF (fun z => absurd (V.str.inj z) (by decide +kernel)) ⟨q, _, _, .str "try", rfl, rfl, SqT.of hq, atI_nat (j := 0) rfl, rfl, ifF (fun z => absurd (V.str.inj z) (by decide +kernel)) ⟨q, _, _, .str "try", rfl, rfl, SqT.of hq, atI_nat (j := 0) rfl, rfl, ifF (fun z => absurd (V.str.inj z) (by decide +kernel)) ⟨q, _, _, .str "try", rfl, rfl, SqT.of hq, atI_nat (j := 0) rfl, rfl, ifT rfl (M.ob.fld (l := .frames) rfl rfl ⟨.inl ⟨_, SqL.of M.fl⟩, q, _, _, _, rfl, rfl, SqT.of hq, atI_nat (j := 2) rfl, q, _, _, _, rfl, rfl, SqT.of hq, atI_nat (j := 1) rfl, q, _, _, _, rfl, rfl, SqT.of hq, atI_nat (j := 3) rfl, q, _, _, _, rfl, rfl, SqT.of hq, atI_nat (j := 4) rfl, fun x dx nx ndx nex => ?_⟩)⟩⟩⟩⟩⟩⟩
      obtain ⟨F0, s0⟩ := mk_new (T := T) (c := .tried) nx ndx nex
      refine ⟨x, s, rfl, ⟨N.pl, N.hd, fun _ => N.nm, fun _ => N.sc, fun _ => N.cl, fun _ => N.tl⟩, F0, s0 _ _ N.rs, s0 _ _ N.os, N.rl, N.ol, fun H2 b2 F2 => ⟨rfl, ?_⟩⟩
      exact pushed M hl nx (same_new nx s0 b2) F2 (.inl N.sc) k
    | cleaned =>
      have hq : H q = some (.tup [.str "do", .int s.line, .ref s.ra, .ref s.oa]) := hq
      refine ⟨q, _, _, .str "do", rfl, rfl, SqT.of hq, atI_nat (j := 0) rfl, rfl, ifF (fun z => absurd (V.str.inj z) (by decide +kernel)) ⟨q, _, _, .str "do", rfl, rfl, SqT.of hq, atI_nat (j := 0) rfl, rfl, ifF (fun z => absurd (V.str.inj z) (by decide +kernel)) ⟨q, _, _, .str "do", rfl, rfl, SqT.of hq, atI_nat (j := 0) rfl, rfl, ifF (fun z => absurd (V.str.inj z) (by decide +kernel)) ⟨q, _, _, .str "do", rfl, rfl, SqT.of hq, atI_nat (j := 0) rfl, rfl, ifF (fun z => absurd (V.str.inj z) (by decide +kernel)) ⟨q, _, _, .str "do", rfl, rfl, SqT.of hq, atI_nat (j := 0) rfl, rfl, ifF (fun z => absurd (V.str.inj z) (by decide +kernel)) ⟨q, _, _, .str "do", rfl, rfl, SqT.of hq, atI_nat (j := 0) rfl, rfl, ifF (fun z => absurd (V.str.inj z) (by decide +kernel)) (M.ob.fld (l := .frames) rfl rfl ⟨.inl ⟨_, SqL.of M.fl⟩, q, _, _, _, rfl, rfl, SqT.of hq, atI_nat (j := 2) rfl, q, _, _, _, rfl, rfl, SqT.of hq, atI_nat (j := 1) rfl, q, _, _, _, rfl, rfl, SqT.of hq, atI_nat (j := 3) rfl, fun x dx nx ndx nex => ?_⟩)⟩⟩⟩⟩⟩⟩
      obtain ⟨F0, s0⟩ := mk_new (T := T) (c := .cleaned) nx ndx nex
      refine ⟨x, s, rfl, ⟨N.pl, N.hd, fun _ => N.nm, fun _ => N.sc, fun _ => N.cl, fun _ => N.tl⟩, F0, s0 _ _ N.rs, s0 _ _ N.os, N.rl, N.ol, fun H2 b2 F2 => ⟨rfl, ?_⟩⟩
      exact pushed M hl nx (same_new nx s0 b2) F2 (.inl N.sc) k
    | _ => exact hq.elim
theorem sc_Machine_do_row : FnScope ["self", "row", "scope"] ["self", "row"] (defScope (inClass (top 12) 24)) := ⟨rfl, rfl, rfl, by decide +kernel, rfl, by decide +kernel, by decide +kernel⟩
theorem ok_Machine_do_row (T : Tx K mg)
    (G_Machine_wait_at : FnOk P w K mg base CX0 3 T.m_Machine_wait_at.f T.m_Machine_wait_at.fd ["self", "want"] (spWaitAt T))
    (G_Machine_enter_scope : FnOk P w K mg base CX0 4 T.m_Machine_enter_scope.f T.m_Machine_enter_scope.fd ["self", "row"] (spEnter T))
    (G_Machine_do_quietly : FnOk P w K mg base CX0 4 T.m_Machine_do_quietly.f T.m_Machine_do_quietly.fd ["self", "row"] (spQuiet T)) : FnOk P w K mg base CX0 5 T.m_Machine_do_row.f T.m_Machine_do_row.fd ["self", "row"] (spDoRow T) := by
  refine T.m_Machine_do_row.F.ok sc_Machine_do_row (fun vs H Q E h => ?_) (fun cdv A outer s H vs Q E hr h => ?_)
  · obtain ⟨p, q, stk, mk, m, rfl, _⟩ := h
    rfl
  · obtain ⟨p, q, stk, mk, m, rfl, M, hl, hk⟩ := h
    have hu := hu100 hr
    have hu1 := hu_of hr
    refine ⟨_, (pss_cons (ps_if (pt_cmpR op_in_seq (pe_ix ix_tup (pv 1) pe_int (fun _ _ => rfl)) (pe_glob (v := .ref T.ww) rfl T.wwm rfl) (by with_unfolding_all rfl))
    (pss_one (ps_ret (pe_meth (pv 0) T.k_Machine T.m_Machine_wait_at.me G_Machine_wait_at (hr.mono (by omega)) T.m_Machine_wait_at.b .nil pass0 (pa_cons (pv 1) pa_nil))))
    pss_nil)
    (pss_cons (ps_if (pt_cmpR op_in_seq (pe_ix ix_tup (pv 1) pe_int (fun _ _ => rfl)) (pe_tup (pa_cons pe_str (pa_cons pe_str pa_nil))) (by with_unfolding_all rfl))
    (pss_one (ps_ret (pe_meth (pv 0) T.k_Machine T.m_Machine_enter_scope.me G_Machine_enter_scope (hr.mono (by omega)) T.m_Machine_enter_scope.b .nil pass0 (pa_cons (pv 1) pa_nil))))
    pss_nil)
    (pss_cons (ps_if (pt_cmpR op_eq (pe_ix ix_tup (pv 1) pe_int (fun _ _ => rfl)) pe_str (nomark _))
    (pss_one (ps_ret (pe_tup (pa_cons pe_str (pa_cons (pe_ix ix_tup (pv 1) pe_int (fun _ _ => rfl)) (pa_cons (pe_ix ix_tup (pv 1) pe_int (fun _ _ => rfl)) pa_nil))))))
    pss_nil)
    (pss_cons (ps_if (pt_cmpR op_eq (pe_ix ix_tup (pv 1) pe_int (fun _ _ => rfl)) pe_str (nomark _))
    (pss_one ps_never)
    pss_nil)
    (pss_cons (ps_if (pt_cmpR op_eq (pe_ix ix_tup (pv 1) pe_int (fun _ _ => rfl)) pe_str (nomark _))
    (pss_cons (ps_fld (pv 0) (pe_tup (pa_cons pe_str (pa_cons (pe_tup (pa_cons (pe_ix ix_tup (pv 1) pe_int (fun _ _ => rfl)) pa_nil)) pa_nil))) rfl)
    (pss_one (ps_ret (pe_tup (pa_cons pe_str (pa_cons (pe_ix ix_tup (pv 1) pe_int (fun _ _ => rfl)) (pa_cons (pe_ix ix_tup (pv 1) pe_int (fun _ _ => rfl)) pa_nil)))))))
    pss_nil)
    (pss_cons (ps_if (pt_cmpR op_eq (pe_ix ix_tup (pv 1) pe_int (fun _ _ => rfl)) pe_str (nomark _))
    (pss_one ps_never)
    pss_nil)
    (pss_cons (ps_if (pt_cmpR op_eq (pe_ix ix_tup (pv 1) pe_int (fun _ _ => rfl)) pe_str (nomark _))
    (pss_cons ps_never
    (pss_one ps_never))
    pss_nil)
    (pss_cons (ps_expr (pe_meth (pv 0) T.k_Machine T.m_Machine_do_quietly.me G_Machine_do_quietly (hr.mono (by omega)) T.m_Machine_do_quietly.b .nil pass0 (pa_cons (pv 1) pa_nil)))
    (pss_one (ps_ret (pe_tup (pa_cons pe_str (pa_cons (pe_ix ix_tup (pv 1) pe_int (fun _ _ => rfl)) pa_nil))))))))))))), ?_⟩
    (simp only [tLst, tTup, tDNewK, _root_.L2.start, cxOf_K, cxComp_K, tSeq, tAsg, gName, tRet, tRetN, tDrop, tIfS, tTest, tB, tNot, tAnd, tOr, tAndV, tOrV, tNotV, tOp, tUn, tVar, tC, tCons, tNil, tStrs, tCB, tCall, tChain, tBM, tBM0, tPart, tNoPart, tSl, tIf, tNext, tTrue, selS, Option.bind_none, Option.bind_some, Option.join_some, if_true, rI, rI0, rU, rEq, rNe, rStarts, rSlS, lenV_str, tyV, List.map_cons, List.map_nil, List.length_cons, List.length_nil, List.replicate, List.cons_append, List.nil_append, List.append_nil, Nat.reduceAdd, Nat.reduceSub, Nat.zero_add, Nat.add_zero, Nat.sub_self, List.getElem?_cons_zero, List.getElem?_cons_succ, List.set_cons_zero, List.set_cons_succ, Option.some.injEq, V.int.injEq, V.str.injEq, V.ref.injEq, V.bl.injEq, V.ty.injEq, List.cons.injEq, exists_eq_left, exists_eq_left', exists_eq_right, exists_and_left, exists_eq, and_true, true_and, and_self, and_assoc, iRrg, tMeth, tMake, tCMeth, tDIn, tDNotIn, tDPop1, tNever, iRev, tDInN])
    rcases hk with ⟨z, r, hz, hq, hk⟩ | ⟨z, r, hz, hq, hk⟩ | ⟨ln, z, hq, k⟩ | ⟨ln, z, hq, k⟩ | ⟨c, s, qr, N, k⟩
    · rcases hz with rfl | rfl
      · exact ⟨q, _, _, .str "wait", rfl, rfl, SqT.of hq, atI_nat (j := 0) rfl, T.ww, _, rfl, .inr (T.wws _), rfl, by decide +kernel, _, rfl, bT (by decide +kernel) (M.ob.call hk)⟩
      · exact ⟨q, _, _, .str "hear", rfl, rfl, SqT.of hq, atI_nat (j := 0) rfl, T.ww, _, rfl, .inr (T.wws _), rfl, by decide +kernel, _, rfl, bT (by decide +kernel) (M.ob.call hk)⟩
    · rcases hz with rfl | rfl
      · refine ⟨q, _, _, .str "group", rfl, rfl, SqT.of hq, atI_nat (j := 0) rfl, T.ww, _, rfl, .inr (T.wws _), rfl, by decide +kernel, _, rfl, bF (by decide +kernel) ⟨q, _, _, .str "group", rfl, rfl, SqT.of hq, atI_nat (j := 0) rfl, by decide, fun p1 h1 => ⟨p1, _, rfl, .inr (SqT.of upd_same), rfl, by decide +kernel, _, rfl, bT (by decide +kernel) ?_⟩⟩⟩
        have s1 := Same.upd (o := .tup [V.str "group", .str "limit"]) h1
        exact (M.same s1).ob.call (enter_same hk s1)
      · refine ⟨q, _, _, .str "limit", rfl, rfl, SqT.of hq, atI_nat (j := 0) rfl, T.ww, _, rfl, .inr (T.wws _), rfl, by decide +kernel, _, rfl, bF (by decide +kernel) ⟨q, _, _, .str "limit", rfl, rfl, SqT.of hq, atI_nat (j := 0) rfl, by decide, fun p1 h1 => ⟨p1, _, rfl, .inr (SqT.of upd_same), rfl, by decide +kernel, _, rfl, bT (by decide +kernel) ?_⟩⟩⟩
        have s1 := Same.upd (o := .tup [V.str "group", .str "limit"]) h1
        exact (M.same s1).ob.call (enter_same hk s1)
    · refine ⟨q, _, _, .str "ring", rfl, rfl, SqT.of hq, atI_nat (j := 0) rfl, T.ww, _, rfl, .inr (T.wws _), rfl, by decide +kernel, _, rfl, bF (by decide +kernel) ⟨q, _, _, .str "ring", rfl, rfl, SqT.of hq, atI_nat (j := 0) rfl, by decide, fun p1 h1 => ⟨p1, _, rfl, .inr (SqT.of upd_same), rfl, by decide +kernel, _, rfl, bF (by decide +kernel) ?_⟩⟩⟩
      have s1 := Same.upd (o := .tup [V.str "group", .str "limit"]) h1
      have hq1 := s1 _ _ hq
      exact ⟨q, _, _, .str "ring", rfl, rfl, SqT.of hq1, atI_nat (j := 0) rfl, rfl, ifT rfl ⟨q, _, _, .int ln, rfl, rfl, SqT.of hq1, atI_nat (j := 1) rfl, q, _, _, .str z, rfl, rfl, SqT.of hq1, atI_nat (j := 2) rfl, by decide, fun t ht => k t _ (s1.trans (Same.upd ht)) upd_same⟩⟩
    · refine ⟨q, _, _, .str "raise", rfl, rfl, SqT.of hq, atI_nat (j := 0) rfl, T.ww, _, rfl, .inr (T.wws _), rfl, by decide +kernel, _, rfl, bF (by decide +kernel) ⟨q, _, _, .str "raise", rfl, rfl, SqT.of hq, atI_nat (j := 0) rfl, by decide, fun p1 h1 => ⟨p1, _, rfl, .inr (SqT.of upd_same), rfl, by decide +kernel, _, rfl, bF (by decide +kernel) ?_⟩⟩⟩
      have s1 := Same.upd (o := .tup [V.str "group", .str "limit"]) h1
      have hq1 := s1 _ _ hq
      have M1 := M.same s1
      generalize upd H p1 (.tup [V.str "group", .str "limit"]) = H1 at s1 hq1 M1 ⊢
      refine ⟨q, _, _, .str "raise", rfl, rfl, SqT.of hq1, atI_nat (j := 0) rfl, rfl, ifF (fun z => absurd (V.str.inj z) (by decide +kernel)) ⟨q, _, _, .str "raise", rfl, rfl, SqT.of hq1, atI_nat (j := 0) rfl, rfl, ifF (fun z => absurd (V.str.inj z) (by decide +kernel)) ⟨q, _, _, .str "raise", rfl, rfl, SqT.of hq1, atI_nat (j := 0) rfl, rfl, ifT rfl ?_⟩⟩⟩
      have put : ∀ N : St → Hp → Prop, (∀ H4 t u, But p H H4 → H4 u = some (.tup [.str z]) → H4 t = some (.tup [.str "faults", .ref u]) → H4 q = some (.tup [.str "raise", .int ln, .str z]) → MAt T H4 p stk [] mk { m with sg := .ref t } → N [some (.ref p), some (.ref q), none] H4) → sFld K (tVar 0) (tTup (tCons (tC (.str "faults")) (tCons (tTup (tCons (tOp (rIxT K) (tVar 1) (tC (.int 2))) tNil)) tNil))) "signal" { nx := N, rt := Q } [some (.ref p), some (.ref q), none] H1 := fun N hN => by
        simp only [sFld, tTup, tCons, tNil, tC, tOp]
        refine ⟨_, rfl, q, _, _, .str z, rfl, rfl, SqT.of hq1, atI_nat (j := 2) rfl, (by show (1 : Nat) ≤ sizeLine; decide), fun u hu' => ⟨(by show (2 : Nat) ≤ sizeLine; decide), fun t ht => ?_⟩⟩
        have s3 := (Same.upd (o := .tup [V.str z]) hu').trans (Same.upd (o := .tup [V.str "faults", .ref u]) ht)
        have M3 := M1.same s3
        obtain ⟨_, _, hP3, _⟩ := M3.ob.ex
        refine M3.ob.re (l := .signal) rfl (fun z => nomatch z) fun H4 b4 O4 => ?_
        rw [g_sg] at O4
        exact hN H4 t u (((But.of s1).trans (But.of s3)).trans b4) (b4.tup hP3 ((Same.upd ht) _ _ upd_same)) (b4.tup hP3 upd_same) (b4.tup hP3 (s3 _ _ hq1)) (M3.byP b4 O4 rfl rfl rfl)
      refine put _ fun H4 t u b4 hu4 ht4 hq4 M4 => ?_
      exact ⟨_, rfl, q, _, _, .int ln, rfl, rfl, SqT.of hq4, atI_nat (j := 1) rfl, _, rfl, q, _, _, .str z, rfl, rfl, SqT.of hq4, atI_nat (j := 2) rfl, (by show (3 : Nat) ≤ sizeLine; decide), fun w hw => k t u w _ (b4.trans (But.of (Same.upd hw))) ((Same.upd hw) _ _ hu4) ((Same.upd hw) _ _ ht4) upd_same (M4.same (Same.upd hw))⟩
    · obtain ⟨z, r, hq, hz⟩ := q_word qr
      have st : ∀ p1, H p1 = none → MAt T (upd H p1 (.tup [V.str "group", .str "limit"])) p stk [] mk m ∧ QRow (upd H p1 (.tup [V.str "group", .str "limit"])) q c s ∧ NewQ (upd H p1 (.tup [V.str "group", .str "limit"])) s ∧ (upd H p1 (.tup [V.str "group", .str "limit"])) q = some (.tup (.str z :: .int s.line :: r)) ∧ Same H (upd H p1 (.tup [V.str "group", .str "limit"])) := fun p1 h1 => by
        have s1 := Same.upd (o := .tup [V.str "group", .str "limit"]) h1
        refine ⟨M.same s1, ?_, ⟨N.pl, N.hd, N.nm, N.sc, N.cl, N.tl, s1 _ _ N.rs, s1 _ _ N.os, N.rl, N.ol⟩, s1 _ _ hq, s1⟩
        cases c with
        | limited => exact qr
        | grouped => exact qr
        | _ => exact s1 _ _ qr
      rcases hz with rfl | rfl | rfl | rfl | rfl
      · refine ⟨q, _, _, .str "when", rfl, rfl, SqT.of hq, atI_nat (j := 0) rfl, T.ww, _, rfl, .inr (T.wws _), rfl, by decide +kernel, _, rfl, bF (by decide +kernel) ⟨q, _, _, .str "when", rfl, rfl, SqT.of hq, atI_nat (j := 0) rfl, by decide, fun p1 h1 => ⟨p1, _, rfl, .inr (SqT.of upd_same), rfl, by decide +kernel, _, rfl, bF (by decide +kernel) ?_⟩⟩⟩
        obtain ⟨M1, qr1, N1, hq1, s1⟩ := st p1 h1
        refine ⟨q, _, _, .str "when", rfl, rfl, SqT.of hq1, atI_nat (j := 0) rfl, rfl, ifF (fun z => absurd (V.str.inj z) (by decide +kernel)) ⟨q, _, _, .str "when", rfl, rfl, SqT.of hq1, atI_nat (j := 0) rfl, rfl, ifF (fun z => absurd (V.str.inj z) (by decide +kernel)) ⟨q, _, _, .str "when", rfl, rfl, SqT.of hq1, atI_nat (j := 0) rfl, rfl, ifF (fun z => absurd (V.str.inj z) (by decide +kernel)) ⟨q, _, _, .str "when", rfl, rfl, SqT.of hq1, atI_nat (j := 0) rfl, rfl, ifF (fun z => absurd (V.str.inj z) (by decide +kernel)) ⟨q, _, _, .str "when", rfl, rfl, SqT.of hq1, atI_nat (j := 0) rfl, rfl, ifF (fun z => absurd (V.str.inj z) (by decide +kernel)) (M1.ob.call ⟨p, q, stk, mk, m, c, s, rfl, M1, hl, qr1, N1, fun a H2 kp ha M2 => ?_⟩)⟩⟩⟩⟩⟩
        have hq2 := kp _ _ (ne_of hq1 M1.fl (fun z => nomatch z)) hq1
        exact ⟨q, _, _, .int s.line, rfl, rfl, SqT.of hq2, atI_nat (j := 1) rfl, by decide, fun t ht => k a t _ (fun c o n h => (Same.upd ht) _ _ (kp c o n (s1 c o h))) (s1.free ha) upd_same (M2.same (Same.upd ht))⟩
      · refine ⟨q, _, _, .str "repeat", rfl, rfl, SqT.of hq, atI_nat (j := 0) rfl, T.ww, _, rfl, .inr (T.wws _), rfl, by decide +kernel, _, rfl, bF (by decide +kernel) ⟨q, _, _, .str "repeat", rfl, rfl, SqT.of hq, atI_nat (j := 0) rfl, by decide, fun p1 h1 => ⟨p1, _, rfl, .inr (SqT.of upd_same), rfl, by decide +kernel, _, rfl, bF (by decide +kernel) ?_⟩⟩⟩
        obtain ⟨M1, qr1, N1, hq1, s1⟩ := st p1 h1
        refine ⟨q, _, _, .str "repeat", rfl, rfl, SqT.of hq1, atI_nat (j := 0) rfl, rfl, ifF (fun z => absurd (V.str.inj z) (by decide +kernel)) ⟨q, _, _, .str "repeat", rfl, rfl, SqT.of hq1, atI_nat (j := 0) rfl, rfl, ifF (fun z => absurd (V.str.inj z) (by decide +kernel)) ⟨q, _, _, .str "repeat", rfl, rfl, SqT.of hq1, atI_nat (j := 0) rfl, rfl, ifF (fun z => absurd (V.str.inj z) (by decide +kernel)) ⟨q, _, _, .str "repeat", rfl, rfl, SqT.of hq1, atI_nat (j := 0) rfl, rfl, ifF (fun z => absurd (V.str.inj z) (by decide +kernel)) ⟨q, _, _, .str "repeat", rfl, rfl, SqT.of hq1, atI_nat (j := 0) rfl, rfl, ifF (fun z => absurd (V.str.inj z) (by decide +kernel)) (M1.ob.call ⟨p, q, stk, mk, m, c, s, rfl, M1, hl, qr1, N1, fun a H2 kp ha M2 => ?_⟩)⟩⟩⟩⟩⟩
        have hq2 := kp _ _ (ne_of hq1 M1.fl (fun z => nomatch z)) hq1
        exact ⟨q, _, _, .int s.line, rfl, rfl, SqT.of hq2, atI_nat (j := 1) rfl, by decide, fun t ht => k a t _ (fun c o n h => (Same.upd ht) _ _ (kp c o n (s1 c o h))) (s1.free ha) upd_same (M2.same (Same.upd ht))⟩
      · refine ⟨q, _, _, .str "keep", rfl, rfl, SqT.of hq, atI_nat (j := 0) rfl, T.ww, _, rfl, .inr (T.wws _), rfl, by decide +kernel, _, rfl, bF (by decide +kernel) ⟨q, _, _, .str "keep", rfl, rfl, SqT.of hq, atI_nat (j := 0) rfl, by decide, fun p1 h1 => ⟨p1, _, rfl, .inr (SqT.of upd_same), rfl, by decide +kernel, _, rfl, bF (by decide +kernel) ?_⟩⟩⟩
        obtain ⟨M1, qr1, N1, hq1, s1⟩ := st p1 h1
        refine ⟨q, _, _, .str "keep", rfl, rfl, SqT.of hq1, atI_nat (j := 0) rfl, rfl, ifF (fun z => absurd (V.str.inj z) (by decide +kernel)) ⟨q, _, _, .str "keep", rfl, rfl, SqT.of hq1, atI_nat (j := 0) rfl, rfl, ifF (fun z => absurd (V.str.inj z) (by decide +kernel)) ⟨q, _, _, .str "keep", rfl, rfl, SqT.of hq1, atI_nat (j := 0) rfl, rfl, ifF (fun z => absurd (V.str.inj z) (by decide +kernel)) ⟨q, _, _, .str "keep", rfl, rfl, SqT.of hq1, atI_nat (j := 0) rfl, rfl, ifF (fun z => absurd (V.str.inj z) (by decide +kernel)) ⟨q, _, _, .str "keep", rfl, rfl, SqT.of hq1, atI_nat (j := 0) rfl, rfl, ifF (fun z => absurd (V.str.inj z) (by decide +kernel)) (M1.ob.call ⟨p, q, stk, mk, m, c, s, rfl, M1, hl, qr1, N1, fun a H2 kp ha M2 => ?_⟩)⟩⟩⟩⟩⟩
        have hq2 := kp _ _ (ne_of hq1 M1.fl (fun z => nomatch z)) hq1
        exact ⟨q, _, _, .int s.line, rfl, rfl, SqT.of hq2, atI_nat (j := 1) rfl, by decide, fun t ht => k a t _ (fun c o n h => (Same.upd ht) _ _ (kp c o n (s1 c o h))) (s1.free ha) upd_same (M2.same (Same.upd ht))⟩
      · refine ⟨q, _, _, .str "try", rfl, rfl, SqT.of hq, atI_nat (j := 0) rfl, T.ww, _, rfl, .inr (T.wws _), rfl, by decide +kernel, _, rfl, bF (by decide +kernel) ⟨q, _, _, .str "try", rfl, rfl, SqT.of hq, atI_nat (j := 0) rfl, by decide, fun p1 h1 => ⟨p1, _, rfl, .inr (SqT.of upd_same), rfl, by decide +kernel, _, rfl, bF (by decide +kernel) ?_⟩⟩⟩
        obtain ⟨M1, qr1, N1, hq1, s1⟩ := st p1 h1
        refine ⟨q, _, _, .str "try", rfl, rfl, SqT.of hq1, atI_nat (j := 0) rfl, rfl, ifF (fun z => absurd (V.str.inj z) (by decide +kernel)) ⟨q, _, _, .str "try", rfl, rfl, SqT.of hq1, atI_nat (j := 0) rfl, rfl, ifF (fun z => absurd (V.str.inj z) (by decide +kernel)) ⟨q, _, _, .str "try", rfl, rfl, SqT.of hq1, atI_nat (j := 0) rfl, rfl, ifF (fun z => absurd (V.str.inj z) (by decide +kernel)) ⟨q, _, _, .str "try", rfl, rfl, SqT.of hq1, atI_nat (j := 0) rfl, rfl, ifF (fun z => absurd (V.str.inj z) (by decide +kernel)) ⟨q, _, _, .str "try", rfl, rfl, SqT.of hq1, atI_nat (j := 0) rfl, rfl, ifF (fun z => absurd (V.str.inj z) (by decide +kernel)) (M1.ob.call ⟨p, q, stk, mk, m, c, s, rfl, M1, hl, qr1, N1, fun a H2 kp ha M2 => ?_⟩)⟩⟩⟩⟩⟩
        have hq2 := kp _ _ (ne_of hq1 M1.fl (fun z => nomatch z)) hq1
        exact ⟨q, _, _, .int s.line, rfl, rfl, SqT.of hq2, atI_nat (j := 1) rfl, by decide, fun t ht => k a t _ (fun c o n h => (Same.upd ht) _ _ (kp c o n (s1 c o h))) (s1.free ha) upd_same (M2.same (Same.upd ht))⟩
      · refine ⟨q, _, _, .str "do", rfl, rfl, SqT.of hq, atI_nat (j := 0) rfl, T.ww, _, rfl, .inr (T.wws _), rfl, by decide +kernel, _, rfl, bF (by decide +kernel) ⟨q, _, _, .str "do", rfl, rfl, SqT.of hq, atI_nat (j := 0) rfl, by decide, fun p1 h1 => ⟨p1, _, rfl, .inr (SqT.of upd_same), rfl, by decide +kernel, _, rfl, bF (by decide +kernel) ?_⟩⟩⟩
        obtain ⟨M1, qr1, N1, hq1, s1⟩ := st p1 h1
        refine ⟨q, _, _, .str "do", rfl, rfl, SqT.of hq1, atI_nat (j := 0) rfl, rfl, ifF (fun z => absurd (V.str.inj z) (by decide +kernel)) ⟨q, _, _, .str "do", rfl, rfl, SqT.of hq1, atI_nat (j := 0) rfl, rfl, ifF (fun z => absurd (V.str.inj z) (by decide +kernel)) ⟨q, _, _, .str "do", rfl, rfl, SqT.of hq1, atI_nat (j := 0) rfl, rfl, ifF (fun z => absurd (V.str.inj z) (by decide +kernel)) ⟨q, _, _, .str "do", rfl, rfl, SqT.of hq1, atI_nat (j := 0) rfl, rfl, ifF (fun z => absurd (V.str.inj z) (by decide +kernel)) ⟨q, _, _, .str "do", rfl, rfl, SqT.of hq1, atI_nat (j := 0) rfl, rfl, ifF (fun z => absurd (V.str.inj z) (by decide +kernel)) (M1.ob.call ⟨p, q, stk, mk, m, c, s, rfl, M1, hl, qr1, N1, fun a H2 kp ha M2 => ?_⟩)⟩⟩⟩⟩⟩
        have hq2 := kp _ _ (ne_of hq1 M1.fl (fun z => nomatch z)) hq1
        exact ⟨q, _, _, .int s.line, rfl, rfl, SqT.of hq2, atI_nat (j := 1) rfl, by decide, fun t ht => k a t _ (fun c o n h => (Same.upd ht) _ _ (kp c o n (s1 c o h))) (s1.free ha) upd_same (M2.same (Same.upd ht))⟩
theorem sc_Machine_go_on : FnScope ["self", "frame", "row", "follows"] ["self"] (defScope (inClass (top 12) 14)) := ⟨rfl, rfl, rfl, by decide +kernel, rfl, by decide +kernel, by decide +kernel⟩
theorem ok_Machine_go_on (T : Tx K mg) (G_next_row : ∀ c, FnOk P w K mg base CX0 1 (T.m_next_row c).f (T.m_next_row c).fd ["self"] (spNext T)) (G_over : ∀ c, FnOk P w K mg base CX0 2 (T.m_over c).f (T.m_over c).fd ["self"] (spOver T c))
    (G_Machine_do_row : FnOk P w K mg base CX0 5 T.m_Machine_do_row.f T.m_Machine_do_row.fd ["self", "row"] (spDoRow T))
    (G_Machine_leave_group : FnOk P w K mg base CX0 2 T.m_Machine_leave_group.f T.m_Machine_leave_group.fd ["self", "frame"] (spLeaveG T))
    (G_Machine_leave_innermost : FnOk P w K mg base CX0 1 T.m_Machine_leave_innermost.f T.m_Machine_leave_innermost.fd ["self"] (spLeaveIn T)) : FnOk P w K mg base CX0 6 T.m_Machine_go_on.f T.m_Machine_go_on.fd ["self"] (spGoOn T) := by
  refine T.m_Machine_go_on.F.ok sc_Machine_go_on (fun vs H Q E h => ?_) (fun cdv A outer s H vs Q E hr h => ?_)
  · obtain ⟨p, stk, x, mk, m, rfl, _⟩ := h
    rfl
  · obtain ⟨p, stk, x, mk, m, rfl, M, hk⟩ := h
    have hu := hu100 hr
    have hu1 := hu_of hr
    refine ⟨_, (pss_cons (ps_set (i := 1) sc_Machine_go_on.nd rfl (Or.inl rfl) (pe_ix ix_list (pe_fld (pv 0) rfl) (pe_un un_neg pe_int) (fun _ _ => rfl)))
    (pss_cons (ps_set (i := 2) sc_Machine_go_on.nd rfl (Or.inl rfl) (pe_any fun c => (pe_meth0 (pv 1) (T.cl c) (T.m_next_row c).me (G_next_row c) (hr.mono (by omega)) (T.m_next_row c).b .nil pass0)))
    (pss_cons (ps_if (pt_cmpR op_notN (pv 2) pe_non (nomark _))
    (pss_one (ps_ret (pe_meth (pv 0) T.k_Machine T.m_Machine_do_row.me G_Machine_do_row (hr.mono (by omega)) T.m_Machine_do_row.b .nil pass0 (pa_cons (pv 2) pa_nil))))
    pss_nil)
    (pss_cons (ps_set (i := 3) sc_Machine_go_on.nd rfl (Or.inl rfl) (pe_any fun c => (pe_meth0 (pv 1) (T.cl c) (T.m_over c).me (G_over c) (hr.mono (by omega)) (T.m_over c).b .nil pass0)))
    (pss_cons (ps_if (pt_cmpR op_eq (pv 3) pe_str (nomark _))
    (pss_one ps_never)
    pss_nil)
    (pss_cons (ps_if (pt_cmpR op_eq (pv 3) pe_str (nomark _))
    (pss_one (ps_ret (pe_meth (pv 0) T.k_Machine T.m_Machine_leave_group.me G_Machine_leave_group (hr.mono (by omega)) T.m_Machine_leave_group.b .nil pass0 (pa_cons (pv 1) pa_nil))))
    pss_nil)
    (pss_cons (ps_if (pt_cmpR op_eq (pv 3) pe_str (nomark _))
    (pss_one ps_never)
    pss_nil)
    (pss_cons (ps_if (PW.pt (pw_and (pt_cmpR op_eq (pv 3) pe_str (nomark _)) (pw_and1 (pt_cmpR op_eq (pe_callB call_len (by rfl) T.n_len bt_len (pa_cons (pe_fld (pv 0) rfl) pa_nil)) pe_int (nomark _)))))
    (pss_one ps_never)
    pss_nil)
    (pss_cons (ps_if (pt_cmpR op_eq (pv 3) pe_str (nomark _))
    (pss_cons (ps_expr (pe_meth0 (pv 0) T.k_Machine T.m_Machine_leave_innermost.me G_Machine_leave_innermost (hr.mono (by omega)) T.m_Machine_leave_innermost.b .nil pass0))
    (pss_one (ps_fld (pv 0) (pe_fld (pv 1) rfl) rfl)))
    pss_nil)
    (pss_one (ps_ret pe_non))))))))))), ?_⟩
    (simp only [tLst, tTup, tDNewK, _root_.L2.start, cxOf_K, cxComp_K, tSeq, tAsg, gName, tRet, tRetN, tDrop, tIfS, tTest, tB, tNot, tAnd, tOr, tAndV, tOrV, tNotV, tOp, tUn, tVar, tC, tCons, tNil, tStrs, tCB, tCall, tChain, tBM, tBM0, tPart, tNoPart, tSl, tIf, tNext, tTrue, selS, Option.bind_none, Option.bind_some, Option.join_some, if_true, rI, rI0, rU, rEq, rNe, rStarts, rSlS, lenV_str, tyV, List.map_cons, List.map_nil, List.length_cons, List.length_nil, List.replicate, List.cons_append, List.nil_append, List.append_nil, Nat.reduceAdd, Nat.reduceSub, Nat.zero_add, Nat.add_zero, Nat.sub_self, List.getElem?_cons_zero, List.getElem?_cons_succ, List.set_cons_zero, List.set_cons_succ, Option.some.injEq, V.int.injEq, V.str.injEq, V.ref.injEq, V.bl.injEq, V.ty.injEq, List.cons.injEq, exists_eq_left, exists_eq_left', exists_eq_right, exists_and_left, exists_eq, and_true, true_and, and_self, and_assoc, iRrg, tMeth, tMake, tCMeth, tDIn, tDNotIn, tDPop1, tNever, iRev, tDInN])
    have hx : x ∈ stk ++ [x] := List.mem_append_right _ List.mem_cons_self
    have F := M.fr x hx
    have hf := M.fl
    rw [List.map_append] at hf
    have none_ : x.s.place = x.s.rows.length → ∀ v, x.s.rows[x.s.place]? = some v → False := fun e v hv => by
      rw [e, List.getElem?_eq_none (Nat.le_refl _)] at hv
      cases hv
    rcases hk with ⟨q, hq, k⟩ | ⟨O, hne, k⟩ | ⟨a, xs, hpl, P, A⟩
    · refine M.ob.fld (l := .frames) rfl rfl ⟨m.fl, _, _, .ref x.a, rfl, rfl, SqL.of hf, atI_last _ _, x.c, x.a, rfl, F.mt nf_next ⟨x.c, x.a, x.s, rfl, F, fun e => (none_ e _ hq).elim, fun v hv H1 b1 F1 => ?_⟩⟩
      rw [hq] at hv
      cases hv
      have M1 := M.byX b1 F1 rfl
      exact bT (by simp) (M1.ob.call (k H1 b1 M1))
    · refine M.ob.fld (l := .frames) rfl rfl ⟨m.fl, _, _, .ref x.a, rfl, rfl, SqL.of hf, atI_last _ _, x.c, x.a, rfl, F.mt nf_next ⟨x.c, x.a, x.s, rfl, F, fun _ => bF (by simp) ?_, fun v hv => (none_ O.pl v hv).elim⟩⟩
      refine ⟨x.c, x.a, rfl, F.mt nf_over ⟨x.a, x.s, rfl, F, fun H1 b1 F1 => ?_⟩⟩
      rw [O.os] at F1
      rw [O.ov]
      have M1 : MAt T H1 p (stk ++ [x]) [] mk m := M.byX b1 F1 rfl
      obtain ⟨_, _, hX, _⟩ := F.fr.ex
      have ll : ((stk ++ [x]).map fun x => V.ref x.a).length = stk.length + 1 := by simp
      have lp : 0 < stk.length := List.length_pos_iff.mpr hne
      refine ⟨rfl, ifF (fun z => absurd (V.str.inj z) (by decide +kernel)) ⟨rfl, ifF (fun z => absurd (V.str.inj z) (by decide +kernel)) ⟨rfl, ifF (fun z => absurd (V.str.inj z) (by decide +kernel)) ⟨rfl, ifT rfl (M1.ob.fld (l := .frames) rfl rfl ⟨_, .inl ⟨_, SqL.of M1.fl, rfl⟩, rfl, ifF (fun z => by rw [ll] at z; omega) ⟨rfl, ifT rfl (M1.ob.call ⟨p, stk, x, [], mk, m, rfl, M1, fun H2 kp M2 => ?_⟩)⟩⟩)⟩⟩⟩⟩
      obtain ⟨dy, gs, h2, h4⟩ := F1.fr.ex
      have F2 : FrAt T 11 x.c H2 x.a (gOf x.c x.s) := ⟨dy, gs, kp _ _ (ne_of h2 M1.fl (fun z => nomatch z)) (ne_of h2 M1.mr (fun z => nomatch z)) h2, h4⟩
      simp only [sFld]
      refine F2.fld (l := .held) rfl rfl ?_
      refine M2.ob.re (l := .signal) rfl (fun z => nomatch z) fun H3 b3 O3 => ?_
      rw [g_sg] at O3
      obtain ⟨_, _, hP2, _⟩ := M2.ob.ex
      exact k H3 (((Kn.but b1 hX).trans (Kn.two kp)).trans (Kn.but b3 hP2)) (M2.byP b3 O3 rfl rfl rfl)
    · refine M.ob.fld (l := .frames) rfl rfl ⟨m.fl, _, _, .ref x.a, rfl, rfl, SqL.of hf, atI_last _ _, x.c, x.a, rfl, F.mt nf_next ⟨x.c, x.a, x.s, rfl, F, fun _ => bF (by simp) ?_, fun v hv => (none_ hpl v hv).elim⟩⟩
      refine ⟨x.c, x.a, rfl, F.mt nf_over ⟨x.a, x.s, rfl, F, fun H1 b1 F1 => ?_⟩⟩
      have eo : overF x.c x.s = "leave" := by
        rw [P.c]
        show (if x.s.told = .non then ("join" : Str) else "leave") = "leave"
        rw [P.told, if_neg (fun z => nomatch z)]
      rw [overS_no (by rw [P.c]; decide)] at F1
      rw [eo]
      have M1 : MAt T H1 p (stk ++ [x]) [] mk m := M.byX b1 F1 rfl
      obtain ⟨_, _, hX, _⟩ := F.fr.ex
      have k1 : Kn m.fl m.mr H H1 := Kn.but b1 hX
      exact ⟨rfl, ifF (fun z => absurd (V.str.inj z) (by decide +kernel)) ⟨rfl, ifT rfl (M1.ob.call ⟨p, stk, x, mk, m, a, xs, rfl, M1, P.tk (k1.tk M.fl M.mr), A.kn P k1 (k1.tk M.fl M.mr)⟩)⟩⟩
theorem sc_Machine_send_out : FnScope ["self", "signal", "frame", "follows"] ["self"] (defScope (inClass (top 12) 20)) := ⟨rfl, rfl, rfl, by decide +kernel, rfl, by decide +kernel, by decide +kernel⟩
theorem ok_Machine_send_out (T : Tx K mg) (G_meets : ∀ c, FnOk P w K mg base CX0 1 (T.m_meets c).f (T.m_meets c).fd ["self", "signal"] (spMeets T c)) (G_i_frame : FnOk P w K mg base CX0 1 T.i_frame.f T.i_frame.fd ["self", "rows", "line", "scope"] (spFInit T)) (G_i_rounds : FnOk P w K mg base CX0 2 T.i_rounds.f T.i_rounds.fd ["self", "rows", "line", "many"] (spI T .rounds)) (G_i_kept : FnOk P w K mg base CX0 1 T.i_kept.f T.i_kept.fd ["self", "rows", "line", "scope"] (spFInit T)) (G_i_tried : FnOk P w K mg base CX0 2 T.i_tried.f T.i_tried.fd ["self", "rows", "line", "fault", "others"] (spI T .tried)) (G_i_cleaned : FnOk P w K mg base CX0 2 T.i_cleaned.f T.i_cleaned.fd ["self", "rows", "line", "others"] (spI T .cleaned)) (G_i_limited : FnOk P w K mg base CX0 2 T.i_limited.f T.i_limited.fd ["self", "rows", "line", "scope", "others"] (spI T .limited)) (G_i_grouped : FnOk P w K mg base CX0 2 T.i_grouped.f T.i_grouped.fd ["self", "rows", "line", "scope", "named"] (spI T .grouped))
    (G_Machine_leave_innermost : FnOk P w K mg base CX0 1 T.m_Machine_leave_innermost.f T.m_Machine_leave_innermost.fd ["self"] (spLeaveIn T))
    (G_Machine_begin_clean_up : FnOk P w K mg base CX0 3 T.m_Machine_begin_clean_up.f T.m_Machine_begin_clean_up.fd ["self", "frame", "signal"] (spBegClean T))
    (G_Machine_halt_at : FnOk P w K mg base CX0 3 T.m_Machine_halt_at.f T.m_Machine_halt_at.fd ["self", "frame", "signal"] (spHaltAt T))
    (G_Machine_end_with : FnOk P w K mg base CX0 1 T.m_Machine_end_with.f T.m_Machine_end_with.fd ["self", "outcome"] (spEndWith T)) : FnOk P w K mg base CX0 4 T.m_Machine_send_out.f T.m_Machine_send_out.fd ["self"] (spSendOut T) := by
  refine T.m_Machine_send_out.F.ok sc_Machine_send_out (fun vs H Q E h => ?_) (fun cdv A outer s H vs Q E hr h => ?_)
  · obtain ⟨p, t, base, x, ext, mk, m, g, rfl, _⟩ := h
    rfl
  · obtain ⟨p, t, base, x, ext0, mk0, m, g, rfl, M0, S0, es, ht, hl0, A0⟩ := h
    have hu := hu100 hr
    have hu1 := hu_of hr
    refine ⟨_, (pss_cons (ps_set (i := 1) sc_Machine_send_out.nd rfl (Or.inl rfl) (pe_fld (pv 0) rfl))
    (pss_cons (ps_fld (pv 0) pe_non rfl)
    (pss_cons (ps_while PassesOwn.never (PW.pt (pw_and (pt_cmpR op_gt (pe_callB call_len (by rfl) T.n_len bt_len (pa_cons (pe_fld (pv 0) rfl) pa_nil)) pe_int (nomark _)) (pw_and1 (pt_cmpR op_eq (pe_any fun c => (pe_meth (pe_ix ix_list (pe_fld (pv 0) rfl) (pe_un un_neg pe_int) (fun _ _ => rfl)) (T.cl c) (T.m_meets c).me (G_meets c) (hr.mono (by omega)) (T.m_meets c).b .nil pass0 (pa_cons (pv 1) pa_nil))) pe_str (nomark _)))))
    (pss_one (ps_expr (pe_meth0 (pv 0) T.k_Machine T.m_Machine_leave_innermost.me G_Machine_leave_innermost (hr.mono (by omega)) T.m_Machine_leave_innermost.b .nil pass0))))
    (pss_cons (ps_set (i := 2) sc_Machine_send_out.nd rfl (Or.inl rfl) (pe_ix ix_list (pe_fld (pv 0) rfl) (pe_un un_neg pe_int) (fun _ _ => rfl)))
    (pss_cons (ps_set (i := 3) sc_Machine_send_out.nd rfl (Or.inl rfl) (pe_any fun c => (pe_meth (pv 2) (T.cl c) (T.m_meets c).me (G_meets c) (hr.mono (by omega)) (T.m_meets c).b .nil pass0 (pa_cons (pv 1) pa_nil))))
    (pss_cons (ps_if (pt_cmpR op_eq (pv 3) pe_str (nomark _))
    (pss_one (ps_ret (pe_meth (pv 0) T.k_Machine T.m_Machine_begin_clean_up.me G_Machine_begin_clean_up (hr.mono (by omega)) T.m_Machine_begin_clean_up.b .nil pass0 (pa_cons (pv 2) (pa_cons (pv 1) pa_nil)))))
    pss_nil)
    (pss_cons (ps_if (pt_cmpR op_eq (pv 3) pe_str (nomark _))
    (pss_one (ps_ret (pe_meth (pv 0) T.k_Machine T.m_Machine_halt_at.me G_Machine_halt_at (hr.mono (by omega)) T.m_Machine_halt_at.b .nil pass0 (pa_cons (pv 2) (pa_cons (pv 1) pa_nil)))))
    pss_nil)
    (pss_cons (ps_if (pt_cmpR op_eq (pv 3) pe_str (nomark _))
    (pss_one (ps_ret (pe_meth (pv 0) T.k_Machine T.m_Machine_end_with.me G_Machine_end_with (hr.mono (by omega)) T.m_Machine_end_with.b .nil pass0 (pa_cons (pe_ifExp (pt_cmpR op_eq (pe_ix ix_tup (pv 1) pe_int (fun _ _ => rfl)) pe_str (nomark _)) (pv 1) (pe_tup (pa_cons (pe_dget hu1 (pe_fld (pv 0) rfl) pe_int (fun _ _ => rfl)) pa_nil))) pa_nil))))
    pss_nil)
    (pss_cons (ps_expr (pe_meth0 (pv 0) T.k_Machine T.m_Machine_leave_innermost.me G_Machine_leave_innermost (hr.mono (by omega)) T.m_Machine_leave_innermost.b .nil pass0))
    (pss_cons (ps_expr (pe_bm PySem.F.plainAttrs_list PySem.F.slot_list_append PySem.F.type_list_append mt_append (pe_fld (pv 0) rfl) (pa_cons (pe_make T.M_frame G_i_frame (hr.mono (by omega)) rfl T.h_frame T.i_frame.b1 (show Vals [V.non] [Value.none] from .cons rfl .nil) pass0 (pa_cons (pe_fld (pv 2) rfl) (pa_cons (pe_fld (pv 2) rfl) pa_nil))) pa_nil)))
    (pss_cons (ps_if (pt_cmpR op_eq (pv 3) pe_str (nomark _))
    (pss_one (ps_ret (pe_tup (pa_cons pe_str (pa_cons (pe_fld (pv 2) rfl) (pa_cons (pe_fld (pv 2) rfl) pa_nil))))))
    pss_nil)
    (pss_one (ps_ret (pe_tup (pa_cons pe_str (pa_cons (pe_fld (pv 2) rfl) (pa_cons (pe_ix ix_tup (pv 1) pe_int (fun _ _ => rfl)) pa_nil))))))))))))))))), ?_⟩
    (simp only [tLst, tTup, tDNewK, _root_.L2.start, cxOf_K, cxComp_K, tSeq, tAsg, gName, tRet, tRetN, tDrop, tIfS, tTest, tB, tNot, tAnd, tOr, tAndV, tOrV, tNotV, tOp, tUn, tVar, tC, tCons, tNil, tStrs, tCB, tCall, tChain, tBM, tBM0, tPart, tNoPart, tSl, tIf, tNext, tTrue, selS, Option.bind_none, Option.bind_some, Option.join_some, if_true, rI, rI0, rU, rEq, rNe, rStarts, rSlS, lenV_str, tyV, List.map_cons, List.map_nil, List.length_cons, List.length_nil, List.replicate, List.cons_append, List.nil_append, List.append_nil, Nat.reduceAdd, Nat.reduceSub, Nat.zero_add, Nat.add_zero, Nat.sub_self, List.getElem?_cons_zero, List.getElem?_cons_succ, List.set_cons_zero, List.set_cons_succ, Option.some.injEq, V.int.injEq, V.str.injEq, V.ref.injEq, V.bl.injEq, V.ty.injEq, List.cons.injEq, exists_eq_left, exists_eq_left', exists_eq_right, exists_and_left, exists_eq, and_true, true_and, and_self, and_assoc, iRrg, tMeth, tMake, tCMeth, tDIn, tDNotIn, tDPop1, tNever, iRev, tDInN])
    have hs : m.g .signal = some (.ref t) := by rw [← es]; rfl
    obtain ⟨_, _, hp, _⟩ := M0.ob.ex
    refine M0.ob.fld (l := .signal) rfl hs ?_
    refine M0.ob.re (l := .signal) rfl (fun z => nomatch z) fun H1 b1 F1 => ?_
    rw [g_sg] at F1
    have M1 := M0.byP b1 F1 rfl rfl rfl
    have k1 : Kn m.fl m.mr H H1 := Kn.but b1 hp
    have ht1 := ht.tk (k1.tk M0.fl M0.mr)
    have mlast : ∀ {l : List Fm} {y : Fm}, y ∈ l ++ [y] := fun {l y} => List.mem_append_right _ List.mem_cons_self
    refine while_hold (fun σ' G' => σ' = [some (.ref p), some (.ref t), none, none] ∧ ∃ mk : List (Key × V), MAt T G' p (base ++ [x]) [] mk { m with sg := .non } ∧ SigAt G' t g ∧ Kn m.fl m.mr H G' ∧ Mk0 mk0 mk) ?_ ?_
    · rintro σ' G ⟨rfl, mk, M, hg, kn, mz⟩
      have F := M.fr x mlast
      have hf := M.fl
      rw [List.map_append] at hf
      have hl : (base ++ [x]).length ≤ 100 := by rw [List.length_append] at hl0; omega
      (simp only [tLst, tTup, tDNewK, _root_.L2.start, cxOf_K, cxComp_K, tSeq, tAsg, gName, tRet, tRetN, tDrop, tIfS, tTest, tB, tNot, tAnd, tOr, tAndV, tOrV, tNotV, tOp, tUn, tVar, tC, tCons, tNil, tStrs, tCB, tCall, tChain, tBM, tBM0, tPart, tNoPart, tSl, tIf, tNext, tTrue, selS, Option.bind_none, Option.bind_some, Option.join_some, if_true, rI, rI0, rU, rEq, rNe, rStarts, rSlS, lenV_str, tyV, List.map_cons, List.map_nil, List.length_cons, List.length_nil, List.replicate, List.cons_append, List.nil_append, List.append_nil, Nat.reduceAdd, Nat.reduceSub, Nat.zero_add, Nat.add_zero, Nat.sub_self, List.getElem?_cons_zero, List.getElem?_cons_succ, List.set_cons_zero, List.set_cons_succ, Option.some.injEq, V.int.injEq, V.str.injEq, V.ref.injEq, V.bl.injEq, V.ty.injEq, List.cons.injEq, exists_eq_left, exists_eq_left', exists_eq_right, exists_and_left, exists_eq, and_true, true_and, and_self, and_assoc, iRrg, tMeth, tMake, tCMeth, tDIn, tDNotIn, tDPop1, tNever, iRev, tDInN])
      refine M.ob.fld (l := .frames) rfl rfl ⟨m.fl, _, _, .ref x.a, rfl, rfl, SqL.of hf, atI_last _ _, x.c, x.a, rfl, F.mt nf_meets ⟨x.a, t, x.s, g, rfl, F, hg, S0.lim x List.mem_cons_self, fun G2 s2 => ⟨rfl, ?_⟩⟩⟩
      have M2 := M.same s2
      have F2 := F.same s2
      have hg2 := hg.same s2
      have A := A0.kn (kn.trans (Kn.of s2)) mz
      have np : p ≠ x.a := fun z => (List.nodup_cons.mp M.nd).1 (List.mem_map.mpr ⟨x, mlast, z.symm⟩)
      obtain ⟨_, _, hp2, _⟩ := M2.ob.ex
      obtain ⟨_, _, hx2, _⟩ := F2.fr.ex
      rcases meets5 x.c x.s g with e | ⟨e, ec⟩ | ⟨e, ec⟩ | ⟨e, ec⟩ | ⟨e, ec, z, r, eg⟩
      · have hb : base = [] := S0.at_.elim id fun z => absurd e z
        have nd := e
        rw [e]
        refine ifF (fun z => absurd (V.str.inj z) (by decide +kernel)) ⟨rfl, ifF (fun z => absurd (V.str.inj z) (by decide +kernel)) ⟨rfl, ifT rfl (M2.ob.call ?_)⟩⟩
        cases hgc : g with
        | strike n =>
          subst hgc
          obtain ⟨v, hv⟩ := S0.m0 hb nd n rfl
          have g0 : DGet G2 m.mr (.int 0) (some v) := by
            have := DGet.k (k := Sum.inl 0) M2.mr
            rw [mz.trans hv] at this
            exact this
          refine ⟨t, _, _, .str "strike", rfl, rfl, SqT.of hg2, atI_nat (j := 0) rfl, rfl, ifF (fun z => absurd (V.str.inj z) (by decide +kernel)) (M2.ob.fld (l := .marks) rfl rfl ⟨_, _, rfl, g0, (by show (1 : Nat) ≤ sizeLine; decide), fun u hu' => ⟨p, _, u, rfl, M2.ob.same (Same.upd hu'), fun H' w0 l b F' hw => ?_⟩⟩)⟩
          have su := Same.upd (o := .tup [v]) hu'
          refine A.ended nd hb H' w0 u l ((Kn.of su).trans (Kn.but b (su _ _ hp2))) hw (fun n' v' en ev => ?_) (fun a r z => nomatch z) F'
          have : v' = v := by
            have q := mz.trans hv
            rw [q] at ev
            exact (Option.some.inj ev).symm
          rw [this]
          exact b.tup (su _ _ hp2) upd_same
        | faults z r =>
          subst hgc
          obtain ⟨u, h1, h2⟩ := hg2
          refine ⟨t, _, _, .str "faults", rfl, rfl, SqT.of h1, atI_nat (j := 0) rfl, rfl, ifT rfl ⟨p, _, t, rfl, M2.ob, fun H' w0 l b F' hw => ?_⟩⟩
          exact A.ended nd hb H' w0 t l (Kn.but b hp2) hw (fun n v z => nomatch z) (fun a r _ => rfl) F'
      · rw [e]
        rw [ec] at F2
        refine ifT rfl (M2.ob.call ⟨p, t, x.a, x.s, rfl, F2, fun H' w0 b F' hw => A.clean e ec H' w0 mk (Kn.but b hx2) rfl hw ?_⟩)
        exact M2.byX b (by rw [ec]; exact F') rfl
      · rw [e]
        rw [ec] at F2
        refine ifF (fun z => absurd (V.str.inj z) (by decide +kernel)) ⟨rfl, ifT rfl (M2.ob.call ⟨p, x.a, t, _, x.s, g, rfl, M2.ob, np, F2, hg2, fun H' w0 u a b hw hu F' O' => ?_⟩)⟩
        exact A.halt e ec H' w0 u a mk (fun c o _ _ nn h => b c o (ne_of h hp2 (nn _ _ _)) (ne_of h hx2 (nn _ _ _)) h) rfl hw hu (M2.byPX b (by rw [ec]; exact F') rfl O' rfl rfl rfl)
      · rw [e]
        refine ifF (fun z => absurd (V.str.inj z) (by decide +kernel)) ⟨rfl, ifF (fun z => absurd (V.str.inj z) (by decide +kernel)) ⟨rfl, ifF (fun z => absurd (V.str.inj z) (by decide +kernel)) (M2.ob.call ⟨p, base, x, [], mk, _, rfl, M2, fun G3 kp M3 => ?_⟩)⟩⟩
        have k3 : Kn m.fl m.mr G2 G3 := Kn.two kp
        obtain ⟨dy, gs, h2, h4⟩ := F2.fr.ex
        have h3 := kp _ _ (ne_of h2 M2.fl (fun z => nomatch z)) (ne_of h2 M2.mr (fun z => nomatch z)) h2
        have F3 : FrAt T 11 x.c G3 x.a (gOf x.c x.s) := ⟨dy, gs, h3, h4⟩
        have ho3 := (k3.tk M2.fl M2.mr) _ _ F2.os
        have go : gOf x.c x.s .others = some (.ref x.s.oa) := by rw [ec]; rfl
        refine M3.ob.fld (l := .frames) rfl rfl ⟨.inl ⟨_, SqL.of M3.fl⟩, F3.fld (l := .others) rfl go (F3.fld (l := .line) rfl rfl fun y dx ny ndx ney => ?_)⟩
        obtain ⟨F0, s0⟩ := mk_new (T := T) (c := .frame) ny ndx ney
        refine ⟨.frame, y, x.s.oa, x.s.others, .int x.s.line, .non, rfl, F0, s0 _ _ ho3, fun H4 b4 F4 => ⟨rfl, ?_⟩⟩
        have s4 := same_new ny s0 b4
        have FF : FAt T .frame H4 y (plainS x.s) := frm_of (.inl rfl) ⟨rfl, rfl, rfl, rfl, rfl, rfl, s4 _ _ ho3, s4 _ _ ho3, F2.ol, F2.ol⟩ F4
        have M5 := M3.push (x := ⟨y, .frame, plainS x.s⟩) s4 ny FF (.inl rfl)
        have el : (base ++ [(⟨y, .frame, plainS x.s⟩ : Fm)]).map (fun x => V.ref x.a) = base.map (fun x => V.ref x.a) ++ [V.ref y] := by simp
        rw [el] at M5
        refine ⟨m.fl, _, _, rfl, rfl, s4 _ _ M3.fl, by rw [List.length_map]; rw [List.length_append] at hl; exact small1000 (by omega), rfl, ifT rfl ?_⟩
        have F5 : FrAt T 11 x.c (upd H4 m.fl (.lst (base.map (fun x => V.ref x.a) ++ [V.ref y]))) x.a (gOf x.c x.s) := ⟨dy, gs, by rw [upd_ne (ne_of (s4 _ _ h3) (s4 _ _ M3.fl) (fun z => nomatch z))]; exact s4 _ _ h3, h4⟩
        have k5 : Kn m.fl m.mr G2 (upd H4 m.fl (.lst (base.map (fun x => V.ref x.a) ++ [V.ref y]))) := (k3.trans (Kn.of s4)).trans (fun c o n1 _ _ h => by rw [upd_ne n1]; exact h)
        refine F5.fld (l := .line) rfl rfl (F5.fld (l := .scope) rfl rfl ⟨(by show (3 : Nat) ≤ sizeLine; decide), fun w0 hw => ?_⟩)
        exact A.late e ec _ w0 y _ (k5.trans (Kn.of (Same.upd hw))) (leave_zero (S0.xz (by rw [ec]; decide))) upd_same (M5.same (Same.upd hw))
      · rw [e]
        refine ifF (fun z => absurd (V.str.inj z) (by decide +kernel)) ⟨rfl, ifF (fun z => absurd (V.str.inj z) (by decide +kernel)) ⟨rfl, ifF (fun z => absurd (V.str.inj z) (by decide +kernel)) (M2.ob.call ⟨p, base, x, [], mk, _, rfl, M2, fun G3 kp M3 => ?_⟩)⟩⟩
        have k3 : Kn m.fl m.mr G2 G3 := Kn.two kp
        obtain ⟨dy, gs, h2, h4⟩ := F2.fr.ex
        have h3 := kp _ _ (ne_of h2 M2.fl (fun z => nomatch z)) (ne_of h2 M2.mr (fun z => nomatch z)) h2
        have F3 : FrAt T 11 x.c G3 x.a (gOf x.c x.s) := ⟨dy, gs, h3, h4⟩
        have ho3 := (k3.tk M2.fl M2.mr) _ _ F2.os
        have go : gOf x.c x.s .others = some (.ref x.s.oa) := by rw [ec]; rfl
        refine M3.ob.fld (l := .frames) rfl rfl ⟨.inl ⟨_, SqL.of M3.fl⟩, F3.fld (l := .others) rfl go (F3.fld (l := .line) rfl rfl fun y dx ny ndx ney => ?_)⟩
        obtain ⟨F0, s0⟩ := mk_new (T := T) (c := .frame) ny ndx ney
        refine ⟨.frame, y, x.s.oa, x.s.others, .int x.s.line, .non, rfl, F0, s0 _ _ ho3, fun H4 b4 F4 => ⟨rfl, ?_⟩⟩
        have s4 := same_new ny s0 b4
        have FF : FAt T .frame H4 y (plainS x.s) := frm_of (.inl rfl) ⟨rfl, rfl, rfl, rfl, rfl, rfl, s4 _ _ ho3, s4 _ _ ho3, F2.ol, F2.ol⟩ F4
        have M5 := M3.push (x := ⟨y, .frame, plainS x.s⟩) s4 ny FF (.inl rfl)
        have el : (base ++ [(⟨y, .frame, plainS x.s⟩ : Fm)]).map (fun x => V.ref x.a) = base.map (fun x => V.ref x.a) ++ [V.ref y] := by simp
        rw [el] at M5
        refine ⟨m.fl, _, _, rfl, rfl, s4 _ _ M3.fl, by rw [List.length_map]; rw [List.length_append] at hl; exact small1000 (by omega), rfl, ifF (fun z => absurd (V.str.inj z) (by decide +kernel)) ?_⟩
        have F5 : FrAt T 11 x.c (upd H4 m.fl (.lst (base.map (fun x => V.ref x.a) ++ [V.ref y]))) x.a (gOf x.c x.s) := ⟨dy, gs, by rw [upd_ne (ne_of (s4 _ _ h3) (s4 _ _ M3.fl) (fun z => nomatch z))]; exact s4 _ _ h3, h4⟩
        have k5 : Kn m.fl m.mr G2 (upd H4 m.fl (.lst (base.map (fun x => V.ref x.a) ++ [V.ref y]))) := (k3.trans (Kn.of s4)).trans (fun c o n1 _ _ h => by rw [upd_ne n1]; exact h)
        subst eg
        obtain ⟨u, g1, g2⟩ := hg2.tk (k5.tk M2.fl M2.mr)
        refine F5.fld (l := .line) rfl rfl ⟨t, _, _, .ref u, rfl, rfl, SqT.of g1, atI_nat (j := 1) rfl, (by show (3 : Nat) ≤ sizeLine; decide), fun w0 hw => ?_⟩
        exact A.caught e ec _ w0 u y _ (k5.trans (Kn.of (Same.upd hw))) (leave_zero (S0.xz (by rw [ec]; decide))) upd_same ((Same.upd hw) _ _ g2) (M5.same (Same.upd hw))
    · intro U hU
      refine ⟨fun k' σ G => σ = [some (.ref p), some (.ref t), none, none] ∧ ∃ (ext : List Fm) (mk : List (Key × V)), k' = ext.length ∧ MAt T G p (base ++ [x] ++ ext) [] mk { m with sg := .non } ∧ (∀ y ∈ ext, y ∈ ext0) ∧ SigAt G t g ∧ Kn m.fl m.mr H G ∧ Mk0 mk0 mk, ⟨_, rfl, ext0, mk0, rfl, M1, fun _ h => h, ht1, k1, rfl⟩, ?_⟩
      rintro k' σ G ⟨rfl, ext, mk, rfl, M, hsub, hg, kn, mz⟩
      rcases List.eq_nil_or_concat ext with rfl | ⟨ext', y, rfl⟩
      · rw [List.append_nil] at M
        have F := M.fr x mlast
        have hf := M.fl
        rw [List.map_append] at hf
        (simp only [tLst, tTup, tDNewK, _root_.L2.start, cxOf_K, cxComp_K, tSeq, tAsg, gName, tRet, tRetN, tDrop, tIfS, tTest, tB, tNot, tAnd, tOr, tAndV, tOrV, tNotV, tOp, tUn, tVar, tC, tCons, tNil, tStrs, tCB, tCall, tChain, tBM, tBM0, tPart, tNoPart, tSl, tIf, tNext, tTrue, selS, Option.bind_none, Option.bind_some, Option.join_some, if_true, rI, rI0, rU, rEq, rNe, rStarts, rSlS, lenV_str, tyV, List.map_cons, List.map_nil, List.length_cons, List.length_nil, List.replicate, List.cons_append, List.nil_append, List.append_nil, Nat.reduceAdd, Nat.reduceSub, Nat.zero_add, Nat.add_zero, Nat.sub_self, List.getElem?_cons_zero, List.getElem?_cons_succ, List.set_cons_zero, List.set_cons_succ, Option.some.injEq, V.int.injEq, V.str.injEq, V.ref.injEq, V.bl.injEq, V.ty.injEq, List.cons.injEq, exists_eq_left, exists_eq_left', exists_eq_right, exists_and_left, exists_eq, and_true, true_and, and_self, and_assoc, iRrg, tMeth, tMake, tCMeth, tDIn, tDNotIn, tDPop1, tNever, iRev, tDInN])
        refine M.ob.fld (l := .frames) rfl rfl ⟨_, .inl ⟨_, SqL.of M.fl, rfl⟩, ?_⟩
        by_cases c1 : (1 : Int) < (((base ++ [x]).map fun x => V.ref x.a).length : Nat)
        · refine ifT c1 ⟨x.c, M.ob.fld (l := .frames) rfl rfl ⟨m.fl, _, _, .ref x.a, rfl, rfl, SqL.of hf, atI_last _ _, x.a, rfl, F.mt nf_meets ⟨x.a, t, x.s, g, rfl, F, hg, S0.lim x List.mem_cons_self, fun G2 s2 => ⟨rfl, ?_⟩⟩⟩⟩
          have hne : meetsF x.c x.s g ≠ "out" := S0.at_.elim (fun z => by rw [z] at c1; exact absurd c1 (by show ¬ (1 : Int) < ((1 : Nat) : Int); decide)) id
          exact ifF (fun z => hne (V.str.inj z)) (hU _ _ ⟨rfl, mk, M.same s2, hg.same s2, kn.trans (Kn.of s2), mz⟩)
        · exact ifF c1 (iteF (hU _ _ ⟨rfl, mk, M, hg, kn, mz⟩))
      · have ea : base ++ [x] ++ (ext' ++ [y]) = (base ++ [x] ++ ext') ++ [y] := by simp
        have ec : ext'.concat y = ext' ++ [y] := by simp
        rw [ec] at hsub ⊢
        rw [ec, ea] at M
        have hy : y ∈ ext0 := hsub y mlast
        have F := M.fr y mlast
        have hf := M.fl
        rw [List.map_append] at hf
        (simp only [tLst, tTup, tDNewK, _root_.L2.start, cxOf_K, cxComp_K, tSeq, tAsg, gName, tRet, tRetN, tDrop, tIfS, tTest, tB, tNot, tAnd, tOr, tAndV, tOrV, tNotV, tOp, tUn, tVar, tC, tCons, tNil, tStrs, tCB, tCall, tChain, tBM, tBM0, tPart, tNoPart, tSl, tIf, tNext, tTrue, selS, Option.bind_none, Option.bind_some, Option.join_some, if_true, rI, rI0, rU, rEq, rNe, rStarts, rSlS, lenV_str, tyV, List.map_cons, List.map_nil, List.length_cons, List.length_nil, List.replicate, List.cons_append, List.nil_append, List.append_nil, Nat.reduceAdd, Nat.reduceSub, Nat.zero_add, Nat.add_zero, Nat.sub_self, List.getElem?_cons_zero, List.getElem?_cons_succ, List.set_cons_zero, List.set_cons_succ, Option.some.injEq, V.int.injEq, V.str.injEq, V.ref.injEq, V.bl.injEq, V.ty.injEq, List.cons.injEq, exists_eq_left, exists_eq_left', exists_eq_right, exists_and_left, exists_eq, and_true, true_and, and_self, and_assoc, iRrg, tMeth, tMake, tCMeth, tDIn, tDNotIn, tDPop1, tNever, iRev, tDInN])
        refine M.ob.fld (l := .frames) rfl rfl ⟨_, .inl ⟨_, SqL.of M.fl, rfl⟩, ?_⟩
        have ll : ((base ++ [x] ++ ext' ++ [y]).map fun x => V.ref x.a).length = base.length + 1 + ext'.length + 1 := by simp; omega
        refine ifT (by rw [ll]; omega) ⟨y.c, M.ob.fld (l := .frames) rfl rfl ⟨m.fl, _, _, .ref y.a, rfl, rfl, SqL.of hf, atI_last _ _, y.a, rfl, F.mt nf_meets ⟨y.a, t, y.s, g, rfl, F, hg, S0.lim y (List.mem_cons_of_mem _ hy), fun G2 s2 => ⟨rfl, ?_⟩⟩⟩⟩
        have M2 := M.same s2
        refine ifT (by rw [S0.out y hy]) ⟨_, fun _ _ h => h, M2.ob.call ⟨p, base ++ [x] ++ ext', y, [], mk, _, rfl, M2, fun G3 kp M3 => ⟨ext'.length, by rw [List.length_append]; exact Nat.lt_succ_self _, rfl, ext', rfl, _, M3, fun z hz => hsub z (List.mem_append_left _ hz), (hg.same s2).tk ((Kn.two kp).tk M2.fl M2.mr), (kn.trans (Kn.of s2)).trans (Kn.two kp), (leave_zero (S0.nz y hy)).trans mz⟩⟩⟩
theorem sc_Machine_step : FnScope ["self", "told"] ["self"] (defScope (inClass (top 12) 13)) := ⟨rfl, rfl, rfl, by decide +kernel, rfl, by decide +kernel, by decide +kernel⟩
theorem ok_Machine_step (T : Tx K mg)
    (G_Machine_target : FnOk P w K mg base CX0 2 T.m_Machine_target.f T.m_Machine_target.fd ["self"] (spTarget T))
    (G_Machine_go_on : FnOk P w K mg base CX0 6 T.m_Machine_go_on.f T.m_Machine_go_on.fd ["self"] (spGoOn T))
    (G_Machine_send_out : FnOk P w K mg base CX0 4 T.m_Machine_send_out.f T.m_Machine_send_out.fd ["self"] (spSendOut T)) : FnOk P w K mg base CX0 7 T.m_Machine_step.f T.m_Machine_step.fd ["self"] (spStep T) := by
  refine T.m_Machine_step.F.ok sc_Machine_step (fun vs H Q E h => ?_) (fun cdv A outer s H vs Q E hr h => ?_)
  · obtain ⟨p, mk, m, rfl, _⟩ := h
    rfl
  · obtain ⟨p, mk, m, rfl, hk⟩ := h
    have hu := hu100 hr
    have hu1 := hu_of hr
    refine ⟨_, (pss_cons (ps_if (pt_val (pe_fld (pv 0) rfl))
    (pss_cons (ps_fld (pv 0) pe_bl rfl)
    (pss_one (ps_fld (pv 0) (pe_tup (pa_cons pe_str (pa_cons (pe_meth0 (pv 0) T.k_Machine T.m_Machine_target.me G_Machine_target (hr.mono (by omega)) T.m_Machine_target.b .nil pass0) pa_nil))) rfl)))
    pss_nil)
    (pss_cons (ps_while PassesOwn.never (pt_cmpR op_isN (pe_fld (pv 0) rfl) pe_non (nomark _))
    (pss_cons (ps_set (i := 1) sc_Machine_step.nd rfl (Or.inl rfl) (pe_meth0 (pv 0) T.k_Machine T.m_Machine_go_on.me G_Machine_go_on (hr.mono (by omega)) T.m_Machine_go_on.b .nil pass0))
    (pss_one (ps_if (pt_cmpR op_notN (pv 1) pe_non (nomark _))
    (pss_one (ps_ret (pv 1)))
    pss_nil))))
    (pss_one (ps_ret (pe_meth0 (pv 0) T.k_Machine T.m_Machine_send_out.me G_Machine_send_out (hr.mono (by omega)) T.m_Machine_send_out.b .nil pass0))))), ?_⟩
    (simp only [tLst, tTup, tDNewK, _root_.L2.start, cxOf_K, cxComp_K, tSeq, tAsg, gName, tRet, tRetN, tDrop, tIfS, tTest, tB, tNot, tAnd, tOr, tAndV, tOrV, tNotV, tOp, tUn, tVar, tC, tCons, tNil, tStrs, tCB, tCall, tChain, tBM, tBM0, tPart, tNoPart, tSl, tIf, tNext, tTrue, selS, Option.bind_none, Option.bind_some, Option.join_some, if_true, rI, rI0, rU, rEq, rNe, rStarts, rSlS, lenV_str, tyV, List.map_cons, List.map_nil, List.length_cons, List.length_nil, List.replicate, List.cons_append, List.nil_append, List.append_nil, Nat.reduceAdd, Nat.reduceSub, Nat.zero_add, Nat.add_zero, Nat.sub_self, List.getElem?_cons_zero, List.getElem?_cons_succ, List.set_cons_zero, List.set_cons_succ, Option.some.injEq, V.int.injEq, V.str.injEq, V.ref.injEq, V.bl.injEq, V.ty.injEq, List.cons.injEq, exists_eq_left, exists_eq_left', exists_eq_right, exists_and_left, exists_eq, and_true, true_and, and_self, and_assoc, iRrg, tMeth, tMake, tCMeth, tDIn, tDNotIn, tDPop1, tNever, iRev, tDInN])
    have mlast : ∀ {l : List Fm} {y : Fm}, y ∈ l ++ [y] := fun {l y} => List.mem_append_right _ List.mem_cons_self
    rcases hk with ⟨stk, x, ext0, q, M, hst, hsg, hid, hq, k⟩ | ⟨stk, base, x, ext, g, M, hln, hpd, S, A⟩ | ⟨stk, x, a, xs, M, hst, hpl, P, A⟩
    · refine M.ob.fld (l := .struck) rfl (show some (V.bl m.st) = some (.bl false) by rw [hst]) ⟨_, rfl, bF rfl ?_⟩
      refine ⟨fun k' σ G => ∃ (v1 : Option V) (ext : List Fm), σ = [some (.ref p), v1] ∧ k' = ext.length ∧ (∀ y ∈ ext, y ∈ ext0) ∧ MAt T G p (stk ++ [x] ++ ext) [] mk m ∧ Kn m.fl m.mr H G, ⟨_, _, ext0, rfl, rfl, fun _ h => h, M, Kn.refl _ _ _⟩, ?_⟩
      rintro k' σ G ⟨v1, ext, rfl, rfl, hsub, MG, kG⟩
      rcases List.eq_nil_or_concat ext with rfl | ⟨ext', y, rfl⟩
      · rw [List.append_nil] at MG
        obtain ⟨_, _, hX, _⟩ := (MG.fr x mlast).fr.ex
        (simp only [tLst, tTup, tDNewK, _root_.L2.start, cxOf_K, cxComp_K, tSeq, tAsg, gName, tRet, tRetN, tDrop, tIfS, tTest, tB, tNot, tAnd, tOr, tAndV, tOrV, tNotV, tOp, tUn, tVar, tC, tCons, tNil, tStrs, tCB, tCall, tChain, tBM, tBM0, tPart, tNoPart, tSl, tIf, tNext, tTrue, selS, Option.bind_none, Option.bind_some, Option.join_some, if_true, rI, rI0, rU, rEq, rNe, rStarts, rSlS, lenV_str, tyV, List.map_cons, List.map_nil, List.length_cons, List.length_nil, List.replicate, List.cons_append, List.nil_append, List.append_nil, Nat.reduceAdd, Nat.reduceSub, Nat.zero_add, Nat.add_zero, Nat.sub_self, List.getElem?_cons_zero, List.getElem?_cons_succ, List.set_cons_zero, List.set_cons_succ, Option.some.injEq, V.int.injEq, V.str.injEq, V.ref.injEq, V.bl.injEq, V.ty.injEq, List.cons.injEq, exists_eq_left, exists_eq_left', exists_eq_right, exists_and_left, exists_eq, and_true, true_and, and_self, and_assoc, iRrg, tMeth, tMake, tCMeth, tDIn, tDNotIn, tDPop1, tNever, iRev, tDInN])
        refine MG.ob.fld (l := .signal) rfl (show some m.sg = some .non by rw [hsg]) (bT (by simp) ⟨_, fun _ _ h => h, ?_⟩)
        refine MG.ob.call ⟨p, stk, x, mk, m, rfl, MG, .inl ⟨q, hq, fun H' b M' => k H' _ (kG.trans (Kn.but b hX)) M' fun v H2 hv hQ => ?_⟩⟩
        exact bT (by simp [hv]) hQ
      · have ea : stk ++ [x] ++ (ext' ++ [y]) = (stk ++ [x] ++ ext') ++ [y] := by simp
        have ec : ext'.concat y = ext' ++ [y] := by simp
        rw [ec] at hsub ⊢
        rw [ec, ea] at MG
        obtain ⟨O, e1, e2⟩ := hid y (hsub y mlast)
        (simp only [tLst, tTup, tDNewK, _root_.L2.start, cxOf_K, cxComp_K, tSeq, tAsg, gName, tRet, tRetN, tDrop, tIfS, tTest, tB, tNot, tAnd, tOr, tAndV, tOrV, tNotV, tOp, tUn, tVar, tC, tCons, tNil, tStrs, tCB, tCall, tChain, tBM, tBM0, tPart, tNoPart, tSl, tIf, tNext, tTrue, selS, Option.bind_none, Option.bind_some, Option.join_some, if_true, rI, rI0, rU, rEq, rNe, rStarts, rSlS, lenV_str, tyV, List.map_cons, List.map_nil, List.length_cons, List.length_nil, List.replicate, List.cons_append, List.nil_append, List.append_nil, Nat.reduceAdd, Nat.reduceSub, Nat.zero_add, Nat.add_zero, Nat.sub_self, List.getElem?_cons_zero, List.getElem?_cons_succ, List.set_cons_zero, List.set_cons_succ, Option.some.injEq, V.int.injEq, V.str.injEq, V.ref.injEq, V.bl.injEq, V.ty.injEq, List.cons.injEq, exists_eq_left, exists_eq_left', exists_eq_right, exists_and_left, exists_eq, and_true, true_and, and_self, and_assoc, iRrg, tMeth, tMake, tCMeth, tDIn, tDNotIn, tDPop1, tNever, iRev, tDInN])
        refine MG.ob.fld (l := .signal) rfl (show some m.sg = some .non by rw [hsg]) (bT (by simp) ⟨_, fun _ _ h => h, ?_⟩)
        refine MG.ob.call ⟨p, stk ++ [x] ++ ext', y, mk, m, rfl, MG, .inr (.inl ⟨O, by simp, fun H' kn M' => bF (by simp) ?_⟩)⟩
        rw [e1, e2] at M'
        have em : { m with sg := V.non } = m := by
          have := hsg
          cases m
          simp only at this
          rw [this]
        rw [em] at M'
        exact ⟨ext'.length, by rw [List.length_append]; exact Nat.lt_succ_self _, _, rfl, ext', rfl, fun z hz => hsub z (List.mem_append_left _ hz), M', kG.trans kn⟩
    · have snd : ∀ (H2 : Hp) (t : Addr), Kn m.fl m.mr H H2 → MAt T H2 p (base ++ [x] ++ ext) [] mk { m with st := false, sg := .ref t } → SigAt H2 t g → (base ++ [x] ++ ext).length ≤ 100 → spSendOut T [.ref p] H2 Q E0 := fun H2 t kn M2 hg hl => ⟨p, t, base, x, ext, mk, _, g, rfl, M2, S, rfl, hg, hl, A H2 t kn ⟨_, _, M2.fl, M2.mr⟩ hg⟩
      rcases hpd with ⟨hst, hsg, es, n, eg, htg⟩ | ⟨hst, es, t, hsg, hg⟩ | ⟨hst, hsg, y, t, es, O, ysc, yh, hg⟩
      · refine M.ob.fld (l := .struck) rfl (show some (V.bl m.st) = some (.bl true) by rw [hst]) ⟨_, rfl, bT rfl ?_⟩
        obtain ⟨_, _, hP, _⟩ := M.ob.ex
        refine M.ob.re (l := .struck) rfl (fun z => nomatch z) fun H1 b1 O1 => ?_
        rw [g_st] at O1
        have M1 := M.byP b1 O1 rfl rfl rfl
        have put : ∀ N : St → Hp → Prop, (∀ H4 t, Kn m.fl m.mr H H4 → H4 t = some (.tup [.str "strike", .int n]) → MAt T H4 p stk [] mk { m with st := false, sg := .ref t } → N [some (.ref p), none] H4) → sFld K (tVar 0) (tTup (tCons (tC (.str "strike")) (tCons (tMeth T.C_Machine "target" (spTarget T) [] E0 (tVar 0) tNil) tNil))) "signal" { nx := N, rt := Q } [some (.ref p), none] H1 := fun N hN => by
          simp only [sFld, tTup, tCons, tNil, tC, tMeth]
          refine ⟨_, rfl, ?_⟩
          obtain ⟨dx1, fs1, q1, q2, _⟩ := M1.ob.call (z := "target") trivial
          refine ⟨p, dx1, fs1, rfl, q1, q2, p, stk, [], mk, _, rfl, M1, ?_⟩
          rw [htg]
          refine ⟨(by show (2 : Nat) ≤ sizeLine; decide), fun t ht => ?_⟩
          have s3 := Same.upd (o := .tup [V.str "strike", .int n]) ht
          have M3 := M1.same s3
          obtain ⟨_, _, hP3, _⟩ := M3.ob.ex
          refine M3.ob.re (l := .signal) rfl (fun z => nomatch z) fun H4 b4 O4 => ?_
          rw [g_sg] at O4
          exact hN H4 t (((Kn.but b1 hP).trans (Kn.of s3)).trans (Kn.but b4 hP3)) (b4.tup hP3 upd_same) (M3.byP b4 O4 rfl rfl rfl)
        refine put _ fun H2 t kn2 ht2 M2 => ?_
        refine ⟨fun k' σ G => k' = 0 ∧ σ = [some (.ref p), none] ∧ H2 = G, ⟨0, rfl, rfl, rfl⟩, ?_⟩
        rintro k' σ G ⟨rfl, rfl, rfl⟩
        (simp only [tLst, tTup, tDNewK, _root_.L2.start, cxOf_K, cxComp_K, tSeq, tAsg, gName, tRet, tRetN, tDrop, tIfS, tTest, tB, tNot, tAnd, tOr, tAndV, tOrV, tNotV, tOp, tUn, tVar, tC, tCons, tNil, tStrs, tCB, tCall, tChain, tBM, tBM0, tPart, tNoPart, tSl, tIf, tNext, tTrue, selS, Option.bind_none, Option.bind_some, Option.join_some, if_true, rI, rI0, rU, rEq, rNe, rStarts, rSlS, lenV_str, tyV, List.map_cons, List.map_nil, List.length_cons, List.length_nil, List.replicate, List.cons_append, List.nil_append, List.append_nil, Nat.reduceAdd, Nat.reduceSub, Nat.zero_add, Nat.add_zero, Nat.sub_self, List.getElem?_cons_zero, List.getElem?_cons_succ, List.set_cons_zero, List.set_cons_succ, Option.some.injEq, V.int.injEq, V.str.injEq, V.ref.injEq, V.bl.injEq, V.ty.injEq, List.cons.injEq, exists_eq_left, exists_eq_left', exists_eq_right, exists_and_left, exists_eq, and_true, true_and, and_self, and_assoc, iRrg, tMeth, tMake, tCMeth, tDIn, tDNotIn, tDPop1, tNever, iRev, tDInN])
        refine M2.ob.fld (l := .signal) rfl rfl (bF (by simp) ?_)
        rw [es] at M2 hln
        exact M2.ob.call (snd H2 t kn2 M2 (by rw [eg]; exact ht2) hln)
      · refine M.ob.fld (l := .struck) rfl (show some (V.bl m.st) = some (.bl false) by rw [hst]) ⟨_, rfl, bF rfl ?_⟩
        refine ⟨fun k' σ G => k' = 0 ∧ σ = [some (.ref p), none] ∧ H = G, ⟨0, rfl, rfl, rfl⟩, ?_⟩
        rintro k' σ G ⟨rfl, rfl, rfl⟩
        (simp only [tLst, tTup, tDNewK, _root_.L2.start, cxOf_K, cxComp_K, tSeq, tAsg, gName, tRet, tRetN, tDrop, tIfS, tTest, tB, tNot, tAnd, tOr, tAndV, tOrV, tNotV, tOp, tUn, tVar, tC, tCons, tNil, tStrs, tCB, tCall, tChain, tBM, tBM0, tPart, tNoPart, tSl, tIf, tNext, tTrue, selS, Option.bind_none, Option.bind_some, Option.join_some, if_true, rI, rI0, rU, rEq, rNe, rStarts, rSlS, lenV_str, tyV, List.map_cons, List.map_nil, List.length_cons, List.length_nil, List.replicate, List.cons_append, List.nil_append, List.append_nil, Nat.reduceAdd, Nat.reduceSub, Nat.zero_add, Nat.add_zero, Nat.sub_self, List.getElem?_cons_zero, List.getElem?_cons_succ, List.set_cons_zero, List.set_cons_succ, Option.some.injEq, V.int.injEq, V.str.injEq, V.ref.injEq, V.bl.injEq, V.ty.injEq, List.cons.injEq, exists_eq_left, exists_eq_left', exists_eq_right, exists_and_left, exists_eq, and_true, true_and, and_self, and_assoc, iRrg, tMeth, tMake, tCMeth, tDIn, tDNotIn, tDPop1, tNever, iRev, tDInN])
        refine M.ob.fld (l := .signal) rfl (show some m.sg = some (.ref t) by rw [hsg]) (bF (by simp) ?_)
        rw [es] at M hln
        have em : { m with st := false, sg := .ref t } = m := by
          have h1 := hst
          have h2 := hsg
          cases m
          simp only at h1 h2
          rw [h1, h2]
        exact M.ob.call (snd H t (Kn.refl _ _ _) (by rw [em]; exact M) hg hln)
      · rw [es] at M hln
        refine M.ob.fld (l := .struck) rfl (show some (V.bl m.st) = some (.bl false) by rw [hst]) ⟨_, rfl, bF rfl ?_⟩
        refine ⟨fun k' σ G => (k' = 1 ∧ σ = [some (.ref p), none] ∧ H = G) ∨ (k' = 0 ∧ σ = [some (.ref p), some .non] ∧ Kn m.fl m.mr H G ∧ MAt T G p (base ++ [x] ++ ext) [] mk { m with st := false, sg := .ref t } ∧ SigAt G t g), ⟨1, .inl ⟨rfl, rfl, rfl⟩⟩, ?_⟩
        rintro k' σ G (⟨rfl, rfl, rfl⟩ | ⟨rfl, rfl, kn, MG, hgG⟩)
        · (simp only [tLst, tTup, tDNewK, _root_.L2.start, cxOf_K, cxComp_K, tSeq, tAsg, gName, tRet, tRetN, tDrop, tIfS, tTest, tB, tNot, tAnd, tOr, tAndV, tOrV, tNotV, tOp, tUn, tVar, tC, tCons, tNil, tStrs, tCB, tCall, tChain, tBM, tBM0, tPart, tNoPart, tSl, tIf, tNext, tTrue, selS, Option.bind_none, Option.bind_some, Option.join_some, if_true, rI, rI0, rU, rEq, rNe, rStarts, rSlS, lenV_str, tyV, List.map_cons, List.map_nil, List.length_cons, List.length_nil, List.replicate, List.cons_append, List.nil_append, List.append_nil, Nat.reduceAdd, Nat.reduceSub, Nat.zero_add, Nat.add_zero, Nat.sub_self, List.getElem?_cons_zero, List.getElem?_cons_succ, List.set_cons_zero, List.set_cons_succ, Option.some.injEq, V.int.injEq, V.str.injEq, V.ref.injEq, V.bl.injEq, V.ty.injEq, List.cons.injEq, exists_eq_left, exists_eq_left', exists_eq_right, exists_and_left, exists_eq, and_true, true_and, and_self, and_assoc, iRrg, tMeth, tMake, tCMeth, tDIn, tDNotIn, tDPop1, tNever, iRev, tDInN])
          refine M.ob.fld (l := .signal) rfl (show some m.sg = some .non by rw [hsg]) (bT (by simp) ⟨fun σ' G' => σ' = [some (.ref p), some .non] ∧ Kn m.fl m.mr H G' ∧ MAt T G' p (base ++ [x] ++ ext) [] mk { m with st := false, sg := .ref t } ∧ SigAt G' t g, fun σ' G' h => ⟨0, by decide, .inr ⟨rfl, h⟩⟩, ?_⟩)
          (simp only [tLst, tTup, tDNewK, _root_.L2.start, cxOf_K, cxComp_K, tSeq, tAsg, gName, tRet, tRetN, tDrop, tIfS, tTest, tB, tNot, tAnd, tOr, tAndV, tOrV, tNotV, tOp, tUn, tVar, tC, tCons, tNil, tStrs, tCB, tCall, tChain, tBM, tBM0, tPart, tNoPart, tSl, tIf, tNext, tTrue, selS, Option.bind_none, Option.bind_some, Option.join_some, if_true, rI, rI0, rU, rEq, rNe, rStarts, rSlS, lenV_str, tyV, List.map_cons, List.map_nil, List.length_cons, List.length_nil, List.replicate, List.cons_append, List.nil_append, List.append_nil, Nat.reduceAdd, Nat.reduceSub, Nat.zero_add, Nat.add_zero, Nat.sub_self, List.getElem?_cons_zero, List.getElem?_cons_succ, List.set_cons_zero, List.set_cons_succ, Option.some.injEq, V.int.injEq, V.str.injEq, V.ref.injEq, V.bl.injEq, V.ty.injEq, List.cons.injEq, exists_eq_left, exists_eq_left', exists_eq_right, exists_and_left, exists_eq, and_true, true_and, and_self, and_assoc, iRrg, tMeth, tMake, tCMeth, tDIn, tDNotIn, tDPop1, tNever, iRev, tDInN])
          refine M.ob.call ⟨p, base ++ [x] ++ ext, y, mk, m, rfl, M, .inr (.inl ⟨O, by simp, fun H' kn M' => bF (by simp) ?_⟩)⟩
          rw [ysc, yh] at M'
          have em : { m with sg := .ref t } = { m with st := false, sg := .ref t } := by
            have h1 := hst
            cases m
            simp only at h1
            rw [h1]
          rw [em] at M'
          exact ⟨rfl, kn, M', hg.tk (kn.tk M.fl M.mr)⟩
        · (simp only [tLst, tTup, tDNewK, _root_.L2.start, cxOf_K, cxComp_K, tSeq, tAsg, gName, tRet, tRetN, tDrop, tIfS, tTest, tB, tNot, tAnd, tOr, tAndV, tOrV, tNotV, tOp, tUn, tVar, tC, tCons, tNil, tStrs, tCB, tCall, tChain, tBM, tBM0, tPart, tNoPart, tSl, tIf, tNext, tTrue, selS, Option.bind_none, Option.bind_some, Option.join_some, if_true, rI, rI0, rU, rEq, rNe, rStarts, rSlS, lenV_str, tyV, List.map_cons, List.map_nil, List.length_cons, List.length_nil, List.replicate, List.cons_append, List.nil_append, List.append_nil, Nat.reduceAdd, Nat.reduceSub, Nat.zero_add, Nat.add_zero, Nat.sub_self, List.getElem?_cons_zero, List.getElem?_cons_succ, List.set_cons_zero, List.set_cons_succ, Option.some.injEq, V.int.injEq, V.str.injEq, V.ref.injEq, V.bl.injEq, V.ty.injEq, List.cons.injEq, exists_eq_left, exists_eq_left', exists_eq_right, exists_and_left, exists_eq, and_true, true_and, and_self, and_assoc, iRrg, tMeth, tMake, tCMeth, tDIn, tDNotIn, tDPop1, tNever, iRev, tDInN])
          refine MG.ob.fld (l := .signal) rfl rfl (bF (by simp) ?_)
          exact MG.ob.call (snd G t kn MG hgG (by rw [List.length_append] at hln; omega))
    · refine M.ob.fld (l := .struck) rfl (show some (V.bl m.st) = some (.bl false) by rw [hst]) ⟨_, rfl, bF rfl ?_⟩
      refine ⟨fun k' σ G => k' = 0 ∧ σ = [some (.ref p), none] ∧ H = G, ⟨0, rfl, rfl, rfl⟩, ?_⟩
      rintro k' σ G ⟨rfl, rfl, rfl⟩
      (simp only [tLst, tTup, tDNewK, _root_.L2.start, cxOf_K, cxComp_K, tSeq, tAsg, gName, tRet, tRetN, tDrop, tIfS, tTest, tB, tNot, tAnd, tOr, tAndV, tOrV, tNotV, tOp, tUn, tVar, tC, tCons, tNil, tStrs, tCB, tCall, tChain, tBM, tBM0, tPart, tNoPart, tSl, tIf, tNext, tTrue, selS, Option.bind_none, Option.bind_some, Option.join_some, if_true, rI, rI0, rU, rEq, rNe, rStarts, rSlS, lenV_str, tyV, List.map_cons, List.map_nil, List.length_cons, List.length_nil, List.replicate, List.cons_append, List.nil_append, List.append_nil, Nat.reduceAdd, Nat.reduceSub, Nat.zero_add, Nat.add_zero, Nat.sub_self, List.getElem?_cons_zero, List.getElem?_cons_succ, List.set_cons_zero, List.set_cons_succ, Option.some.injEq, V.int.injEq, V.str.injEq, V.ref.injEq, V.bl.injEq, V.ty.injEq, List.cons.injEq, exists_eq_left, exists_eq_left', exists_eq_right, exists_and_left, exists_eq, and_true, true_and, and_self, and_assoc, iRrg, tMeth, tMake, tCMeth, tDIn, tDNotIn, tDPop1, tNever, iRev, tDInN])
      refine M.ob.fld (l := .signal) rfl (show some m.sg = some .non by rw [P.sg]) (bT (by simp) ⟨_, fun _ _ h => h, ?_⟩)
      refine M.ob.call ⟨p, stk, x, mk, m, rfl, M, .inr (.inr ⟨a, xs, hpl, P, ⟨fun hx H' w t' kn hw ht M' => bT (by simp) (A.some_ hx H' w t' kn hw ht M'), fun hx H' w sg kn hw hh M' => bT (by simp) (A.none_ hx H' w sg kn hw hh M')⟩⟩)⟩
theorem sc_l_cell_at : FnScope ["_law_script", "_law_k"] ["_law_script", "_law_k"] (defScope (top 14)) := ⟨rfl, rfl, rfl, by decide +kernel, rfl, by decide +kernel, by decide +kernel⟩
theorem ok_l_cell_at (T : Tx K mg) : FnOk P w K mg base CX0 1 T.d_l_cell_at.f T.d_l_cell_at.fd ["_law_script", "_law_k"] (spCell K) := by
  refine T.d_l_cell_at.F.ok sc_l_cell_at (fun vs H Q E h => ?_) (fun cdv A outer s H vs Q E hr h => ?_)
  · obtain ⟨a, ns, i, rfl, _⟩ := h
    rfl
  · obtain ⟨a, ns, i, rfl, ha, k⟩ := h
    refine ⟨_, (pss_cons (ps_if (pt_cmpR op_lt (pv 1) (pe_callB call_len (by rfl) T.n_len bt_len (pa_cons (pv 0) pa_nil)) (nomark _))
    (pss_one (ps_ret (pe_ix ix_list (pv 0) (pv 1) (fun _ _ => rfl))))
    pss_nil)
    (pss_one (ps_ret pe_int))), ?_⟩
    (simp only [tLst, tTup, tDNewK, _root_.L2.start, cxOf_K, cxComp_K, tSeq, tAsg, gName, tRet, tRetN, tDrop, tIfS, tTest, tB, tNot, tAnd, tOr, tAndV, tOrV, tNotV, tOp, tUn, tVar, tC, tCons, tNil, tStrs, tCB, tCall, tChain, tBM, tBM0, tPart, tNoPart, tSl, tIf, tNext, tTrue, selS, Option.bind_none, Option.bind_some, Option.join_some, if_true, rI, rI0, rU, rEq, rNe, rStarts, rSlS, lenV_str, tyV, List.map_cons, List.map_nil, List.length_cons, List.length_nil, List.replicate, List.cons_append, List.nil_append, List.append_nil, Nat.reduceAdd, Nat.reduceSub, Nat.zero_add, Nat.add_zero, Nat.sub_self, List.getElem?_cons_zero, List.getElem?_cons_succ, List.set_cons_zero, List.set_cons_succ, Option.some.injEq, V.int.injEq, V.str.injEq, V.ref.injEq, V.bl.injEq, V.ty.injEq, List.cons.injEq, exists_eq_left, exists_eq_left', exists_eq_right, exists_and_left, exists_eq, and_true, true_and, and_self, and_assoc, iRrg, tMeth, tMake, tCMeth, tDIn, tDNotIn, tDPop1, tNever, iRev, tDInN])
    refine ⟨_, .inl ⟨_, ha, rfl⟩, ?_⟩
    by_cases c : ((i : Int) < (ns.map V.int).length)
    · have hi : i < ns.length := by rw [List.length_map] at c; omega
      exact ifT c ⟨a, _, _, .int ns[i], rfl, rfl, ha, atI_nat (by rw [List.getElem?_map, List.getElem?_eq_getElem hi]; rfl), k _⟩
    · exact ifF c (k _)
theorem sc_l_mixed : FnScope ["_law_cell", "_law_k", "_law_mixed_here"] ["_law_cell", "_law_k"] (defScope (top 15)) := ⟨rfl, rfl, rfl, by decide +kernel, rfl, by decide +kernel, by decide +kernel⟩
theorem ok_l_mixed (T : Tx K mg) : FnOk P w K mg base CX0 1 T.d_l_mixed.f T.d_l_mixed.fd ["_law_cell", "_law_k"] (spMixed) := by
  refine T.d_l_mixed.F.ok sc_l_mixed (fun vs H Q E h => ?_) (fun cdv A outer s H vs Q E hr h => ?_)
  · obtain ⟨a, b, rfl, _⟩ := h
    rfl
  · obtain ⟨a, b, rfl, h0, h1, k⟩ := h
    refine ⟨_, (pss_cons (ps_set (i := 2) sc_l_mixed.nd rfl (Or.inl rfl) (pe_op op_mod (pe_op op_mul (pe_op op_add (pe_op op_add (pv 0) (pe_op op_mul pe_int (pv 1))) (pe_op op_mul (pe_op op_mul pe_int (pv 1)) (pv 1))) pe_int) pe_int))
    (pss_one (ps_ret (pe_op op_mod (pe_op op_mul (pv 2) (pe_op op_add (pe_op op_add (pe_op op_mod (pv 2) pe_int) (pv 1)) pe_int)) pe_int)))), ?_⟩
    (simp only [tLst, tTup, tDNewK, _root_.L2.start, cxOf_K, cxComp_K, tSeq, tAsg, gName, tRet, tRetN, tDrop, tIfS, tTest, tB, tNot, tAnd, tOr, tAndV, tOrV, tNotV, tOp, tUn, tVar, tC, tCons, tNil, tStrs, tCB, tCall, tChain, tBM, tBM0, tPart, tNoPart, tSl, tIf, tNext, tTrue, selS, Option.bind_none, Option.bind_some, Option.join_some, if_true, rI, rI0, rU, rEq, rNe, rStarts, rSlS, lenV_str, tyV, List.map_cons, List.map_nil, List.length_cons, List.length_nil, List.replicate, List.cons_append, List.nil_append, List.append_nil, Nat.reduceAdd, Nat.reduceSub, Nat.zero_add, Nat.add_zero, Nat.sub_self, List.getElem?_cons_zero, List.getElem?_cons_succ, List.set_cons_zero, List.set_cons_succ, Option.some.injEq, V.int.injEq, V.str.injEq, V.ref.injEq, V.bl.injEq, V.ty.injEq, List.cons.injEq, exists_eq_left, exists_eq_left', exists_eq_right, exists_and_left, exists_eq, and_true, true_and, and_self, and_assoc, iRrg, tMeth, tMake, tCMeth, tDIn, tDNotIn, tDPop1, tNever, iRev, tDInN])
    refine ⟨.inl ⟨by decide, by decide⟩, .inl ⟨by decide, by decide⟩, .inr ⟨by omega, by omega⟩, .inr ⟨by decide, by decide⟩, by decide, by decide, .inl ⟨by omega, by omega⟩, by decide, k _ (Int.emod_nonneg _ (by decide))⟩
theorem sc_l_chain : FnScope ["_law_script", "_law_turn", "_law_chain_here", "_law_k", "_law_pick", "_law_kind"] ["_law_script", "_law_turn"] (defScope (top 16)) := ⟨rfl, rfl, rfl, by decide +kernel, rfl, by decide +kernel, by decide +kernel⟩
theorem ok_l_chain (T : Tx K mg)
    (G_l_mixed : FnOk P w K mg base CX0 1 T.d_l_mixed.f T.d_l_mixed.fd ["_law_cell", "_law_k"] (spMixed)) : FnOk P w K mg base CX0 2 T.d_l_chain.f T.d_l_chain.fd ["_law_script", "_law_turn"] (spChain K) := by
  refine T.d_l_chain.F.ok sc_l_chain (fun vs H Q E h => ?_) (fun cdv A outer s H vs Q E hr h => ?_)
  · obtain ⟨a, ns, tn, rfl, _⟩ := h
    rfl
  · obtain ⟨a, ns, tn, rfl, ht, ha, hns, k⟩ := h
    have hu := hu100 hr
    have hu1 := hu_of hr
    refine ⟨_, (pss_cons (ps_set (i := 2) sc_l_chain.nd rfl (Or.inl rfl) (pe_lst pa_nil))
    (pss_cons (ps_for PassesOwn.never rfl (pi_range2 rfl T.n_range (pa_cons pe_int (pa_cons (pe_callB (call_min2 rfl) (by rfl) T.n_min bt_min (pa_cons (pe_callB call_len (by rfl) T.n_len bt_len (pa_cons (pv 0) pa_nil)) (pa_cons pe_int pa_nil))) pa_nil))) (pg_name (i := 3) sc_l_chain.nd rfl (Or.inl rfl))
    (pss_cons (ps_set (i := 4) sc_l_chain.nd rfl (Or.inl rfl) (pe_call G_l_mixed (hr.mono (by omega)) rfl T.d_l_mixed.hm T.d_l_mixed.F.kp T.d_l_mixed.b .nil pass0 (pa_cons (pe_ix ix_list (pv 0) (pv 3) (fun _ _ => rfl)) (pa_cons (pe_op op_add (pv 3) (pe_op op_mul pe_int (pv 1))) pa_nil))))
    (pss_cons (ps_set (i := 5) sc_l_chain.nd rfl (Or.inl rfl) (pe_ix ix_list (pe_lst (pa_strs (zs := ["group", "limit", "keep", "try", "do", "when", "repeat", "group", "limit", "do"]) (by decide +kernel))) (pe_op op_mod (pv 4) pe_int) (fun _ _ => rfl)))
    (pss_one (ps_expr (pe_bm PySem.F.plainAttrs_list PySem.F.slot_list_append PySem.F.type_list_append mt_append (pv 2) (pa_cons (pe_tup (pa_cons (pv 5) (pa_cons (pv 3) (pa_cons (pe_op op_fdiv (pv 4) pe_int) pa_nil)))) pa_nil)))))))
    (pss_one (ps_ret (pv 2))))), ?_⟩
    (simp only [tLst, tTup, tDNewK, _root_.L2.start, cxOf_K, cxComp_K, tSeq, tAsg, gName, tRet, tRetN, tDrop, tIfS, tTest, tB, tNot, tAnd, tOr, tAndV, tOrV, tNotV, tOp, tUn, tVar, tC, tCons, tNil, tStrs, tCB, tCall, tChain, tBM, tBM0, tPart, tNoPart, tSl, tIf, tNext, tTrue, selS, Option.bind_none, Option.bind_some, Option.join_some, if_true, rI, rI0, rU, rEq, rNe, rStarts, rSlS, lenV_str, tyV, List.map_cons, List.map_nil, List.length_cons, List.length_nil, List.replicate, List.cons_append, List.nil_append, List.append_nil, Nat.reduceAdd, Nat.reduceSub, Nat.zero_add, Nat.add_zero, Nat.sub_self, List.getElem?_cons_zero, List.getElem?_cons_succ, List.set_cons_zero, List.set_cons_succ, Option.some.injEq, V.int.injEq, V.str.injEq, V.ref.injEq, V.bl.injEq, V.ty.injEq, List.cons.injEq, exists_eq_left, exists_eq_left', exists_eq_right, exists_and_left, exists_eq, and_true, true_and, and_self, and_assoc, iRrg, tMeth, tMake, tCMeth, tDIn, tDNotIn, tDPop1, tNever, iRev, tDInN])
    refine ⟨by decide, fun l hl => ?_⟩
    have nl : (ns.map V.int).length = ns.length := List.length_map _
    obtain ⟨N, eN, hN8, hNn⟩ : ∃ N : Nat, (if (8 : Int) < ((ns.map V.int).length : Nat) then (8 : Int) else ((ns.map V.int).length : Nat)) = (N : Nat) ∧ N ≤ 8 ∧ N ≤ ns.length := by
      rw [nl]
      by_cases c : (8 : Int) < (ns.length : Nat)
      · exact ⟨8, by rw [if_pos c]; rfl, Nat.le_refl _, by omega⟩
      · exact ⟨ns.length, by rw [if_neg c], by omega, Nat.le_refl _⟩
    have hA := SqN.of ha
    refine ⟨_, rfl, _, rfl, _, .inl ⟨_, (hA.same (Same.upd hl)).sq, rfl⟩, _, _, rfl, 1, (N : Int), by rw [eN], ⟨by decide, by decide, by omega, by omega⟩, ?_⟩
    refine for_range (lo := 1) (n := ((N : Int) - 1).toNat) (fun i σ G => ∃ (v3 v4 v5 : Option V) (cs : List Ce), σ = [some (.ref a), some (.int tn), some (.ref l), v3, v4, v5] ∧ Same H G ∧ LT G l (cs.map Ce.vs) ∧ cs.length = i ∧ ∀ c ∈ cs, 0 ≤ c.ln ∧ c.ln ≤ 100 ∧ 0 ≤ c.pk) ⟨_, _, _, [], rfl, Same.upd hl, LT.nil upd_same, rfl, fun c h => by cases h⟩ ?_ ?_
    · rintro i σ G hi ⟨v3, v4, v5, cs, rfl, sG, L, hlc, hb⟩
      (simp only [tLst, tTup, tDNewK, _root_.L2.start, cxOf_K, cxComp_K, tSeq, tAsg, gName, tRet, tRetN, tDrop, tIfS, tTest, tB, tNot, tAnd, tOr, tAndV, tOrV, tNotV, tOp, tUn, tVar, tC, tCons, tNil, tStrs, tCB, tCall, tChain, tBM, tBM0, tPart, tNoPart, tSl, tIf, tNext, tTrue, selS, Option.bind_none, Option.bind_some, Option.join_some, if_true, rI, rI0, rU, rEq, rNe, rStarts, rSlS, lenV_str, tyV, List.map_cons, List.map_nil, List.length_cons, List.length_nil, List.replicate, List.cons_append, List.nil_append, List.append_nil, Nat.reduceAdd, Nat.reduceSub, Nat.zero_add, Nat.add_zero, Nat.sub_self, List.getElem?_cons_zero, List.getElem?_cons_succ, List.set_cons_zero, List.set_cons_succ, Option.some.injEq, V.int.injEq, V.str.injEq, V.ref.injEq, V.bl.injEq, V.ty.injEq, List.cons.injEq, exists_eq_left, exists_eq_left', exists_eq_right, exists_and_left, exists_eq, and_true, true_and, and_self, and_assoc, iRrg, tMeth, tMake, tCMeth, tDIn, tDNotIn, tDPop1, tNever, iRev, tDInN])
      have hk : 1 + i < ns.length := by omega
      rw [show (1 : Int) + (i : Int) = ((1 + i : Nat) : Int) by omega]
      refine ⟨a, _, _, .int ns[1 + i], rfl, rfl, (hA.same sG).sq, atI_nat (by rw [List.getElem?_map, List.getElem?_eq_getElem hk]; rfl), .inl ⟨by decide, by decide⟩, _, _, rfl, by omega, by omega, fun n hn => ⟨by decide, fun p1 h1 => ⟨n, rfl, by decide, ?_⟩⟩⟩
      obtain ⟨j, hj, ej⟩ : ∃ j : Nat, j < 10 ∧ n % 10 = (j : Nat) := ⟨(n % 10).toNat, by omega, by omega⟩
      obtain ⟨kd, hkd⟩ : ∃ kd : Kd, [V.str "group", V.str "limit", V.str "keep", V.str "try", V.str "do", V.str "when", V.str "repeat", V.str "group", V.str "limit", V.str "do"][j]? = some (.str (wordK kd)) := by
        match j, hj with
        | 0, _ => exact ⟨.grouped, rfl⟩
        | 1, _ => exact ⟨.limited, rfl⟩
        | 2, _ => exact ⟨.kept, rfl⟩
        | 3, _ => exact ⟨.tried, rfl⟩
        | 4, _ => exact ⟨.cleaned, rfl⟩
        | 5, _ => exact ⟨.frame, rfl⟩
        | 6, _ => exact ⟨.rounds, rfl⟩
        | 7, _ => exact ⟨.grouped, rfl⟩
        | 8, _ => exact ⟨.limited, rfl⟩
        | 9, _ => exact ⟨.cleaned, rfl⟩
      rw [ej]
      refine ⟨p1, _, _, .str (wordK kd), rfl, rfl, SqL.of upd_same, atI_nat hkd, ?_⟩
      have s1 := Same.upd (o := .lst [V.str "group", V.str "limit", V.str "keep", V.str "try", V.str "do", V.str "when", V.str "repeat", V.str "group", V.str "limit", V.str "do"]) h1
      generalize upd G p1 (.lst [V.str "group", V.str "limit", V.str "keep", V.str "try", V.str "do", V.str "when", V.str "repeat", V.str "group", V.str "limit", V.str "do"]) = G1 at s1 ⊢
      have L1 := L.same s1
      obtain ⟨xs1, hx1, _, _⟩ := L1.ex
      refine ⟨.inl ⟨_, SqL.of hx1⟩, n, rfl, ⟨by decide, by decide⟩, by decide, fun t ht' => ?_⟩
      have s2 := Same.upd (o := .tup (Ce.vs ⟨kd, ((1 + i : Nat) : Int), n / 16⟩)) ht'
      obtain ⟨xs, hxs, hxl, L3⟩ := (L1.same s2).add (t := Ce.vs ⟨kd, ((1 + i : Nat) : Int), n / 16⟩) upd_same
      refine ⟨l, xs, _, rfl, rfl, hxs, small1000 (by rw [hxl, List.length_map]; omega), same_put ((sG.trans s1).trans s2) hl, cs ++ [⟨kd, ((1 + i : Nat) : Int), n / 16⟩], by rw [List.map_append]; exact L3, by rw [List.length_append, hlc]; rfl, fun c hc => ?_⟩
      rcases List.mem_append.mp hc with q | q
      · exact hb c q
      · rw [List.mem_singleton.mp q]
        refine ⟨?_, ?_, Int.ediv_nonneg hn (by decide)⟩
        · show (0 : Int) ≤ ((1 + i : Nat) : Int); omega
        · show ((1 + i : Nat) : Int) ≤ 100; omega
    · rintro σ G ⟨v3, v4, v5, cs, rfl, sG, L, hlc, hb⟩
      exact ⟨_, rfl, k G l cs sG hl L (by omega) hb⟩
theorem sc_l_nested : FnScope ["_law_chain_here", "_law_inner", "_law_rows", "_law_kind", "_law_line", "_law_pick", "_law_row"] ["_law_chain_here", "_law_inner"] (defScope (top 17)) := ⟨rfl, rfl, rfl, by decide +kernel, rfl, by decide +kernel, by decide +kernel⟩
theorem ok_l_nested (T : Tx K mg) : FnOk P w K mg base CX0 1 T.d_l_nested.f T.d_l_nested.fd ["_law_chain_here", "_law_inner"] (spNested K) := by
  refine T.d_l_nested.F.ok sc_l_nested (fun vs H Q E h => ?_) (fun cdv A outer s H vs Q E hr h => ?_)
  · obtain ⟨l, inner, cs, u, v, rfl, _⟩ := h
    rfl
  · obtain ⟨l, inner, cs, u, v, rfl, L0, hl7, hb, hin, k⟩ := h
    have hu := hu100 hr
    have hu1 := hu_of hr
    refine ⟨_, (pss_cons (ps_set (i := 2) sc_l_nested.nd rfl (Or.inl rfl) (pv 1))
    (pss_cons (ps_for PassesOwn.never rfl (pi_rev rfl T.n_reversed (pa_cons (pv 0) pa_nil)) (pg_tup (n := 3) rfl (pgs_cons (pg_name (i := 3) sc_l_nested.nd rfl (Or.inl rfl)) (pgs_cons (pg_name (i := 4) sc_l_nested.nd rfl (Or.inl rfl)) (pgs_cons (pg_name (i := 5) sc_l_nested.nd rfl (Or.inl rfl)) pgs_nil))))
    (pss_mid (ps_if (pt_cmpR op_eq (pv 3) pe_str (nomark _))
    (pss_one (ps_set (i := 6) sc_l_nested.nd rfl (Or.inl rfl) (pe_tup (pa_cons (pv 3) (pa_cons (pv 4) (pa_cons (pe_ix ix_list (pe_lst (pa_cons pe_str (pa_cons pe_str pa_nil))) (pe_op op_mod (pv 5) pe_int) (fun _ _ => rfl)) (pa_cons (pv 2) pa_nil)))))))
    (pss_one (ps_if (pt_cmpR op_eq (pv 3) pe_str (nomark _))
    (pss_one (ps_set (i := 6) sc_l_nested.nd rfl (Or.inl rfl) (pe_tup (pa_cons (pv 3) (pa_cons (pv 4) (pa_cons (pe_op op_add pe_int (pe_op op_mod (pv 5) pe_int)) (pa_cons (pv 2) (pa_cons (pe_op op_mulT (pe_tup (pa_cons (pe_tup (pa_cons pe_str (pa_cons (pe_op op_add pe_int (pv 4)) (pa_cons pe_str pa_nil)))) pa_nil)) (pe_op op_mod (pe_op op_fdiv (pv 5) pe_int) pe_int)) pa_nil))))))))
    (pss_one (ps_if (pt_cmpR op_eq (pv 3) pe_str (nomark _))
    (pss_one (ps_set (i := 6) sc_l_nested.nd rfl (Or.inl rfl) (pe_tup (pa_cons (pv 3) (pa_cons (pv 4) (pa_cons (pv 2) pa_nil))))))
    (pss_one (ps_if (pt_cmpR op_eq (pv 3) pe_str (nomark _))
    (pss_one (ps_set (i := 6) sc_l_nested.nd rfl (Or.inl rfl) (pe_tup (pa_cons (pv 3) (pa_cons (pv 4) (pa_cons (pv 2) (pa_cons (pe_ix ix_list (pe_lst (pa_strs (zs := ["boom", "oops", "any"]) (by decide +kernel))) (pe_op op_mod (pv 5) pe_int) (fun _ _ => rfl)) (pa_cons (pe_tup (pa_cons (pe_tup (pa_cons pe_str (pa_cons (pe_op op_add pe_int (pv 4)) (pa_cons pe_str pa_nil)))) pa_nil)) pa_nil))))))))
    (pss_one (ps_if (pt_cmpR op_eq (pv 3) pe_str (nomark _))
    (pss_one (ps_set (i := 6) sc_l_nested.nd rfl (Or.inl rfl) (pe_tup (pa_cons (pv 3) (pa_cons (pv 4) (pa_cons (pv 2) (pa_cons (pe_tup (pa_cons (pe_tup (pa_cons pe_str (pa_cons (pe_op op_add pe_int (pv 4)) (pa_cons pe_str pa_nil)))) pa_nil)) pa_nil)))))))
    (pss_one (ps_if (pt_cmpR op_eq (pv 3) pe_str (nomark _))
    (pss_one (ps_set (i := 6) sc_l_nested.nd rfl (Or.inl rfl) (pe_tup (pa_cons (pv 3) (pa_cons (pv 4) (pa_cons pe_str (pa_cons pe_int (pa_cons (pv 2) pa_nil))))))))
    (pss_one (ps_set (i := 6) sc_l_nested.nd rfl (Or.inl rfl) (pe_tup (pa_cons (pv 3) (pa_cons (pv 4) (pa_cons pe_int (pa_cons (pv 2) pa_nil))))))))))))))))))
    (pss_one (ps_set (i := 2) sc_l_nested.nd rfl (Or.inl rfl) (pe_tup (pa_cons (pv 6) (pa_cons (pe_tup (pa_cons pe_str (pa_cons (pe_op op_add pe_int (pv 4)) (pa_cons pe_str pa_nil)))) pa_nil)))))))
    (pss_one (ps_ret (pv 2))))), ?_⟩
    (simp only [tLst, tTup, tDNewK, _root_.L2.start, cxOf_K, cxComp_K, tSeq, tAsg, gName, tRet, tRetN, tDrop, tIfS, tTest, tB, tNot, tAnd, tOr, tAndV, tOrV, tNotV, tOp, tUn, tVar, tC, tCons, tNil, tStrs, tCB, tCall, tChain, tBM, tBM0, tPart, tNoPart, tSl, tIf, tNext, tTrue, selS, Option.bind_none, Option.bind_some, Option.join_some, if_true, rI, rI0, rU, rEq, rNe, rStarts, rSlS, lenV_str, tyV, List.map_cons, List.map_nil, List.length_cons, List.length_nil, List.replicate, List.cons_append, List.nil_append, List.append_nil, Nat.reduceAdd, Nat.reduceSub, Nat.zero_add, Nat.add_zero, Nat.sub_self, List.getElem?_cons_zero, List.getElem?_cons_succ, List.set_cons_zero, List.set_cons_succ, Option.some.injEq, V.int.injEq, V.str.injEq, V.ref.injEq, V.bl.injEq, V.ty.injEq, List.cons.injEq, exists_eq_left, exists_eq_left', exists_eq_right, exists_and_left, exists_eq, and_true, true_and, and_self, and_assoc, iRrg, tMeth, tMake, tCMeth, tDIn, tDNotIn, tDPop1, tNever, iRev, tDInN])
    obtain ⟨ps, hl, hpl, hps⟩ := L0.at
    refine ⟨_, rfl, l, _, rfl, SqL.of hl, ?_⟩
    refine for_rev (K := K) (a := l) (xs := ps.map V.ref) (fun i σ G => ∃ (b : Addr) (v3 v4 v5 v6 : Option V), σ = [some (.ref l), some (.ref inner), some (.ref b), v3, v4, v5, v6] ∧ Same H G ∧ Nest G inner b (cs.drop (cs.length - i))) ⟨inner, _, _, _, _, rfl, Same.refl _, by rw [Nat.sub_zero, List.drop_length]; rfl⟩ (fun i σ G _ ⟨_, _, _, _, _, _, sG, _⟩ => SqL.of (sG _ _ hl)) ?_ ?_
    · rintro i y σ G hi hlt ⟨b, v3, v4, v5, v6, rfl, sG, N⟩
      obtain ⟨q, t, rfl, et, hq⟩ := hps _ y hi
      rw [List.getElem?_map] at et
      have hlen : (ps.map V.ref).length = cs.length := by rw [List.length_map, hpl, List.length_map]
      rw [hlen] at et hlt
      have hci : cs.length - 1 - i < cs.length := by omega
      rw [List.getElem?_eq_getElem hci] at et
      cases et
      have ed : cs.drop (cs.length - (i + 1)) = cs[cs.length - 1 - i] :: cs.drop (cs.length - i) := by
        rw [show cs.length - (i + 1) = cs.length - 1 - i by omega, List.drop_eq_getElem_cons hci, show cs.length - 1 - i + 1 = cs.length - i by omega]
      have hc := hb _ (List.getElem_mem hci)
      generalize cs[cs.length - 1 - i] = c at ed hc hq
      refine ⟨q, _, rfl, SqT.of (sG _ _ hq), rfl, _, _, rfl, _, _, rfl, _, _, rfl, rfl, ?_⟩
      refine ⟨fun σ' G' => ∃ r : Addr, σ' = [some (.ref l), some (.ref inner), some (.ref b), some (.str (wordK c.k)), some (.int c.ln), some (.int c.pk), some (.ref r)] ∧ Same G G' ∧ RowC G' r b c, ?_, ?_⟩
      · obtain ⟨x0, y0, hbt⟩ := Nest.tup (sG _ _ hin) N
        obtain ⟨kd, ln, pk⟩ := c
        (simp only [tLst, tTup, tDNewK, _root_.L2.start, cxOf_K, cxComp_K, tSeq, tAsg, gName, tRet, tRetN, tDrop, tIfS, tTest, tB, tNot, tAnd, tOr, tAndV, tOrV, tNotV, tOp, tUn, tVar, tC, tCons, tNil, tStrs, tCB, tCall, tChain, tBM, tBM0, tPart, tNoPart, tSl, tIf, tNext, tTrue, selS, Option.bind_none, Option.bind_some, Option.join_some, if_true, rI, rI0, rU, rEq, rNe, rStarts, rSlS, lenV_str, tyV, List.map_cons, List.map_nil, List.length_cons, List.length_nil, List.replicate, List.cons_append, List.nil_append, List.append_nil, Nat.reduceAdd, Nat.reduceSub, Nat.zero_add, Nat.add_zero, Nat.sub_self, List.getElem?_cons_zero, List.getElem?_cons_succ, List.set_cons_zero, List.set_cons_succ, Option.some.injEq, V.int.injEq, V.str.injEq, V.ref.injEq, V.bl.injEq, V.ty.injEq, List.cons.injEq, exists_eq_left, exists_eq_left', exists_eq_right, exists_and_left, exists_eq, and_true, true_and, and_self, and_assoc, iRrg, tMeth, tMake, tCMeth, tDIn, tDNotIn, tDPop1, tNever, iRev, tDInN])
        cases kd with
        | grouped =>
          refine ⟨rfl, ifT rfl ⟨by decide, fun p1 h1 => ⟨by decide, ?_⟩⟩⟩
          obtain ⟨j, hj, ej⟩ : ∃ j : Nat, j < 2 ∧ pk % 2 = (j : Nat) := ⟨(pk % 2).toNat, by omega, by omega⟩
          obtain ⟨nm, hnm⟩ : ∃ nm : Str, [V.str "ga", V.str "gb"][j]? = some (.str nm) := by
            match j, hj with
            | 0, _ => exact ⟨_, rfl⟩
            | 1, _ => exact ⟨_, rfl⟩
          rw [ej]
          exact ⟨p1, _, _, .str nm, rfl, rfl, SqL.of upd_same, atI_nat hnm, by decide, fun t ht => ⟨(Same.upd h1).trans (Same.upd ht), rowc_g upd_same⟩⟩
        | limited =>
          refine ⟨rfl, ifF (fun z => absurd z (by decide +kernel)) ⟨rfl, ifT rfl ⟨by decide, by decide, fun p1 h1 => ⟨by decide, fun p2 h2 => ⟨⟨by decide, by decide⟩, by decide, ?_⟩⟩⟩⟩⟩
          have s1 := (Same.upd (o := .tup [V.str "ring", .int (100 + ln), .str "late"]) h1).trans (Same.upd (o := .tup [V.ref p1]) h2)
          have e2 : pk / 100 % 2 = 0 ∨ pk / 100 % 2 = 1 := by omega
          rcases e2 with e | e
          · exact ⟨p2, _, _, rfl, rfl, SqT.of upd_same, (fun z => nomatch z), .inl ⟨e, fun o ho => ⟨by decide, fun t ht => ⟨(s1.trans (Same.upd ho)).trans (Same.upd ht), rowc_l upd_same ((Same.upd ht) _ _ upd_same) (by first | exact (by decide : (0 : Nat) ≤ 10) | exact (by decide : (1 : Nat) ≤ 10)) (oth_l0 e)⟩⟩⟩⟩
          · exact ⟨p2, _, _, rfl, rfl, SqT.of upd_same, (fun z => nomatch z), .inr ⟨e, by decide, fun t ht => ⟨s1.trans (Same.upd ht), rowc_l upd_same ((Same.upd ht) _ _ upd_same) (by first | exact (by decide : (0 : Nat) ≤ 10) | exact (by decide : (1 : Nat) ≤ 10)) (oth_l1 e ((Same.upd ht) _ _ ((Same.upd h2) _ _ upd_same)))⟩⟩⟩
        | kept =>
          exact ⟨rfl, ifF (fun z => absurd z (by decide +kernel)) ⟨rfl, ifF (fun z => absurd z (by decide +kernel)) ⟨rfl, ifT rfl ⟨by decide, fun t ht => ⟨Same.upd ht, rowc_q (rows := [x0, y0]) (oa := b) (others := [x0, y0]) (left := 0) (fault := "") upd_same ((Same.upd ht) _ _ hbt) ((Same.upd ht) _ _ hbt) (by show (2 : Nat) ≤ 10; decide) (by show _ ≤ 10; first | exact (by decide : (2 : Nat) ≤ 10) | exact (by decide : (1 : Nat) ≤ 10)) (fun z => nomatch z) (fun z => nomatch z) (oth_no (fun z => nomatch z) (fun z => nomatch z) (fun z => nomatch z)) (fun z => nomatch z)⟩⟩⟩⟩⟩
        | tried =>
          refine ⟨rfl, ifF (fun z => absurd z (by decide +kernel)) ⟨rfl, ifF (fun z => absurd z (by decide +kernel)) ⟨rfl, ifF (fun z => absurd z (by decide +kernel)) ⟨rfl, ifT rfl ⟨by decide, fun p1 h1 => ⟨by decide, ?_⟩⟩⟩⟩⟩⟩
          obtain ⟨j, hj, ej⟩ : ∃ j : Nat, j < 3 ∧ pk % 3 = (j : Nat) := ⟨(pk % 3).toNat, by omega, by omega⟩
          obtain ⟨nm, hnm, hfl⟩ : ∃ nm : Str, [V.str "boom", V.str "oops", V.str "any"][j]? = some (.str nm) ∧ nm = fltOf ⟨.tried, ln, pk⟩ := by
            unfold fltOf
            show ∃ nm : Str, _ ∧ nm = (if pk % 3 = 0 then _ else if pk % 3 = 1 then _ else _)
            rw [ej]
            match j, hj with
            | 0, _ => exact ⟨_, rfl, rfl⟩
            | 1, _ => exact ⟨_, rfl, rfl⟩
            | 2, _ => exact ⟨_, rfl, rfl⟩
          rw [ej]
          refine ⟨p1, _, _, .str nm, rfl, rfl, SqL.of upd_same, atI_nat hnm, by decide, fun p2 h2 => ⟨by decide, fun p3 h3 => ⟨by decide, fun t ht => ?_⟩⟩⟩
          have s1 := ((Same.upd h1).trans (Same.upd h2)).trans (Same.upd (o := .tup [V.ref p2]) h3)
          have s4 := s1.trans (Same.upd (o := .tup [V.str "try", .int ln, .ref b, .str nm, .ref p3]) ht)
          exact ⟨s4, rowc_q (rows := [x0, y0]) (oa := p3) (others := [.ref p2]) (left := 0) (fault := nm) upd_same (s4 _ _ hbt) ((Same.upd ht) _ _ upd_same) (by show (2 : Nat) ≤ 10; decide) (by show _ ≤ 10; first | exact (by decide : (2 : Nat) ≤ 10) | exact (by decide : (1 : Nat) ≤ 10)) (fun z => nomatch z) (fun z => nomatch z) (oth_t ((Same.upd ht) _ _ ((Same.upd h3) _ _ upd_same))) (fun _ => hfl)⟩
        | cleaned =>
          refine ⟨rfl, ifF (fun z => absurd z (by decide +kernel)) ⟨rfl, ifF (fun z => absurd z (by decide +kernel)) ⟨rfl, ifF (fun z => absurd z (by decide +kernel)) ⟨rfl, ifF (fun z => absurd z (by decide +kernel)) ⟨rfl, ifT rfl ⟨by decide, fun p2 h2 => ⟨by decide, fun p3 h3 => ⟨by decide, fun t ht => ?_⟩⟩⟩⟩⟩⟩⟩⟩
          have s4 := ((Same.upd (o := .tup [V.str "ring", .int (100 + ln), .str "clean"]) h2).trans (Same.upd (o := .tup [V.ref p2]) h3)).trans (Same.upd (o := .tup [V.str "do", .int ln, .ref b, .ref p3]) ht)
          exact ⟨s4, rowc_q (rows := [x0, y0]) (oa := p3) (others := [.ref p2]) (left := 0) (fault := "") upd_same (s4 _ _ hbt) ((Same.upd ht) _ _ upd_same) (by show (2 : Nat) ≤ 10; decide) (by show _ ≤ 10; first | exact (by decide : (2 : Nat) ≤ 10) | exact (by decide : (1 : Nat) ≤ 10)) (fun z => nomatch z) (fun z => nomatch z) (oth_c ((Same.upd ht) _ _ ((Same.upd h3) _ _ upd_same))) (fun z => nomatch z)⟩
        | frame =>
          exact ⟨rfl, ifF (fun z => absurd z (by decide +kernel)) ⟨rfl, ifF (fun z => absurd z (by decide +kernel)) ⟨rfl, ifF (fun z => absurd z (by decide +kernel)) ⟨rfl, ifF (fun z => absurd z (by decide +kernel)) ⟨rfl, ifF (fun z => absurd z (by decide +kernel)) ⟨rfl, ifT rfl ⟨by decide, fun t ht => ⟨Same.upd ht, rowc_q (rows := [x0, y0]) (oa := b) (others := [x0, y0]) (left := 0) (fault := "") upd_same ((Same.upd ht) _ _ hbt) ((Same.upd ht) _ _ hbt) (by show (2 : Nat) ≤ 10; decide) (by show _ ≤ 10; first | exact (by decide : (2 : Nat) ≤ 10) | exact (by decide : (1 : Nat) ≤ 10)) (fun z => nomatch z) (fun z => nomatch z) (oth_no (fun z => nomatch z) (fun z => nomatch z) (fun z => nomatch z)) (fun z => nomatch z)⟩⟩⟩⟩⟩⟩⟩⟩
        | rounds =>
          exact ⟨rfl, ifF (fun z => absurd z (by decide +kernel)) ⟨rfl, ifF (fun z => absurd z (by decide +kernel)) ⟨rfl, ifF (fun z => absurd z (by decide +kernel)) ⟨rfl, ifF (fun z => absurd z (by decide +kernel)) ⟨rfl, ifF (fun z => absurd z (by decide +kernel)) ⟨rfl, ifF (fun z => absurd z (by decide +kernel)) ⟨by decide, fun t ht => ⟨Same.upd ht, rowc_q (rows := [x0, y0]) (oa := b) (others := [x0, y0]) (left := 0) (fault := "") upd_same ((Same.upd ht) _ _ hbt) ((Same.upd ht) _ _ hbt) (by show (2 : Nat) ≤ 10; decide) (by show _ ≤ 10; first | exact (by decide : (2 : Nat) ≤ 10) | exact (by decide : (1 : Nat) ≤ 10)) (fun z => nomatch z) (fun z => nomatch z) (oth_no (fun z => nomatch z) (fun z => nomatch z) (fun z => nomatch z)) (fun z => nomatch z)⟩⟩⟩⟩⟩⟩⟩⟩
      · rintro σ' G' ⟨r, rfl, s2, R⟩
        (simp only [tLst, tTup, tDNewK, _root_.L2.start, cxOf_K, cxComp_K, tSeq, tAsg, gName, tRet, tRetN, tDrop, tIfS, tTest, tB, tNot, tAnd, tOr, tAndV, tOrV, tNotV, tOp, tUn, tVar, tC, tCons, tNil, tStrs, tCB, tCall, tChain, tBM, tBM0, tPart, tNoPart, tSl, tIf, tNext, tTrue, selS, Option.bind_none, Option.bind_some, Option.join_some, if_true, rI, rI0, rU, rEq, rNe, rStarts, rSlS, lenV_str, tyV, List.map_cons, List.map_nil, List.length_cons, List.length_nil, List.replicate, List.cons_append, List.nil_append, List.append_nil, Nat.reduceAdd, Nat.reduceSub, Nat.zero_add, Nat.add_zero, Nat.sub_self, List.getElem?_cons_zero, List.getElem?_cons_succ, List.set_cons_zero, List.set_cons_succ, Option.some.injEq, V.int.injEq, V.str.injEq, V.ref.injEq, V.bl.injEq, V.ty.injEq, List.cons.injEq, exists_eq_left, exists_eq_left', exists_eq_right, exists_and_left, exists_eq, and_true, true_and, and_self, and_assoc, iRrg, tMeth, tMake, tCMeth, tDIn, tDNotIn, tDPop1, tNever, iRev, tDInN])
        refine ⟨by decide, fun rg hrg => ⟨by decide, fun a ha => ⟨((sG.trans s2).trans (Same.upd hrg)).trans (Same.upd ha), ?_⟩⟩⟩
        rw [ed]
        have s4 := (Same.upd (o := .tup [V.str "ring", .int (200 + c.ln), .str "behind"]) hrg).trans (Same.upd (o := .tup [V.ref r, .ref rg]) ha)
        exact ⟨r, b, rg, upd_same, (Same.upd ha) _ _ upd_same, R.tk (fun _ _ h => s4 _ _ h), N.tk (fun _ _ h => s4 _ _ (s2 _ _ h))⟩
    · rintro σ G ⟨b, v3, v4, v5, v6, rfl, sG, N⟩
      rw [show cs.length - (ps.map V.ref).length = 0 by rw [List.length_map, hpl, List.length_map]; omega, List.drop_zero] at N
      exact ⟨_, rfl, k G b sG N⟩
theorem sc_l_scopes : FnScope ["_law_chain_here", "_law_found", "_law_fresh", "_law_kind", "_law_line", "_law_pick"] ["_law_chain_here"] (defScope (top 18)) := ⟨rfl, rfl, rfl, by decide +kernel, rfl, by decide +kernel, by decide +kernel⟩
theorem ok_l_scopes (T : Tx K mg) : FnOk P w K mg base CX0 1 T.d_l_scopes.f T.d_l_scopes.fd ["_law_chain_here"] (spScopesL K) := by
  refine T.d_l_scopes.F.ok sc_l_scopes (fun vs H Q E h => ?_) (fun cdv A outer s H vs Q E hr h => ?_)
  · obtain ⟨l, cs, rfl, _⟩ := h
    rfl
  · obtain ⟨l, cs, rfl, L0, hl7, k⟩ := h
    have hu := hu100 hr
    have hu1 := hu_of hr
    refine ⟨_, (pss_cons (ps_set (i := 1) sc_l_scopes.nd rfl (Or.inl rfl) (pe_lst (pa_cons (pe_tup (pa_cons pe_int (pa_cons pe_bl pa_nil))) pa_nil)))
    (pss_cons (ps_set (i := 2) sc_l_scopes.nd rfl (Or.inl rfl) pe_int)
    (pss_cons (ps_for PassesOwn.never rfl (pi_list (pv 0)) (pg_tup (n := 3) rfl (pgs_cons (pg_name (i := 3) sc_l_scopes.nd rfl (Or.inl rfl)) (pgs_cons (pg_name (i := 4) sc_l_scopes.nd rfl (Or.inl rfl)) (pgs_cons (pg_name (i := 5) sc_l_scopes.nd rfl (Or.inl rfl)) pgs_nil))))
    (pss_one (ps_if (pt_cmpR op_in_seq (pv 3) (pe_tup (pa_cons pe_str (pa_cons pe_str pa_nil))) (by with_unfolding_all rfl))
    (pss_cons (ps_expr (pe_bm PySem.F.plainAttrs_list PySem.F.slot_list_append PySem.F.type_list_append mt_append (pv 1) (pa_cons (pe_tup (pa_cons (pv 2) (pa_cons pe_bl pa_nil))) pa_nil)))
    (pss_one (ps_set (i := 2) sc_l_scopes.nd rfl (Or.inl rfl) (pe_op op_add (pv 2) pe_int))))
    (pss_one (ps_expr (pe_bm PySem.F.plainAttrs_list PySem.F.slot_list_append PySem.F.type_list_append mt_append (pv 1) (pa_cons (pe_tup (pa_cons pe_non (pa_cons (pe_cmpR op_eq (pv 3) pe_str (nomark _)) pa_nil))) pa_nil)))))))
    (pss_one (ps_ret (pv 1)))))), ?_⟩
    (simp only [tLst, tTup, tDNewK, _root_.L2.start, cxOf_K, cxComp_K, tSeq, tAsg, gName, tRet, tRetN, tDrop, tIfS, tTest, tB, tNot, tAnd, tOr, tAndV, tOrV, tNotV, tOp, tUn, tVar, tC, tCons, tNil, tStrs, tCB, tCall, tChain, tBM, tBM0, tPart, tNoPart, tSl, tIf, tNext, tTrue, selS, Option.bind_none, Option.bind_some, Option.join_some, if_true, rI, rI0, rU, rEq, rNe, rStarts, rSlS, lenV_str, tyV, List.map_cons, List.map_nil, List.length_cons, List.length_nil, List.replicate, List.cons_append, List.nil_append, List.append_nil, Nat.reduceAdd, Nat.reduceSub, Nat.zero_add, Nat.add_zero, Nat.sub_self, List.getElem?_cons_zero, List.getElem?_cons_succ, List.set_cons_zero, List.set_cons_succ, Option.some.injEq, V.int.injEq, V.str.injEq, V.ref.injEq, V.bl.injEq, V.ty.injEq, List.cons.injEq, exists_eq_left, exists_eq_left', exists_eq_right, exists_and_left, exists_eq, and_true, true_and, and_self, and_assoc, iRrg, tMeth, tMake, tCMeth, tDIn, tDNotIn, tDPop1, tNever, iRev, tDInN])
    refine ⟨by decide, fun t0 h0 => ⟨by decide, fun f hf => ?_⟩⟩
    have s0 := Same.upd (o := .tup [V.int 0, V.bl false]) h0
    have hf0 : H f = none := s0.free hf
    have s1 := s0.trans (Same.upd (o := .lst [V.ref t0]) hf)
    have L1 : LT (upd (upd H t0 (.tup [V.int 0, V.bl false])) f (.lst [V.ref t0])) f ((scAll (cs.take 0)).1.map fv) := ⟨[t0], upd_same, rfl, fun i q t e1 e2 => by
      cases i with
      | zero =>
        cases e1; cases e2
        exact (Same.upd hf) _ _ upd_same
      | succ i => cases e1⟩
    obtain ⟨ps, hl, hpl, hps⟩ := L0.at
    generalize upd (upd H t0 (.tup [V.int 0, V.bl false])) f (.lst [V.ref t0]) = G1 at s1 L1 ⊢
    refine ⟨_, rfl, l, rfl, ⟨_, SqL.of (s1 _ _ hl)⟩, ?_⟩
    refine for_list (K := K) (a := l) (xs := ps.map V.ref) (fun i σ G => ∃ (v3 v4 v5 : Option V), σ = [some (.ref l), some (.ref f), some (.int (scAll (cs.take i)).2), v3, v4, v5] ∧ Same H G ∧ LT G f ((scAll (cs.take i)).1.map fv)) ⟨_, _, _, rfl, s1, L1⟩ (fun i σ G _ ⟨_, _, _, _, sG, _⟩ => SqL.of (sG _ _ hl)) ?_ ?_
    · rintro i y σ G hi ⟨v3, v4, v5, rfl, sG, L⟩
      obtain ⟨q, t, rfl, et, hq⟩ := hps i y hi
      rw [List.getElem?_map] at et
      cases ec : cs[i]? with
      | none => rw [ec] at et; cases et
      | some c =>
        rw [ec] at et
        cases et
        refine ⟨q, _, rfl, SqT.of (sG _ _ hq), rfl, _, _, rfl, _, _, rfl, _, _, rfl, rfl, ?_⟩
        (simp only [tLst, tTup, tDNewK, _root_.L2.start, cxOf_K, cxComp_K, tSeq, tAsg, gName, tRet, tRetN, tDrop, tIfS, tTest, tB, tNot, tAnd, tOr, tAndV, tOrV, tNotV, tOp, tUn, tVar, tC, tCons, tNil, tStrs, tCB, tCall, tChain, tBM, tBM0, tPart, tNoPart, tSl, tIf, tNext, tTrue, selS, Option.bind_none, Option.bind_some, Option.join_some, if_true, rI, rI0, rU, rEq, rNe, rStarts, rSlS, lenV_str, tyV, List.map_cons, List.map_nil, List.length_cons, List.length_nil, List.replicate, List.cons_append, List.nil_append, List.append_nil, Nat.reduceAdd, Nat.reduceSub, Nat.zero_add, Nat.add_zero, Nat.sub_self, List.getElem?_cons_zero, List.getElem?_cons_succ, List.set_cons_zero, List.set_cons_succ, Option.some.injEq, V.int.injEq, V.str.injEq, V.ref.injEq, V.bl.injEq, V.ty.injEq, List.cons.injEq, exists_eq_left, exists_eq_left', exists_eq_right, exists_and_left, exists_eq, and_true, true_and, and_self, and_assoc, iRrg, tMeth, tMake, tCMeth, tDIn, tDNotIn, tDPop1, tNever, iRev, tDInN])
        refine ⟨by decide, fun p1 h1 => ⟨p1, _, rfl, .inr (SqT.of upd_same), rfl, rfl, _, rfl, ?_⟩⟩
        have s1 := Same.upd (o := .tup [V.str "group", V.str "limit"]) h1
        generalize upd G p1 (.tup [V.str "group", V.str "limit"]) = G1 at s1 ⊢
        have L1 := L.same s1
        obtain ⟨xs1, hx1, _, _⟩ := L1.ex
        have hi7 : i < cs.length := (List.getElem?_eq_some_iff.mp ec).1
        have hsl : (scAll (cs.take i)).1.length ≤ 8 := by rw [sc_len, List.length_take]; omega
        rw [sc_take ec]
        unfold scStep
        by_cases cc : isS c.k = true
        · rw [if_pos cc]
          refine bT ((in_gl c.k).trans cc) ⟨.inl ⟨_, SqL.of hx1⟩, by decide, fun t ht => ?_⟩
          have s2 := Same.upd (o := .tup (fv (.int (scAll (cs.take i)).2, false))) ht
          obtain ⟨xs, hxs, hxl, L3⟩ := (L1.same s2).add (t := fv (.int (scAll (cs.take i)).2, false)) upd_same
          refine ⟨f, xs, _, rfl, rfl, hxs, small1000 (by rw [hxl, List.length_map]; omega), rfl, same_put ((sG.trans s1).trans s2) hf0, ?_⟩
          rw [List.map_append]; exact L3
        · rw [if_neg cc]
          refine bF ((in_gl c.k).trans (by simpa using cc)) ⟨.inl ⟨_, SqL.of hx1⟩, rfl, by decide, fun t ht => ?_⟩
          have ek := is_keep c.k
          have s2 := Same.upd (o := .tup (fv (.non, decide (c.k = .kept)))) ht
          obtain ⟨xs, hxs, hxl, L3⟩ := (L1.same s2).add (t := fv (.non, decide (c.k = .kept))) upd_same
          have eq : ([V.non, V.bl (decide (wordK c.k = "keep"))] : List V) = fv (.non, decide (c.k = .kept)) := by rw [ek]; rfl
          rw [eq]
          refine ⟨f, xs, _, rfl, rfl, hxs, small1000 (by rw [hxl, List.length_map]; omega), rfl, same_put ((sG.trans s1).trans s2) hf0, ?_⟩
          rw [List.map_append]; exact L3
    · rintro σ G ⟨v3, v4, v5, rfl, sG, L⟩
      rw [List.length_map, hpl, List.length_map, List.take_length] at L
      exact ⟨_, rfl, k G f sG hf0 L⟩
theorem sc_l_entered : FnScope ["_law_machine", "_law_chain_here", "_law_fresh", "_law_kind", "_law_line", "_law_pick", "_law_due"] ["_law_machine", "_law_chain_here"] (defScope (top 20)) := ⟨rfl, rfl, rfl, by decide +kernel, rfl, by decide +kernel, by decide +kernel⟩
theorem ok_l_entered (T : Tx K mg)
    (G_Machine_step : FnOk P w K mg base CX0 7 T.m_Machine_step.f T.m_Machine_step.fd ["self"] (spStep T)) : FnOk P w K mg base CX0 8 T.d_l_entered.f T.d_l_entered.fd ["_law_machine", "_law_chain_here"] (spEntered T) := by
  refine T.d_l_entered.F.ok sc_l_entered (fun vs H Q E h => ?_) (fun cdv A outer s H vs Q E hr h => ?_)
  · obtain ⟨p, l, inner, cs, m, x, rfl, _⟩ := h
    rfl
  · obtain ⟨p, l, inner, cs, m, x, rfl, E0, L0, nl, hl7, hb, hin, k⟩ := h
    have hu := hu100 hr
    have hu1 := hu_of hr
    refine ⟨_, (pss_cons (ps_set (i := 2) sc_l_entered.nd rfl (Or.inl rfl) pe_int)
    (pss_cons (ps_for PassesOwn.never rfl (pi_list (pv 1)) (pg_tup (n := 3) rfl (pgs_cons (pg_name (i := 3) sc_l_entered.nd rfl (Or.inl rfl)) (pgs_cons (pg_name (i := 4) sc_l_entered.nd rfl (Or.inl rfl)) (pgs_cons (pg_name (i := 5) sc_l_entered.nd rfl (Or.inl rfl)) pgs_nil))))
    (pss_cons (ps_set (i := 6) sc_l_entered.nd rfl (Or.inl rfl) (pe_tup (pa_cons pe_str (pa_cons (pv 4) pa_nil))))
    (pss_mid (ps_if (pt_cmpR op_eq (pv 3) pe_str (nomark _))
    (pss_one (ps_set (i := 6) sc_l_entered.nd rfl (Or.inl rfl) (pe_tup (pa_cons (pv 3) (pa_cons (pv 4) (pa_cons (pv 2) pa_nil))))))
    pss_nil)
    (pss_mid (ps_if (pt_cmpR op_eq (pv 3) pe_str (nomark _))
    (pss_one (ps_set (i := 6) sc_l_entered.nd rfl (Or.inl rfl) (pe_tup (pa_cons (pv 3) (pa_cons (pv 4) (pa_cons (pv 2) (pa_cons (pe_op op_add pe_int (pe_op op_mod (pv 5) pe_int)) pa_nil)))))))
    pss_nil)
    (pss_cons (ps_set (i := 2) sc_l_entered.nd rfl (Or.inl rfl) (pe_op op_add (pv 2) (pe_callTy call_int1 (by rfl) T.n_int bt_int (pa_cons (pe_cmpR op_in_seq (pv 3) (pe_tup (pa_cons pe_str (pa_cons pe_str pa_nil))) (by with_unfolding_all rfl)) pa_nil))))
    (pss_one (ps_if (pt_cmpR (op_neT hu) (pe_meth0 (pv 0) T.k_Machine T.m_Machine_step.me G_Machine_step (hr.mono (by omega)) T.m_Machine_step.b .nil pass0) (pv 6) (nomark _))
    (pss_one (ps_ret pe_bl))
    pss_nil)))))))
    (pss_one (ps_ret pe_bl)))), ?_⟩
    (simp only [tLst, tTup, tDNewK, _root_.L2.start, cxOf_K, cxComp_K, tSeq, tAsg, gName, tRet, tRetN, tDrop, tIfS, tTest, tB, tNot, tAnd, tOr, tAndV, tOrV, tNotV, tOp, tUn, tVar, tC, tCons, tNil, tStrs, tCB, tCall, tChain, tBM, tBM0, tPart, tNoPart, tSl, tIf, tNext, tTrue, selS, Option.bind_none, Option.bind_some, Option.join_some, if_true, rI, rI0, rU, rEq, rNe, rStarts, rSlS, lenV_str, tyV, List.map_cons, List.map_nil, List.length_cons, List.length_nil, List.replicate, List.cons_append, List.nil_append, List.append_nil, Nat.reduceAdd, Nat.reduceSub, Nat.zero_add, Nat.add_zero, Nat.sub_self, List.getElem?_cons_zero, List.getElem?_cons_succ, List.set_cons_zero, List.set_cons_succ, Option.some.injEq, V.int.injEq, V.str.injEq, V.ref.injEq, V.bl.injEq, V.ty.injEq, List.cons.injEq, exists_eq_left, exists_eq_left', exists_eq_right, exists_and_left, exists_eq, and_true, true_and, and_self, and_assoc, iRrg, tMeth, tMake, tCMeth, tDIn, tDNotIn, tDPop1, tNever, iRev, tDInN])
    obtain ⟨ps, hl, hpl, hps⟩ := L0.at
    refine ⟨_, rfl, l, rfl, ⟨_, SqL.of hl⟩, ?_⟩
    have hlen : (ps.map V.ref).length = cs.length := by rw [List.length_map, hpl, List.length_map]
    refine for_list (K := K) (a := l) (xs := ps.map V.ref) (fun i σ G => ∃ (v3 v4 v5 v6 : Option V) (m' : Mc) (stk : List Fm) (x' : Fm), σ = [some (.ref p), some (.ref l), some (.int (scAll (cs.take i)).2), v3, v4, v5, v6] ∧ Kn m.fl m.mr H G ∧ EnAt T G p inner cs i m' stk x' ∧ m'.fl = m.fl ∧ m'.mr = m.mr ∧ m'.nv = m.nv) ⟨_, _, _, _, m, [], x, rfl, Kn.refl _ _ _, E0, rfl, rfl, rfl⟩ (fun i σ G _ ⟨_, _, _, _, _, _, _, _, kG, _⟩ => SqL.of (kG.lst nl E0.M.mr hl)) ?_ ?_
    · rintro i y σ G hi ⟨v3, v4, v5, v6, m', stk, x', rfl, kG, En, e1, e2, e3⟩
      obtain ⟨q, t, rfl, et, hq⟩ := hps _ y hi
      rw [List.getElem?_map] at et
      cases ec : cs[i]? with
      | none => rw [ec] at et; cases et
      | some c =>
        rw [ec] at et
        cases et
        have hq1 := (kG.tk E0.M.fl E0.M.mr) _ _ hq
        refine ⟨q, _, rfl, SqT.of hq1, rfl, _, _, rfl, _, _, rfl, _, _, rfl, rfl, ?_⟩
        (simp only [tLst, tTup, tDNewK, _root_.L2.start, cxOf_K, cxComp_K, tSeq, tAsg, gName, tRet, tRetN, tDrop, tIfS, tTest, tB, tNot, tAnd, tOr, tAndV, tOrV, tNotV, tOp, tUn, tVar, tC, tCons, tNil, tStrs, tCB, tCall, tChain, tBM, tBM0, tPart, tNoPart, tSl, tIf, tNext, tTrue, selS, Option.bind_none, Option.bind_some, Option.join_some, if_true, rI, rI0, rU, rEq, rNe, rStarts, rSlS, lenV_str, tyV, List.map_cons, List.map_nil, List.length_cons, List.length_nil, List.replicate, List.cons_append, List.nil_append, List.append_nil, Nat.reduceAdd, Nat.reduceSub, Nat.zero_add, Nat.add_zero, Nat.sub_self, List.getElem?_cons_zero, List.getElem?_cons_succ, List.set_cons_zero, List.set_cons_succ, Option.some.injEq, V.int.injEq, V.str.injEq, V.ref.injEq, V.bl.injEq, V.ty.injEq, List.cons.injEq, exists_eq_left, exists_eq_left', exists_eq_right, exists_and_left, exists_eq, and_true, true_and, and_self, and_assoc, iRrg, tMeth, tMake, tCMeth, tDIn, tDNotIn, tDPop1, tNever, iRev, tDInN])
        refine ⟨by decide, fun u0 hu0 => ?_⟩
        have s1 := Same.upd (o := .tup [V.str "did", .int c.ln]) hu0
        have hd0 : (upd G u0 (.tup [V.str "did", .int c.ln])) u0 = some (.tup [V.str "did", .int c.ln]) := upd_same
        generalize upd G u0 (.tup [V.str "did", .int c.ln]) = G1 at s1 hd0 ⊢
        refine ⟨fun σ' G' => ∃ u : Addr, σ' = [some (.ref p), some (.ref l), some (.int (scAll (cs.take i)).2), some (.str (wordK c.k)), some (.int c.ln), some (.int c.pk), some (.ref u)] ∧ Same G G' ∧ G' u = some (.tup (due1 c (scAll (cs.take i)).2)), ?_, ?_⟩
        · (simp only [tLst, tTup, tDNewK, _root_.L2.start, cxOf_K, cxComp_K, tSeq, tAsg, gName, tRet, tRetN, tDrop, tIfS, tTest, tB, tNot, tAnd, tOr, tAndV, tOrV, tNotV, tOp, tUn, tVar, tC, tCons, tNil, tStrs, tCB, tCall, tChain, tBM, tBM0, tPart, tNoPart, tSl, tIf, tNext, tTrue, selS, Option.bind_none, Option.bind_some, Option.join_some, if_true, rI, rI0, rU, rEq, rNe, rStarts, rSlS, lenV_str, tyV, List.map_cons, List.map_nil, List.length_cons, List.length_nil, List.replicate, List.cons_append, List.nil_append, List.append_nil, Nat.reduceAdd, Nat.reduceSub, Nat.zero_add, Nat.add_zero, Nat.sub_self, List.getElem?_cons_zero, List.getElem?_cons_succ, List.set_cons_zero, List.set_cons_succ, Option.some.injEq, V.int.injEq, V.str.injEq, V.ref.injEq, V.bl.injEq, V.ty.injEq, List.cons.injEq, exists_eq_left, exists_eq_left', exists_eq_right, exists_and_left, exists_eq, and_true, true_and, and_self, and_assoc, iRrg, tMeth, tMake, tCMeth, tDIn, tDNotIn, tDPop1, tNever, iRev, tDInN])
          refine ⟨rfl, ifB (is_word (k0 := .grouped) rfl) ?_⟩
          unfold due1
          by_cases c1 : c.k = .grouped
          · rw [if_pos c1]
            refine ifT c1 ⟨by decide, fun u hu => ⟨s1.trans (Same.upd hu), ?_⟩⟩
            rw [c1]; exact upd_same
          · rw [if_neg c1]
            exact ifF c1 ⟨s1, hd0⟩
        rintro σ' G2 ⟨u, rfl, s2, hu2⟩
        refine ⟨fun σ' G' => ∃ u : Addr, σ' = [some (.ref p), some (.ref l), some (.int (scAll (cs.take i)).2), some (.str (wordK c.k)), some (.int c.ln), some (.int c.pk), some (.ref u)] ∧ Same G G' ∧ G' u = some (.tup (dueV c (scAll (cs.take i)).2)), ?_, ?_⟩
        · (simp only [tLst, tTup, tDNewK, _root_.L2.start, cxOf_K, cxComp_K, tSeq, tAsg, gName, tRet, tRetN, tDrop, tIfS, tTest, tB, tNot, tAnd, tOr, tAndV, tOrV, tNotV, tOp, tUn, tVar, tC, tCons, tNil, tStrs, tCB, tCall, tChain, tBM, tBM0, tPart, tNoPart, tSl, tIf, tNext, tTrue, selS, Option.bind_none, Option.bind_some, Option.join_some, if_true, rI, rI0, rU, rEq, rNe, rStarts, rSlS, lenV_str, tyV, List.map_cons, List.map_nil, List.length_cons, List.length_nil, List.replicate, List.cons_append, List.nil_append, List.append_nil, Nat.reduceAdd, Nat.reduceSub, Nat.zero_add, Nat.add_zero, Nat.sub_self, List.getElem?_cons_zero, List.getElem?_cons_succ, List.set_cons_zero, List.set_cons_succ, Option.some.injEq, V.int.injEq, V.str.injEq, V.ref.injEq, V.bl.injEq, V.ty.injEq, List.cons.injEq, exists_eq_left, exists_eq_left', exists_eq_right, exists_and_left, exists_eq, and_true, true_and, and_self, and_assoc, iRrg, tMeth, tMake, tCMeth, tDIn, tDNotIn, tDPop1, tNever, iRev, tDInN])
          refine ⟨rfl, ifB (is_word (k0 := .limited) rfl) ?_⟩
          unfold due1 at hu2
          unfold dueV
          by_cases c2 : c.k = .limited
          · have c1 : c.k ≠ .grouped := by rw [c2]; exact fun z => nomatch z
            rw [if_neg c1, if_pos c2]
            refine ifT c2 ⟨by decide, by decide, fun u hu => ⟨s2.trans (Same.upd hu), ?_⟩⟩
            rw [c2]; exact upd_same
          · rw [if_neg c2]
            exact ifF c2 ⟨s2, hu2⟩
        rintro σ' G3 ⟨u3, rfl, s3, hu3⟩
        (simp only [tLst, tTup, tDNewK, _root_.L2.start, cxOf_K, cxComp_K, tSeq, tAsg, gName, tRet, tRetN, tDrop, tIfS, tTest, tB, tNot, tAnd, tOr, tAndV, tOrV, tNotV, tOp, tUn, tVar, tC, tCons, tNil, tStrs, tCB, tCall, tChain, tBM, tBM0, tPart, tNoPart, tSl, tIf, tNext, tTrue, selS, Option.bind_none, Option.bind_some, Option.join_some, if_true, rI, rI0, rU, rEq, rNe, rStarts, rSlS, lenV_str, tyV, List.map_cons, List.map_nil, List.length_cons, List.length_nil, List.replicate, List.cons_append, List.nil_append, List.append_nil, Nat.reduceAdd, Nat.reduceSub, Nat.zero_add, Nat.add_zero, Nat.sub_self, List.getElem?_cons_zero, List.getElem?_cons_succ, List.set_cons_zero, List.set_cons_succ, Option.some.injEq, V.int.injEq, V.str.injEq, V.ref.injEq, V.bl.injEq, V.ty.injEq, List.cons.injEq, exists_eq_left, exists_eq_left', exists_eq_right, exists_and_left, exists_eq, and_true, true_and, and_self, and_assoc, iRrg, tMeth, tMake, tCMeth, tDIn, tDNotIn, tDPop1, tNever, iRev, tDInN])
        refine ⟨by decide, fun p1 h1 => ⟨p1, _, rfl, .inr (SqT.of upd_same), rfl, rfl, .inr ⟨_, rfl, ?_⟩⟩⟩
        have s4 := s3.trans (Same.upd (o := .tup [V.str "group", V.str "limit"]) h1)
        have hu4 := (Same.upd (o := .tup [V.str "group", V.str "limit"]) h1) _ _ hu3
        generalize upd G3 p1 (.tup [V.str "group", V.str "limit"]) = G4 at s4 hu4 ⊢
        have En4 := En.same s4
        have kG4 := kG.trans (Kn.of s4)
        clear s1 s2 s3 hu2 hu3 hd0 En kG hq1 h1
        obtain ⟨q', b, rg, hrows, hrg, hR, hN⟩ := En4.next ec
        have hx' : x' ∈ stk ++ [x'] := List.mem_append_right _ List.mem_cons_self
        obtain ⟨_, _, hX, _⟩ := (En4.M.fr x' hx').fr.ex
        obtain ⟨_, _, hP, _⟩ := En4.M.ob.ex
        have ls := En4.ls
        have hin4 : ∃ u v, G4 inner = some (.tup [u, v]) := by
          obtain ⟨u', v', e⟩ := hin
          exact ⟨u', v', (kG4.tk E0.M.fl E0.M.mr) _ _ e⟩
        obtain ⟨iu, iv, hin4⟩ := hin4
        refine En4.M.ob.call ⟨p, [], m', rfl, .inl ⟨stk, x', [], q', by rw [List.append_nil]; exact En4.M, En4.st, En4.sg, (fun y hy => by cases hy), by rw [hrows, En4.pl]; rfl, fun H5 R k5n M5 hR5 => ?_⟩⟩
        have k5 : Kn m'.fl m'.mr G4 H5 := k5n
        have t5 := k5.tk En4.M.fl En4.M.mr
        have fin : ∀ (H6 : Hp) (t : Addr) (m6 : Mc) (y : Fm), Kn m'.fl m'.mr H5 H6 → H6 t = some (.tup (dueV c (scAll (cs.take i)).2)) → EnAt T H6 p inner cs (i + 1) m6 (stk ++ [⟨x'.a, x'.c, { x'.s with place := x'.s.place + 1 }⟩]) y → m6.fl = m'.fl → m6.mr = m'.mr → m6.nv = m'.nv → R (.ref t) H6 := fun H6 t m6 y k6 ht E6 f1 f2 f3 => by
          have k46 := k5.trans k6
          have hu6 := (k46.tk En4.M.fl En4.M.mr) _ _ hu4
          refine hR5 _ _ (fun z => nomatch z) (eqT ht hu6 rfl (eqI (n := 0) (due_is _ _)) (by decide) ⟨_, rfl, bF rfl ⟨?_, by rw [e1, e2] at k46; exact kG4.trans k46, m6, _, y, E6, f1.trans e1, f2.trans e2, f3.trans e3⟩⟩)
          rw [sc_take ec]
          unfold scStep
          by_cases cc : isS c.k = true
          · simp only [Bool.false_eq_true, if_false, in_gl, cc, if_true]
          · simp only [Bool.false_eq_true, if_false, in_gl, cc, Int.add_zero]
        have ln5 : (stk ++ [(⟨x'.a, x'.c, { x'.s with place := x'.s.place + 1 }⟩ : Fm)]).length ≤ 100 := by
          have := En4.len
          have hi' := (List.getElem?_eq_some_iff.mp ec).1
          rw [List.length_append, this]
          show i + 1 ≤ 100
          omega
        have hR5' := hR.tk t5
        have hN5 := hN.tk t5
        obtain ⟨bx, by', hb5⟩ := hN5.tup (t5 _ _ hin4)
        obtain ⟨_, _, hp5, _⟩ := M5.ob.ex
        have tk6 : ∀ {H6 : Hp}, (∀ c o, c ≠ p → c ≠ m'.fl → H5 c = some o → H6 c = some o) → Kn m'.fl m'.mr H5 H6 := fun b6 c o n1 _ nn h => b6 c o (ne_of h hp5 (nn _ _ _)) n1 h
        refine ⟨p, q', _, [], m', rfl, M5, ln5, ?_⟩
        unfold RowC at hR5'
        by_cases c1 : c.k = .grouped
        · rw [if_pos c1] at hR5'
          obtain ⟨nm, hrow⟩ := hR5'
          refine .inr (.inl ⟨"group", _, .inl rfl, hrow, p, q', _, [], [], m', rfl, M5, ln5, .inl ⟨c.ln, nm, b, _, hrow, hb5, by show (2 : Nat) ≤ 10; decide, fun a t H6 b6 _ ht M6 => ?_⟩⟩)
          have k6 := tk6 b6
          refine fin H6 t _ _ k6 ?_ (En4.go ec M6 rfl (hN5.tk (k6.tk M5.fl M5.mr)) rfl rfl rfl ?_ ?_ ?_ rfl ((k5.trans k6).tk En4.M.fl En4.M.mr) ?_) rfl rfl rfl
          · unfold dueV
            rw [if_pos c1, ← ls]; exact ht
          · rw [c1]; rfl
          · rw [c1]; rfl
          · rw [c1]
          · exact ⟨c1.symm, rfl, rfl, rfl, rfl, oth_no (by rw [c1]; exact fun z => nomatch z) (by rw [c1]; exact fun z => nomatch z) (by rw [c1]; exact fun z => nomatch z), fun z => by rw [c1] at z; cases z⟩
        · rw [if_neg c1] at hR5'
          by_cases c2 : c.k = .limited
          · rw [if_pos c2] at hR5'
            obtain ⟨oa, others, hrow, hoa, hol, hoth⟩ := hR5'
            refine .inr (.inl ⟨"limit", _, .inr rfl, hrow, p, q', _, [], [], m', rfl, M5, ln5, .inr ⟨c.ln, _, b, oa, _, others, hrow, hb5, hoa, by show (2 : Nat) ≤ 10; decide, hol, fun a t H6 b6 _ ht M6 => ?_⟩⟩)
            have k6 := tk6 b6
            refine fin H6 t _ _ k6 ?_ (En4.go ec M6 rfl (hN5.tk (k6.tk M5.fl M5.mr)) rfl rfl rfl ?_ ?_ ?_ rfl ((k5.trans k6).tk En4.M.fl En4.M.mr) ?_) rfl rfl rfl
            · unfold dueV
              rw [if_neg c1, if_pos c2, ← ls]; exact ht
            · rw [c2]; rfl
            · rw [c2]; rfl
            · rw [c2]
            · exact ⟨c2.symm, rfl, rfl, rfl, rfl, hoth.tk (k6.tk M5.fl M5.mr), fun z => by rw [c2] at z; cases z⟩
          · rw [if_neg c2] at hR5'
            obtain ⟨s, hrow, Nq, hln, hra, hoth, hflt⟩ := hR5'
            have cs0 : ¬ isS c.k = true := by
              unfold isS
              simp [c1, c2]
            refine .inr (.inr (.inr (.inr ⟨c.k, s, hrow, Nq, fun a t H6 b6 _ ht M6 => ?_⟩)))
            have k6 : Kn m'.fl m'.mr H5 H6 := fun c' o n _ _ h => b6 c' o n h
            refine fin H6 t _ _ k6 ?_ (En4.go ec M6 Nq.pl ?_ rfl rfl rfl ?_ ?_ rfl rfl ((k5.trans k6).tk En4.M.fl En4.M.mr) ⟨rfl, hln, Nq.cl, Nq.tl, Nq.hd, hoth.tk (k6.tk M5.fl M5.mr), hflt⟩) rfl rfl rfl
            · unfold dueV
              rw [if_neg c1, if_neg c2, ← hln]; exact ht
            · show Nest H6 inner s.ra _
              rw [hra]; exact hN5.tk (k6.tk M5.fl M5.mr)
            · rw [if_neg cs0]
            · rw [if_neg cs0]
              show (s.sc, hidesF c.k s) = _
              rw [Nq.sc, hides_new Nq.cl]
    · rintro σ G ⟨v3, v4, v5, v6, m', stk, x', rfl, kG, En, e1, e2, e3⟩
      rw [hlen] at En
      exact k G m' stk x' kG En e1 e2 e3
theorem sc_l_halted : FnScope ["_law_machine", "_law_line", "_law_scope", "_law_faults", "_law_pick", "_law_want", "_law_found"] ["_law_machine", "_law_line", "_law_scope", "_law_faults", "_law_pick"] (defScope (top 21)) := ⟨rfl, rfl, rfl, by decide +kernel, rfl, by decide +kernel, by decide +kernel⟩
theorem ok_l_halted (T : Tx K mg)
    (G_Machine_step : FnOk P w K mg base CX0 7 T.m_Machine_step.f T.m_Machine_step.fd ["self"] (spStep T))
    (G_Machine_waiting : FnOk P w K mg base CX0 1 T.m_Machine_waiting.f T.m_Machine_waiting.fd ["self"] (spWaiting T))
    (G_Machine_joined : FnOk P w K mg base CX0 2 T.m_Machine_joined.f T.m_Machine_joined.fd ["self", "faults"] (spJoined T)) : FnOk P w K mg base CX0 8 T.d_l_halted.f T.d_l_halted.fd ["_law_machine", "_law_line", "_law_scope", "_law_faults", "_law_pick"] (spHalted T) := by
  refine T.d_l_halted.F.ok sc_l_halted (fun vs H Q E h => ?_) (fun cdv A outer s H vs Q E hr h => ?_)
  · obtain ⟨p, H0, S, z, r, j, mk0, mk, m0, m, stk, ext, x, ln, sc, fa, pk, rfl, _⟩ := h
    rfl
  · obtain ⟨p, H0, S, z, r, j, mk0, mk, m0, m, stk, ext, x, ln, sc, fa, pk, rfl, L, ok, hc, hln, hsc, hfa, hrl, hpk, k⟩ := h
    have hu := hu100 hr
    refine ⟨_, (pss_cons (ps_set (i := 5) sc_l_halted.nd rfl (Or.inl rfl) (pe_tup (pa_cons pe_str (pa_cons (pv 1) (pa_cons (pv 2) (pa_cons (pv 3) pa_nil))))))
    (pss_mid (ps_if (PW.pt (pw_or (pt_cmpR (op_neT hu) (pe_meth0 (pv 0) T.k_Machine T.m_Machine_step.me G_Machine_step (hr.mono (by omega)) T.m_Machine_step.b .nil pass0) (pv 5) (nomark _)) (pw_or1 (pt_cmpR (op_neT hu) (pe_meth0 (pv 0) T.k_Machine T.m_Machine_waiting.me G_Machine_waiting (hr.mono (by omega)) T.m_Machine_waiting.b .nil pass0) (pv 5) (nomark _)))))
    (pss_one (ps_ret pe_non))
    pss_nil)
    (pss_cons (ps_set (i := 6) sc_l_halted.nd rfl (Or.inl rfl) (pe_ix ix_list (pe_lst (pa_cons (pv 3) (pa_cons (pe_op op_catT (pv 3) (pe_tup (pa_cons pe_str pa_nil))) (pa_cons (pe_op op_catT (pe_tup (pa_cons pe_str pa_nil)) (pv 3)) (pa_cons (pe_tup (pa_cons pe_str pa_nil)) (pa_cons (pv 3) (pa_cons (pe_tup pa_nil) pa_nil))))))) (pe_op op_mod (pe_op op_fdiv (pv 4) pe_int) pe_int) (fun _ _ => rfl)))
    (pss_mid (ps_if (PW.pt (pw_or (pt_cmpR op_notN (pe_meth (pv 0) T.k_Machine T.m_Machine_joined.me G_Machine_joined (hr.mono (by omega)) T.m_Machine_joined.b .nil pass0 (pa_cons (pv 6) pa_nil)) pe_non (nomark _)) (pw_or1 (pt_cmpR (op_neT hu) (pe_meth0 (pv 0) T.k_Machine T.m_Machine_step.me G_Machine_step (hr.mono (by omega)) T.m_Machine_step.b .nil pass0) (pe_tup (pa_cons pe_str (pa_cons (pv 1) (pa_cons (pv 2) pa_nil)))) (nomark _)))))
    (pss_one (ps_ret pe_non))
    pss_nil)
    (pss_one (ps_ret (pv 6))))))), ?_⟩
    (simp only [tLst, tTup, tDNewK, _root_.L2.start, cxOf_K, cxComp_K, tSeq, tAsg, gName, tRet, tRetN, tDrop, tIfS, tTest, tB, tNot, tAnd, tOr, tAndV, tOrV, tNotV, tOp, tUn, tVar, tC, tCons, tNil, tStrs, tCB, tCall, tChain, tBM, tBM0, tPart, tNoPart, tSl, tIf, tNext, tTrue, selS, Option.bind_none, Option.bind_some, Option.join_some, if_true, rI, rI0, rU, rEq, rNe, rStarts, rSlS, lenV_str, tyV, List.map_cons, List.map_nil, List.length_cons, List.length_nil, List.replicate, List.cons_append, List.nil_append, List.append_nil, Nat.reduceAdd, Nat.reduceSub, Nat.zero_add, Nat.add_zero, Nat.sub_self, List.getElem?_cons_zero, List.getElem?_cons_succ, List.set_cons_zero, List.set_cons_succ, Option.some.injEq, V.int.injEq, V.str.injEq, V.ref.injEq, V.bl.injEq, V.ty.injEq, List.cons.injEq, exists_eq_left, exists_eq_left', exists_eq_right, exists_and_left, exists_eq, and_true, true_and, and_self, and_assoc, iRrg, tMeth, tMake, tCMeth, tDIn, tDNotIn, tDPop1, tNever, iRev, tDInN])
    refine ⟨by decide, fun w0 hw0 => ?_⟩
    have s1 := Same.upd (o := .tup [V.str "halt", .int ln, .int sc, .ref fa]) hw0
    have hw1 : (upd H w0 (.tup [V.str "halt", .int ln, .int sc, .ref fa])) w0 = some (.tup [V.str "halt", .int ln, .int sc, .ref fa]) := upd_same
    have L1 := L.same s1
    have hf1 := s1 _ _ hfa
    generalize upd H w0 (.tup [V.str "halt", .int ln, .int sc, .ref fa]) = H1 at hw1 L1 hf1 ⊢
    clear s1 hw0 L
    have e : meetsF x.c x.s (.faults z r) = "halt" := by rw [hc]; rfl
    refine ⟨fun σ' G' => σ' = [some (.ref p), some (.int ln), some (.int sc), some (.ref fa), some (.int pk), some (.ref w0), none] ∧ HaltM T H1 p S j x (.faults z r) mk m G', ?_, ?_⟩
    · (simp only [tLst, tTup, tDNewK, _root_.L2.start, cxOf_K, cxComp_K, tSeq, tAsg, gName, tRet, tRetN, tDrop, tIfS, tTest, tB, tNot, tAnd, tOr, tAndV, tOrV, tNotV, tOp, tUn, tVar, tC, tCons, tNil, tStrs, tCB, tCall, tChain, tBM, tBM0, tPart, tNoPart, tSl, tIf, tNext, tTrue, selS, Option.bind_none, Option.bind_some, Option.join_some, if_true, rI, rI0, rU, rEq, rNe, rStarts, rSlS, lenV_str, tyV, List.map_cons, List.map_nil, List.length_cons, List.length_nil, List.replicate, List.cons_append, List.nil_append, List.append_nil, Nat.reduceAdd, Nat.reduceSub, Nat.zero_add, Nat.add_zero, Nat.sub_self, List.getElem?_cons_zero, List.getElem?_cons_succ, List.set_cons_zero, List.set_cons_succ, Option.some.injEq, V.int.injEq, V.str.injEq, V.ref.injEq, V.bl.injEq, V.ty.injEq, List.cons.injEq, exists_eq_left, exists_eq_left', exists_eq_right, exists_and_left, exists_eq, and_true, true_and, and_self, and_assoc, iRrg, tMeth, tMake, tCMeth, tDIn, tDNotIn, tDPop1, tNever, iRev, tDInN])
      refine L1.M.ob.call (L1.stepB ok (.inr (by rw [e]; decide +kernel)) (fun z => absurd z (Nat.succ_ne_zero _)) fun H2 t kn fr2 hs => SoA.mkHalt e fun H3 w u a mk1 kn3 mz hw hu' M3 => ?_)
      have kn13 : Kn m.fl m.mr H1 H3 := kn.trans kn3
      have tk13 := kn13.tk L1.M.fl L1.M.mr
      have hw3 := tk13 _ _ hw1
      have hf3 := tk13 _ _ hf1
      rw [hln, hsc] at hw
      have eq1 : EqLs K H3 1 [.str "halt", .int ln, .int sc, .ref u] [.str "halt", .int ln, .int sc, .ref fa] := el_s (el_i (el_i (.cons (eqd_tup hu' hf3 rfl (el_strs (z :: r)).get) .nil)))
      exact eqTL hw hw3 eq1 (by decide) ⟨_, rfl, bF rfl (M3.ob.call ⟨p, _, rfl, M3.ob, eqTL hw hw3 eq1 (by decide) ⟨_, rfl, bF rfl ⟨w, a, t, mk1, M3, kn13, mz⟩⟩⟩)⟩
    rintro σ' G ⟨rfl, w, a, t, mk1, M3, kn13, mz⟩
    have hf3 := (kn13.tk L1.M.fl L1.M.mr) _ _ hf1
    (simp only [tLst, tTup, tDNewK, _root_.L2.start, cxOf_K, cxComp_K, tSeq, tAsg, gName, tRet, tRetN, tDrop, tIfS, tTest, tB, tNot, tAnd, tOr, tAndV, tOrV, tNotV, tOp, tUn, tVar, tC, tCons, tNil, tStrs, tCB, tCall, tChain, tBM, tBM0, tPart, tNoPart, tSl, tIf, tNext, tTrue, selS, Option.bind_none, Option.bind_some, Option.join_some, if_true, rI, rI0, rU, rEq, rNe, rStarts, rSlS, lenV_str, tyV, List.map_cons, List.map_nil, List.length_cons, List.length_nil, List.replicate, List.cons_append, List.nil_append, List.append_nil, Nat.reduceAdd, Nat.reduceSub, Nat.zero_add, Nat.add_zero, Nat.sub_self, List.getElem?_cons_zero, List.getElem?_cons_succ, List.set_cons_zero, List.set_cons_succ, Option.some.injEq, V.int.injEq, V.str.injEq, V.ref.injEq, V.bl.injEq, V.ty.injEq, List.cons.injEq, exists_eq_left, exists_eq_left', exists_eq_right, exists_and_left, exists_eq, and_true, true_and, and_self, and_assoc, iRrg, tMeth, tMake, tCMeth, tDIn, tDNotIn, tDPop1, tNever, iRev, tDInN])
    have zl : ((z :: r).map V.str).length = r.length + 1 := by simp
    refine ⟨by decide, fun q1 h1 => ⟨fa, q1, (z :: r).map V.str, [.str "lost"], rfl, rfl, SqT.of ((Same.upd h1) _ _ hf3), SqT.of upd_same, (by simp), Nat.le_of_lt (small1000 (by rw [zl]; show _ + 1 < 1000; omega)), (fun z => by cases z), fun _ q2 h2 => ?_⟩⟩
    have w1 := Same.upd (o := .tup [V.str "lost"]) h1
    have w2 := Same.upd (o := .tup ((z :: r).map V.str ++ [.str "lost"])) h2
    have e2 : (upd (upd G q1 (.tup [V.str "lost"])) q2 (.tup ((z :: r).map V.str ++ [.str "lost"]))) q2 = some (.tup ((z :: r).map V.str ++ [.str "lost"])) := upd_same
    have x2 := w1.trans w2
    generalize upd (upd G q1 (.tup [V.str "lost"])) q2 (.tup ((z :: r).map V.str ++ [.str "lost"])) = G2 at e2 x2 ⊢
    refine ⟨by decide, fun q3 h3 => ⟨q3, fa, [.str "first"], (z :: r).map V.str, rfl, rfl, SqT.of upd_same, SqT.of ((Same.upd h3) _ _ (x2 _ _ hf3)), (by simp), Nat.le_of_lt (small1000 (by rw [zl]; show 1 + _ < 1000; omega)), (fun z => absurd z (by simp)), fun _ q4 h4 => ?_⟩⟩
    have w3 := Same.upd (o := .tup [V.str "first"]) h3
    have w4 := Same.upd (o := .tup ([V.str "first"] ++ (z :: r).map V.str)) h4
    have e4 : (upd (upd G2 q3 (.tup [V.str "first"])) q4 (.tup ([V.str "first"] ++ (z :: r).map V.str))) q4 = some (.tup ([V.str "first"] ++ (z :: r).map V.str)) := upd_same
    have x4 := w3.trans w4
    generalize upd (upd G2 q3 (.tup [V.str "first"])) q4 (.tup ([V.str "first"] ++ (z :: r).map V.str)) = G4 at e4 x4 ⊢
    refine ⟨by decide, fun q5 h5 => ⟨by decide, fun q6 h6 => ⟨by decide, fun q7 h7 => ⟨⟨by decide, by decide⟩, by decide, ?_⟩⟩⟩⟩
    have w5 := Same.upd (o := .tup [V.str "oops"]) h5
    have w6 := Same.upd (o := .tup []) h6
    have w7 := Same.upd (o := .lst [V.ref fa, .ref q2, .ref q4, .ref q5, .ref fa, .ref q6]) h7
    have x7 := w5.trans (w6.trans w7)
    obtain ⟨jj, hj, ej⟩ : ∃ jj : Nat, jj < 6 ∧ pk / 7 % 6 = (jj : Nat) := ⟨(pk / 7 % 6).toNat, by omega, by omega⟩
    obtain ⟨u, hu1, hu2⟩ : ∃ u : Addr, [V.ref fa, .ref q2, .ref q4, .ref q5, .ref fa, .ref q6][jj]? = some (.ref u) ∧ (upd (upd (upd G4 q5 (.tup [V.str "oops"])) q6 (.tup [])) q7 (.lst [V.ref fa, .ref q2, .ref q4, .ref q5, .ref fa, .ref q6])) u = some (.tup ((foundF z r jj).map V.str)) := by
      match jj, hj with
      | 0, _ => exact ⟨_, rfl, x7 _ _ (x4 _ _ (x2 _ _ hf3))⟩
      | 1, _ => exact ⟨_, rfl, by rw [show (foundF z r 1).map V.str = (z :: r).map V.str ++ [.str "lost"] by show ((z :: r) ++ _).map V.str = _; rw [List.map_append]; rfl]; exact x7 _ _ (x4 _ _ e2)⟩
      | 2, _ => exact ⟨_, rfl, x7 _ _ e4⟩
      | 3, _ => exact ⟨_, rfl, w7 _ _ (w6 _ _ upd_same)⟩
      | 4, _ => exact ⟨_, rfl, x7 _ _ (x4 _ _ (x2 _ _ hf3))⟩
      | 5, _ => exact ⟨_, rfl, w7 _ _ upd_same⟩
    rw [ej]
    refine ⟨q7, _, _, .ref u, rfl, rfl, SqL.of upd_same, atI_nat hu1, ?_⟩
    have xs := x2.trans (x4.trans x7)
    have M7 := M3.same xs
    have kn7 := kn13.trans (Kn.of xs)
    generalize upd (upd (upd G4 q5 (.tup [V.str "oops"])) q6 (.tup [])) q7 (.lst [V.ref fa, .ref q2, .ref q4, .ref q5, .ref fa, .ref q6]) = G7 at hu2 M7 kn7 ⊢
    clear M3 kn13
    have fl := found_len z r jj
    generalize foundF z r jj = zs at hu2 fl ⊢
    refine ⟨fun σ' G' => σ' = [some (.ref p), some (.int ln), some (.int sc), some (.ref fa), some (.int pk), some (.ref w0), some (.ref u)] ∧ HaltE T H0 p S j mk0 m0 u zs G', ?_, ?_⟩
    · (simp only [tLst, tTup, tDNewK, _root_.L2.start, cxOf_K, cxComp_K, tSeq, tAsg, gName, tRet, tRetN, tDrop, tIfS, tTest, tB, tNot, tAnd, tOr, tAndV, tOrV, tNotV, tOp, tUn, tVar, tC, tCons, tNil, tStrs, tCB, tCall, tChain, tBM, tBM0, tPart, tNoPart, tSl, tIf, tNext, tTrue, selS, Option.bind_none, Option.bind_some, Option.join_some, if_true, rI, rI0, rU, rEq, rNe, rStarts, rSlS, lenV_str, tyV, List.map_cons, List.map_nil, List.length_cons, List.length_nil, List.replicate, List.cons_append, List.nil_append, List.append_nil, Nat.reduceAdd, Nat.reduceSub, Nat.zero_add, Nat.add_zero, Nat.sub_self, List.getElem?_cons_zero, List.getElem?_cons_succ, List.set_cons_zero, List.set_cons_succ, Option.some.injEq, V.int.injEq, V.str.injEq, V.ref.injEq, V.bl.injEq, V.ty.injEq, List.cons.injEq, exists_eq_left, exists_eq_left', exists_eq_right, exists_and_left, exists_eq, and_true, true_and, and_self, and_assoc, iRrg, tMeth, tMake, tCMeth, tDIn, tDNotIn, tDPop1, tNever, iRev, tDInN])
      have hc' : (⟨x.a, x.c, haltS x.s a t (.faults z r)⟩ : Fm).c = .grouped := hc
      refine M7.ob.call ⟨p, u, S.take (j + 1), ⟨x.a, x.c, haltS x.s a t (.faults z r)⟩, [], mk1, _, zs.map V.str, rfl, M7, hc', hu2, fun H5 b5 M5 => bF (by simp) ?_⟩
      obtain ⟨_, _, hp4, _⟩ := M7.ob.ex
      obtain ⟨_, _, hx4, _⟩ := (M7.fr ⟨x.a, x.c, haltS x.s a t (.faults z r)⟩ (List.mem_append_right _ List.mem_cons_self)).fr.ex
      have kn45 : Kn m.fl m.mr G7 H5 := fun c o _ _ nn h => b5 c o (ne_of h hp4 (nn _ _ _)) (ne_of h hx4 (nn _ _ _)) h
      have tk45 := kn45.tk M7.fl M7.mr
      have hu5 := tk45 _ _ hu2
      have fok := frok_at ok L1.hx
      have fin : ∀ (H6 : Hp) (w6 : Addr) (sg : V), Kn m.fl m.mr H5 H6 → H6 w6 = some (.tup [.str "left", .int x.s.line, x.s.sc]) → MAt T H6 p (S.take (j + 1)) [] (leaveF mk1 x.s.sc) { m with st := false, sg := sg, wt := .non } → (zs = [] → sg = .non) → (∀ a b, zs = a :: b → ∃ t, sg = .ref t ∧ SigAt H6 t (.faults a b)) → 3 ≤ sizeLine ∧ ∀ v, H6 v = none → rEqT K true (.ref w6) (.ref v) (upd H6 v (.tup [V.str "left", .int ln, .int sc])) fun y H' => ∃ kk, y = .bl kk ∧ if kk = true then Q .non H' else HaltE T H0 p S j mk0 m0 u zs H' := fun H6 w6 sg kn6 hw6 M6 c1 c2 => ⟨by decide, fun v hv => by
        have hw6 : H6 w6 = some (.tup [.str "left", .int ln, .int sc]) := by
          rw [← hln, ← hsc]; exact hw6
        have s7 := Same.upd (o := .tup [V.str "left", .int ln, .int sc]) hv
        refine eqTL (s7 _ _ hw6) upd_same (el_s (el_i (el_i .nil))) (n := 0) (by decide) ⟨_, rfl, bF rfl ⟨_, _, ?_, M6.same s7, (leave_zero fok.nz).trans (mz.trans L1.mz), L1.e1, L1.e2, rfl, L1.en, rfl, s7 _ _ ((kn6.tk M5.fl M5.mr) _ _ hu5), c1, fun a b e => ?_⟩⟩
        · exact L1.kn.trans ((((kn7.trans kn45).trans kn6).trans (Kn.of s7)).cast L1.e1 L1.e2)
        · obtain ⟨t', d1, d2⟩ := c2 a b e
          exact ⟨t', d1, d2.tkS s7⟩⟩
      refine M5.ob.call ⟨p, mk1, _, rfl, .inr (.inr ⟨S.take (j + 1), ⟨x.a, x.c, { haltS x.s a t (.faults z r) with told := .ref u }⟩, u, zs.map V.str, M5, rfl, rfl, ⟨hc, rfl, hu5, (fun y h => by obtain ⟨s', _, e'⟩ := List.mem_map.mp h; exact ⟨s', e'.symm⟩), .inl rfl, rfl, ⟨sc, hsc⟩⟩, ⟨fun hz H6 w6 t6 kn6 hw6 ht6 M6 => fin H6 w6 _ kn6 hw6 M6 (fun z => absurd (by rw [z]; rfl) hz) (fun a b e => ⟨t6, rfl, u, ht6, by have q := (kn6.tk M5.fl M5.mr) _ _ hu5; rw [e] at q; exact q⟩), fun hz H6 w6 sg kn6 hw6 hh M6 => fin H6 w6 sg kn6 hw6 M6 (fun _ => ?_) (fun a b e => by rw [e] at hz; cases hz)⟩⟩)⟩
      rcases hh with ⟨_, z'⟩ | ⟨t', n', f1, _⟩
      · exact z'
      · cases f1
    rintro σ' G8 ⟨rfl, mk', m', h1, h2, h3, h4, h5, h6, h7, h8, h9, h10, h11⟩
    exact ⟨_, rfl, k G8 u zs mk' m' h1 h2 h3 h4 h5 h6 h7 h8 h9 fl h10 h11⟩
theorem sc_l_out : FnScope ["_law_machine", "_law_chain_here", "_law_frames", "_law_faults", "_law_k", "_law_kind", "_law_line", "_law_pick"] ["_law_machine", "_law_chain_here", "_law_frames", "_law_faults"] (defScope (top 22)) := ⟨rfl, rfl, rfl, by decide +kernel, rfl, by decide +kernel, by decide +kernel⟩
theorem ok_l_out (T : Tx K mg)
    (G_Machine_step : FnOk P w K mg base CX0 7 T.m_Machine_step.f T.m_Machine_step.fd ["self"] (spStep T))
    (G_l_halted : FnOk P w K mg base CX0 8 T.d_l_halted.f T.d_l_halted.fd ["_law_machine", "_law_line", "_law_scope", "_law_faults", "_law_pick"] (spHalted T)) : FnOk P w K mg base CX0 9 T.d_l_out.f T.d_l_out.fd ["_law_machine", "_law_chain_here", "_law_frames", "_law_faults"] (spOut T) := by
  refine T.d_l_out.F.ok sc_l_out (fun vs H Q E h => ?_) (fun cdv A outer s H vs Q E hr h => ?_)
  · obtain ⟨p, l, fr, fa, t, z, cs, S, mk, m, rfl, _⟩ := h
    rfl
  · obtain ⟨p, l, fr, fa, t, z, cs, S, mk, m, rfl, O, k⟩ := h
    have hu := hu100 hr
    refine ⟨_, (pss_cons (ps_for PassesOwn.never rfl (pi_rrng rfl T.n_reversed rfl T.n_range (pa_cons (pe_callB call_len (by rfl) T.n_len bt_len (pa_cons (pv 1) pa_nil)) pa_nil)) (pg_name (i := 4) sc_l_out.nd rfl (Or.inl rfl))
    (pss_cons (ps_asg (pe_ix ix_list (pv 1) (pv 4) (fun _ _ => rfl)) (pg_tup rfl (pgs_cons (pg_name (i := 5) sc_l_out.nd rfl (Or.inl rfl)) (pgs_cons (pg_name (i := 6) sc_l_out.nd rfl (Or.inl rfl)) (pgs_cons (pg_name (i := 7) sc_l_out.nd rfl (Or.inl rfl)) pgs_nil)))))
    (pss_mid (ps_if (pt_cmpR op_eq (pv 5) pe_str (nomark _))
    (pss_one (ps_if (PW.pt (pw_or (pt_cmpR (op_neT hu) (pe_meth0 (pv 0) T.k_Machine T.m_Machine_step.me G_Machine_step (hr.mono (by omega)) T.m_Machine_step.b .nil pass0) (pe_tup (pa_cons pe_str (pa_cons (pv 6) pa_nil))) (nomark _)) (pw_or1 (pt_cmpR (op_neT hu) (pe_meth0 (pv 0) T.k_Machine T.m_Machine_step.me G_Machine_step (hr.mono (by omega)) T.m_Machine_step.b .nil pass0) (pe_tup (pa_cons pe_str (pa_cons (pe_op op_add pe_int (pv 6)) (pa_cons pe_str pa_nil)))) (nomark _)))))
    (pss_one (ps_ret pe_non))
    pss_nil))
    pss_nil)
    (pss_mid (ps_if (pt_cmpR op_eq (pv 5) pe_str (nomark _))
    (pss_cons (ps_set (i := 3) sc_l_out.nd rfl (Or.inl rfl) (pe_call G_l_halted (hr.mono (by omega)) rfl T.d_l_halted.hm T.d_l_halted.F.kp T.d_l_halted.b .nil pass0 (pa_cons (pv 0) (pa_cons (pv 6) (pa_cons (pe_ix ix_tup (pe_ix ix_list (pv 2) (pe_op op_add (pv 4) pe_int) (fun _ _ => rfl)) pe_int (fun _ _ => rfl)) (pa_cons (pv 3) (pa_cons (pv 7) pa_nil)))))))
    (pss_one (ps_if (pt_cmpR op_isN (pv 3) pe_non (nomark _))
    (pss_one (ps_ret pe_non))
    pss_nil)))
    pss_nil)
    (pss_mid (ps_if (pt_cmpR (op_eqT hu) (pv 3) (pe_tup pa_nil) (nomark _))
    (pss_one (ps_ret (pe_tup (pa_cons pe_str (pa_cons (pe_op op_add pe_int (pv 6)) (pa_cons pe_str pa_nil))))))
    pss_nil)
    (pss_one (ps_if (PW.pt (pw_and (pt_cmpR op_eq (pv 5) pe_str (nomark _)) (pw_and1 (pt_cmpR op_eq (pe_ix ix_list (pe_lst (pa_cons pe_str (pa_cons pe_str (pa_cons (pe_ix ix_tup (pv 3) pe_int (fun _ _ => rfl)) pa_nil)))) (pe_op op_mod (pv 7) pe_int) (fun _ _ => rfl)) (pe_ix ix_tup (pv 3) pe_int (fun _ _ => rfl)) (nomark _)))))
    (pss_mid (ps_if (PW.pt (pw_or (pt_cmpR (op_neT hu) (pe_meth0 (pv 0) T.k_Machine T.m_Machine_step.me G_Machine_step (hr.mono (by omega)) T.m_Machine_step.b .nil pass0) (pe_tup (pa_cons pe_str (pa_cons (pv 6) (pa_cons (pv 3) pa_nil)))) (nomark _)) (pw_or1 (pt_cmpR (op_neT hu) (pe_meth0 (pv 0) T.k_Machine T.m_Machine_step.me G_Machine_step (hr.mono (by omega)) T.m_Machine_step.b .nil pass0) (pe_tup (pa_cons pe_str (pa_cons (pe_op op_add pe_int (pv 6)) (pa_cons pe_str pa_nil)))) (nomark _)))))
    (pss_one (ps_ret pe_non))
    pss_nil)
    (pss_one (ps_ret (pe_tup (pa_cons pe_str (pa_cons (pe_op op_add pe_int (pv 6)) (pa_cons pe_str pa_nil)))))))
    pss_nil)))))))
    (pss_one (ps_ret (pe_tup (pa_cons pe_str (pa_cons pe_int (pa_cons (pe_tup (pa_cons pe_str (pa_cons (pv 3) pa_nil))) pa_nil))))))), ?_⟩
    (simp only [tLst, tTup, tDNewK, _root_.L2.start, cxOf_K, cxComp_K, tSeq, tAsg, gName, tRet, tRetN, tDrop, tIfS, tTest, tB, tNot, tAnd, tOr, tAndV, tOrV, tNotV, tOp, tUn, tVar, tC, tCons, tNil, tStrs, tCB, tCall, tChain, tBM, tBM0, tPart, tNoPart, tSl, tIf, tNext, tTrue, selS, Option.bind_none, Option.bind_some, Option.join_some, if_true, rI, rI0, rU, rEq, rNe, rStarts, rSlS, lenV_str, tyV, List.map_cons, List.map_nil, List.length_cons, List.length_nil, List.replicate, List.cons_append, List.nil_append, List.append_nil, Nat.reduceAdd, Nat.reduceSub, Nat.zero_add, Nat.add_zero, Nat.sub_self, List.getElem?_cons_zero, List.getElem?_cons_succ, List.set_cons_zero, List.set_cons_succ, Option.some.injEq, V.int.injEq, V.str.injEq, V.ref.injEq, V.bl.injEq, V.ty.injEq, List.cons.injEq, exists_eq_left, exists_eq_left', exists_eq_right, exists_and_left, exists_eq, and_true, true_and, and_self, and_assoc, iRrg, tMeth, tMake, tCMeth, tDIn, tDNotIn, tDPop1, tNever, iRev, tDInN])
    obtain ⟨ps, hl, hpl, hps⟩ := O.lc.at
    obtain ⟨ps2, hl2, hpl2, hps2⟩ := O.lf.at
    have hlen : (ps.map V.ref).length = cs.length := by rw [List.length_map, hpl, List.length_map]
    refine ⟨_, rfl, _, rfl, _, .inl ⟨_, SqL.of hl, rfl⟩, ((ps.map V.ref).length : Nat), rfl, by omega, by have := O.l7; omega, ?_⟩
    rw [hlen]
    refine for_rrng (n := ((cs.length : Nat) : Int).toNat) (fun i σ G => ∃ (v4 v5 v6 v7 : Option V) (fa1 : Addr) (zs : List Str), σ = [some (.ref p), some (.ref l), some (.ref fr), some (.ref fa1), v4, v5, v6, v7] ∧ G fa1 = some (.tup (zs.map V.str)) ∧ zs.length ≤ 1 + 2 * i ∧ LvF T H G p S zs (cs.length - i) mk m) ?_ ?_ ?_
    · obtain ⟨x, L⟩ := O.start
      exact ⟨_, _, _, _, fa, [z], rfl, O.hf, Nat.le_refl _, z, [], mk, m, S, [], x, rfl, L⟩
    · rintro i σ G hi ⟨v4, v5, v6, v7, fa1, zs, rfl, hfa1, hzl, a, b, mk', m', stk, ext, x, rfl, L⟩
      have hi' : i < cs.length := by simpa using hi
      obtain ⟨k0, ek⟩ : ∃ k0, cs.length = k0 + 1 + i := ⟨cs.length - 1 - i, by omega⟩
      have hk0 : k0 < cs.length := by omega
      obtain ⟨c, hc⟩ : ∃ c, cs[k0]? = some c := ⟨_, List.getElem?_eq_getElem hk0⟩
      rw [show cs.length - i = k0 + 1 by omega] at L
      have tkG := L.kn.tk O.M.fl O.M.mr
      have hcl : (ps.map V.ref)[k0]? = some (V.ref (ps[k0]'(by rw [hpl, List.length_map]; exact hk0))) := by rw [List.getElem?_map, List.getElem?_eq_getElem]; rfl
      obtain ⟨q, tq, eq, etq, hq⟩ := hps k0 _ hcl
      rw [List.getElem?_map, hc] at etq
      cases etq
      have hlG := L.kn.lst O.n1 O.M.mr hl
      have hqG := tkG _ _ hq
      obtain ⟨FE, par, hpar, hbeh⟩ := fes_at (O.fe.tk tkG) hc L.hx
      have fok := frok_at O.ok L.hx
      have hsl : S.length ≤ 10 := by have := O.len; have := O.l7; omega
      have hcl2 : (ps.map V.ref)[k0]? = some (V.ref q) := hcl.trans (by rw [eq])
      have eix : ((((cs.length : Nat) : Int).toNat : Nat) : Int) - 1 - (i : Int) = ((k0 : Nat) : Int) := by omega
      have eix2 : ((k0 : Nat) : Int) + 1 = ((k0 + 1 : Nat) : Int) := by omega
      have tl := take_last hpar
      obtain ⟨f, hf, ef⟩ := scs_ne O.sc L.hx
      have hk2 : k0 + 1 < ps2.length := by rw [hpl2, List.length_map]; exact (List.getElem?_eq_some_iff.mp hf).1
      obtain ⟨qf, tqf, eqf, etf, hqf⟩ := hps2 (k0 + 1) (V.ref ps2[k0 + 1]) (by rw [List.getElem?_map, List.getElem?_eq_getElem hk2]; rfl)
      rw [List.getElem?_map, hf] at etf
      cases etf
      have hcl3 : (ps2.map V.ref)[k0 + 1]? = some (V.ref qf) := by rw [List.getElem?_map, List.getElem?_eq_getElem hk2]; exact congrArg some eqf
      have frame : ∀ {G' : Hp} {R : VK}, Kn m.fl m.mr H G' → R x.s.sc G' → rIxL K (.ref fr) (.int ((k0 : Nat) + 1)) G' (fun u H1 => rIxT K u (.int 0) H1 R) := fun {G' R} kn hR => by
        rw [eix2]
        refine ⟨fr, _, _, _, rfl, rfl, SqL.of (kn.lst O.n2 O.M.mr hl2), atI_nat hcl3, qf, _, _, f.1, rfl, rfl, SqT.of ((kn.tk O.M.fl O.M.mr) _ _ hqf), atI_nat (j := 0) rfl, ?_⟩
        rw [ef]; exact hR
      have kc := FE.k
      obtain ⟨FE0, par0, hpar0, hbeh0⟩ := fes_at O.fe hc L.hx
      have epar : par = par0 := Option.some.inj (hpar.symm.trans hpar0)
      rw [← epar] at hbeh0
      clear hpar0 epar par0
      (simp only [tLst, tTup, tDNewK, _root_.L2.start, cxOf_K, cxComp_K, tSeq, tAsg, gName, tRet, tRetN, tDrop, tIfS, tTest, tB, tNot, tAnd, tOr, tAndV, tOrV, tNotV, tOp, tUn, tVar, tC, tCons, tNil, tStrs, tCB, tCall, tChain, tBM, tBM0, tPart, tNoPart, tSl, tIf, tNext, tTrue, selS, Option.bind_none, Option.bind_some, Option.join_some, if_true, rI, rI0, rU, rEq, rNe, rStarts, rSlS, lenV_str, tyV, List.map_cons, List.map_nil, List.length_cons, List.length_nil, List.replicate, List.cons_append, List.nil_append, List.append_nil, Nat.reduceAdd, Nat.reduceSub, Nat.zero_add, Nat.add_zero, Nat.sub_self, List.getElem?_cons_zero, List.getElem?_cons_succ, List.set_cons_zero, List.set_cons_succ, Option.some.injEq, V.int.injEq, V.str.injEq, V.ref.injEq, V.bl.injEq, V.ty.injEq, List.cons.injEq, exists_eq_left, exists_eq_left', exists_eq_right, exists_and_left, exists_eq, and_true, true_and, and_self, and_assoc, iRrg, tMeth, tMake, tCMeth, tDIn, tDNotIn, tDPop1, tNever, iRev, tDInN])
      rw [eix]
      refine ⟨l, _, _, V.ref q, rfl, rfl, SqL.of hlG, atI_nat hcl2, q, Ce.vs c, rfl, SqT.of hqG, rfl, _, _, rfl, _, _, rfl, _, _, rfl, rfl, ?_⟩
      refine ⟨fun σ' G' => σ' = [some (.ref p), some (.ref l), some (.ref fr), some (.ref fa1), some (.int (k0 : Nat)), some (.str (wordK c.k)), some (.int c.ln), some (.int c.pk)] ∧ OF1 T H p S (a :: b) c k0 mk m fa1 G', ?_, ?_⟩
      · (simp only [tLst, tTup, tDNewK, _root_.L2.start, cxOf_K, cxComp_K, tSeq, tAsg, gName, tRet, tRetN, tDrop, tIfS, tTest, tB, tNot, tAnd, tOr, tAndV, tOrV, tNotV, tOp, tUn, tVar, tC, tCons, tNil, tStrs, tCB, tCall, tChain, tBM, tBM0, tPart, tNoPart, tSl, tIf, tNext, tTrue, selS, Option.bind_none, Option.bind_some, Option.join_some, if_true, rI, rI0, rU, rEq, rNe, rStarts, rSlS, lenV_str, tyV, List.map_cons, List.map_nil, List.length_cons, List.length_nil, List.replicate, List.cons_append, List.nil_append, List.append_nil, Nat.reduceAdd, Nat.reduceSub, Nat.zero_add, Nat.add_zero, Nat.sub_self, List.getElem?_cons_zero, List.getElem?_cons_succ, List.set_cons_zero, List.set_cons_succ, Option.some.injEq, V.int.injEq, V.str.injEq, V.ref.injEq, V.bl.injEq, V.ty.injEq, List.cons.injEq, exists_eq_left, exists_eq_left', exists_eq_right, exists_and_left, exists_eq, and_true, true_and, and_self, and_assoc, iRrg, tMeth, tMake, tCMeth, tDIn, tDNotIn, tDPop1, tNever, iRev, tDInN])
        refine ⟨rfl, ifB (is_word (k0 := .cleaned) rfl) ?_⟩
        by_cases hk : c.k = .cleaned
        · refine ifT hk ?_
          have e : meetsF x.c x.s (.faults a b) = "clean" := by
            rw [kc, hk]
            show (if x.s.cleaning = true then ("out" : Str) else "clean") = "clean"
            rw [FE.cl]; rfl
          obtain ⟨q2, hot, hq2⟩ := FE.ot.1 hk
          refine L.M.ob.call (L.stepB O.ok (.inr (by rw [e]; decide +kernel)) (fun z => absurd z (Nat.succ_ne_zero _)) fun H1 t kn fr1 hs => SoA.mkClean e fun H2 w mk1 kn2 mz hw M2 => ⟨by decide, fun v hv => ?_⟩)
          have sv := Same.upd (o := .tup [V.str "clean", .int c.ln]) hv
          rw [FE.ln] at hw
          have kn12 : Kn m'.fl m'.mr G H2 := kn.trans kn2
          have tk12 := kn12.tk L.M.fl L.M.mr
          refine eqTL (sv _ _ hw) upd_same (el_s (el_i .nil)) (n := 0) (by decide) ⟨_, rfl, bF rfl ?_⟩
          have M2' := M2.same sv
          refine M2'.ob.call (stepRing (q := q2) (ext := []) (ln := 100 + c.ln) (z := "clean") (by rw [List.append_nil]; exact M2') rfl rfl (fun y h => by cases h) (by show x.s.others[0]? = _; rw [hot]; rfl) (sv _ _ (tk12 _ _ hq2)) (by rw [List.length_take]; omega) fun H3 t3 kn3 ht3 M3 => ⟨by decide, fun v2 hv2 => ?_⟩)
          have sv2 := Same.upd (o := .tup [V.str "ring", .int (100 + c.ln), .str "clean"]) hv2
          have tk3 := kn3.tk M2'.fl M2'.mr
          refine eqTL (sv2 _ _ ht3) upd_same (el_s (el_i (el_s .nil))) (n := 0) (by decide) ⟨_, rfl, bF rfl ⟨sv2 _ _ (tk3 _ _ (sv _ _ (tk12 _ _ hfa1))), fun _ => ?_, fun z => absurd hk z⟩⟩
          have hs3 : SigAt H3 t (.faults a b) := (hs.tk (Kn.tkF (m := m') kn2 fr1)).tkS sv |>.tk tk3
          have kn03 : Kn m.fl m.mr H (upd H3 v2 (.tup [V.str "ring", .int (100 + c.ln), .str "clean"])) := L.kn.trans ((((kn12.trans (Kn.of sv)).trans kn3).trans (Kn.of sv2)).cast L.e1 L.e2)
          exact ⟨a, b, mk1, _, _, [], par, rfl, Lv.cleaned hpar hsl fok (kc.trans hk) hot (M3.same sv2) rfl rfl (hs3.tkS sv2) L.en L.wt kn03 L.e1 L.e2 (mz.trans L.mz)⟩
        · exact ifF hk ⟨hfa1, fun z => absurd z hk, fun _ => ⟨a, b, _, _, _, _, _, rfl, L⟩⟩
      rintro σ' G1 ⟨rfl, hf1, B1⟩
      refine ⟨fun σ' G' => ∃ fa2 : Addr, σ' = [some (.ref p), some (.ref l), some (.ref fr), some (.ref fa2), some (.int (k0 : Nat)), some (.str (wordK c.k)), some (.int c.ln), some (.int c.pk)] ∧ OF2 T H p S (1 + 2 * (i + 1)) c k0 mk m fa2 G', ?_, ?_⟩
      · (simp only [tLst, tTup, tDNewK, _root_.L2.start, cxOf_K, cxComp_K, tSeq, tAsg, gName, tRet, tRetN, tDrop, tIfS, tTest, tB, tNot, tAnd, tOr, tAndV, tOrV, tNotV, tOp, tUn, tVar, tC, tCons, tNil, tStrs, tCB, tCall, tChain, tBM, tBM0, tPart, tNoPart, tSl, tIf, tNext, tTrue, selS, Option.bind_none, Option.bind_some, Option.join_some, if_true, rI, rI0, rU, rEq, rNe, rStarts, rSlS, lenV_str, tyV, List.map_cons, List.map_nil, List.length_cons, List.length_nil, List.replicate, List.cons_append, List.nil_append, List.append_nil, Nat.reduceAdd, Nat.reduceSub, Nat.zero_add, Nat.add_zero, Nat.sub_self, List.getElem?_cons_zero, List.getElem?_cons_succ, List.set_cons_zero, List.set_cons_succ, Option.some.injEq, V.int.injEq, V.str.injEq, V.ref.injEq, V.bl.injEq, V.ty.injEq, List.cons.injEq, exists_eq_left, exists_eq_left', exists_eq_right, exists_and_left, exists_eq, and_true, true_and, and_self, and_assoc, iRrg, tMeth, tMake, tCMeth, tDIn, tDNotIn, tDPop1, tNever, iRev, tDInN])
        refine ⟨rfl, ifB (is_word (k0 := .grouped) rfl) ?_⟩
        by_cases hk : c.k = .grouped
        · refine ifT hk ?_
          obtain ⟨a1, b1, mk1, m1, stk1, ext1, x1, ez, L1⟩ := B1.2 (by rw [hk]; exact fun z => nomatch z)
          obtain ⟨rfl, rfl⟩ := List.cons.inj ez
          have ex : x1 = x := Option.some.inj (L1.hx.symm.trans L.hx)
          subst ex
          obtain ⟨sj, hsj⟩ := fok.grp (kc.trans hk)
          have hbl : b.length ≤ 30 := by
            have : (a :: b).length = b.length + 1 := rfl
            have := O.l7
            omega
          refine frame L1.kn ?_
          rw [hsj]
          refine ⟨p, H, S, a, b, k0, mk, mk1, m, m1, stk1, ext1, x1, c.ln, sj, fa1, c.pk, rfl, L1, O.ok, kc.trans hk, FE.ln, hsj, hf1, hbl, (O.bd c (List.mem_of_getElem? hc)).2.2, fun H' u zs' mk' m' kn M' mz f1 f2 st en wt hu' hzl' hs0 hs1 => bF (by simp) ⟨u, rfl, zs', hu', ?_, kn, fun ez => ?_, fun nz => ⟨fun _ => ?_, fun _ z => absurd hk z⟩⟩⟩
          · have : (a :: b).length = b.length + 1 := rfl
            omega
          · exact ⟨mk', m', [], by rw [List.append_nil]; exact M', (fun y h => by cases h), st, hs0 ez, en, wt, kn, f1, f2⟩
          · cases zs' with
            | nil => exact absurd rfl nz
            | cons a2 b2 =>
              obtain ⟨t2, g1, g2⟩ := hs1 a2 b2 rfl
              exact ⟨a2, b2, mk', m', S.take (k0 + 1), [], par, rfl, M', hpar, .inr (.inl ⟨st, by rw [tl, List.append_nil], t2, g1, g2⟩), (fun y h => by cases h), by rw [List.length_take]; omega, en, wt, kn, f1, f2, mz⟩
        · refine ifF hk ⟨a :: b, hf1, by omega, ?_, (fun z => by cases z), fun _ => ⟨fun z => ?_, fun z _ => B1.2 z⟩⟩
          · by_cases h1 : c.k = .cleaned
            · obtain ⟨_, _, _, _, _, _, _, _, L1⟩ := B1.1 h1
              exact L1.kn
            · obtain ⟨_, _, _, _, _, _, _, _, L1⟩ := B1.2 h1
              exact L1.kn
          · rcases z with z | z
            · exact B1.1 z
            · exact absurd z hk
      rintro σ' G2 ⟨fa2, rfl, zs2, hf2, hz2, kn2, hnil, hnn⟩
      refine ⟨fun σ' G' => σ' = [some (.ref p), some (.ref l), some (.ref fr), some (.ref fa2), some (.int (k0 : Nat)), some (.str (wordK c.k)), some (.int c.ln), some (.int c.pk)] ∧ OF2n T H p S (1 + 2 * (i + 1)) c k0 mk m fa2 G', ?_, ?_⟩
      · (simp only [tLst, tTup, tDNewK, _root_.L2.start, cxOf_K, cxComp_K, tSeq, tAsg, gName, tRet, tRetN, tDrop, tIfS, tTest, tB, tNot, tAnd, tOr, tAndV, tOrV, tNotV, tOp, tUn, tVar, tC, tCons, tNil, tStrs, tCB, tCall, tChain, tBM, tBM0, tPart, tNoPart, tSl, tIf, tNext, tTrue, selS, Option.bind_none, Option.bind_some, Option.join_some, if_true, rI, rI0, rU, rEq, rNe, rStarts, rSlS, lenV_str, tyV, List.map_cons, List.map_nil, List.length_cons, List.length_nil, List.replicate, List.cons_append, List.nil_append, List.append_nil, Nat.reduceAdd, Nat.reduceSub, Nat.zero_add, Nat.add_zero, Nat.sub_self, List.getElem?_cons_zero, List.getElem?_cons_succ, List.set_cons_zero, List.set_cons_succ, Option.some.injEq, V.int.injEq, V.str.injEq, V.ref.injEq, V.bl.injEq, V.ty.injEq, List.cons.injEq, exists_eq_left, exists_eq_left', exists_eq_right, exists_and_left, exists_eq, and_true, true_and, and_self, and_assoc, iRrg, tMeth, tMake, tCMeth, tDIn, tDNotIn, tDPop1, tNever, iRev, tDInN])
        refine ⟨by decide, fun u hu' => ?_⟩
        have su := Same.upd (o := .tup []) hu'
        refine eq_nilE (su _ _ hf2) upd_same ⟨_, rfl, ?_⟩
        by_cases ez : zs2 = []
        · refine bT (by rw [ez]; rfl) ⟨by decide, fun du hdu => k _ du (.inl ?_)⟩
          have sd := su.trans (Same.upd (o := .tup [V.str "ring", .int (200 + c.ln), .str "behind"]) hdu)
          exact ((hnil ez).same sd).due hpar (hbeh0.tk (fun _ _ h => sd _ _ ((kn2.tk O.M.fl O.M.mr) _ _ h))) upd_same hsl
        · refine bF (by simpa using ez) ⟨zs2, su _ _ hf2, hz2, fun z => ((hnn ez).1 z).same su, fun z z' => ((hnn ez).2 z z').same su⟩
      rintro σ' G3 ⟨rfl, zs3, hf3, hz3, hA, hB⟩
      (simp only [tLst, tTup, tDNewK, _root_.L2.start, cxOf_K, cxComp_K, tSeq, tAsg, gName, tRet, tRetN, tDrop, tIfS, tTest, tB, tNot, tAnd, tOr, tAndV, tOrV, tNotV, tOp, tUn, tVar, tC, tCons, tNil, tStrs, tCB, tCall, tChain, tBM, tBM0, tPart, tNoPart, tSl, tIf, tNext, tTrue, selS, Option.bind_none, Option.bind_some, Option.join_some, if_true, rI, rI0, rU, rEq, rNe, rStarts, rSlS, lenV_str, tyV, List.map_cons, List.map_nil, List.length_cons, List.length_nil, List.replicate, List.cons_append, List.nil_append, List.append_nil, Nat.reduceAdd, Nat.reduceSub, Nat.zero_add, Nat.add_zero, Nat.sub_self, List.getElem?_cons_zero, List.getElem?_cons_succ, List.set_cons_zero, List.set_cons_succ, Option.some.injEq, V.int.injEq, V.str.injEq, V.ref.injEq, V.bl.injEq, V.ty.injEq, List.cons.injEq, exists_eq_left, exists_eq_left', exists_eq_right, exists_and_left, exists_eq, and_true, true_and, and_self, and_assoc, iRrg, tMeth, tMake, tCMeth, tDIn, tDNotIn, tDPop1, tNever, iRev, tDInN])
      have ek0 : cs.length - (i + 1) = k0 := by omega
      rw [ek0]
      refine ⟨rfl, ifB (is_word (k0 := .tried) rfl) ?_⟩
      by_cases hk : c.k = .tried
      · refine ifT hk ?_
        obtain ⟨a1, b1, mk1, m1, stk1, ext1, x1, ez, L1⟩ := hB (by rw [hk]; exact fun z => nomatch z) (by rw [hk]; exact fun z => nomatch z)
        subst ez
        have ex : x1 = x := Option.some.inj (L1.hx.symm.trans L.hx)
        subst ex
        refine ⟨fa2, _, _, .str a1, rfl, rfl, SqT.of hf3, atI_nat (j := 0) rfl, by decide, fun p1 h1 => ⟨by decide, ?_⟩⟩
        obtain ⟨jj, hj, ej⟩ : ∃ jj : Nat, jj < 3 ∧ c.pk % 3 = (jj : Nat) := ⟨(c.pk % 3).toNat, by omega, by omega⟩
        obtain ⟨vv, hv, hvc⟩ : ∃ vv : Str, [V.str "boom", V.str "oops", V.str a1][jj]? = some (.str vv) ∧ (vv = a1 ↔ (fltOf c = "any" ∨ fltOf c = a1)) := by
          match jj, hj, ej with
          | 0, _, ej =>
            have ef : fltOf c = "boom" := by unfold fltOf; rw [ej]; rfl
            refine ⟨_, rfl, ?_⟩
            rw [ef]
            exact ⟨fun z => .inr z, fun z => z.elim (fun z => absurd z (by decide +kernel)) id⟩
          | 1, _, ej =>
            have ef : fltOf c = "oops" := by unfold fltOf; rw [ej]; rfl
            refine ⟨_, rfl, ?_⟩
            rw [ef]
            exact ⟨fun z => .inr z, fun z => z.elim (fun z => absurd z (by decide +kernel)) id⟩
          | 2, _, ej =>
            have ef : fltOf c = "any" := by unfold fltOf; rw [ej]; rfl
            refine ⟨_, rfl, ?_⟩
            rw [ef]
            exact ⟨fun _ => .inl rfl, fun _ => rfl⟩
        rw [ej]
        have s1 := Same.upd (o := .lst [V.str "boom", V.str "oops", V.str a1]) h1
        have hf4 := s1 _ _ hf3
        refine ⟨p1, _, _, .str vv, rfl, rfl, SqL.of upd_same, atI_nat hv, fa2, _, _, .str a1, rfl, rfl, SqT.of hf4, atI_nat (j := 0) rfl, rfl, ?_⟩
        have L2 := L1.same s1
        generalize upd G3 p1 (.lst [V.str "boom", V.str "oops", V.str a1]) = G4 at hf4 L2 ⊢
        clear L1 s1 h1
        have hfl := FE.fl hk
        by_cases hv1 : vv = a1
        · refine ifT (by rw [hv1]) ?_
          have e : meetsF x1.c x1.s (.faults a1 b1) = "caught" := by
            rw [kc, hk]
            show (if x1.s.fault = "any" ∨ x1.s.fault = a1 then ("caught" : Str) else "out") = "caught"
            rw [hfl, if_pos (hvc.mp hv1)]
          obtain ⟨q2, hot, hq2⟩ := FE0.ot.2.1 hk
          refine ⟨fun σ' G' => σ' = [some (.ref p), some (.ref l), some (.ref fr), some (.ref fa2), some (.int (k0 : Nat)), some (.str (wordK c.k)), some (.int c.ln), some (.int c.pk)] ∧ RB T H G' p S k0 m ∧ Kn m.fl m.mr H G', ?_, ?_⟩
          · (simp only [tLst, tTup, tDNewK, _root_.L2.start, cxOf_K, cxComp_K, tSeq, tAsg, gName, tRet, tRetN, tDrop, tIfS, tTest, tB, tNot, tAnd, tOr, tAndV, tOrV, tNotV, tOp, tUn, tVar, tC, tCons, tNil, tStrs, tCB, tCall, tChain, tBM, tBM0, tPart, tNoPart, tSl, tIf, tNext, tTrue, selS, Option.bind_none, Option.bind_some, Option.join_some, if_true, rI, rI0, rU, rEq, rNe, rStarts, rSlS, lenV_str, tyV, List.map_cons, List.map_nil, List.length_cons, List.length_nil, List.replicate, List.cons_append, List.nil_append, List.append_nil, Nat.reduceAdd, Nat.reduceSub, Nat.zero_add, Nat.add_zero, Nat.sub_self, List.getElem?_cons_zero, List.getElem?_cons_succ, List.set_cons_zero, List.set_cons_succ, Option.some.injEq, V.int.injEq, V.str.injEq, V.ref.injEq, V.bl.injEq, V.ty.injEq, List.cons.injEq, exists_eq_left, exists_eq_left', exists_eq_right, exists_and_left, exists_eq, and_true, true_and, and_self, and_assoc, iRrg, tMeth, tMake, tCMeth, tDIn, tDNotIn, tDPop1, tNever, iRev, tDInN])
            refine L2.M.ob.call (L2.stepB O.ok (.inr (by rw [e]; decide +kernel)) (fun z => absurd z (Nat.succ_ne_zero _)) fun H1 t1 kn fr1 hs => SoA.mkCaught e fun H2 w u y mk2 kn2' mz hw hu' M2 => ⟨by decide, fun v hv => ?_⟩)
            have sv := Same.upd (o := .tup [V.str "caught", .int c.ln, .ref fa2]) hv
            rw [FE.ln] at hw
            have kn12 : Kn m1.fl m1.mr G4 H2 := kn.trans kn2'
            have tk12 := kn12.tk L2.M.fl L2.M.mr
            refine eqTL (sv _ _ hw) upd_same (el_s (el_i (.cons (eqd_tup (sv _ _ hu') (sv _ _ (tk12 _ _ hf4)) rfl (el_strs (a1 :: b1)).get) .nil))) (n := 1) (by decide) ⟨_, rfl, bF rfl ?_⟩
            have M2' := M2.same sv
            have knH : Kn m.fl m.mr H H2 := L2.kn.trans (kn12.cast L2.e1 L2.e2)
            refine M2'.ob.call (stepRing (q := q2) (ext := []) (ln := 100 + c.ln) (z := "caught") (by rw [List.append_nil]; exact M2') rfl rfl (fun y h => by cases h) (by show x1.s.others[0]? = _; rw [hot]; rfl) (sv _ _ ((knH.tk O.M.fl O.M.mr) _ _ hq2)) (by rw [List.length_take]; omega) fun H3 t3 kn3 ht3 M3 => ⟨by decide, fun v2 hv2 => ?_⟩)
            have sv2 := Same.upd (o := .tup [V.str "ring", .int (100 + c.ln), .str "caught"]) hv2
            have knF := knH.trans (((Kn.of sv).trans (kn3.trans (Kn.of sv2))).cast L2.e1 L2.e2)
            refine eqTL (sv2 _ _ ht3) upd_same (el_s (el_i (el_s .nil))) (n := 0) (by decide) ⟨_, rfl, bF rfl ⟨⟨mk2, _, [⟨y, .frame, { plainS x1.s with place := 1 }⟩], M3.same sv2, fun z hz => ?_, rfl, rfl, L2.en, L2.wt, knF, L2.e1, L2.e2⟩, knF⟩⟩
            rw [List.mem_singleton.mp hz]
            exact ⟨⟨by show 1 = x1.s.others.length; rw [hot]; rfl, rfl, rfl⟩, rfl, rfl⟩
          rintro σ' G5 ⟨rfl, rb, kn5⟩
          (simp only [tLst, tTup, tDNewK, _root_.L2.start, cxOf_K, cxComp_K, tSeq, tAsg, gName, tRet, tRetN, tDrop, tIfS, tTest, tB, tNot, tAnd, tOr, tAndV, tOrV, tNotV, tOp, tUn, tVar, tC, tCons, tNil, tStrs, tCB, tCall, tChain, tBM, tBM0, tPart, tNoPart, tSl, tIf, tNext, tTrue, selS, Option.bind_none, Option.bind_some, Option.join_some, if_true, rI, rI0, rU, rEq, rNe, rStarts, rSlS, lenV_str, tyV, List.map_cons, List.map_nil, List.length_cons, List.length_nil, List.replicate, List.cons_append, List.nil_append, List.append_nil, Nat.reduceAdd, Nat.reduceSub, Nat.zero_add, Nat.add_zero, Nat.sub_self, List.getElem?_cons_zero, List.getElem?_cons_succ, List.set_cons_zero, List.set_cons_succ, Option.some.injEq, V.int.injEq, V.str.injEq, V.ref.injEq, V.bl.injEq, V.ty.injEq, List.cons.injEq, exists_eq_left, exists_eq_left', exists_eq_right, exists_and_left, exists_eq, and_true, true_and, and_self, and_assoc, iRrg, tMeth, tMake, tCMeth, tDIn, tDNotIn, tDPop1, tNever, iRev, tDInN])
          refine ⟨by decide, fun du hdu => k _ du (.inl ?_)⟩
          have sd := Same.upd (o := .tup [V.str "ring", .int (200 + c.ln), .str "behind"]) hdu
          exact (rb.same sd).due hpar (hbeh0.tk (fun _ _ h => sd _ _ ((kn5.tk O.M.fl O.M.mr) _ _ h))) upd_same hsl
        · refine ifF (fun z => hv1 (V.str.inj z)) ⟨a1 :: b1, hf4, hz3, a1, b1, _, _, _, _, _, rfl, L2.down fok hpar (FOk.outF (fun z => by rw [kc, hk] at z; cases z) (by rw [kc, hk]; exact fun z => nomatch z) (fun _ z => hv1 (hvc.mpr (by rw [← hfl]; exact z))))⟩
      · refine ifF hk (iteF ⟨zs3, hf3, hz3, ?_⟩)
        by_cases h1 : c.k = .cleaned
        · exact hA (.inl h1)
        · by_cases h2 : c.k = .grouped
          · exact hA (.inr h2)
          · obtain ⟨a1, b1, mk1, m1, stk1, ext1, x1, ez, L1⟩ := hB h1 h2
            have ex : x1 = x := Option.some.inj (L1.hx.symm.trans L.hx)
            subst ex
            exact ⟨a1, b1, _, _, _, _, _, ez, L1.down fok hpar (FOk.outF (fun z => absurd (kc.symm.trans z) h1) (fun z => h2 (kc.symm.trans z)) (fun z => absurd (kc.symm.trans z) hk))⟩
    · rintro σ G ⟨v4, v5, v6, v7, fa1, zs, rfl, hfa1, hzl, a, b, mk', m', stk, ext, x, rfl, L⟩
      have e0 : cs.length - ((cs.length : Nat) : Int).toNat = 0 := by omega
      rw [e0] at L
      (simp only [tLst, tTup, tDNewK, _root_.L2.start, cxOf_K, cxComp_K, tSeq, tAsg, gName, tRet, tRetN, tDrop, tIfS, tTest, tB, tNot, tAnd, tOr, tAndV, tOrV, tNotV, tOp, tUn, tVar, tC, tCons, tNil, tStrs, tCB, tCall, tChain, tBM, tBM0, tPart, tNoPart, tSl, tIf, tNext, tTrue, selS, Option.bind_none, Option.bind_some, Option.join_some, if_true, rI, rI0, rU, rEq, rNe, rStarts, rSlS, lenV_str, tyV, List.map_cons, List.map_nil, List.length_cons, List.length_nil, List.replicate, List.cons_append, List.nil_append, List.append_nil, Nat.reduceAdd, Nat.reduceSub, Nat.zero_add, Nat.add_zero, Nat.sub_self, List.getElem?_cons_zero, List.getElem?_cons_succ, List.set_cons_zero, List.set_cons_succ, Option.some.injEq, V.int.injEq, V.str.injEq, V.ref.injEq, V.bl.injEq, V.ty.injEq, List.cons.injEq, exists_eq_left, exists_eq_left', exists_eq_right, exists_and_left, exists_eq, and_true, true_and, and_self, and_assoc, iRrg, tMeth, tMake, tCMeth, tDIn, tDNotIn, tDPop1, tNever, iRev, tDInN])
      refine ⟨by decide, fun v hv => ⟨by decide, fun du hdu => k _ du (.inr ?_)⟩⟩
      have s2 := (Same.upd (o := .tup [V.str "faults", .ref fa1]) hv).trans (Same.upd (o := .tup [V.str "ended", .int 0, .ref v]) hdu)
      exact ⟨a, b, v, fa1, mk', m', stk, ext, x, upd_same, (Same.upd hdu) _ _ upd_same, s2 _ _ hfa1, L.same s2⟩
theorem sc_l_right : FnScope ["_law_script", "_law_turn", "_law_chain_here", "_law_fault", "_law_machine", "_law_due"] ["_law_script", "_law_turn"] (defScope (top 23)) := ⟨rfl, rfl, rfl, by decide +kernel, rfl, by decide +kernel, by decide +kernel⟩
theorem ok_l_right (T : Tx K mg)
    (G_Machine___init__ : FnOk P w K mg base CX0 4 T.m_Machine___init__.f T.m_Machine___init__.fd ["self", "rows"] (spMInit T))
    (G_Machine_waiting : FnOk P w K mg base CX0 1 T.m_Machine_waiting.f T.m_Machine_waiting.fd ["self"] (spWaiting T))
    (G_Machine_outcome : FnOk P w K mg base CX0 1 T.m_Machine_outcome.f T.m_Machine_outcome.fd ["self"] (spOutcome T))
    (G_Machine_step : FnOk P w K mg base CX0 7 T.m_Machine_step.f T.m_Machine_step.fd ["self"] (spStep T))
    (G_l_cell_at : FnOk P w K mg base CX0 1 T.d_l_cell_at.f T.d_l_cell_at.fd ["_law_script", "_law_k"] (spCell K))
    (G_l_mixed : FnOk P w K mg base CX0 1 T.d_l_mixed.f T.d_l_mixed.fd ["_law_cell", "_law_k"] (spMixed))
    (G_l_chain : FnOk P w K mg base CX0 2 T.d_l_chain.f T.d_l_chain.fd ["_law_script", "_law_turn"] (spChain K))
    (G_l_nested : FnOk P w K mg base CX0 1 T.d_l_nested.f T.d_l_nested.fd ["_law_chain_here", "_law_inner"] (spNested K))
    (G_l_scopes : FnOk P w K mg base CX0 1 T.d_l_scopes.f T.d_l_scopes.fd ["_law_chain_here"] (spScopesL K))
    (G_l_entered : FnOk P w K mg base CX0 8 T.d_l_entered.f T.d_l_entered.fd ["_law_machine", "_law_chain_here"] (spEntered T))
    (G_l_out : FnOk P w K mg base CX0 9 T.d_l_out.f T.d_l_out.fd ["_law_machine", "_law_chain_here", "_law_frames", "_law_faults"] (spOut T)) : FnOk P w K mg base CX0 10 T.d_l_right.f T.d_l_right.fd ["_law_script", "_law_turn"] (spRight T) := by
  refine T.d_l_right.F.ok sc_l_right (fun vs H Q E h => ?_) (fun cdv A outer s H vs Q E hr h => ?_)
  · obtain ⟨a, ns, tn, rfl, _⟩ := h
    rfl
  · obtain ⟨a, ns, tn, rfl, htn, ha, hns, k⟩ := h
    have hu := hu100 hr
    have hu1 := hu_of hr
    refine ⟨_, (pss_cons (ps_set (i := 2) sc_l_right.nd rfl (Or.inl rfl) (pe_call G_l_chain (hr.mono (by omega)) rfl T.d_l_chain.hm T.d_l_chain.F.kp T.d_l_chain.b .nil pass0 (pa_cons (pv 0) (pa_cons (pv 1) pa_nil))))
    (pss_cons (ps_set (i := 3) sc_l_right.nd rfl (Or.inl rfl) (pe_ix ix_list (pe_lst (pa_cons pe_str (pa_cons pe_str pa_nil))) (pe_op op_mod (pe_call G_l_mixed (hr.mono (by omega)) rfl T.d_l_mixed.hm T.d_l_mixed.F.kp T.d_l_mixed.b .nil pass0 (pa_cons (pe_call G_l_cell_at (hr.mono (by omega)) rfl T.d_l_cell_at.hm T.d_l_cell_at.F.kp T.d_l_cell_at.b .nil pass0 (pa_cons (pv 0) (pa_cons pe_int pa_nil))) (pa_cons (pv 1) pa_nil))) pe_int) (fun _ _ => rfl)))
    (pss_cons (ps_set (i := 4) sc_l_right.nd rfl (Or.inl rfl) (pe_make T.M_Machine G_Machine___init__ (hr.mono (by omega)) rfl T.h_Machine T.m_Machine___init__.b .nil pass0 (pa_cons (pe_call G_l_nested (hr.mono (by omega)) rfl T.d_l_nested.hm T.d_l_nested.F.kp T.d_l_nested.b .nil pass0 (pa_cons (pv 2) (pa_cons (pe_tup (pa_cons (pe_tup (pa_cons pe_str (pa_cons pe_int (pa_cons (pv 3) pa_nil)))) (pa_cons (pe_tup (pa_cons pe_str (pa_cons pe_int (pa_cons pe_str pa_nil)))) pa_nil))) pa_nil))) pa_nil)))
    (pss_mid (ps_if (PW.pt (pw_or (pt_not (pt_val (pe_call G_l_entered (hr.mono (by omega)) rfl T.d_l_entered.hm T.d_l_entered.F.kp T.d_l_entered.b .nil pass0 (pa_cons (pv 4) (pa_cons (pv 2) pa_nil))))) (pw_or1 (pt_cmpR (op_neT hu) (pe_meth0 (pv 4) T.k_Machine T.m_Machine_step.me G_Machine_step (hr.mono (by omega)) T.m_Machine_step.b .nil pass0) (pe_tup (pa_cons pe_str (pa_cons pe_int (pa_cons (pv 3) pa_nil)))) (nomark _)))))
    (pss_one (ps_ret pe_bl))
    pss_nil)
    (pss_cons (ps_set (i := 5) sc_l_right.nd rfl (Or.inl rfl) (pe_call G_l_out (hr.mono (by omega)) rfl T.d_l_out.hm T.d_l_out.F.kp T.d_l_out.b .nil pass0 (pa_cons (pv 4) (pa_cons (pv 2) (pa_cons (pe_call G_l_scopes (hr.mono (by omega)) rfl T.d_l_scopes.hm T.d_l_scopes.F.kp T.d_l_scopes.b .nil pass0 (pa_cons (pv 2) pa_nil)) (pa_cons (pe_tup (pa_cons (pv 3) pa_nil)) pa_nil))))))
    (pss_mid (ps_if (PW.pt (pw_or (pt_cmpR op_isN (pv 5) pe_non (nomark _)) (pw_or1 (pt_cmpR (op_neT hu) (pe_meth0 (pv 4) T.k_Machine T.m_Machine_step.me G_Machine_step (hr.mono (by omega)) T.m_Machine_step.b .nil pass0) (pv 5) (nomark _)))))
    (pss_one (ps_ret pe_bl))
    pss_nil)
    (pss_mid (ps_if (pt_cmpR op_eq (pe_ix ix_tup (pv 5) pe_int (fun _ _ => rfl)) pe_str (nomark _))
    (pss_one (ps_ret (pe_cmpR (op_eqT hu) (pe_meth0 (pv 4) T.k_Machine T.m_Machine_outcome.me G_Machine_outcome (hr.mono (by omega)) T.m_Machine_outcome.b .nil pass0) (pe_ix ix_tup (pv 5) pe_int (fun _ _ => rfl)) (nomark _))))
    pss_nil)
    (pss_one (ps_ret (pe_and (pe_cmpR op_isN (pe_meth0 (pv 4) T.k_Machine T.m_Machine_outcome.me G_Machine_outcome (hr.mono (by omega)) T.m_Machine_outcome.b .nil pass0) pe_non (nomark _)) (pe_one (pe_cmpR op_isN (pe_meth0 (pv 4) T.k_Machine T.m_Machine_waiting.me G_Machine_waiting (hr.mono (by omega)) T.m_Machine_waiting.b .nil pass0) pe_non (nomark _))))))))))))), ?_⟩
    (simp only [tLst, tTup, tDNewK, _root_.L2.start, cxOf_K, cxComp_K, tSeq, tAsg, gName, tRet, tRetN, tDrop, tIfS, tTest, tB, tNot, tAnd, tOr, tAndV, tOrV, tNotV, tOp, tUn, tVar, tC, tCons, tNil, tStrs, tCB, tCall, tChain, tBM, tBM0, tPart, tNoPart, tSl, tIf, tNext, tTrue, selS, Option.bind_none, Option.bind_some, Option.join_some, if_true, rI, rI0, rU, rEq, rNe, rStarts, rSlS, lenV_str, tyV, List.map_cons, List.map_nil, List.length_cons, List.length_nil, List.replicate, List.cons_append, List.nil_append, List.append_nil, Nat.reduceAdd, Nat.reduceSub, Nat.zero_add, Nat.add_zero, Nat.sub_self, List.getElem?_cons_zero, List.getElem?_cons_succ, List.set_cons_zero, List.set_cons_succ, Option.some.injEq, V.int.injEq, V.str.injEq, V.ref.injEq, V.bl.injEq, V.ty.injEq, List.cons.injEq, exists_eq_left, exists_eq_left', exists_eq_right, exists_and_left, exists_eq, and_true, true_and, and_self, and_assoc, iRrg, tMeth, tMake, tCMeth, tDIn, tDNotIn, tDPop1, tNever, iRev, tDInN])
    have hA := SqN.of ha
    refine ⟨a, ns, tn, rfl, htn, ha, hns, fun HA l cs sA hl0 LA hl7 hb => ⟨by decide, fun pb hpb => ?_⟩⟩
    have sB := Same.upd (o := .lst [V.str "boom", V.str "oops"]) hpb
    refine ⟨a, ns, 0, rfl, ((hA.same sA).same sB).sq, fun c0 => ⟨c0, _, rfl, by omega, by omega, fun n0 hn0 => ⟨n0, rfl, by decide, ?_⟩⟩⟩
    obtain ⟨j0, hj0, ej0⟩ : ∃ j : Nat, j < 2 ∧ n0 % 2 = (j : Nat) := ⟨(n0 % 2).toNat, by omega, by omega⟩
    obtain ⟨z, hz⟩ : ∃ z : Str, [V.str "boom", V.str "oops"][j0]? = some (.str z) := by
      match j0, hj0 with
      | 0, _ => exact ⟨_, rfl⟩
      | 1, _ => exact ⟨_, rfl⟩
    rw [ej0]
    refine ⟨pb, _, _, .str z, rfl, rfl, SqL.of upd_same, atI_nat hz, ?_⟩
    have s1 := sA.trans sB
    have L := LA.same sB
    generalize upd HA pb (.lst [V.str "boom", V.str "oops"]) = H1 at s1 L ⊢
    refine ⟨by decide, fun w hw => ⟨by decide, fun h hh => ⟨by decide, fun inner hin => ?_⟩⟩⟩
    have u1 := Same.upd (o := .tup [V.str "raise", .int 90, .str z]) hw
    have u2 := Same.upd (o := .tup [V.str "hear", .int 91, .str "bell"]) hh
    have u3 := Same.upd (o := .tup [V.ref w, .ref h]) hin
    have hw2 := u3 _ _ (u2 _ _ (upd_same (H := H1) (a := w) (o := .tup [V.str "raise", .int 90, .str z])))
    have hh2 := u3 _ _ (upd_same (H := upd H1 w (.tup [V.str "raise", .int 90, .str z])) (a := h) (o := .tup [V.str "hear", .int 91, .str "bell"]))
    have hin2 := upd_same (H := upd (upd H1 w (.tup [V.str "raise", .int 90, .str z])) h (.tup [V.str "hear", .int 91, .str "bell"])) (a := inner) (o := .tup [V.ref w, .ref h])
    have s2 := u1.trans (u2.trans u3)
    generalize upd (upd (upd H1 w (.tup [V.str "raise", .int 90, .str z])) h (.tup [V.str "hear", .int 91, .str "bell"])) inner (.tup [V.ref w, .ref h]) = H2 at hw2 hh2 hin2 s2 ⊢
    clear u1 u2 u3 hw hh hin
    refine ⟨l, inner, cs, .ref w, .ref h, rfl, L.same s2, hl7, hb, hin2, fun H3 na s3 N p dx hp hdx ne => ?_⟩
    have N3 := N
    obtain ⟨x0, y0, hna⟩ := N.tup (s3 _ _ hin2)
    have s4 : Same H3 (upd (upd H3 dx (.own p)) p (.ins T.C_Machine dx [])) := (Same.upd hdx).trans (Same.upd (by rw [upd_ne (Ne.symm ne)]; exact hp))
    have O4 : ObAt T 0 (upd (upd H3 dx (.own p)) p (.ins T.C_Machine dx [])) p (fun _ => none) := .new upd_same
    generalize upd (upd H3 dx (.own p)) p (.ins T.C_Machine dx []) = H4 at s4 O4 ⊢
    refine ⟨p, na, [x0, y0], rfl, O4, s4 _ _ hna, by show (2 : Nat) ≤ 10; decide, fun H5 f m b5 M5 e1 e2 e3 e4 e5 hf hfl hnv hmr => ⟨rfl, ?_⟩⟩
    have s5 : Same H3 H5 := same_new hp s4 b5
    have A4 := (((hA.same s1).same s2).same s3).same s4
    obtain ⟨_, _, hp4, _⟩ := O4.ex
    have A5 := (A4.add hfl).ins b5 hp4
    have E5 : EnAt T H5 p inner cs 0 m [] ⟨f, .frame, rootS na [x0, y0]⟩ := EnAt.init M5 (N.tk (fun _ _ h => s5 _ _ h)) e1 e2 e3 e4 e5
    have s15 := (s2.trans s3).trans s5
    have nlf : l ≠ m.fl := by
      obtain ⟨_, hlx, _⟩ := L.ex
      exact ne_of_none (((s2.trans s3).trans s4) _ _ hlx) hfl
    refine ⟨fun σ' G' => σ' = [some (.ref a), some (.int tn), some (.ref l), some (.str z), some (.ref p), none] ∧ ∃ (S : List Fm) (t : Addr) (m : Mc), RtF T G' p l a ns cs S z t m, ?_, ?_⟩
    · (simp only [tLst, tTup, tDNewK, _root_.L2.start, cxOf_K, cxComp_K, tSeq, tAsg, gName, tRet, tRetN, tDrop, tIfS, tTest, tB, tNot, tAnd, tOr, tAndV, tOrV, tNotV, tOp, tUn, tVar, tC, tCons, tNil, tStrs, tCB, tCall, tChain, tBM, tBM0, tPart, tNoPart, tSl, tIf, tNext, tTrue, selS, Option.bind_none, Option.bind_some, Option.join_some, if_true, rI, rI0, rU, rEq, rNe, rStarts, rSlS, lenV_str, tyV, List.map_cons, List.map_nil, List.length_cons, List.length_nil, List.replicate, List.cons_append, List.nil_append, List.append_nil, Nat.reduceAdd, Nat.reduceSub, Nat.zero_add, Nat.add_zero, Nat.sub_self, List.getElem?_cons_zero, List.getElem?_cons_succ, List.set_cons_zero, List.set_cons_succ, Option.some.injEq, V.int.injEq, V.str.injEq, V.ref.injEq, V.bl.injEq, V.ty.injEq, List.cons.injEq, exists_eq_left, exists_eq_left', exists_eq_right, exists_and_left, exists_eq, and_true, true_and, and_self, and_assoc, iRrg, tMeth, tMake, tCMeth, tDIn, tDNotIn, tDPop1, tNever, iRev, tDInN])
      refine ⟨p, l, inner, cs, m, _, rfl, E5, L.same s15, nlf, hl7, hb, ⟨_, _, s5 _ _ (s3 _ _ hin2)⟩, fun H8 m8 stk x k8 E8 f1 f2 f3 => ⟨_, rfl, bF rfl ?_⟩⟩
      have hx8 : x ∈ stk ++ [x] := List.mem_append_right _ List.mem_cons_self
      have tk8 := k8.tk M5.fl M5.mr
      have hin8 := tk8 _ _ (s5 _ _ (s3 _ _ hin2))
      have hra : x.s.ra = inner := by
        have q := E8.nest
        rw [List.drop_length] at q
        exact q
      have hrows : x.s.rows = [.ref w, .ref h] := by
        have q := (E8.M.fr x hx8).rs
        rw [hra, hin8] at q
        injection q with q
        injection q with q
        exact q.symm
      refine E8.M.ob.call ⟨p, [], m8, rfl, .inl ⟨stk, x, [], w, by rw [List.append_nil]; exact E8.M, E8.st, E8.sg, (fun y hy => by cases hy), by rw [hrows, E8.pl]; rfl, fun H9 R k9 M9 hR => ?_⟩⟩
      have tk9 := k9.tk E8.M.fl E8.M.mr
      obtain ⟨_, _, hP9, _⟩ := M9.ob.ex
      have hw9 := tk9 _ _ (tk8 _ _ (s5 _ _ (s3 _ _ hw2)))
      refine ⟨p, w, _, [], m8, rfl, M9, by rw [List.length_append, E8.len]; show _ + 1 ≤ 100; omega, .inr (.inr (.inr (.inl ⟨90, z, hw9, fun t u w1 H10 b10 hu10 ht10 hw10 M10 => hR _ _ (fun z => nomatch z) ⟨by decide, fun v hv => ?_⟩⟩)))⟩
      have s11 := Same.upd (o := .tup [V.str "raise", .int 90, .str z]) hv
      refine eqTL (s11 _ _ hw10) upd_same (el_s (el_i (el_s .nil))) (n := 0) (by decide) ⟨_, rfl, bF rfl ⟨stk ++ [⟨x.a, x.c, { x.s with place := x.s.place + 1 }⟩], t, { m8 with sg := .ref t }, RtF.same ?_ s11⟩⟩
      have kn10 : Kn m8.fl m8.mr H8 H10 := k9.trans (Kn.but b10 hP9)
      have kn710 : Kn m.fl m.mr H5 H10 := k8.trans (kn10.cast f1 f2)
      have sc8 := E8.sc
      rw [List.take_length] at sc8
      have fe8 := E8.fe
      rw [List.take_length] at fe8
      refine ⟨M10, by rw [fx_upd]; exact sc8, E8.ok.upd rfl, (fe8.last E8.len).tk (kn10.tk E8.M.fl E8.M.mr), by rw [List.length_append, E8.len]; rfl, E8.st, rfl, ⟨u, ht10, hu10⟩, E8.wt, E8.en, (L.same s15).kn kn710 M5.fl M5.mr nlf, by show l ≠ m8.fl; rw [f1]; exact nlf, ?_⟩
      show SqN [m8.fl] _ _ _
      rw [f1]
      exact A5.kn (by simp) kn710 M5.mr
    rintro σ' G ⟨rfl, S, t, m, R0⟩
    (simp only [tLst, tTup, tDNewK, _root_.L2.start, cxOf_K, cxComp_K, tSeq, tAsg, gName, tRet, tRetN, tDrop, tIfS, tTest, tB, tNot, tAnd, tOr, tAndV, tOrV, tNotV, tOp, tUn, tVar, tC, tCons, tNil, tStrs, tCB, tCall, tChain, tBM, tBM0, tPart, tNoPart, tSl, tIf, tNext, tTrue, selS, Option.bind_none, Option.bind_some, Option.join_some, if_true, rI, rI0, rU, rEq, rNe, rStarts, rSlS, lenV_str, tyV, List.map_cons, List.map_nil, List.length_cons, List.length_nil, List.replicate, List.cons_append, List.nil_append, List.append_nil, Nat.reduceAdd, Nat.reduceSub, Nat.zero_add, Nat.add_zero, Nat.sub_self, List.getElem?_cons_zero, List.getElem?_cons_succ, List.set_cons_zero, List.set_cons_succ, Option.some.injEq, V.int.injEq, V.str.injEq, V.ref.injEq, V.bl.injEq, V.ty.injEq, List.cons.injEq, exists_eq_left, exists_eq_left', exists_eq_right, exists_and_left, exists_eq, and_true, true_and, and_self, and_assoc, iRrg, tMeth, tMake, tCMeth, tDIn, tDNotIn, tDPop1, tNever, iRev, tDInN])
    refine ⟨l, cs, rfl, R0.lc, hl7, fun G2 fr s2' hfr Lf => ⟨by decide, fun fa hfa => ?_⟩⟩
    have sf := Same.upd (o := .tup [V.str z]) hfa
    have R3 := (R0.same s2').same sf
    have nfr : fr ≠ m.fl := (ne_of_none R0.M.fl hfr).symm
    have hf3 : (upd G2 fa (.tup [V.str z])) fa = some (.tup [V.str z]) := upd_same
    have Lf3 := Lf.same sf
    generalize upd G2 fa (.tup [V.str z]) = G3 at R3 hf3 Lf3 ⊢
    refine ⟨p, l, fr, fa, t, z, cs, S, [], m, rfl, ⟨R3.M, R3.sc, R3.ok, R3.fe, R3.len, hl7, hb, R3.lc, Lf3, R3.n1, nfr, R3.st, R3.sg, R3.ht, R3.wt, R3.en, hf3⟩, fun G4 due hd => ?_⟩
    refine ⟨fun σ' G' => σ' = [some (.ref a), some (.int tn), some (.ref l), some (.str z), some (.ref p), some (.ref due)] ∧ SqL K G' a (ns.map V.int) ∧ FinR T p due G', ?_, ?_⟩
    · (simp only [tLst, tTup, tDNewK, _root_.L2.start, cxOf_K, cxComp_K, tSeq, tAsg, gName, tRet, tRetN, tDrop, tIfS, tTest, tB, tNot, tAnd, tOr, tAndV, tOrV, tNotV, tOp, tUn, tVar, tC, tCons, tNil, tStrs, tCB, tCall, tChain, tBM, tBM0, tPart, tNoPart, tSl, tIf, tNext, tTrue, selS, Option.bind_none, Option.bind_some, Option.join_some, if_true, rI, rI0, rU, rEq, rNe, rStarts, rSlS, lenV_str, tyV, List.map_cons, List.map_nil, List.length_cons, List.length_nil, List.replicate, List.cons_append, List.nil_append, List.append_nil, Nat.reduceAdd, Nat.reduceSub, Nat.zero_add, Nat.add_zero, Nat.sub_self, List.getElem?_cons_zero, List.getElem?_cons_succ, List.set_cons_zero, List.set_cons_succ, Option.some.injEq, V.int.injEq, V.str.injEq, V.ref.injEq, V.bl.injEq, V.ty.injEq, List.cons.injEq, exists_eq_left, exists_eq_left', exists_eq_right, exists_and_left, exists_eq, and_true, true_and, and_self, and_assoc, iRrg, tMeth, tMake, tCMeth, tDIn, tDNotIn, tDPop1, tNever, iRev, tDInN])
      rcases hd with ⟨ln, stk, x, ext, q, mk', m', hdu, M4, hid, st, sg, en, wt, hq, hqr, hl, kn, f1, f2⟩ | ⟨z1, r1, v, fa1, mk', m', stk, ext, x, hdu, hv, hfa1, L4⟩
      · have A4 := R3.scr.kn (by simp) kn R3.M.mr
        have mr4 : G4 m.mr = some (.dK mk') := by
          have q := M4.mr
          rw [f2] at q
          exact q
        refine M4.ob.call (stepRing M4 st sg hid hq hqr hl fun H5 t5 kn5 ht5 M5' => ?_)
        have hdu5 := (kn5.tk M4.fl M4.mr) _ _ hdu
        refine eqTL ht5 hdu5 (el_s (el_i (el_s .nil))) (n := 0) (by decide) ⟨_, rfl, bF rfl ⟨(A4.kn (by simp) (kn5.cast f1 f2) mr4).sq, .inl ⟨ln, m', hdu5, M5'.ob, en, wt⟩⟩⟩
      · have A4 := R3.scr.kn (by simp) L4.kn R3.M.mr
        have mr4 : G4 m.mr = some (.dK mk') := by
          have q := L4.M.mr
          rw [L4.e2] at q
          exact q
        have ec : meetsF x.c x.s (.faults z1 r1) = "out" := by rw [(frok_zero R3.ok L4.hx).2]; rfl
        refine L4.M.ob.call (L4.stepB R3.ok (.inl rfl) (fun _ _ z => nomatch z) fun H6 t6 kn6 fr6 hs6 => SoA.mkEnd ec fun H7 w7 u7 l7 kn7 hw7 _ hu7 ob7 => ?_)
        have eu : u7 = t6 := hu7 z1 r1 rfl
        subst eu
        have kn47 : Kn m'.fl m'.mr G4 H7 := kn6.trans kn7
        have tk47 := kn47.tk L4.M.fl L4.M.mr
        obtain ⟨u2, g1, g2⟩ := hs6.tk (Kn.tkF (m := m') kn7 fr6)
        have eqv : EqLs K H7 2 [.str "ended", .int 0, .ref u7] [.str "ended", .int 0, .ref v] := el_s (el_i (.cons (eqd_tup (n := 1) g1 (tk47 _ _ hv) rfl (EqLs.get (el_s (.cons (eqd_tup (n := 0) g2 (tk47 _ _ hfa1) rfl (el_strs (z1 :: r1)).get) .nil)))) .nil))
        exact eqTL hw7 (tk47 _ _ hdu) eqv (by decide) ⟨_, rfl, bF rfl ⟨(A4.kn (by simp) (kn47.cast L4.e1 L4.e2) mr4).sq, .inr ⟨z1 :: r1, v, fa1, u7, u2, _, tk47 _ _ hdu, tk47 _ _ hv, tk47 _ _ hfa1, ob7, rfl, g1, g2⟩⟩⟩
    rintro σ' G5 ⟨rfl, hA5, hF⟩
    rcases hF with ⟨ln, m', hdu, ob, en, wt⟩ | ⟨zs, v, fa1, t1, u1, m', hdu, hv, hfa1, ob, en, ht1, hu1⟩
    · refine ⟨fun σ' G' => σ' = [some (.ref a), some (.int tn), some (.ref l), some (.str z), some (.ref p), some (.ref due)] ∧ G5 = G', ?_, ?_⟩
      · (simp only [tLst, tTup, tDNewK, _root_.L2.start, cxOf_K, cxComp_K, tSeq, tAsg, gName, tRet, tRetN, tDrop, tIfS, tTest, tB, tNot, tAnd, tOr, tAndV, tOrV, tNotV, tOp, tUn, tVar, tC, tCons, tNil, tStrs, tCB, tCall, tChain, tBM, tBM0, tPart, tNoPart, tSl, tIf, tNext, tTrue, selS, Option.bind_none, Option.bind_some, Option.join_some, if_true, rI, rI0, rU, rEq, rNe, rStarts, rSlS, lenV_str, tyV, List.map_cons, List.map_nil, List.length_cons, List.length_nil, List.replicate, List.cons_append, List.nil_append, List.append_nil, Nat.reduceAdd, Nat.reduceSub, Nat.zero_add, Nat.add_zero, Nat.sub_self, List.getElem?_cons_zero, List.getElem?_cons_succ, List.set_cons_zero, List.set_cons_succ, Option.some.injEq, V.int.injEq, V.str.injEq, V.ref.injEq, V.bl.injEq, V.ty.injEq, List.cons.injEq, exists_eq_left, exists_eq_left', exists_eq_right, exists_and_left, exists_eq, and_true, true_and, and_self, and_assoc, iRrg, tMeth, tMake, tCMeth, tDIn, tDNotIn, tDPop1, tNever, iRev, tDInN])
        exact ⟨due, _, _, .str "ring", rfl, rfl, SqT.of hdu, atI_nat (j := 0) rfl, rfl, ifF (fun z => absurd (V.str.inj z) (by decide +kernel)) rfl⟩
      rintro σ' G' ⟨rfl, rfl⟩
      (simp only [tLst, tTup, tDNewK, _root_.L2.start, cxOf_K, cxComp_K, tSeq, tAsg, gName, tRet, tRetN, tDrop, tIfS, tTest, tB, tNot, tAnd, tOr, tAndV, tOrV, tNotV, tOp, tUn, tVar, tC, tCons, tNil, tStrs, tCB, tCall, tChain, tBM, tBM0, tPart, tNoPart, tSl, tIf, tNext, tTrue, selS, Option.bind_none, Option.bind_some, Option.join_some, if_true, rI, rI0, rU, rEq, rNe, rStarts, rSlS, lenV_str, tyV, List.map_cons, List.map_nil, List.length_cons, List.length_nil, List.replicate, List.cons_append, List.nil_append, List.append_nil, Nat.reduceAdd, Nat.reduceSub, Nat.zero_add, Nat.add_zero, Nat.sub_self, List.getElem?_cons_zero, List.getElem?_cons_succ, List.set_cons_zero, List.set_cons_succ, Option.some.injEq, V.int.injEq, V.str.injEq, V.ref.injEq, V.bl.injEq, V.ty.injEq, List.cons.injEq, exists_eq_left, exists_eq_left', exists_eq_right, exists_and_left, exists_eq, and_true, true_and, and_self, and_assoc, iRrg, tMeth, tMake, tCMeth, tDIn, tDNotIn, tDPop1, tNever, iRev, tDInN])
      refine ob.call ⟨p, m', rfl, ob, ?_⟩
      rw [en]
      refine bT (by simp) (ob.call ⟨p, m', rfl, ob, ?_⟩)
      have := k G5 hA5
      simpa [wt] using this
    · refine ⟨fun _ _ => False, ?_, fun _ _ z => z.elim⟩
      (simp only [tLst, tTup, tDNewK, _root_.L2.start, cxOf_K, cxComp_K, tSeq, tAsg, gName, tRet, tRetN, tDrop, tIfS, tTest, tB, tNot, tAnd, tOr, tAndV, tOrV, tNotV, tOp, tUn, tVar, tC, tCons, tNil, tStrs, tCB, tCall, tChain, tBM, tBM0, tPart, tNoPart, tSl, tIf, tNext, tTrue, selS, Option.bind_none, Option.bind_some, Option.join_some, if_true, rI, rI0, rU, rEq, rNe, rStarts, rSlS, lenV_str, tyV, List.map_cons, List.map_nil, List.length_cons, List.length_nil, List.replicate, List.cons_append, List.nil_append, List.append_nil, Nat.reduceAdd, Nat.reduceSub, Nat.zero_add, Nat.add_zero, Nat.sub_self, List.getElem?_cons_zero, List.getElem?_cons_succ, List.set_cons_zero, List.set_cons_succ, Option.some.injEq, V.int.injEq, V.str.injEq, V.ref.injEq, V.bl.injEq, V.ty.injEq, List.cons.injEq, exists_eq_left, exists_eq_left', exists_eq_right, exists_and_left, exists_eq, and_true, true_and, and_self, and_assoc, iRrg, tMeth, tMake, tCMeth, tDIn, tDNotIn, tDPop1, tNever, iRev, tDInN])
      refine ⟨due, _, _, .str "ended", rfl, rfl, SqT.of hdu, atI_nat (j := 0) rfl, rfl, ifT rfl (ob.call ⟨p, m', rfl, ob, due, _, _, .ref v, rfl, rfl, SqT.of hdu, atI_nat (j := 2) rfl, ?_⟩)⟩
      rw [en]
      exact eqTL ht1 hv (el_s (.cons (eqd_tup (n := 0) hu1 hfa1 rfl (el_strs zs).get) .nil)) (n := 1) (by decide) (k G5 hA5)
theorem sc_law : FnScope ["_law_script"] ["_law_script"] (defScope (top 24)) := ⟨rfl, rfl, rfl, by decide +kernel, rfl, by decide +kernel, by decide +kernel⟩
theorem ok_law (T : Tx K mg) {f : Addr} {fd : FuncData} (F : Fun K "law" "law" (top 24) f fd)
    (G_l_right : FnOk P w K mg base CX0 10 T.d_l_right.f T.d_l_right.fd ["_law_script", "_law_turn"] (spRight T)) : FnOk P w K mg base CX0 11 f fd ["_law_script"] (spLaw K) := by
  refine F.ok sc_law (fun vs H Q E h => ?_) (fun cdv A outer s H vs Q E hr h => ?_)
  · obtain ⟨a, ns, rfl, _⟩ := h
    rfl
  · obtain ⟨a, ns, rfl, ha, hns, k⟩ := h
    have hu := hu100 hr
    have hu1 := hu_of hr
    refine ⟨_, (pss_one (ps_ret (pe_callB (call_all rfl) (by rfl) T.n_all bt_all (pa_cons (pe_lc (N' := ["_law_turn", "_law_script"]) (sel := [none, some 0]) rfl rfl rfl (pi_range1 rfl T.n_range (pa_cons pe_int pa_nil)) (gk_name rfl) (fun _ _ _ _ _ => ⟨(pg_name (i := 0) (show (["_law_turn", "_law_script"] : List Str).Nodup by decide +kernel) rfl (Or.inl rfl)), pts_nil, (pe_call G_l_right (hr.mono (by omega)) rfl T.d_l_right.hm T.d_l_right.F.kp T.d_l_right.b .nil pass0 (pa_cons (pv 1) (pa_cons (pv 0) pa_nil)))⟩)) pa_nil)))), ?_⟩
    (simp only [tLst, tTup, tDNewK, _root_.L2.start, cxOf_K, cxComp_K, tSeq, tAsg, gName, tRet, tRetN, tDrop, tIfS, tTest, tB, tNot, tAnd, tOr, tAndV, tOrV, tNotV, tOp, tUn, tVar, tC, tCons, tNil, tStrs, tCB, tCall, tChain, tBM, tBM0, tPart, tNoPart, tSl, tIf, tNext, tTrue, selS, Option.bind_none, Option.bind_some, Option.join_some, if_true, rI, rI0, rU, rEq, rNe, rStarts, rSlS, lenV_str, tyV, List.map_cons, List.map_nil, List.length_cons, List.length_nil, List.replicate, List.cons_append, List.nil_append, List.append_nil, Nat.reduceAdd, Nat.reduceSub, Nat.zero_add, Nat.add_zero, Nat.sub_self, List.getElem?_cons_zero, List.getElem?_cons_succ, List.set_cons_zero, List.set_cons_succ, Option.some.injEq, V.int.injEq, V.str.injEq, V.ref.injEq, V.bl.injEq, V.ty.injEq, List.cons.injEq, exists_eq_left, exists_eq_left', exists_eq_right, exists_and_left, exists_eq, and_true, true_and, and_self, and_assoc, iRrg, tMeth, tMake, tCMeth, tDIn, tDNotIn, tDPop1, tNever, iRev, tDInN])
    refine ⟨6, rfl, by decide, by decide, ?_⟩
    refine lc_range (lo := 0) (n := ((6 : Int)).toNat) (fun i ys G => ys = List.replicate i (V.bl true) ∧ SqL K G a (ns.map V.int)) ⟨rfl, ha⟩ ?_ (by decide) ?_ ?_
    · rintro i ys G hi ⟨rfl, _⟩
      rw [List.length_replicate]; exact Nat.le_refl _
    · rintro i ys G hi ⟨rfl, hG⟩
      have hi4 : i < 6 := hi
      (simp only [tLst, tTup, tDNewK, _root_.L2.start, cxOf_K, cxComp_K, tSeq, tAsg, gName, tRet, tRetN, tDrop, tIfS, tTest, tB, tNot, tAnd, tOr, tAndV, tOrV, tNotV, tOp, tUn, tVar, tC, tCons, tNil, tStrs, tCB, tCall, tChain, tBM, tBM0, tPart, tNoPart, tSl, tIf, tNext, tTrue, selS, Option.bind_none, Option.bind_some, Option.join_some, if_true, rI, rI0, rU, rEq, rNe, rStarts, rSlS, lenV_str, tyV, List.map_cons, List.map_nil, List.length_cons, List.length_nil, List.replicate, List.cons_append, List.nil_append, List.append_nil, Nat.reduceAdd, Nat.reduceSub, Nat.zero_add, Nat.add_zero, Nat.sub_self, List.getElem?_cons_zero, List.getElem?_cons_succ, List.set_cons_zero, List.set_cons_succ, Option.some.injEq, V.int.injEq, V.str.injEq, V.ref.injEq, V.bl.injEq, V.ty.injEq, List.cons.injEq, exists_eq_left, exists_eq_left', exists_eq_right, exists_and_left, exists_eq, and_true, true_and, and_self, and_assoc, iRrg, tMeth, tMake, tCMeth, tDIn, tDNotIn, tDPop1, tNever, iRev, tDInN])
      refine ⟨a, ns, i, by rw [Int.zero_add], by omega, hG, hns, fun H' h' => ⟨?_, h'⟩⟩
      rw [← List.replicate_succ, List.replicate_succ']
    · rintro ys G ⟨rfl, hG⟩ l0 hl0
      exact ⟨l0, rfl, [true, true, true, true, true, true], SqL.of upd_same, k _⟩
theorem law_fn {l : PySem.W.OpenLaw} {h : Heap} {fa : Addr} (X : K.In h) (G : h.Ns mainGlobals mg) (hfa : mg "law" = some (.ref fa))
    (i11 : InK K "is_name_of_value" (top 11))
    (i14 : InK K "_law_cell_at" (top 14))
    (i15 : InK K "_law_mixed" (top 15))
    (i16 : InK K "_law_chain" (top 16))
    (i17 : InK K "_law_nested" (top 17))
    (i18 : InK K "_law_scopes" (top 18))
    (i20 : InK K "_law_entered" (top 20))
    (i21 : InK K "_law_halted" (top 21))
    (i22 : InK K "_law_out" (top 22))
    (i23 : InK K "_law_right" (top 23))
    (i24 : InK K "law" (top 24))
    {C_Machine : Addr} (c_Machine : InC K "Machine" C_Machine)
    (na_Machine_frames : PySem.W.findIn K (.ref C_Machine) "frames" = some none)
    (na_Machine_last_scope : PySem.W.findIn K (.ref C_Machine) "last_scope" = some none)
    (na_Machine_named_values : PySem.W.findIn K (.ref C_Machine) "named_values" = some none)
    (na_Machine_given : PySem.W.findIn K (.ref C_Machine) "given" = some none)
    (na_Machine_marks : PySem.W.findIn K (.ref C_Machine) "marks" = some none)
    (na_Machine_signal : PySem.W.findIn K (.ref C_Machine) "signal" = some none)
    (na_Machine_struck : PySem.W.findIn K (.ref C_Machine) "struck" = some none)
    (na_Machine_want : PySem.W.findIn K (.ref C_Machine) "want" = some none)
    (na_Machine_ending : PySem.W.findIn K (.ref C_Machine) "ending" = some none)
    (im_Machine___init__ : InM K C_Machine "__init__" "Machine.__init__" (inClass (top 12) 0))
    (im_Machine_waiting : InM K C_Machine "waiting" "Machine.waiting" (inClass (top 12) 1))
    (im_Machine_outcome : InM K C_Machine "outcome" "Machine.outcome" (inClass (top 12) 2))
    (im_Machine_target : InM K C_Machine "target" "Machine.target" (inClass (top 12) 5))
    (im_Machine_joined : InM K C_Machine "joined" "Machine.joined" (inClass (top 12) 12))
    (im_Machine_step : InM K C_Machine "step" "Machine.step" (inClass (top 12) 13))
    (im_Machine_go_on : InM K C_Machine "go_on" "Machine.go_on" (inClass (top 12) 14))
    (im_Machine_leave_innermost : InM K C_Machine "leave_innermost" "Machine.leave_innermost" (inClass (top 12) 15))
    (im_Machine_wait_at : InM K C_Machine "wait_at" "Machine.wait_at" (inClass (top 12) 16))
    (im_Machine_leave_group : InM K C_Machine "leave_group" "Machine.leave_group" (inClass (top 12) 17))
    (im_Machine_begin_clean_up : InM K C_Machine "begin_clean_up" "Machine.begin_clean_up" (inClass (top 12) 18))
    (im_Machine_end_with : InM K C_Machine "end_with" "Machine.end_with" (inClass (top 12) 19))
    (im_Machine_send_out : InM K C_Machine "send_out" "Machine.send_out" (inClass (top 12) 20))
    (im_Machine_halt_at : InM K C_Machine "halt_at" "Machine.halt_at" (inClass (top 12) 21))
    (im_Machine_value_of : InM K C_Machine "value_of" "Machine.value_of" (inClass (top 12) 22))
    (im_Machine_do_row : InM K C_Machine "do_row" "Machine.do_row" (inClass (top 12) 24))
    (im_Machine_enter_scope : InM K C_Machine "enter_scope" "Machine.enter_scope" (inClass (top 12) 25))
    (im_Machine_do_quietly : InM K C_Machine "do_quietly" "Machine.do_quietly" (inClass (top 12) 26))
    (iW : InT K "WAITING_WORDS" WORDS)
    
    
    
    
    
    
    
    
    
    
    
    
    
    
    
    
    
    
    
    
    
    
    
    
    
    
    
    
    
    
    
    
    
    
    {C_frame : Addr} (c_frame : InC K "Frame" C_frame)
    (na_frame : ∀ l : Fl, PySem.W.findIn K (.ref C_frame) (Fl.name l) = some none)
    (im_next_row_frame : InM K C_frame "next_row" "Frame.next_row" (inClass (top 2) 1))
    (im_begin_anew_frame : InM K C_frame "begin_anew" "Frame.begin_anew" (inClass (top 2) 2))
    (im_hides_frame : InM K C_frame "hides" "Frame.hides" (inClass (top 2) 3))
    (im_over_frame : InM K C_frame "over" "Frame.over" (inClass (top 2) 4))
    (im_meets_frame : InM K C_frame "meets" "Frame.meets" (inClass (top 2) 5))
    (im_init_frame : InMD K C_frame "__init__" "Frame.__init__" (inClass (top 2) 0))
    {C_rounds : Addr} (c_rounds : InC K "Rounds" C_rounds)
    (na_rounds : ∀ l : Fl, PySem.W.findIn K (.ref C_rounds) (Fl.name l) = some none)
    (im_next_row_rounds : InM K C_rounds "next_row" "Frame.next_row" (inClass (top 2) 1))
    (im_begin_anew_rounds : InM K C_rounds "begin_anew" "Frame.begin_anew" (inClass (top 2) 2))
    (im_hides_rounds : InM K C_rounds "hides" "Frame.hides" (inClass (top 2) 3))
    (im_over_rounds : InM K C_rounds "over" "Rounds.over" (inClass (top 3) 1))
    (im_meets_rounds : InM K C_rounds "meets" "Frame.meets" (inClass (top 2) 5))
    (im___init___rounds : InM K C_rounds "__init__" "Rounds.__init__" (inClass (top 3) 0))
    {C_kept : Addr} (c_kept : InC K "Kept" C_kept)
    (na_kept : ∀ l : Fl, PySem.W.findIn K (.ref C_kept) (Fl.name l) = some none)
    (im_next_row_kept : InM K C_kept "next_row" "Frame.next_row" (inClass (top 2) 1))
    (im_begin_anew_kept : InM K C_kept "begin_anew" "Frame.begin_anew" (inClass (top 2) 2))
    (im_hides_kept : InM K C_kept "hides" "Kept.hides" (inClass (top 4) 0))
    (im_over_kept : InM K C_kept "over" "Frame.over" (inClass (top 2) 4))
    (im_meets_kept : InM K C_kept "meets" "Frame.meets" (inClass (top 2) 5))
    (im_init_kept : InMD K C_kept "__init__" "Frame.__init__" (inClass (top 2) 0))
    {C_tried : Addr} (c_tried : InC K "Tried" C_tried)
    (na_tried : ∀ l : Fl, PySem.W.findIn K (.ref C_tried) (Fl.name l) = some none)
    (im_next_row_tried : InM K C_tried "next_row" "Frame.next_row" (inClass (top 2) 1))
    (im_begin_anew_tried : InM K C_tried "begin_anew" "Frame.begin_anew" (inClass (top 2) 2))
    (im_hides_tried : InM K C_tried "hides" "Frame.hides" (inClass (top 2) 3))
    (im_over_tried : InM K C_tried "over" "Frame.over" (inClass (top 2) 4))
    (im_meets_tried : InM K C_tried "meets" "Tried.meets" (inClass (top 5) 1))
    (im___init___tried : InM K C_tried "__init__" "Tried.__init__" (inClass (top 5) 0))
    {C_cleaned : Addr} (c_cleaned : InC K "Cleaned" C_cleaned)
    (na_cleaned : ∀ l : Fl, PySem.W.findIn K (.ref C_cleaned) (Fl.name l) = some none)
    (im_next_row_cleaned : InM K C_cleaned "next_row" "Frame.next_row" (inClass (top 2) 1))
    (im_begin_anew_cleaned : InM K C_cleaned "begin_anew" "Frame.begin_anew" (inClass (top 2) 2))
    (im_hides_cleaned : InM K C_cleaned "hides" "Cleaned.hides" (inClass (top 6) 2))
    (im_over_cleaned : InM K C_cleaned "over" "Cleaned.over" (inClass (top 6) 3))
    (im_meets_cleaned : InM K C_cleaned "meets" "Cleaned.meets" (inClass (top 6) 4))
    (im_clean_cleaned : InM K C_cleaned "clean" "Cleaned.clean" (inClass (top 6) 1))
    (im___init___cleaned : InM K C_cleaned "__init__" "Cleaned.__init__" (inClass (top 6) 0))
    {C_limited : Addr} (c_limited : InC K "Limited" C_limited)
    (na_limited : ∀ l : Fl, PySem.W.findIn K (.ref C_limited) (Fl.name l) = some none)
    (im_next_row_limited : InM K C_limited "next_row" "Frame.next_row" (inClass (top 2) 1))
    (im_begin_anew_limited : InM K C_limited "begin_anew" "Frame.begin_anew" (inClass (top 2) 2))
    (im_hides_limited : InM K C_limited "hides" "Frame.hides" (inClass (top 2) 3))
    (im_over_limited : InM K C_limited "over" "Frame.over" (inClass (top 2) 4))
    (im_meets_limited : InM K C_limited "meets" "Limited.meets" (inClass (top 7) 1))
    (im___init___limited : InM K C_limited "__init__" "Limited.__init__" (inClass (top 7) 0))
    {C_grouped : Addr} (c_grouped : InC K "Grouped" C_grouped)
    (na_grouped : ∀ l : Fl, PySem.W.findIn K (.ref C_grouped) (Fl.name l) = some none)
    (im_next_row_grouped : InM K C_grouped "next_row" "Frame.next_row" (inClass (top 2) 1))
    (im_begin_anew_grouped : InM K C_grouped "begin_anew" "Frame.begin_anew" (inClass (top 2) 2))
    (im_hides_grouped : InM K C_grouped "hides" "Frame.hides" (inClass (top 2) 3))
    (im_over_grouped : InM K C_grouped "over" "Grouped.over" (inClass (top 8) 3))
    (im_meets_grouped : InM K C_grouped "meets" "Grouped.meets" (inClass (top 8) 4))
    (im_halt_grouped : InM K C_grouped "halt" "Grouped.halt" (inClass (top 8) 1))
    (im_tell_joined_grouped : InM K C_grouped "tell_joined" "Grouped.tell_joined" (inClass (top 8) 2))
    (im___init___grouped : InM K C_grouped "__init__" "Grouped.__init__" (inClass (top 8) 0))
    (z_len : PySem.W.nsIn K mainGlobals "len" = some none)
    (z_range : PySem.W.nsIn K mainGlobals "range" = some none)
    (z_tuple : PySem.W.nsIn K mainGlobals "tuple" = some none)
    (z_list : PySem.W.nsIn K mainGlobals "list" = some none)
    (z_int : PySem.W.nsIn K mainGlobals "int" = some none)
    (z_all : PySem.W.nsIn K mainGlobals "all" = some none)
    (z_isinstance : PySem.W.nsIn K mainGlobals "isinstance" = some none)
    (z_min : PySem.W.nsIn K mainGlobals "min" = some none)
    (z_reversed : PySem.W.nsIn K mainGlobals "reversed" = some none)
    (z_str : PySem.W.nsIn K mainGlobals "str" = some none)
    : ∃ fd : FuncData, (∀ (s : Shared) (v : Value), BindsTo s fd ⟨[v], []⟩ [("_law_script", v)]) ∧ ∀ base : Heap, K.In base → base.Ns mainGlobals mg → FnOk l.prog w K mg base CX0 11 fa fd ["_law_script"] (spLaw K) := by
  obtain ⟨d11⟩ := i11.def (ps := ["value"]) X G fun _ _ _ _ _ _ us hl => match us, hl with | [_], _ => rfl
  obtain ⟨d14⟩ := i14.def (ps := ["_law_script", "_law_k"]) X G fun _ _ _ _ _ _ us hl => match us, hl with | [_, _], _ => rfl
  obtain ⟨d15⟩ := i15.def (ps := ["_law_cell", "_law_k"]) X G fun _ _ _ _ _ _ us hl => match us, hl with | [_, _], _ => rfl
  obtain ⟨d16⟩ := i16.def (ps := ["_law_script", "_law_turn"]) X G fun _ _ _ _ _ _ us hl => match us, hl with | [_, _], _ => rfl
  obtain ⟨d17⟩ := i17.def (ps := ["_law_chain_here", "_law_inner"]) X G fun _ _ _ _ _ _ us hl => match us, hl with | [_, _], _ => rfl
  obtain ⟨d18⟩ := i18.def (ps := ["_law_chain_here"]) X G fun _ _ _ _ _ _ us hl => match us, hl with | [_], _ => rfl
  obtain ⟨d20⟩ := i20.def (ps := ["_law_machine", "_law_chain_here"]) X G fun _ _ _ _ _ _ us hl => match us, hl with | [_, _], _ => rfl
  obtain ⟨d21⟩ := i21.def (ps := ["_law_machine", "_law_line", "_law_scope", "_law_faults", "_law_pick"]) X G fun _ _ _ _ _ _ us hl => match us, hl with | [_, _, _, _, _], _ => rfl
  obtain ⟨d22⟩ := i22.def (ps := ["_law_machine", "_law_chain_here", "_law_frames", "_law_faults"]) X G fun _ _ _ _ _ _ us hl => match us, hl with | [_, _, _, _], _ => rfl
  obtain ⟨d23⟩ := i23.def (ps := ["_law_script", "_law_turn"]) X G fun _ _ _ _ _ _ us hl => match us, hl with | [_, _], _ => rfl
  obtain ⟨e_Machine___init__⟩ := im_Machine___init__.def (ps := ["self", "rows"]) fun _ _ _ _ _ _ us hl => match us, hl with | [_, _], _ => rfl
  obtain ⟨e_Machine_waiting⟩ := im_Machine_waiting.def (ps := ["self"]) fun _ _ _ _ _ _ us hl => match us, hl with | [_], _ => rfl
  obtain ⟨e_Machine_outcome⟩ := im_Machine_outcome.def (ps := ["self"]) fun _ _ _ _ _ _ us hl => match us, hl with | [_], _ => rfl
  obtain ⟨e_Machine_target⟩ := im_Machine_target.def (ps := ["self"]) fun _ _ _ _ _ _ us hl => match us, hl with | [_], _ => rfl
  obtain ⟨e_Machine_joined⟩ := im_Machine_joined.def (ps := ["self", "faults"]) fun _ _ _ _ _ _ us hl => match us, hl with | [_, _], _ => rfl
  obtain ⟨e_Machine_step⟩ := im_Machine_step.def (ps := ["self"]) fun _ _ _ _ _ _ us hl => match us, hl with | [_], _ => rfl
  obtain ⟨e_Machine_go_on⟩ := im_Machine_go_on.def (ps := ["self"]) fun _ _ _ _ _ _ us hl => match us, hl with | [_], _ => rfl
  obtain ⟨e_Machine_leave_innermost⟩ := im_Machine_leave_innermost.def (ps := ["self"]) fun _ _ _ _ _ _ us hl => match us, hl with | [_], _ => rfl
  obtain ⟨e_Machine_wait_at⟩ := im_Machine_wait_at.def (ps := ["self", "want"]) fun _ _ _ _ _ _ us hl => match us, hl with | [_, _], _ => rfl
  obtain ⟨e_Machine_leave_group⟩ := im_Machine_leave_group.def (ps := ["self", "frame"]) fun _ _ _ _ _ _ us hl => match us, hl with | [_, _], _ => rfl
  obtain ⟨e_Machine_begin_clean_up⟩ := im_Machine_begin_clean_up.def (ps := ["self", "frame", "signal"]) fun _ _ _ _ _ _ us hl => match us, hl with | [_, _, _], _ => rfl
  obtain ⟨e_Machine_end_with⟩ := im_Machine_end_with.def (ps := ["self", "outcome"]) fun _ _ _ _ _ _ us hl => match us, hl with | [_, _], _ => rfl
  obtain ⟨e_Machine_send_out⟩ := im_Machine_send_out.def (ps := ["self"]) fun _ _ _ _ _ _ us hl => match us, hl with | [_], _ => rfl
  obtain ⟨e_Machine_halt_at⟩ := im_Machine_halt_at.def (ps := ["self", "frame", "signal"]) fun _ _ _ _ _ _ us hl => match us, hl with | [_, _, _], _ => rfl
  obtain ⟨e_Machine_value_of⟩ := im_Machine_value_of.def (ps := ["self", "value"]) fun _ _ _ _ _ _ us hl => match us, hl with | [_, _], _ => rfl
  obtain ⟨e_Machine_do_row⟩ := im_Machine_do_row.def (ps := ["self", "row"]) fun _ _ _ _ _ _ us hl => match us, hl with | [_, _], _ => rfl
  obtain ⟨e_Machine_enter_scope⟩ := im_Machine_enter_scope.def (ps := ["self", "row"]) fun _ _ _ _ _ _ us hl => match us, hl with | [_, _], _ => rfl
  obtain ⟨e_Machine_do_quietly⟩ := im_Machine_do_quietly.def (ps := ["self", "row"]) fun _ _ _ _ _ _ us hl => match us, hl with | [_, _], _ => rfl
  obtain ⟨p, dd, its, n, sl, aK, lK, hsz, hst⟩ := iW.ex
  obtain ⟨e_next_row_frame⟩ := im_next_row_frame.def (ps := ["self"]) fun _ _ _ _ _ _ us hl => match us, hl with | [_], _ => rfl
  obtain ⟨e_begin_anew_frame⟩ := im_begin_anew_frame.def (ps := ["self", "rows"]) fun _ _ _ _ _ _ us hl => match us, hl with | [_, _], _ => rfl
  obtain ⟨e_hides_frame⟩ := im_hides_frame.def (ps := ["self"]) fun _ _ _ _ _ _ us hl => match us, hl with | [_], _ => rfl
  obtain ⟨e_over_frame⟩ := im_over_frame.def (ps := ["self"]) fun _ _ _ _ _ _ us hl => match us, hl with | [_], _ => rfl
  obtain ⟨e_meets_frame⟩ := im_meets_frame.def (ps := ["self", "signal"]) fun _ _ _ _ _ _ us hl => match us, hl with | [_, _], _ => rfl
  obtain ⟨e_init_frame⟩ := im_init_frame.def (ps := ["self", "rows", "line", "scope"]) (fun _ _ _ _ _ _ _ us hl => match us, hl with | [_, _, _, _], _ => ⟨_, rfl, rfl⟩) (fun _ _ _ _ _ _ _ us hl => match us, hl with | [_, _, _], _ => ⟨_, rfl, rfl⟩)
  obtain ⟨e_next_row_rounds⟩ := im_next_row_rounds.def (ps := ["self"]) fun _ _ _ _ _ _ us hl => match us, hl with | [_], _ => rfl
  obtain ⟨e_begin_anew_rounds⟩ := im_begin_anew_rounds.def (ps := ["self", "rows"]) fun _ _ _ _ _ _ us hl => match us, hl with | [_, _], _ => rfl
  obtain ⟨e_hides_rounds⟩ := im_hides_rounds.def (ps := ["self"]) fun _ _ _ _ _ _ us hl => match us, hl with | [_], _ => rfl
  obtain ⟨e_over_rounds⟩ := im_over_rounds.def (ps := ["self"]) fun _ _ _ _ _ _ us hl => match us, hl with | [_], _ => rfl
  obtain ⟨e_meets_rounds⟩ := im_meets_rounds.def (ps := ["self", "signal"]) fun _ _ _ _ _ _ us hl => match us, hl with | [_, _], _ => rfl
  obtain ⟨e_init_rounds⟩ := im___init___rounds.def (ps := ["self", "rows", "line", "many"]) fun _ _ _ _ _ _ us hl => match us, hl with | [_, _, _, _], _ => rfl
  obtain ⟨e_next_row_kept⟩ := im_next_row_kept.def (ps := ["self"]) fun _ _ _ _ _ _ us hl => match us, hl with | [_], _ => rfl
  obtain ⟨e_begin_anew_kept⟩ := im_begin_anew_kept.def (ps := ["self", "rows"]) fun _ _ _ _ _ _ us hl => match us, hl with | [_, _], _ => rfl
  obtain ⟨e_hides_kept⟩ := im_hides_kept.def (ps := ["self"]) fun _ _ _ _ _ _ us hl => match us, hl with | [_], _ => rfl
  obtain ⟨e_over_kept⟩ := im_over_kept.def (ps := ["self"]) fun _ _ _ _ _ _ us hl => match us, hl with | [_], _ => rfl
  obtain ⟨e_meets_kept⟩ := im_meets_kept.def (ps := ["self", "signal"]) fun _ _ _ _ _ _ us hl => match us, hl with | [_, _], _ => rfl
  obtain ⟨e_init_kept⟩ := im_init_kept.def (ps := ["self", "rows", "line", "scope"]) (fun _ _ _ _ _ _ _ us hl => match us, hl with | [_, _, _, _], _ => ⟨_, rfl, rfl⟩) (fun _ _ _ _ _ _ _ us hl => match us, hl with | [_, _, _], _ => ⟨_, rfl, rfl⟩)
  obtain ⟨e_next_row_tried⟩ := im_next_row_tried.def (ps := ["self"]) fun _ _ _ _ _ _ us hl => match us, hl with | [_], _ => rfl
  obtain ⟨e_begin_anew_tried⟩ := im_begin_anew_tried.def (ps := ["self", "rows"]) fun _ _ _ _ _ _ us hl => match us, hl with | [_, _], _ => rfl
  obtain ⟨e_hides_tried⟩ := im_hides_tried.def (ps := ["self"]) fun _ _ _ _ _ _ us hl => match us, hl with | [_], _ => rfl
  obtain ⟨e_over_tried⟩ := im_over_tried.def (ps := ["self"]) fun _ _ _ _ _ _ us hl => match us, hl with | [_], _ => rfl
  obtain ⟨e_meets_tried⟩ := im_meets_tried.def (ps := ["self", "signal"]) fun _ _ _ _ _ _ us hl => match us, hl with | [_, _], _ => rfl
  obtain ⟨e_init_tried⟩ := im___init___tried.def (ps := ["self", "rows", "line", "fault", "others"]) fun _ _ _ _ _ _ us hl => match us, hl with | [_, _, _, _, _], _ => rfl
  obtain ⟨e_next_row_cleaned⟩ := im_next_row_cleaned.def (ps := ["self"]) fun _ _ _ _ _ _ us hl => match us, hl with | [_], _ => rfl
  obtain ⟨e_begin_anew_cleaned⟩ := im_begin_anew_cleaned.def (ps := ["self", "rows"]) fun _ _ _ _ _ _ us hl => match us, hl with | [_, _], _ => rfl
  obtain ⟨e_hides_cleaned⟩ := im_hides_cleaned.def (ps := ["self"]) fun _ _ _ _ _ _ us hl => match us, hl with | [_], _ => rfl
  obtain ⟨e_over_cleaned⟩ := im_over_cleaned.def (ps := ["self"]) fun _ _ _ _ _ _ us hl => match us, hl with | [_], _ => rfl
  obtain ⟨e_meets_cleaned⟩ := im_meets_cleaned.def (ps := ["self", "signal"]) fun _ _ _ _ _ _ us hl => match us, hl with | [_, _], _ => rfl
  obtain ⟨e_clean_cleaned⟩ := im_clean_cleaned.def (ps := ["self", "signal"]) fun _ _ _ _ _ _ us hl => match us, hl with | [_, _], _ => rfl
  obtain ⟨e_init_cleaned⟩ := im___init___cleaned.def (ps := ["self", "rows", "line", "others"]) fun _ _ _ _ _ _ us hl => match us, hl with | [_, _, _, _], _ => rfl
  obtain ⟨e_next_row_limited⟩ := im_next_row_limited.def (ps := ["self"]) fun _ _ _ _ _ _ us hl => match us, hl with | [_], _ => rfl
  obtain ⟨e_begin_anew_limited⟩ := im_begin_anew_limited.def (ps := ["self", "rows"]) fun _ _ _ _ _ _ us hl => match us, hl with | [_, _], _ => rfl
  obtain ⟨e_hides_limited⟩ := im_hides_limited.def (ps := ["self"]) fun _ _ _ _ _ _ us hl => match us, hl with | [_], _ => rfl
  obtain ⟨e_over_limited⟩ := im_over_limited.def (ps := ["self"]) fun _ _ _ _ _ _ us hl => match us, hl with | [_], _ => rfl
  obtain ⟨e_meets_limited⟩ := im_meets_limited.def (ps := ["self", "signal"]) fun _ _ _ _ _ _ us hl => match us, hl with | [_, _], _ => rfl
  obtain ⟨e_init_limited⟩ := im___init___limited.def (ps := ["self", "rows", "line", "scope", "others"]) fun _ _ _ _ _ _ us hl => match us, hl with | [_, _, _, _, _], _ => rfl
  obtain ⟨e_next_row_grouped⟩ := im_next_row_grouped.def (ps := ["self"]) fun _ _ _ _ _ _ us hl => match us, hl with | [_], _ => rfl
  obtain ⟨e_begin_anew_grouped⟩ := im_begin_anew_grouped.def (ps := ["self", "rows"]) fun _ _ _ _ _ _ us hl => match us, hl with | [_, _], _ => rfl
  obtain ⟨e_hides_grouped⟩ := im_hides_grouped.def (ps := ["self"]) fun _ _ _ _ _ _ us hl => match us, hl with | [_], _ => rfl
  obtain ⟨e_over_grouped⟩ := im_over_grouped.def (ps := ["self"]) fun _ _ _ _ _ _ us hl => match us, hl with | [_], _ => rfl
  obtain ⟨e_meets_grouped⟩ := im_meets_grouped.def (ps := ["self", "signal"]) fun _ _ _ _ _ _ us hl => match us, hl with | [_, _], _ => rfl
  obtain ⟨e_halt_grouped⟩ := im_halt_grouped.def (ps := ["self", "signal"]) fun _ _ _ _ _ _ us hl => match us, hl with | [_, _], _ => rfl
  obtain ⟨e_tell_joined_grouped⟩ := im_tell_joined_grouped.def (ps := ["self", "faults"]) fun _ _ _ _ _ _ us hl => match us, hl with | [_, _], _ => rfl
  obtain ⟨e_init_grouped⟩ := im___init___grouped.def (ps := ["self", "rows", "line", "scope", "named"]) fun _ _ _ _ _ _ us hl => match us, hl with | [_, _, _, _, _], _ => rfl
  obtain ⟨f, oc, od, kV, doc, pm, an, cdv, ct, osl, a, lk, c, kp⟩ := i24.ex
  have F := fun_mk (x := "law") (qual := "law") (st := top 24) lk c kp
  have e := hfa.symm.trans (PySem.W.mg_of X G a)
  cases e
  have T : Tx K mg := ⟨d11, d14, d15, d16, d17, d18, d20, d21, d22, d23, C_Machine, c_Machine.cls, PySem.W.mg_of X G c_Machine.a, na_Machine_frames, na_Machine_last_scope, na_Machine_named_values, na_Machine_given, na_Machine_marks, na_Machine_signal, na_Machine_struck, na_Machine_want, na_Machine_ending, e_Machine___init__, e_Machine_waiting, e_Machine_outcome, e_Machine_target, e_Machine_joined, e_Machine_step, e_Machine_go_on, e_Machine_leave_innermost, e_Machine_wait_at, e_Machine_leave_group, e_Machine_begin_clean_up, e_Machine_end_with, e_Machine_send_out, e_Machine_halt_at, e_Machine_value_of, e_Machine_do_row, e_Machine_enter_scope, e_Machine_do_quietly, ⟨c_Machine.mak, e_Machine___init__.me.at_, e_Machine___init__.me.fn, c_Machine.kp⟩, p, PySem.W.mg_of X G aK, fun H => .inr ⟨_, its, n, lK, rfl, rfl, hsz, strsOf_vals hst⟩, (fun c => match c with | .frame => C_frame | .rounds => C_rounds | .kept => C_kept | .tried => C_tried | .cleaned => C_cleaned | .limited => C_limited | .grouped => C_grouped), (fun c => match c with | .frame => c_frame.cls | .rounds => c_rounds.cls | .kept => c_kept.cls | .tried => c_tried.cls | .cleaned => c_cleaned.cls | .limited => c_limited.cls | .grouped => c_grouped.cls), (fun c => match c with | .frame => na_frame | .rounds => na_rounds | .kept => na_kept | .tried => na_tried | .cleaned => na_cleaned | .limited => na_limited | .grouped => na_grouped), (fun c => match c with | .frame => e_next_row_frame | .rounds => e_next_row_rounds | .kept => e_next_row_kept | .tried => e_next_row_tried | .cleaned => e_next_row_cleaned | .limited => e_next_row_limited | .grouped => e_next_row_grouped), (fun c => match c with | .frame => e_begin_anew_frame | .rounds => e_begin_anew_rounds | .kept => e_begin_anew_kept | .tried => e_begin_anew_tried | .cleaned => e_begin_anew_cleaned | .limited => e_begin_anew_limited | .grouped => e_begin_anew_grouped), (fun c => match c with | .frame => e_hides_frame | .rounds => e_hides_rounds | .kept => e_hides_kept | .tried => e_hides_tried | .cleaned => e_hides_cleaned | .limited => e_hides_limited | .grouped => e_hides_grouped), (fun c => match c with | .frame => e_over_frame | .rounds => e_over_rounds | .kept => e_over_kept | .tried => e_over_tried | .cleaned => e_over_cleaned | .limited => e_over_limited | .grouped => e_over_grouped), (fun c => match c with | .frame => e_meets_frame | .rounds => e_meets_rounds | .kept => e_meets_kept | .tried => e_meets_tried | .cleaned => e_meets_cleaned | .limited => e_meets_limited | .grouped => e_meets_grouped), e_halt_grouped, e_tell_joined_grouped, e_clean_cleaned, PySem.W.mg_of X G c_frame.a, PySem.W.mg_of X G c_rounds.a, PySem.W.mg_of X G c_kept.a, PySem.W.mg_of X G c_tried.a, PySem.W.mg_of X G c_cleaned.a, PySem.W.mg_of X G c_limited.a, PySem.W.mg_of X G c_grouped.a, e_init_frame, e_init_rounds, e_init_kept, e_init_tried, e_init_cleaned, e_init_limited, e_init_grouped, ⟨c_frame.mak, e_init_frame.me.at_, e_init_frame.me.fn, c_frame.kp⟩, ⟨c_rounds.mak, e_init_rounds.me.at_, e_init_rounds.me.fn, c_rounds.kp⟩, ⟨c_kept.mak, e_init_kept.me.at_, e_init_kept.me.fn, c_kept.kp⟩, ⟨c_tried.mak, e_init_tried.me.at_, e_init_tried.me.fn, c_tried.kp⟩, ⟨c_cleaned.mak, e_init_cleaned.me.at_, e_init_cleaned.me.fn, c_cleaned.kp⟩, ⟨c_limited.mak, e_init_limited.me.at_, e_init_limited.me.fn, c_limited.kp⟩, ⟨c_grouped.mak, e_init_grouped.me.at_, e_init_grouped.me.fn, c_grouped.kp⟩, PySem.W.mg_none_of X G z_len, PySem.W.mg_none_of X G z_range, PySem.W.mg_none_of X G z_tuple, PySem.W.mg_none_of X G z_list, PySem.W.mg_none_of X G z_int, PySem.W.mg_none_of X G z_all, PySem.W.mg_none_of X G z_isinstance, PySem.W.mg_none_of X G z_min, PySem.W.mg_none_of X G z_reversed, PySem.W.mg_none_of X G z_str⟩
  refine ⟨PySem.W.fnOf "law" "law" (defArgs (top 24)) (defBody (top 24)) (defScope (top 24)) .none kV doc pm an cdv ct, fun s v => .of_eq rfl, fun base _ _ => ?_⟩
  have g_is_name_of_value := ok_is_name_of_value (P := l.prog) (w := w) (base := base) T  
  have g_Machine___init__ := ok_Machine___init__ (P := l.prog) (w := w) (base := base) T (ok_Frame___init__ T T.i_frame.F) (ok_Rounds___init__ T T.i_rounds.F (ok_Frame___init__ T T.i_frame.F)) (ok_Frame___init__ T T.i_kept.F) (ok_Tried___init__ T T.i_tried.F (ok_Frame___init__ T T.i_frame.F)) (ok_Cleaned___init__ T T.i_cleaned.F (ok_Frame___init__ T T.i_frame.F)) (ok_Limited___init__ T T.i_limited.F (ok_Frame___init__ T T.i_frame.F)) (ok_Grouped___init__ T T.i_grouped.F (ok_Frame___init__ T T.i_frame.F)) 
  have g_Machine_waiting := ok_Machine_waiting (P := l.prog) (w := w) (base := base) T  
  have g_Machine_outcome := ok_Machine_outcome (P := l.prog) (w := w) (base := base) T  
  have g_Machine_target := ok_Machine_target (P := l.prog) (w := w) (base := base) T (ok_all_hides T) 
  have g_Machine_joined := ok_Machine_joined (P := l.prog) (w := w) (base := base) T (ok_Grouped_tell_joined T T.m_tell_joined.F) 
  have g_Machine_leave_innermost := ok_Machine_leave_innermost (P := l.prog) (w := w) (base := base) T  
  have g_Machine_wait_at := ok_Machine_wait_at (P := l.prog) (w := w) (base := base) T  g_Machine_target
  have g_Machine_leave_group := ok_Machine_leave_group (P := l.prog) (w := w) (base := base) T  g_Machine_leave_innermost
  have g_Machine_begin_clean_up := ok_Machine_begin_clean_up (P := l.prog) (w := w) (base := base) T (ok_Cleaned_clean T T.m_clean.F (ok_all_begin_anew T)) 
  have g_Machine_end_with := ok_Machine_end_with (P := l.prog) (w := w) (base := base) T  
  have g_Machine_halt_at := ok_Machine_halt_at (P := l.prog) (w := w) (base := base) T (ok_Grouped_halt T T.m_halt.F (ok_all_begin_anew T)) 
  have g_Machine_value_of := ok_Machine_value_of (P := l.prog) (w := w) (base := base) T  g_is_name_of_value
  have g_Machine_enter_scope := ok_Machine_enter_scope (P := l.prog) (w := w) (base := base) T (ok_Frame___init__ T T.i_frame.F) (ok_Rounds___init__ T T.i_rounds.F (ok_Frame___init__ T T.i_frame.F)) (ok_Frame___init__ T T.i_kept.F) (ok_Tried___init__ T T.i_tried.F (ok_Frame___init__ T T.i_frame.F)) (ok_Cleaned___init__ T T.i_cleaned.F (ok_Frame___init__ T T.i_frame.F)) (ok_Limited___init__ T T.i_limited.F (ok_Frame___init__ T T.i_frame.F)) (ok_Grouped___init__ T T.i_grouped.F (ok_Frame___init__ T T.i_frame.F)) 
  have g_Machine_do_quietly := ok_Machine_do_quietly (P := l.prog) (w := w) (base := base) T (ok_Frame___init__ T T.i_frame.F) (ok_Rounds___init__ T T.i_rounds.F (ok_Frame___init__ T T.i_frame.F)) (ok_Frame___init__ T T.i_kept.F) (ok_Tried___init__ T T.i_tried.F (ok_Frame___init__ T T.i_frame.F)) (ok_Cleaned___init__ T T.i_cleaned.F (ok_Frame___init__ T T.i_frame.F)) (ok_Limited___init__ T T.i_limited.F (ok_Frame___init__ T T.i_frame.F)) (ok_Grouped___init__ T T.i_grouped.F (ok_Frame___init__ T T.i_frame.F)) g_Machine_value_of
  have g_Machine_do_row := ok_Machine_do_row (P := l.prog) (w := w) (base := base) T  g_Machine_wait_at g_Machine_enter_scope g_Machine_do_quietly
  have g_Machine_go_on := ok_Machine_go_on (P := l.prog) (w := w) (base := base) T (ok_all_next_row T) (ok_all_over T) g_Machine_do_row g_Machine_leave_group g_Machine_leave_innermost
  have g_Machine_send_out := ok_Machine_send_out (P := l.prog) (w := w) (base := base) T (ok_all_meets T) (ok_Frame___init__ T T.i_frame.F) (ok_Rounds___init__ T T.i_rounds.F (ok_Frame___init__ T T.i_frame.F)) (ok_Frame___init__ T T.i_kept.F) (ok_Tried___init__ T T.i_tried.F (ok_Frame___init__ T T.i_frame.F)) (ok_Cleaned___init__ T T.i_cleaned.F (ok_Frame___init__ T T.i_frame.F)) (ok_Limited___init__ T T.i_limited.F (ok_Frame___init__ T T.i_frame.F)) (ok_Grouped___init__ T T.i_grouped.F (ok_Frame___init__ T T.i_frame.F)) g_Machine_leave_innermost g_Machine_begin_clean_up g_Machine_halt_at g_Machine_end_with
  have g_Machine_step := ok_Machine_step (P := l.prog) (w := w) (base := base) T  g_Machine_target g_Machine_go_on g_Machine_send_out
  have g_l_cell_at := ok_l_cell_at (P := l.prog) (w := w) (base := base) T  
  have g_l_mixed := ok_l_mixed (P := l.prog) (w := w) (base := base) T  
  have g_l_chain := ok_l_chain (P := l.prog) (w := w) (base := base) T  g_l_mixed
  have g_l_nested := ok_l_nested (P := l.prog) (w := w) (base := base) T  
  have g_l_scopes := ok_l_scopes (P := l.prog) (w := w) (base := base) T  
  have g_l_entered := ok_l_entered (P := l.prog) (w := w) (base := base) T  g_Machine_step
  have g_l_halted := ok_l_halted (P := l.prog) (w := w) (base := base) T  g_Machine_step g_Machine_waiting g_Machine_joined
  have g_l_out := ok_l_out (P := l.prog) (w := w) (base := base) T  g_Machine_step g_l_halted
  have g_l_right := ok_l_right (P := l.prog) (w := w) (base := base) T  g_Machine___init__ g_Machine_waiting g_Machine_outcome g_Machine_step g_l_cell_at g_l_mixed g_l_chain g_l_nested g_l_scopes g_l_entered g_l_out
  exact ok_law T F  g_l_right

end
end K54
open PySem PySem.W PyProof.Rows
def PySem.W.Fast.tw11418333487075233584 : Unit := ()
def PySem.W.Fast.tw16908428133828277191 : Unit := ()
def PySem.W.Fast.tw12931235201073470140 : Unit := ()
def PySem.W.Fast.tw9294675577522072108 : Unit := ()
def PySem.W.Fast.tw10034138890745804656 : Unit := ()
def PySem.W.Fast.tw7511676791180703425 : Unit := ()
def PySem.W.Fast.tw3458675250588862840 : Unit := ()
def PySem.W.Fast.tw14298027800496284642 : Unit := ()
def PySem.W.Fast.tw17497288821107012614 : Unit := ()
def PySem.W.Fast.tw8507980985528596810 : Unit := ()
def PySem.W.Fast.tw13925536826334857159 : Unit := ()
def PySem.W.Fast.tw3597970050306180197 : Unit := ()
def PySem.W.Fast.tw10048478203655207498 : Unit := ()
def PySem.W.Fast.tw524160327270670569 : Unit := ()
def PySem.W.Fast.tw13214810952427496004 : Unit := ()
def PySem.W.Fast.tw9187299340782934765 : Unit := ()
def PySem.W.Fast.tw4400012616625063167 : Unit := ()
def PySem.W.Fast.tw7856574998660253399 : Unit := ()
set_option maxRecDepth 100000 in
set_option maxHeartbeats 0 in
theorem PySem.Challenge.cw_nightwatch_k54_faults_go_out_holds : PySem.Challenge.rw_nightwatch_k54_faults_go_out.Holds := by
  w_on; o_law; k_head; (case hw => w_witness2)
  k_fill
  refine L2.walk_ofK (l := PySem.Challenge.rw_nightwatch_k54_faults_go_out) (n := 63) (k := 11) (x := "_law_script") (CX := L2.CX0) (sp := K54.spLaw) rfl (by decide) rfl ⟨rfl, by decide, by decide⟩ (fun w h Y => PySem.W.kIn_of Y) ?F (fun K H a ns hl _ hS => ⟨a, ns, rfl, hS, hl, fun _ => rfl⟩) (fun _ _ _ _ z => z)
  case F =>
    intro w mg fa h KX G hmg
    refine' K54.law_fn KX G hmg ?i11 ?i14 ?i15 ?i16 ?i17 ?i18 ?i20 ?i21 ?i22 ?i23 ?i24 ?c_Machine ?na_Machine_frames ?na_Machine_last_scope ?na_Machine_named_values ?na_Machine_given ?na_Machine_marks ?na_Machine_signal ?na_Machine_struck ?na_Machine_want ?na_Machine_ending ?im_Machine___init__ ?im_Machine_waiting ?im_Machine_outcome ?im_Machine_target ?im_Machine_joined ?im_Machine_step ?im_Machine_go_on ?im_Machine_leave_innermost ?im_Machine_wait_at ?im_Machine_leave_group ?im_Machine_begin_clean_up ?im_Machine_end_with ?im_Machine_send_out ?im_Machine_halt_at ?im_Machine_value_of ?im_Machine_do_row ?im_Machine_enter_scope ?im_Machine_do_quietly ?iW ?c_frame ?na_frame ?im_next_row_frame ?im_begin_anew_frame ?im_hides_frame ?im_over_frame ?im_meets_frame ?im_init_frame ?c_rounds ?na_rounds ?im_next_row_rounds ?im_begin_anew_rounds ?im_hides_rounds ?im_over_rounds ?im_meets_rounds ?im___init___rounds ?c_kept ?na_kept ?im_next_row_kept ?im_begin_anew_kept ?im_hides_kept ?im_over_kept ?im_meets_kept ?im_init_kept ?c_tried ?na_tried ?im_next_row_tried ?im_begin_anew_tried ?im_hides_tried ?im_over_tried ?im_meets_tried ?im___init___tried ?c_cleaned ?na_cleaned ?im_next_row_cleaned ?im_begin_anew_cleaned ?im_hides_cleaned ?im_over_cleaned ?im_meets_cleaned ?im_clean_cleaned ?im___init___cleaned ?c_limited ?na_limited ?im_next_row_limited ?im_begin_anew_limited ?im_hides_limited ?im_over_limited ?im_meets_limited ?im___init___limited ?c_grouped ?na_grouped ?im_next_row_grouped ?im_begin_anew_grouped ?im_hides_grouped ?im_over_grouped ?im_meets_grouped ?im_halt_grouped ?im_tell_joined_grouped ?im___init___grouped ?z_len ?z_range ?z_tuple ?z_list ?z_int ?z_all ?z_isinstance ?z_min ?z_reversed ?z_str
    case i11 =>
      refine' L2.InK.of ?a ?l ?c ?k
      (case a => k_is); (case l => k_is); (case c => k_is); (case k => k_is)
    case i14 =>
      refine' L2.InK.of ?a ?l ?c ?k
      (case a => k_is); (case l => k_is); (case c => k_is); (case k => k_is)
    case i15 =>
      refine' L2.InK.of ?a ?l ?c ?k
      (case a => k_is); (case l => k_is); (case c => k_is); (case k => k_is)
    case i16 =>
      refine' L2.InK.of ?a ?l ?c ?k
      (case a => k_is); (case l => k_is); (case c => k_is); (case k => k_is)
    case i17 =>
      refine' L2.InK.of ?a ?l ?c ?k
      (case a => k_is); (case l => k_is); (case c => k_is); (case k => k_is)
    case i18 =>
      refine' L2.InK.of ?a ?l ?c ?k
      (case a => k_is); (case l => k_is); (case c => k_is); (case k => k_is)
    case i20 =>
      refine' L2.InK.of ?a ?l ?c ?k
      (case a => k_is); (case l => k_is); (case c => k_is); (case k => k_is)
    case i21 =>
      refine' L2.InK.of ?a ?l ?c ?k
      (case a => k_is); (case l => k_is); (case c => k_is); (case k => k_is)
    case i22 =>
      refine' L2.InK.of ?a ?l ?c ?k
      (case a => k_is); (case l => k_is); (case c => k_is); (case k => k_is)
    case i23 =>
      refine' L2.InK.of ?a ?l ?c ?k
      (case a => k_is); (case l => k_is); (case c => k_is); (case k => k_is)
    case i24 =>
      refine' L2.InK.of ?a ?l ?c ?k
      (case a => k_is); (case l => k_is); (case c => k_is); (case k => k_is)
    case c_Machine =>
      refine' L2.InC.mk ?a ?b ?c ?d ?e ?f ?g
      (case a => k_is); (case b => k_is); (case c => k_is); (case d => k_is); (case e => k_is); (case f => k_is); (case g => k_is)
    (case na_Machine_frames => k_is)
    (case na_Machine_last_scope => k_is)
    (case na_Machine_named_values => k_is)
    (case na_Machine_given => k_is)
    (case na_Machine_marks => k_is)
    (case na_Machine_signal => k_is)
    (case na_Machine_struck => k_is)
    (case na_Machine_want => k_is)
    (case na_Machine_ending => k_is)
    case im_Machine___init__ =>
      refine' L2.InM.of ?a ?i ?l ?c ?k
      (case a => k_is); (case i => k_is); (case l => k_is); (case c => k_is); (case k => k_is)
    case im_Machine_waiting =>
      refine' L2.InM.of ?a ?i ?l ?c ?k
      (case a => k_is); (case i => k_is); (case l => k_is); (case c => k_is); (case k => k_is)
    case im_Machine_outcome =>
      refine' L2.InM.of ?a ?i ?l ?c ?k
      (case a => k_is); (case i => k_is); (case l => k_is); (case c => k_is); (case k => k_is)
    case im_Machine_target =>
      refine' L2.InM.of ?a ?i ?l ?c ?k
      (case a => k_is); (case i => k_is); (case l => k_is); (case c => k_is); (case k => k_is)
    case im_Machine_joined =>
      refine' L2.InM.of ?a ?i ?l ?c ?k
      (case a => k_is); (case i => k_is); (case l => k_is); (case c => k_is); (case k => k_is)
    case im_Machine_step =>
      refine' L2.InM.of ?a ?i ?l ?c ?k
      (case a => k_is); (case i => k_is); (case l => k_is); (case c => k_is); (case k => k_is)
    case im_Machine_go_on =>
      refine' L2.InM.of ?a ?i ?l ?c ?k
      (case a => k_is); (case i => k_is); (case l => k_is); (case c => k_is); (case k => k_is)
    case im_Machine_leave_innermost =>
      refine' L2.InM.of ?a ?i ?l ?c ?k
      (case a => k_is); (case i => k_is); (case l => k_is); (case c => k_is); (case k => k_is)
    case im_Machine_wait_at =>
      refine' L2.InM.of ?a ?i ?l ?c ?k
      (case a => k_is); (case i => k_is); (case l => k_is); (case c => k_is); (case k => k_is)
    case im_Machine_leave_group =>
      refine' L2.InM.of ?a ?i ?l ?c ?k
      (case a => k_is); (case i => k_is); (case l => k_is); (case c => k_is); (case k => k_is)
    case im_Machine_begin_clean_up =>
      refine' L2.InM.of ?a ?i ?l ?c ?k
      (case a => k_is); (case i => k_is); (case l => k_is); (case c => k_is); (case k => k_is)
    case im_Machine_end_with =>
      refine' L2.InM.of ?a ?i ?l ?c ?k
      (case a => k_is); (case i => k_is); (case l => k_is); (case c => k_is); (case k => k_is)
    case im_Machine_send_out =>
      refine' L2.InM.of ?a ?i ?l ?c ?k
      (case a => k_is); (case i => k_is); (case l => k_is); (case c => k_is); (case k => k_is)
    case im_Machine_halt_at =>
      refine' L2.InM.of ?a ?i ?l ?c ?k
      (case a => k_is); (case i => k_is); (case l => k_is); (case c => k_is); (case k => k_is)
    case im_Machine_value_of =>
      refine' L2.InM.of ?a ?i ?l ?c ?k
      (case a => k_is); (case i => k_is); (case l => k_is); (case c => k_is); (case k => k_is)
    case im_Machine_do_row =>
      refine' L2.InM.of ?a ?i ?l ?c ?k
      (case a => k_is); (case i => k_is); (case l => k_is); (case c => k_is); (case k => k_is)
    case im_Machine_enter_scope =>
      refine' L2.InM.of ?a ?i ?l ?c ?k
      (case a => k_is); (case i => k_is); (case l => k_is); (case c => k_is); (case k => k_is)
    case im_Machine_do_quietly =>
      refine' L2.InM.of ?a ?i ?l ?c ?k
      (case a => k_is); (case i => k_is); (case l => k_is); (case c => k_is); (case k => k_is)
    case iW =>
      refine' L2.InT.of ?a ?l ?s ?v
      (case a => k_is); (case l => k_is); (case s => decide); (case v => decide +kernel)
    case c_frame =>
      refine' L2.InC.mk ?a ?b ?c ?d ?e ?f ?g
      (case a => k_is); (case b => k_is); (case c => k_is); (case d => k_is); (case e => k_is); (case f => k_is); (case g => k_is)
    case na_frame =>
      intro l
      cases l <;> dsimp only [K54.Fl.name] <;> k_is
    case im_next_row_frame =>
      refine' L2.InM.of ?a ?i ?l ?c ?k
      (case a => k_is); (case i => k_is); (case l => k_is); (case c => k_is); (case k => k_is)
    case im_begin_anew_frame =>
      refine' L2.InM.of ?a ?i ?l ?c ?k
      (case a => k_is); (case i => k_is); (case l => k_is); (case c => k_is); (case k => k_is)
    case im_hides_frame =>
      refine' L2.InM.of ?a ?i ?l ?c ?k
      (case a => k_is); (case i => k_is); (case l => k_is); (case c => k_is); (case k => k_is)
    case im_over_frame =>
      refine' L2.InM.of ?a ?i ?l ?c ?k
      (case a => k_is); (case i => k_is); (case l => k_is); (case c => k_is); (case k => k_is)
    case im_meets_frame =>
      refine' L2.InM.of ?a ?i ?l ?c ?k
      (case a => k_is); (case i => k_is); (case l => k_is); (case c => k_is); (case k => k_is)
    case im_init_frame =>
      refine' L2.InMD.of ?a ?i ?l ?c ?k ?d ?ga ?rd ?fi
      (case a => k_is); (case i => k_is); (case l => k_is); (case c => k_is); (case k => k_is); (case d => k_is); (case ga => k_is); (case rd => k_is); (case fi => k_is)
    case c_rounds =>
      refine' L2.InC.mk ?a ?b ?c ?d ?e ?f ?g
      (case a => k_is); (case b => k_is); (case c => k_is); (case d => k_is); (case e => k_is); (case f => k_is); (case g => k_is)
    case na_rounds =>
      intro l
      cases l <;> dsimp only [K54.Fl.name] <;> k_is
    case im_next_row_rounds =>
      refine' L2.InM.of ?a ?i ?l ?c ?k
      (case a => k_is); (case i => k_is); (case l => k_is); (case c => k_is); (case k => k_is)
    case im_begin_anew_rounds =>
      refine' L2.InM.of ?a ?i ?l ?c ?k
      (case a => k_is); (case i => k_is); (case l => k_is); (case c => k_is); (case k => k_is)
    case im_hides_rounds =>
      refine' L2.InM.of ?a ?i ?l ?c ?k
      (case a => k_is); (case i => k_is); (case l => k_is); (case c => k_is); (case k => k_is)
    case im_over_rounds =>
      refine' L2.InM.of ?a ?i ?l ?c ?k
      (case a => k_is); (case i => k_is); (case l => k_is); (case c => k_is); (case k => k_is)
    case im_meets_rounds =>
      refine' L2.InM.of ?a ?i ?l ?c ?k
      (case a => k_is); (case i => k_is); (case l => k_is); (case c => k_is); (case k => k_is)
    case im___init___rounds =>
      refine' L2.InM.of ?a ?i ?l ?c ?k
      (case a => k_is); (case i => k_is); (case l => k_is); (case c => k_is); (case k => k_is)
    case c_kept =>
      refine' L2.InC.mk ?a ?b ?c ?d ?e ?f ?g
      (case a => k_is); (case b => k_is); (case c => k_is); (case d => k_is); (case e => k_is); (case f => k_is); (case g => k_is)
    case na_kept =>
      intro l
      cases l <;> dsimp only [K54.Fl.name] <;> k_is
    case im_next_row_kept =>
      refine' L2.InM.of ?a ?i ?l ?c ?k
      (case a => k_is); (case i => k_is); (case l => k_is); (case c => k_is); (case k => k_is)
    case im_begin_anew_kept =>
      refine' L2.InM.of ?a ?i ?l ?c ?k
      (case a => k_is); (case i => k_is); (case l => k_is); (case c => k_is); (case k => k_is)
    case im_hides_kept =>
      refine' L2.InM.of ?a ?i ?l ?c ?k
      (case a => k_is); (case i => k_is); (case l => k_is); (case c => k_is); (case k => k_is)
    case im_over_kept =>
      refine' L2.InM.of ?a ?i ?l ?c ?k
      (case a => k_is); (case i => k_is); (case l => k_is); (case c => k_is); (case k => k_is)
    case im_meets_kept =>
      refine' L2.InM.of ?a ?i ?l ?c ?k
      (case a => k_is); (case i => k_is); (case l => k_is); (case c => k_is); (case k => k_is)
    case im_init_kept =>
      refine' L2.InMD.of ?a ?i ?l ?c ?k ?d ?ga ?rd ?fi
      (case a => k_is); (case i => k_is); (case l => k_is); (case c => k_is); (case k => k_is); (case d => k_is); (case ga => k_is); (case rd => k_is); (case fi => k_is)
    case c_tried =>
      refine' L2.InC.mk ?a ?b ?c ?d ?e ?f ?g
      (case a => k_is); (case b => k_is); (case c => k_is); (case d => k_is); (case e => k_is); (case f => k_is); (case g => k_is)
    case na_tried =>
      intro l
      cases l <;> dsimp only [K54.Fl.name] <;> k_is
    case im_next_row_tried =>
      refine' L2.InM.of ?a ?i ?l ?c ?k
      (case a => k_is); (case i => k_is); (case l => k_is); (case c => k_is); (case k => k_is)
    case im_begin_anew_tried =>
      refine' L2.InM.of ?a ?i ?l ?c ?k
      (case a => k_is); (case i => k_is); (case l => k_is); (case c => k_is); (case k => k_is)
    case im_hides_tried =>
      refine' L2.InM.of ?a ?i ?l ?c ?k
      (case a => k_is); (case i => k_is); (case l => k_is); (case c => k_is); (case k => k_is)
    case im_over_tried =>
      refine' L2.InM.of ?a ?i ?l ?c ?k
      (case a => k_is); (case i => k_is); (case l => k_is); (case c => k_is); (case k => k_is)
    case im_meets_tried =>
      refine' L2.InM.of ?a ?i ?l ?c ?k
      (case a => k_is); (case i => k_is); (case l => k_is); (case c => k_is); (case k => k_is)
    case im___init___tried =>
      refine' L2.InM.of ?a ?i ?l ?c ?k
      (case a => k_is); (case i => k_is); (case l => k_is); (case c => k_is); (case k => k_is)
    case c_cleaned =>
      refine' L2.InC.mk ?a ?b ?c ?d ?e ?f ?g
      (case a => k_is); (case b => k_is); (case c => k_is); (case d => k_is); (case e => k_is); (case f => k_is); (case g => k_is)
    case na_cleaned =>
      intro l
      cases l <;> dsimp only [K54.Fl.name] <;> k_is
    case im_next_row_cleaned =>
      refine' L2.InM.of ?a ?i ?l ?c ?k
      (case a => k_is); (case i => k_is); (case l => k_is); (case c => k_is); (case k => k_is)
    case im_begin_anew_cleaned =>
      refine' L2.InM.of ?a ?i ?l ?c ?k
      (case a => k_is); (case i => k_is); (case l => k_is); (case c => k_is); (case k => k_is)
    case im_hides_cleaned =>
      refine' L2.InM.of ?a ?i ?l ?c ?k
      (case a => k_is); (case i => k_is); (case l => k_is); (case c => k_is); (case k => k_is)
    case im_over_cleaned =>
      refine' L2.InM.of ?a ?i ?l ?c ?k
      (case a => k_is); (case i => k_is); (case l => k_is); (case c => k_is); (case k => k_is)
    case im_meets_cleaned =>
      refine' L2.InM.of ?a ?i ?l ?c ?k
      (case a => k_is); (case i => k_is); (case l => k_is); (case c => k_is); (case k => k_is)
    case im_clean_cleaned =>
      refine' L2.InM.of ?a ?i ?l ?c ?k
      (case a => k_is); (case i => k_is); (case l => k_is); (case c => k_is); (case k => k_is)
    case im___init___cleaned =>
      refine' L2.InM.of ?a ?i ?l ?c ?k
      (case a => k_is); (case i => k_is); (case l => k_is); (case c => k_is); (case k => k_is)
    case c_limited =>
      refine' L2.InC.mk ?a ?b ?c ?d ?e ?f ?g
      (case a => k_is); (case b => k_is); (case c => k_is); (case d => k_is); (case e => k_is); (case f => k_is); (case g => k_is)
    case na_limited =>
      intro l
      cases l <;> dsimp only [K54.Fl.name] <;> k_is
    case im_next_row_limited =>
      refine' L2.InM.of ?a ?i ?l ?c ?k
      (case a => k_is); (case i => k_is); (case l => k_is); (case c => k_is); (case k => k_is)
    case im_begin_anew_limited =>
      refine' L2.InM.of ?a ?i ?l ?c ?k
      (case a => k_is); (case i => k_is); (case l => k_is); (case c => k_is); (case k => k_is)
    case im_hides_limited =>
      refine' L2.InM.of ?a ?i ?l ?c ?k
      (case a => k_is); (case i => k_is); (case l => k_is); (case c => k_is); (case k => k_is)
    case im_over_limited =>
      refine' L2.InM.of ?a ?i ?l ?c ?k
      (case a => k_is); (case i => k_is); (case l => k_is); (case c => k_is); (case k => k_is)
    case im_meets_limited =>
      refine' L2.InM.of ?a ?i ?l ?c ?k
      (case a => k_is); (case i => k_is); (case l => k_is); (case c => k_is); (case k => k_is)
    case im___init___limited =>
      refine' L2.InM.of ?a ?i ?l ?c ?k
      (case a => k_is); (case i => k_is); (case l => k_is); (case c => k_is); (case k => k_is)
    case c_grouped =>
      refine' L2.InC.mk ?a ?b ?c ?d ?e ?f ?g
      (case a => k_is); (case b => k_is); (case c => k_is); (case d => k_is); (case e => k_is); (case f => k_is); (case g => k_is)
    case na_grouped =>
      intro l
      cases l <;> dsimp only [K54.Fl.name] <;> k_is
    case im_next_row_grouped =>
      refine' L2.InM.of ?a ?i ?l ?c ?k
      (case a => k_is); (case i => k_is); (case l => k_is); (case c => k_is); (case k => k_is)
    case im_begin_anew_grouped =>
      refine' L2.InM.of ?a ?i ?l ?c ?k
      (case a => k_is); (case i => k_is); (case l => k_is); (case c => k_is); (case k => k_is)
    case im_hides_grouped =>
      refine' L2.InM.of ?a ?i ?l ?c ?k
      (case a => k_is); (case i => k_is); (case l => k_is); (case c => k_is); (case k => k_is)
    case im_over_grouped =>
      refine' L2.InM.of ?a ?i ?l ?c ?k
      (case a => k_is); (case i => k_is); (case l => k_is); (case c => k_is); (case k => k_is)
    case im_meets_grouped =>
      refine' L2.InM.of ?a ?i ?l ?c ?k
      (case a => k_is); (case i => k_is); (case l => k_is); (case c => k_is); (case k => k_is)
    case im_halt_grouped =>
      refine' L2.InM.of ?a ?i ?l ?c ?k
      (case a => k_is); (case i => k_is); (case l => k_is); (case c => k_is); (case k => k_is)
    case im_tell_joined_grouped =>
      refine' L2.InM.of ?a ?i ?l ?c ?k
      (case a => k_is); (case i => k_is); (case l => k_is); (case c => k_is); (case k => k_is)
    case im___init___grouped =>
      refine' L2.InM.of ?a ?i ?l ?c ?k
      (case a => k_is); (case i => k_is); (case l => k_is); (case c => k_is); (case k => k_is)
    (case z_len => k_is)
    (case z_range => k_is)
    (case z_tuple => k_is)
    (case z_list => k_is)
    (case z_int => k_is)
    (case z_all => k_is)
    (case z_isinstance => k_is)
    (case z_min => k_is)
    (case z_reversed => k_is)
    (case z_str => k_is)
#print axioms PySem.Challenge.cw_nightwatch_k54_faults_go_out_holds

