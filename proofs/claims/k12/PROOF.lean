import PyProof.Rows.All
import Wide.All
import OpenK.AllK
import Wide.FinOn
import Lean
import PyProof.EqAt
import PyProof.EqKinds
import PyProof.NeKinds
import PyProof.TupleCall
import KE.KPairComp
import PySem.Challenge.RW_nightwatch_k12_written
set_option Elab.async false
set_option linter.all false
set_option genSizeOf false
set_option maxRecDepth 100000
namespace L2
open PySem PySem.Spec PyProof.Rows

abbrev Key := Sum Int Str
def keyIs : Key → Value → Bool
  | .inl k, v => Value.isInt k v
  | .inr x, v => Value.isStrOf x v
def keyH (w : World) : Key → Int
  | .inl k => hashInt k
  | .inr x => hashStr w x
theorem keyIs_shape : ∀ {k : Key} {v : Value}, keyIs k v = true → (∃ i t, k = Sum.inl i ∧ v = Value.int i t) ∨ (∃ x t, k = Sum.inr x ∧ v = Value.str x t)
  | .inl i, v, h => by
    obtain ⟨t, e⟩ := Value.isInt_shape (k := i) (v := v) h
    exact .inl ⟨i, t, rfl, e⟩
  | .inr x, v, h => by
    obtain ⟨t, e⟩ := Value.isStrOf_shape (x := x) (v := v) h
    exact .inr ⟨x, t, rfl, e⟩
theorem key_ll (a b : Int) : decide ((Sum.inl a : Key) = Sum.inl b) = (a == b) := by
  by_cases e : a = b
  · subst e; simp
  · have h : ¬ (Sum.inl a : Key) = Sum.inl b := fun q => e (Sum.inl.inj q)
    rw [decide_eq_false h]
    exact (beq_eq_false_iff_ne.mpr e).symm
theorem key_rr (a b : Str) : decide ((Sum.inr a : Key) = Sum.inr b) = decide (a = b) := by
  by_cases e : a = b
  · subst e; simp
  · have h : ¬ (Sum.inr a : Key) = Sum.inr b := fun q => e (Sum.inr.inj q)
    rw [decide_eq_false h, decide_eq_false e]
theorem key_lr (a : Int) (b : Str) : decide ((Sum.inl a : Key) = Sum.inr b) = false := decide_eq_false (fun q => nomatch q)
theorem key_rl (a : Str) (b : Int) : decide ((Sum.inr a : Key) = Sum.inl b) = false := decide_eq_false (fun q => nomatch q)

def mixKind (prog : Program) (w : World) : PySem.KeyKind prog w Key where
  is := keyIs
  hash := keyH w
  inj := fun v a b ha hb => by
    rcases keyIs_shape ha with ⟨i, t, rfl, rfl⟩ | ⟨x, t, rfl, rfl⟩
    · rcases keyIs_shape hb with ⟨j, u, rfl, e⟩ | ⟨y, u, rfl, e⟩
      · injection e with e1 _; rw [e1]
      · exact nomatch e
    · rcases keyIs_shape hb with ⟨j, u, rfl, e⟩ | ⟨y, u, rfl, e⟩
      · exact nomatch e
      · injection e with e1 _; rw [e1]
  byValue := fun k v h => by
    rcases keyIs_shape h with ⟨i, t, rfl, rfl⟩ | ⟨x, t, rfl, rfl⟩ <;> rfl
  pyHash := fun hv h => by
    rcases keyIs_shape hv with ⟨i, t, rfl, rfl⟩ | ⟨x, t, rfl, rfl⟩
    · exact wpAny_pyHash_int h
    · exact wpAny_pyHash_str h
  eqBool := fun hu hv h => by
    rcases keyIs_shape hu with ⟨i, t, rfl, rfl⟩ | ⟨x, t, rfl, rfl⟩
    · rcases keyIs_shape hv with ⟨j, u, rfl, rfl⟩ | ⟨y, u, rfl, rfl⟩
      · rw [key_ll] at h; exact wpAny_eqBool_int h
      · rw [key_lr] at h; exact SeqAt.EqAt.int_str i t y u _ _ _ _ h
    · rcases keyIs_shape hv with ⟨j, u, rfl, rfl⟩ | ⟨y, u, rfl, rfl⟩
      · rw [key_rl] at h; exact SeqAt.EqAt.str_int x t j u _ _ _ _ h
      · rw [key_rr] at h; exact wpAny_eqBool_str h
  «strs» := fun k x t v h => by
    rcases keyIs_shape h with ⟨i, u, rfl, e⟩ | ⟨y, u, rfl, e⟩
    · exact nomatch e
    · injection e with e1 _
      subst e1
      cases v <;> rfl

end L2

namespace L2
open PySem PySem.Spec PyProof.Rows

inductive V where
  | non | bl (b : Bool) | int (i : Int) | str (x : Str) | byt (b : Array UInt8) | flt (b : UInt64) | ref (a : Addr) | ty (n : String)
  deriving DecidableEq

def RelV : V → Value → Prop
  | .non, u => u = Value.none
  | .bl b, u => u = Value.bool b
  | .int i, u => ∃ t, u = Value.int i t
  | .str x, u => ∃ t, u = Value.str x t
  | .byt b, u => ∃ t, u = Value.bytes b t
  | .flt b, u => ∃ t, u = Value.float b t
  | .ref a, u => u = Value.ref a
  | .ty n, u => u = Value.type n

abbrev Vals : List V → List Value → Prop := Paired RelV
theorem Vals.length {xs : List V} {us : List Value} (r : Vals xs us) : xs.length = us.length := Paired.length r
theorem Vals.get : ∀ {xs : List V} {us : List Value} {i : Nat} {x : V}, Vals xs us → xs[i]? = some x → ∃ u, us[i]? = some u ∧ RelV x u
  | _, _, _, _, .nil, e => by simp at e
  | _, _, 0, _, .cons r _, e => by simp at e; subst e; exact ⟨_, rfl, r⟩
  | _, _, i + 1, x, .cons _ t, e => by
    obtain ⟨u, h1, h2⟩ := Vals.get (i := i) (x := x) t (by simpa using e)
    exact ⟨u, by simpa using h1, h2⟩
theorem Vals.set {x : V} {u : Value} (r : RelV x u) : ∀ {xs : List V} {us : List Value} (i : Nat), Vals xs us → Vals (xs.set i x) (us.set i u)
  | _, _, _, .nil => .nil
  | _, _, 0, .cons _ t => .cons r t
  | _, _, i + 1, .cons q t => .cons q (Vals.set r i t)
theorem Vals.append : ∀ {xs ys : List V} {us ws : List Value}, Vals xs us → Vals ys ws → Vals (xs ++ ys) (us ++ ws)
  | _, _, _, _, .nil, s => s
  | _, _, _, _, .cons r t, s => .cons r (Vals.append t s)
theorem Vals.take : ∀ {xs : List V} {us : List Value} (n : Nat), Vals xs us → Vals (xs.take n) (us.take n)
  | _, _, 0, _ => .nil
  | _, _, _ + 1, .nil => .nil
  | _, _, n + 1, .cons r t => .cons r (Vals.take n t)
theorem Vals.drop : ∀ {xs : List V} {us : List Value} (n : Nat), Vals xs us → Vals (xs.drop n) (us.drop n)
  | _, _, 0, r => r
  | _, _, _ + 1, .nil => .nil
  | _, _, n + 1, .cons _ t => Vals.drop n t
theorem Vals.none_of : ∀ {xs : List V} {us : List Value} {i : Nat}, Vals xs us → xs[i]? = none → us[i]? = none := fun {xs us i} r e => by
  have h1 := r.length
  have h2 : xs.length ≤ i := List.getElem?_eq_none_iff.mp e
  exact List.getElem?_eq_none_iff.mpr (by omega)

def RelO : Option V → Option Value → Prop
  | some v, some u => RelV v u
  | none, none => True
  | _, _ => False
def KV {κ : Type} : List (κ × V) → List (κ × Value) → Prop := Paired fun (p : κ × V) (q : κ × Value) => p.1 = q.1 ∧ RelV p.2 q.2

def kV : Key → V
  | .inl i => .int i
  | .inr x => .str x

inductive HO where
  | lst (xs : List V)
  | tup (xs : List V)
  | dK (kvs : List (Key × V)) | dT (kvs : List (List Key × V))
  | set (S : Int → Bool) (n : Nat)
  | ins (C dx : Addr) (fs : List (Str × V))
  | own (x : Addr)
  | xd (fs : List (Str × V))
  | met (f x : Addr)
  | rng (lo hi : Int)
  | frz (o : Obj) (u : HO)
  | tbl (ps : Array Value)
  | ext (φ : Heap → Prop)

abbrev Hp := Addr → Option HO
def upd (H : Hp) (a : Addr) (o : HO) : Hp := fun b => if b = a then some o else H b
theorem upd_same {H : Hp} {a : Addr} {o : HO} : upd H a o a = some o := by unfold upd; rw [if_pos rfl]
theorem upd_ne {H : Hp} {a b : Addr} {o : HO} (h : b ≠ a) : upd H a o b = H b := by unfold upd; rw [if_neg h]
theorem ne_of {H : Hp} {a b : Addr} {o u : HO} (h : H a = some o) (h' : H b = some u) (d : o ≠ u) : a ≠ b := by
  intro e; subst e; rw [h] at h'; exact d (Option.some.inj h')
theorem ne_of_none {H : Hp} {a b : Addr} {o : HO} (h : H a = some o) (h' : H b = none) : a ≠ b := by
  intro e; subst e; rw [h] at h'; cases h'

section
variable (P : Program) (w : World)
def ObjOk (H : Hp) (h : Heap) (a : Addr) : HO → Prop
  | .lst xs => xs.length ≤ sizeLine ∧ ∃ (its : List Value) (n : Nat), Vals xs its ∧ h.get? a = some { cls := .type "list", data := .seq its.toArray n }
  | .tup xs => xs.length ≤ sizeLine ∧ ∃ its : List Value, Vals xs its ∧ IsTup h a its.toArray
  | .dK kvs => kvs.length ≤ sizeLine ∧ (a == sysModules) = false ∧ ∃ vs, KV kvs vs ∧ h.DictOf (mixKind P w) a vs
  | .dT kvs => kvs.length ≤ sizeLine ∧ (a == sysModules) = false ∧ ∃ xs : List (List Key × Addr × Value),
      Paired (fun (p : List Key × V) (q : List Key × Addr × Value) => p.1 = q.1 ∧ H q.2.1 = some (.tup (p.1.map kV)) ∧ RelV p.2 q.2.2) kvs xs ∧
      ∃ o es ep, h.get? a = some o ∧ o.ExactDict ∧ o.data = .dict es ep ∧ es.toList = xs.map (entryOfKey (tupleKind (mixKind P w))) ∧ (xs.map (·.1)).Nodup
  | .set S n => h.SetOf (intKind P w) a S n
  | .ins C dx fs => H dx = some (.own a) ∧ fs.length ≤ 1000 ∧ dx ≠ a ∧ h.get? a = some (PySem.W.instObj C dx) ∧
      ∃ mA, h.Ns1 dx mA ∧ (∀ f, RelO (fs.lookup f) (mA f)) ∧ PySem.Within mA (fs.map (·.1))
  | .own _ => ∃ o, h.get? a = some o
  | .xd fs => ∃ mA, h.Ns1 a mA ∧ ∀ f, RelO (fs.lookup f) (mA f)
  | .rng lo hi => ∃ t u v, h.get? a = some { cls := .type "range", data := .fields #[.int lo t, .int hi u, .int 1 v] }
  | .frz o u => h.get? a = some o ∧ ObjOk H h a u
  | .tbl ps => h.get? a = some { cls := .none, data := .fields ps }
  | .met f x => h.get? a = some (PySem.W.methodObj (.ref f) (.ref x))
  | .ext φ => φ h ∧ (∃ o, h.get? a = some o) ∧ ∀ h1 h2 : Heap, φ h1 → (∀ o, h1.get? a = some o → h2.get? a = some o) → φ h2
def HOk (H : Hp) (h : Heap) : Prop := ∀ a o, H a = some o → ObjOk P w H h a o
end

section
variable {P : Program} {w : World} {H H' : Hp} {h h' : Heap} {a : Addr} {o : HO}
theorem ObjOk.lt (x : ObjOk P w H h a o) : a < h.objs.size := by
  cases o with
  | lst xs => obtain ⟨_, _, _, _, e⟩ := x; exact Heap.lt_size e
  | tup xs => obtain ⟨_, _, _, p⟩ := x; exact p.lt
  | dK kvs => obtain ⟨_, _, _, _, o, _, _, e, _⟩ := x; exact Heap.lt_size e
  | dT kvs => obtain ⟨_, _, _, _, o, _, _, e, _⟩ := x; exact Heap.lt_size e
  | set S n => obtain ⟨o, _, _, _, e, _⟩ := x; exact Heap.lt_size e
  | ins C dx fs => obtain ⟨_, _, _, e, _⟩ := x; exact Heap.lt_size e
  | own y => obtain ⟨_, e⟩ := x; exact Heap.lt_size e
  | xd fs => obtain ⟨_, ⟨_, _, _, e, _⟩, _⟩ := x; exact Heap.lt_size e
  | rng lo hi => obtain ⟨_, _, _, e⟩ := x; exact Heap.lt_size e
  | frz ob u => obtain ⟨e, _⟩ := x; exact Heap.lt_size e
  | tbl ps => exact Heap.lt_size (show h.get? a = some _ from x)
  | met f y => exact Heap.lt_size (show h.get? a = some _ from x)
  | ext φ => obtain ⟨_, ⟨_, e⟩, _⟩ := x; exact Heap.lt_size e
theorem Paired.mapP {α β : Type} {F G : α → β → Prop} : ∀ {l₁ : List α} {l₂ : List β}, Paired F l₁ l₂ → (∀ a b, F a b → G a b) → Paired G l₁ l₂
  | _, _, .nil, _ => .nil
  | _, _, .cons r t, f => .cons (f _ _ r) (Paired.mapP t f)
theorem ObjOk.stay (x : ObjOk P w H h a o) (k : ∀ b u, (b = a ∨ H b = some (.own a)) → h.get? b = some u → h'.get? b = some u)
    (ho : ∀ b, H b = some (.own a) → H' b = some (.own a)) (ht : ∀ b xs, H b = some (.tup xs) → H' b = some (.tup xs)) : ObjOk P w H' h' a o := by
  induction o with
  | lst xs => obtain ⟨z, its, n, r, e⟩ := x; exact ⟨z, its, n, r, k _ _ (.inl rfl) e⟩
  | tup xs => obtain ⟨z, its, r, ob, e, c⟩ := x; exact ⟨z, its, r, ob, k _ _ (.inl rfl) e, c⟩
  | dK kvs => obtain ⟨z, y, vs, r, ob, es, ep, e, c⟩ := x; exact ⟨z, y, vs, r, ob, es, ep, k _ _ (.inl rfl) e, c⟩
  | dT kvs =>
    obtain ⟨z, y, xs, r, ob, es, ep, e, c⟩ := x
    exact ⟨z, y, xs, Paired.mapP r fun p q z => ⟨z.1, ht _ _ z.2.1, z.2.2⟩, ob, es, ep, k _ _ (.inl rfl) e, c⟩
  | set S n => obtain ⟨ob, es, ep, t, e, c⟩ := x; exact ⟨ob, es, ep, t, k _ _ (.inl rfl) e, c⟩
  | ins C dx fs =>
    obtain ⟨d, z, ne, e, mA, ⟨od, es, ep, e2, c⟩, r⟩ := x
    exact ⟨ho _ d, z, ne, k _ _ (.inl rfl) e, mA, ⟨od, es, ep, k _ _ (.inr d) e2, c⟩, r⟩
  | own y => obtain ⟨ob, e⟩ := x; exact ⟨ob, k _ _ (.inl rfl) e⟩
  | xd fs => obtain ⟨mA, ⟨od, es, ep, e, c⟩, r⟩ := x; exact ⟨mA, ⟨od, es, ep, k _ _ (.inl rfl) e, c⟩, r⟩
  | rng lo hi => obtain ⟨t, u, v, e⟩ := x; exact ⟨t, u, v, k _ _ (.inl rfl) e⟩
  | frz ob u ih => obtain ⟨e, q⟩ := x; exact ⟨k _ _ (.inl rfl) e, ih q⟩
  | tbl ps =>
    have e : h.get? a = some { cls := .none, data := .fields ps } := x
    show h'.get? a = some { cls := .none, data := .fields ps }
    exact k a _ (.inl rfl) e
  | met f y =>
    have e : h.get? a = some (PySem.W.methodObj (.ref f) (.ref y)) := x
    show h'.get? a = some (PySem.W.methodObj (.ref f) (.ref y))
    exact k a _ (.inl rfl) e
  | ext φ => obtain ⟨p, ⟨o, e⟩, st⟩ := x; exact ⟨st _ _ p fun o q => k _ _ (.inl rfl) q, ⟨o, k _ _ (.inl rfl) e⟩, st⟩
theorem HOk.lt (x : HOk P w H h) (e : H a = some o) : a < h.objs.size := (x a o e).lt
theorem HOk.fresh (x : HOk P w H h) (e : h.objs.size ≤ a) : H a = none := by
  cases q : H a with
  | none => rfl
  | some u => exact absurd (Nat.lt_of_lt_of_le (x.lt q) e) (Nat.lt_irrefl _)
theorem HOk.kept (x : HOk P w H h) (k : ∀ b u, h.get? b = some u → h'.get? b = some u) : HOk P w H h' := fun a o e =>
  (x a o e).stay (fun b u _ q => k b u q) (fun _ q => q) fun _ _ q => q
theorem HOk.laid (x : HOk P w H h) (k : ∀ b u, h.get? b = some u → h'.get? b = some u) (hp : h.objs.size ≤ a) (new : ObjOk P w (upd H a o) h' a o) : HOk P w (upd H a o) h' := fun b u e => by
  have hn := x.fresh hp
  by_cases hb : b = a
  · subst hb; rw [upd_same] at e; cases e; exact new
  · rw [upd_ne hb] at e
    exact (x b u e).stay (fun c v _ q => k c v q) (fun c q => by rw [upd_ne (ne_of_none q hn)]; exact q) fun c xs q => by rw [upd_ne (ne_of_none q hn)]; exact q
end

def Rd (H : Hp) (a : Addr) (u : HO) : Prop := H a = some u ∨ ∃ o, H a = some (.frz o u)
theorem Rd.of {H : Hp} {a : Addr} {u : HO} (h : H a = some u) : Rd H a u := .inl h
theorem Rd.ok {P : Program} {w : World} {H : Hp} {h : Heap} {a : Addr} {u : HO} (r : Rd H a u) (x : HOk P w H h) : ObjOk P w H h a u := by
  rcases r with r | ⟨o, r⟩
  · exact x a u r
  · obtain ⟨_, q⟩ := x a _ r
    exact q
def Mut : Option HO → Prop
  | some (.lst _) => True
  | some (.dK _) => True
  | some (.dT _) => True
  | some (.set _ _) => True
  | some (.ins _ _ _) => True
  | some (.ext _) => True
  | _ => False
section
variable {P : Program} {w : World} {H : Hp} {h h' : Heap} {x e : Addr} {o' : HO}
theorem HOk.write (ok : HOk P w H h) (mu : Mut (H x)) (he : e = x ∨ H e = some (.own x)) (k : ∀ b u, b ≠ e → h.get? b = some u → h'.get? b = some u) (heo : ∃ u, h'.get? e = some u)
    (new : ObjOk P w (upd H x o') h' x o') : HOk P w (upd H x o') h' := fun b u q => by
  have nown : ∀ c y, H c = some (.own y) → c ≠ x := fun c y r z => by subst z; rw [r] at mu; exact mu
  have ntup : ∀ c xs, H c = some (.tup xs) → c ≠ x := fun c xs r z => by subst z; rw [r] at mu; exact mu
  by_cases hb : b = x
  · subst hb; rw [upd_same] at q; cases q; exact new
  · rw [upd_ne hb] at q
    by_cases hbe : b = e
    · have q' : H b = some (.own x) := by
        rcases he with z | z
        · exact absurd (hbe.trans z) hb
        · rw [hbe]; exact z
      rw [q] at q'; cases q'
      obtain ⟨v, hv⟩ := heo
      exact ⟨v, by rw [hbe]; exact hv⟩
    · refine (ok b u q).stay (fun c v hc r => k c v ?_ r) (fun c r => by rw [upd_ne (nown c b r)]; exact r) fun c xs r => by rw [upd_ne (ntup c xs r)]; exact r
      rcases hc with rfl | hc
      · exact hbe
      · rintro rfl
        rcases he with z | z
        · exact nown c b hc z
        · rw [hc] at z; cases z; exact hb rfl
end

structure Un (fs ex : List Addr) (H H' : Hp) (h h' : Heap) : Prop where
  keep : ∀ b o, h.get? b = some o → H b = none → b ∉ fs → b ∉ ex → h'.get? b = some o
  slot : ∀ b o, h.get? b = some o → H b = none → b ∈ fs → b ∉ ex → ∃ sl, h'.get? b = some { o with slots := sl }
  free : ∀ b o, h.get? b = some o → H b = none → b ∉ ex → H' b = none
  there : ∀ b o, h.get? b = some o → b ∉ ex → ∃ o', h'.get? b = some o'
  tups : ∀ b xs, H b = some (.tup xs) → H' b = some (.tup xs)
  frzs : ∀ b o u, H b = some (.frz o u) → H' b = some (.frz o u)
  tbls : ∀ b ps, H b = some (.tbl ps) → ∃ more, H' b = some (.tbl (ps ++ more))
section
variable {fs fs' ex ex' : List Addr} {H H1 H2 : Hp} {h h1 h2 h' : Heap} {a x e : Addr} {o : HO}
theorem Un.any (u : Un fs ex H H1 h h1) {b : Addr} {ob : Obj} (q : h.get? b = some ob) (n : H b = none) (hx : b ∉ ex) : ∃ sl, h1.get? b = some { ob with slots := sl } := by
  by_cases hb : b ∈ fs
  · exact u.slot b ob q n hb hx
  · exact ⟨ob.slots, u.keep b ob q n hb hx⟩
theorem Un.trans (a : Un fs ex H H1 h h1) (b : Un fs ex H1 H2 h1 h2) : Un fs ex H H2 h h2 where
  keep := fun c ob q n hc hx => b.keep c ob (a.keep c ob q n hc hx) (a.free c ob q n hx) hc hx
  slot := fun c ob q n hc hx => by
    obtain ⟨sl, e1⟩ := a.slot c ob q n hc hx
    obtain ⟨sl', e2⟩ := b.slot c _ e1 (a.free c ob q n hx) hc hx
    exact ⟨sl', e2⟩
  free := fun c ob q n hx => by
    obtain ⟨o', e1⟩ := a.there c ob q hx
    exact b.free c o' e1 (a.free c ob q n hx) hx
  there := fun c ob q hx => by
    obtain ⟨o', e1⟩ := a.there c ob q hx
    exact b.there c o' e1 hx
  tups := fun c xs q => b.tups c xs (a.tups c xs q)
  frzs := fun c ob xs q => b.frzs c ob xs (a.frzs c ob xs q)
  tbls := fun c ps q => by
    obtain ⟨m1, e1⟩ := a.tbls c ps q
    obtain ⟨m2, e2⟩ := b.tbls c _ e1
    exact ⟨m1 ++ m2, by rw [e2, Array.append_assoc]⟩
theorem Un.kept (k : ∀ b u, h.get? b = some u → h'.get? b = some u) : Un fs ex H H h h' :=
  ⟨fun b ob q _ _ _ => k b ob q, fun b ob q _ _ _ => ⟨ob.slots, k b ob q⟩, fun _ _ _ n _ => n, fun b ob q _ => ⟨ob, k b ob q⟩, fun _ _ q => q, fun _ _ _ q => q, fun _ ps q => ⟨#[], by rw [q]; simp⟩⟩
theorem Un.refl : Un fs ex H H h h := Un.kept fun _ _ q => q
theorem Un.laid (k : ∀ b u, h.get? b = some u → h'.get? b = some u) (hp : h.objs.size ≤ a) (hn : H a = none) : Un fs ex H (upd H a o) h h' where
  keep := fun b u q _ _ _ => k b u q
  slot := fun b u q _ _ _ => ⟨u.slots, k b u q⟩
  free := fun b u q n _ => by rw [upd_ne (Nat.ne_of_lt (Nat.lt_of_lt_of_le (Heap.lt_size q) hp))]; exact n
  there := fun b u q _ => ⟨u, k b u q⟩
  tups := fun b xs q => by rw [upd_ne (ne_of_none q hn)]; exact q
  frzs := fun b u xs q => by rw [upd_ne (ne_of_none q hn)]; exact q
  tbls := fun b ps q => ⟨#[], by rw [upd_ne (ne_of_none q hn), q]; simp⟩
theorem Un.write (mu : Mut (H x)) (he : e = x ∨ H e = some (.own x)) (k : ∀ b u, b ≠ e → h.get? b = some u → h'.get? b = some u) (heo : ∃ u, h'.get? e = some u) : Un fs ex H (upd H x o) h h' := by
  have hx : ∀ b, H b = none → b ≠ x := fun b n z => by subst z; rw [n] at mu; exact mu
  have hb : ∀ b, H b = none → b ≠ e := fun b n z => by
    subst z
    rcases he with r | r
    · exact hx b n r
    · rw [n] at r; cases r
  have hm : ∀ b u, H b = some u → ¬ Mut (some u) → b ≠ x := fun b u q nm z => by subst z; rw [q] at mu; exact nm mu
  refine ⟨fun b u q n _ _ => k b u (hb b n) q, fun b u q n _ _ => ⟨u.slots, k b u (hb b n) q⟩, fun b u q n _ => by rw [upd_ne (hx b n)]; exact n, fun b u q _ => ?_,
    fun b xs q => by rw [upd_ne (hm b _ q fun z => z)]; exact q, fun b u xs q => by rw [upd_ne (hm b _ q fun z => z)]; exact q, fun b ps q => ⟨#[], by rw [upd_ne (hm b _ q fun z => z), q]; simp⟩⟩
  by_cases hbe : b = e
  · subst hbe; exact heo
  · exact ⟨u, k b u hbe q⟩
theorem Un.mono (u : Un fs ex H H1 h h1) (hs : ∀ b ∈ fs, b ∈ fs') (hx : ∀ b ∈ ex, b ∈ ex') : Un fs' ex' H H1 h h1 :=
  ⟨fun b ob q n hb he => u.keep b ob q n (fun z => hb (hs b z)) fun z => he (hx b z), fun _ _ q n _ he => u.any q n fun z => he (hx _ z), fun b ob q n he => u.free b ob q n fun z => he (hx b z), fun b ob q he => u.there b ob q fun z => he (hx b z), u.tups, u.frzs, u.tbls⟩
end

def trk (h : Heap) (H : Hp) : List Addr := (List.range h.objs.size).filter fun a => (H a).isSome
def hidT (h : Heap) (H : Hp) : Heap := PySem.W.hideAll h (trk h H)
theorem hidT_size (h : Heap) (H : Hp) : (hidT h H).objs.size = h.objs.size := PySem.W.hideAll_size _ _
theorem hidT_get {h : Heap} {H : Hp} {b : Addr} {o : Obj} (e : h.get? b = some o) (n : H b = none) : (hidT h H).get? b = some o :=
  PySem.W.hideAll_get _ e fun hm => by
    have q : (H b).isSome = true := (List.mem_filter.mp hm).2
    rw [n] at q; simp at q
theorem of_hidT {h : Heap} {H : Hp} {b : Addr} {o : Obj} (e : (hidT h H).get? b = some o) : h.get? b = some o ∧ H b = none := by
  have e' : h.get? b = some o := PySem.W.of_hideAll (trk h H) e
  refine ⟨e', ?_⟩
  cases q : H b with
  | none => rfl
  | some x =>
    have hm : b ∈ trk h H := List.mem_filter.mpr ⟨List.mem_range.mpr (Heap.lt_size e'), by simp [q]⟩
    have z : (hidT h H).get? b = none := PySem.W.hideAll_none (trk h H) hm
    rw [z] at e; cases e

def allNews (g h : Heap) (L : Addr) : List (Addr × Obj) := (List.range h.objs.size).filterMap fun a => if a = L ∨ (g.get? a).isSome = true then none else (h.get? a).map fun o => (a, o)
def rest (g h : Heap) (L d : Addr) : List (Addr × Obj) := (allNews g h L).filter fun p => decide (p.1 ≠ d)
end L2

namespace L2
open PySem PySem.Spec PyProof.Rows

structure Mod (K : PySem.W.Frag) (mg : Str → Option Value) (base : Heap) : Prop where
  kin : K.In base
  glob : base.Ns mainGlobals mg
  blt : ∃ mb, base.Ns builtinsNs mb ∧ ∀ x : Str, x ≠ "__name__" → mb x = bootBuiltins x
  nolimit : base.NoLimit

set_option genInjectivity false in
structure Cx where
  prog : Program
  w : World
  K : PySem.W.Frag
  mg : Str → Option Value
  base : Heap
  A : Around
  N : List Str
  s₀ : Shared
  H₀ : Hp
  env : Env
  outer : List Env
  stack : List Env
  ex : List Addr
  fn : Str → Bool
  calm : Bool
  pn : List (Addr × Obj)
  xe : Value → Shared → Prop
def frs (l : List Env) : List Addr := l.filterMap (·.frame)
abbrev Cx.fs (X : Cx) : List Addr := frs X.outer

def Vis (sc : Scope) (x : Str) : Prop := sc.names.lookup x = some .local ∨ sc.names.lookup x = some .cell ∨ sc.names.lookup x = some .free
def Loc (sc : Scope) (x : Str) : Prop := sc.names.lookup x = some .local ∨ sc.names.lookup x = some .cell
def Look (env : Env) (h : Heap) (m : Str → Option Value) (x : Str) (u : Value) : Prop :=
  (env.kindOf x = some .local ∧ m x = some u) ∨ ((env.kindOf x = some .cell ∨ env.kindOf x = some .free) ∧ ∃ c, env.cells.lookup x = some c ∧ h.IsCell c (some u))

structure Cx.Ok (X : Cx) : Prop where
  mod : Mod X.K X.mg X.base
  kind : X.env.scope.kind = .function
  glob : X.env.globals = mainGlobals
  blt : X.env.builtins = builtinsNs
  above : X.s₀.heap.objs.size ≤ X.env.locals
  inj : ∀ x y c, X.env.cells.lookup x = some c → X.env.cells.lookup y = some c → x = y
  has : ∀ x, (X.env.kindOf x = some .cell ∨ X.env.kindOf x = some .free) → ∃ c, X.env.cells.lookup x = some c
  cab : ∀ x c, X.fn x = true → X.env.cells.lookup x = some c → X.s₀.heap.objs.size ≤ c
  hd : X.calm = true → X.A.handled = none
  frames : X.A.frames = some X.stack
  stk : X.stack = X.outer ∨ (X.stack = X.env :: X.outer ∧ X.env.frame = some X.env.locals)
  exf : ∀ b ∈ X.ex, b ≠ X.env.locals ∧ ∀ x c, X.env.cells.lookup x = some c → c ≠ b
  bs : ∀ b o, X.base.get? b = some o → X.s₀.heap.get? b = some o ∧ X.H₀ b = none
  bsz : X.base.objs.size ≤ X.s₀.heap.objs.size
  noex : ∀ b o, X.base.get? b = some o → b ∉ X.ex
  exfs : ∀ b ∈ X.ex, b ∉ X.fs
  funs : X.s₀.heap.FunFrames X.base X.outer
  frf : ∀ b ∈ X.fs, X.H₀ b = none

structure Inv (X : Cx) (pins : List (Addr × Obj)) (σ : List (Option V)) (H : Hp) (s : Shared) : Prop where
  ok : X.Ok
  os : s.os = X.s₀.os
  bare : AllBare s.gens
  base : Un X.fs X.ex X.H₀ H X.s₀.heap s.heap
  loc : ∃ m, s.heap.Ns X.env.locals m ∧ ∀ (i : Nat) (x : Str) (v : V), X.N[i]? = some x → σ[i]? = some (some v) → Vis X.env.scope x → ∃ u, RelV v u ∧ Look X.env s.heap m x u
  cell : ∀ x c, X.env.cells.lookup x = some c → ∃ v, s.heap.IsCell c v
  free : H X.env.locals = none
  freeC : ∀ x c, X.env.cells.lookup x = some c → H c = none
  pin : ∀ p ∈ X.pn ++ pins, s.heap.get? p.1 = some p.2 ∧ H p.1 = none ∧ p.1 ≠ X.env.locals ∧ p.1 ∉ X.fs ∧ ∀ v, p.2.data ≠ .cell v
  hok : HOk X.prog X.w H s.heap
  len : σ.length = X.N.length

section
variable {X : Cx} {pins : List (Addr × Obj)} {σ : List (Option V)} {H H' : Hp} {s : Shared} {h' : Heap}

theorem Cx.Ok.nofr (ok : X.Ok) {b : Addr} {o : Obj} (e : X.base.get? b = some o) : b ∉ X.fs := fun hb => by
  have := (ok.funs.mem hb).1
  rw [e] at this; cases this
theorem Inv.bs (I : Inv X pins σ H s) : ∀ b o, X.base.get? b = some o → s.heap.get? b = some o ∧ H b = none := fun b o e =>
  ⟨I.base.keep b o (I.ok.bs b o e).1 (I.ok.bs b o e).2 (I.ok.nofr e) (I.ok.noex b o e), I.base.free b o (I.ok.bs b o e).1 (I.ok.bs b o e).2 (I.ok.noex b o e)⟩
theorem Inv.bk (I : Inv X pins σ H s) : ∀ b o, X.base.get? b = some o → s.heap.get? b = some o := fun b o e => (I.bs b o e).1
theorem Inv.mod (I : Inv X pins σ H s) : Mod X.K X.mg X.base := I.ok.mod
theorem Inv.kIn (I : Inv X pins σ H s) : X.K.In s.heap := I.ok.mod.kin.keeps I.bk
theorem Inv.nolimit (I : Inv X pins σ H s) : s.heap.NoLimit := I.ok.mod.nolimit.keeps I.bk
theorem Inv.fr (I : Inv X pins σ H s) : ∃ m, Fr X.base X.env.locals s.heap m :=
  let ⟨m, hn, _⟩ := I.loc
  ⟨m, hn, I.bk, Nat.le_trans I.ok.bsz I.ok.above⟩
theorem Inv.lt (I : Inv X pins σ H s) : X.env.locals < s.heap.objs.size := let ⟨_, hn, _⟩ := I.loc; hn.lt
theorem Inv.sz (I : Inv X pins σ H s) : X.s₀.heap.objs.size ≤ s.heap.objs.size := Nat.le_trans I.ok.above (Nat.le_of_lt I.lt)
theorem Inv.nofs (I : Inv X pins σ H s) {a : Addr} (h : s.heap.objs.size ≤ a) : a ∉ X.fs := fun hb => by
  obtain ⟨_, o, ho, _⟩ := I.ok.funs.mem hb
  exact absurd (Nat.lt_of_lt_of_le (Heap.lt_size ho) (Nat.le_trans I.sz h)) (Nat.lt_irrefl _)
theorem Inv.cne (I : Inv X pins σ H s) : ∀ x c, X.env.cells.lookup x = some c → c ≠ X.env.locals := fun x c e z => by
  obtain ⟨v, o, ho, hd⟩ := I.cell x c e
  obtain ⟨m, ⟨o', es, ep, ho', hd', _⟩, _⟩ := I.loc
  rw [z, ho'] at ho; cases ho; rw [hd'] at hd; cases hd
theorem Inv.funs (I : Inv X pins σ H s) : s.heap.FunFrames X.base X.outer := by
  have all : ∀ (l : List Env), (∀ b ∈ frs l, b ∈ X.fs) → X.s₀.heap.FunFrames X.base l → s.heap.FunFrames X.base l := by
    intro l
    induction l with
    | nil => intro _ _; trivial
    | cons env r ih =>
      intro hs hl
      obtain ⟨hk, ⟨L, o, hf, hn, ho, hd⟩, hr⟩ := hl
      have hL : L ∈ X.fs := hs L (by unfold frs; rw [List.filterMap_cons, hf]; exact List.mem_cons_self)
      obtain ⟨sl, e⟩ := I.base.slot L o ho (I.ok.frf L hL) hL fun z => I.ok.exfs L z hL
      exact ⟨hk, ⟨L, _, hf, hn, e, hd⟩, ih (fun b hb => hs b (by unfold frs; rw [List.filterMap_cons, hf]; exact List.mem_cons_of_mem _ hb)) hr⟩
  exact all X.outer (fun _ hb => hb) I.ok.funs

theorem Inv.stack (I : Inv X pins σ H s) : s.heap.FunFrames X.base X.stack := by
  rcases I.ok.stk with e | ⟨e, hf⟩
  · rw [e]; exact I.funs
  · rw [e]
    obtain ⟨m, hn, _⟩ := I.loc
    refine .cons (by rw [I.ok.kind]; decide) hf hn ?_ I.funs
    exact Heap.get?_none_of_le (Nat.le_trans I.ok.bsz I.ok.above)
theorem Inv.stkSub (I : Inv X pins σ H s) : ∀ b ∈ frs X.stack, b ∈ X.env.locals :: X.fs := fun b hb => by
  rcases I.ok.stk with e | ⟨e, hf⟩
  · rw [e] at hb; exact List.mem_cons_of_mem _ hb
  · rw [e] at hb
    unfold frs at hb
    rw [List.filterMap_cons, hf] at hb
    exact hb
theorem Inv.stkFree (I : Inv X pins σ H s) : ∀ b ∈ frs X.stack, H b = none := fun b hb => by
  rcases List.mem_cons.mp (I.stkSub b hb) with e | hb
  · rw [e]; exact I.free
  · obtain ⟨_, o, ho, _⟩ := I.ok.funs.mem hb
    exact I.base.free b o ho (I.ok.frf b hb) fun z => I.ok.exfs b z hb

theorem Inv.step {g' : Array GenState} {t' : Nat} {d' : Drawn} {ch : List Addr} (I : Inv X pins σ H s)
    (hch : ∀ b ∈ ch, (b ∈ X.ex ∨ X.s₀.heap.objs.size ≤ b) ∧ b ≠ X.env.locals ∧ (∀ x c, X.env.cells.lookup x = some c → c ≠ b) ∧ ∀ p ∈ X.pn ++ pins, p.1 ≠ b)
    (keep : ∀ b o, b ≠ X.env.locals → b ∉ X.fs → b ∉ ch → s.heap.get? b = some o → H b = none → h'.get? b = some o)
    (slot : ∀ b o, b ≠ X.env.locals → b ∈ X.fs → b ∉ ch → s.heap.get? b = some o → H b = none → ∃ sl, h'.get? b = some { o with slots := sl }) (free : ∀ b o, b ∉ ch → s.heap.get? b = some o → H b = none → H' b = none)
    (there : ∀ b o, b ∉ ch → s.heap.get? b = some o → ∃ o', h'.get? b = some o')
    (tups : ∀ b xs, H b = some (.tup xs) → H' b = some (.tup xs)) (frzs : ∀ b o u, H b = some (.frz o u) → H' b = some (.frz o u)) (tbls : ∀ b ps, H b = some (.tbl ps) → ∃ more, H' b = some (.tbl (ps ++ more)))
    (ns : ∀ m, s.heap.Ns X.env.locals m → h'.Ns X.env.locals m) (hok : HOk X.prog X.w H' h') (hg : AllBare g') :
    Inv X pins σ H' { s with heap := h', gens := g', drawn := d', toks := t' } := by
  have neL : ∀ b o, X.s₀.heap.get? b = some o → b ≠ X.env.locals := fun b o e => Nat.ne_of_lt (Nat.lt_of_lt_of_le (Heap.lt_size e) I.ok.above)
  have neC : ∀ b o, X.s₀.heap.get? b = some o → b ∉ X.ex → b ∉ ch := fun b o e hx hb => by
    rcases (hch b hb).1 with z | z
    · exact hx z
    · exact absurd (Nat.lt_of_lt_of_le (Heap.lt_size e) z) (Nat.lt_irrefl _)
  have cellK : ∀ x c, X.env.cells.lookup x = some c → ∀ v, s.heap.IsCell c v → h'.IsCell c v := fun x c e v ⟨o, ho, hd⟩ => by
    have nch : c ∉ ch := fun z => (hch c z).2.2.1 x c e rfl
    by_cases hc : c ∈ X.fs
    · obtain ⟨sl, q⟩ := slot c o (I.cne x c e) hc nch ho (I.freeC x c e)
      exact ⟨_, q, hd⟩
    · exact ⟨o, keep c o (I.cne x c e) hc nch ho (I.freeC x c e), hd⟩
  refine ⟨I.ok, I.os, hg, ⟨fun b o e n hb hx => ?_, fun b o e n hb hx => ?_, fun b o e n hx => ?_, fun b o e hx => ?_, fun b xs e => tups b xs (I.base.tups b xs e), fun b o xs e => frzs b o xs (I.base.frzs b o xs e), fun b ps e => ?_⟩, ?_, fun x c e => ?_, ?_, fun x c e => ?_, fun p hp => ?_, hok, I.len⟩
  · exact keep b o (neL b o e) hb (neC b o e hx) (I.base.keep b o e n hb hx) (I.base.free b o e n hx)
  · obtain ⟨sl, e1⟩ := I.base.slot b o e n hb hx
    obtain ⟨sl', e2⟩ := slot b _ (neL b o e) hb (neC b o e hx) e1 (I.base.free b o e n hx)
    exact ⟨sl', e2⟩
  · obtain ⟨o', e1⟩ := I.base.there b o e hx
    exact free b o' (neC b o e hx) e1 (I.base.free b o e n hx)
  · obtain ⟨o', e1⟩ := I.base.there b o e hx
    exact there b o' (neC b o e hx) e1
  · obtain ⟨m1, e1⟩ := I.base.tbls b ps e
    obtain ⟨m2, e2⟩ := tbls b _ e1
    exact ⟨m1 ++ m2, by rw [e2, Array.append_assoc]⟩
  · obtain ⟨m, hn, hl⟩ := I.loc
    refine ⟨m, ns m hn, fun i x v e1 e2 e3 => ?_⟩
    obtain ⟨u, r, l⟩ := hl i x v e1 e2 e3
    refine ⟨u, r, ?_⟩
    rcases l with l | ⟨k, c, e, z⟩
    · exact .inl l
    · exact .inr ⟨k, c, e, cellK x c e _ z⟩
  · obtain ⟨v, z⟩ := I.cell x c e
    exact ⟨v, cellK x c e v z⟩
  · obtain ⟨m, ⟨o, _, _, ho, _⟩, _⟩ := I.loc
    exact free _ o (fun z => (hch _ z).2.1 rfl) ho I.free
  · obtain ⟨v, o, ho, hd⟩ := I.cell x c e
    exact free c o (fun z => (hch c z).2.2.1 x c e rfl) ho (I.freeC x c e)
  · obtain ⟨e, n, ne, nf, d⟩ := I.pin p hp
    have nch : p.1 ∉ ch := fun z => (hch p.1 z).2.2.2 p hp rfl
    exact ⟨keep p.1 p.2 ne nf nch e n, free p.1 p.2 nch e n, ne, nf, d⟩
theorem Inv.un {t' : Nat} (I : Inv X pins σ H s) (u : Un X.fs [] H H' s.heap h') (hok : HOk X.prog X.w H' h') : Inv X pins σ H' { s with heap := h', toks := t' } := by
  obtain ⟨m, ⟨o, es, ep, ho, r⟩, _⟩ := id I.loc
  obtain ⟨sl, hL⟩ := u.any ho I.free (by simp)
  exact I.step (g' := s.gens) (d' := s.drawn) (ch := []) (fun _ z => nomatch z) (fun b o _ hb _ e n => u.keep b o e n hb (by simp)) (fun b o _ hb _ e n => u.slot b o e n hb (by simp)) (fun b o _ e n => u.free b o e n (by simp)) (fun b o _ e => u.there b o e (by simp)) u.tups u.frzs u.tbls (fun m' hm => by
    obtain ⟨o', es', ep', ho', r'⟩ := hm
    rw [ho] at ho'; cases ho'
    exact ⟨_, es', ep', hL, r'⟩) hok I.bare
theorem Inv.call {g' : Array GenState} {t' : Nat} {d' : Drawn} {ch : List Addr} (I : Inv X pins σ H s) (u : Un (frs X.stack) ch H H' s.heap h') (hok : HOk X.prog X.w H' h') (hg : AllBare g')
    (hch : ∀ b ∈ ch, (b ∈ X.ex ∨ X.s₀.heap.objs.size ≤ b) ∧ b ≠ X.env.locals ∧ (∀ x c, X.env.cells.lookup x = some c → c ≠ b) ∧ ∀ p ∈ X.pn ++ pins, p.1 ≠ b) :
    Inv X pins σ H' { s with heap := h', gens := g', drawn := d', toks := t' } := by
  obtain ⟨m, ⟨o, es, ep, ho, r⟩, _⟩ := id I.loc
  obtain ⟨sl, hL⟩ := u.any ho I.free fun z => (hch _ z).2.1 rfl
  exact I.step (ch := ch) hch (fun b o hL hb hc e n => u.keep b o e n (fun z => (List.mem_cons.mp (I.stkSub b z)).elim hL hb) hc) (fun b o _ _ hc e n => u.any e n hc) (fun b o hc e n => u.free b o e n hc) (fun b o hc e => u.there b o e hc) u.tups u.frzs u.tbls (fun m' hm => by
    obtain ⟨o', es', ep', ho', r'⟩ := hm
    rw [ho] at ho'; cases ho'
    exact ⟨_, es', ep', hL, r'⟩) hok hg
theorem Inv.turned {t' : Nat} {it : Addr} (I : Inv X pins σ H s) (k : ∀ b o, b ≠ it → s.heap.get? b = some o → h'.get? b = some o) (hn : H it = none) (hL : it ≠ X.env.locals)
    (h1 : it ∈ X.ex ∨ X.s₀.heap.objs.size ≤ it) (h2 : ∀ x c, X.env.cells.lookup x = some c → c ≠ it) (h3 : ∀ p ∈ X.pn ++ pins, p.1 ≠ it) : Inv X pins σ H { s with heap := h', toks := t' } := by
  have nit : ∀ b u, H b = some u → b ≠ it := fun b u e z => by rw [z, hn] at e; cases e
  refine I.step (g' := s.gens) (d' := s.drawn) (ch := [it]) (fun b hb => ?_) (fun b o _ _ hc e _ => k b o (fun z => hc (by simp [z])) e) (fun b o _ _ hc e _ => ⟨o.slots, k b o (fun z => hc (by simp [z])) e⟩) (fun _ _ _ _ n => n)
    (fun b o hc e => ⟨o, k b o (fun z => hc (by simp [z])) e⟩) (fun _ _ e => e) (fun _ _ _ e => e) (fun b ps e => ⟨#[], by rw [e]; simp⟩) (fun m hm => ?_) (fun b u e => ?_) I.bare
  · have e : b = it := by simpa using hb
    subst e
    exact ⟨h1, hL, h2, h3⟩
  · obtain ⟨o, es, ep, ho, r⟩ := hm
    exact ⟨o, es, ep, k _ o (Ne.symm hL) ho, r⟩
  · refine (I.hok b u e).stay (fun c v hc q => k c v ?_ q) (fun _ q => q) fun _ _ q => q
    rcases hc with z | z
    · rw [z]; exact nit b u e
    · exact nit c _ z
theorem Inv.tok (I : Inv X pins σ H s) (t : Nat) : Inv X pins σ H { s with toks := t } := I.un (h' := s.heap) (t' := t) Un.refl I.hok
theorem Inv.kept {t' : Nat} (I : Inv X pins σ H s) (k : ∀ b u, s.heap.get? b = some u → h'.get? b = some u) : Inv X pins σ H { s with heap := h', toks := t' } := I.un (Un.kept k) (I.hok.kept k)
theorem Inv.laid {a : Addr} {o : HO} {t' : Nat} (I : Inv X pins σ H s) (k : ∀ b u, s.heap.get? b = some u → h'.get? b = some u) (hp : s.heap.objs.size ≤ a) (new : ObjOk X.prog X.w (upd H a o) h' a o) :
    Inv X pins σ (upd H a o) { s with heap := h', toks := t' } := I.un (Un.laid k hp (I.hok.fresh hp)) (I.hok.laid k hp new)
theorem Inv.write {x e : Addr} {o : HO} {t' : Nat} (I : Inv X pins σ H s) (mu : Mut (H x)) (he : e = x ∨ H e = some (.own x)) (k : ∀ b u, b ≠ e → s.heap.get? b = some u → h'.get? b = some u) (heo : ∃ u, h'.get? e = some u)
    (new : ObjOk X.prog X.w (upd H x o) h' x o) : Inv X pins σ (upd H x o) { s with heap := h', toks := t' } := I.un (Un.write mu he k heo) (I.hok.write mu he k heo new)
theorem Inv.weak {σ' : List (Option V)} (I : Inv X pins σ H s) (hl : σ'.length = σ.length) (w : ∀ (i : Nat) v, σ'[i]? = some (some v) → σ[i]? = some (some v)) : Inv X pins σ' H s :=
  ⟨I.ok, I.os, I.bare, I.base, let ⟨m, hn, hl'⟩ := I.loc; ⟨m, hn, fun i x v e1 e2 e3 => hl' i x v e1 (w i v e2) e3⟩, I.cell, I.free, I.freeC, I.pin, I.hok, hl.trans I.len⟩
theorem Inv.pins_of {pins' : List (Addr × Obj)} (I : Inv X pins σ H s) (h : ∀ p ∈ pins', s.heap.get? p.1 = some p.2 ∧ H p.1 = none ∧ p.1 ≠ X.env.locals ∧ p.1 ∉ X.fs ∧ ∀ v, p.2.data ≠ .cell v) : Inv X pins' σ H s :=
  ⟨I.ok, I.os, I.bare, I.base, I.loc, I.cell, I.free, I.freeC, fun p hp => (List.mem_append.mp hp).elim (fun z => I.pin p (List.mem_append_left _ z)) (h p), I.hok, I.len⟩

theorem nodup_ix {N : List Str} (hN : N.Nodup) {i j : Nat} {x : Str} (a : N[i]? = some x) (b : N[j]? = some x) : i = j := by
  obtain ⟨h1, e1⟩ := List.getElem?_eq_some_iff.mp a
  obtain ⟨h2, e2⟩ := List.getElem?_eq_some_iff.mp b
  exact (List.getElem_inj hN).mp (e1.trans e2.symm)

theorem store_ok2 {M : Model} {A : Around} {E : Value → Shared → Prop} {i : Nat} {x : Str} {v : V} {u : Value} {Q : Unit → Shared → Prop} (I : Inv X pins σ H s) (hN : X.N.Nodup) (hi : X.N[i]? = some x) (hx : Loc X.env.scope x) (r : RelV v u)
    (h : ∀ s', Inv X pins (σ.set i (some v)) H s' → (∃ a, Heap.SameBut a s.heap s'.heap ∧ (a = X.env.locals ∨ X.env.cells.lookup x = some a)) → Q () s') (hf : X.fn x = true ∨ X.env.scope.names.lookup x = some .local := by first | exact .inl rfl | exact .inr rfl | assumption) : wpAny M A (storeName X.env x u) Q E s := by
  obtain ⟨m, hn, hl⟩ := id I.loc
  have hcls : (X.env.scope.kind == .class || (X.env.scope.kind == .module && X.env.locals != X.env.globals)) = false := by rw [I.ok.kind]; rfl
  have hiσ : i < σ.length := by rw [I.len]; exact (List.getElem?_eq_some_iff.mp hi).1
  have cne := I.cne
  have tracked : ∀ {a : Addr} {h' : Heap}, (∃ o, s.heap.get? a = some o ∧ H a = none) → Heap.SameBut a s.heap h' → HOk X.prog X.w H h' := fun {a h'} ha hs b ob e => by
    obtain ⟨_, _, hfree⟩ := ha
    refine (I.hok b ob e).stay (fun c w' hc q => (hs.2 c ?_).trans q) (fun _ q => q) fun _ _ q => q
    rintro rfl
    rcases hc with rfl | hc
    · rw [hfree] at e; cases e
    · rw [hfree] at hc; cases hc
  rcases hx with hk | hk
  · refine wpAny_storeName_local hk hn (fun h' hn' hs => ?_) hcls
    obtain ⟨oL, _, _, hoL, _⟩ := id hn
    refine h _ ⟨I.ok, I.os, I.bare, ⟨fun b o e n hb hx => ?_, fun b o e n hb hx => ?_, I.base.free, fun b o e hx => ?_, I.base.tups, I.base.frzs, I.base.tbls⟩, ⟨_, hn', fun j y v' e1 e2 e3 => ?_⟩, fun y c e => ?_, I.free, I.freeC, fun p hp => ?_, tracked ⟨oL, hoL, I.free⟩ hs, by simpa using I.len⟩ ⟨_, hs, .inl rfl⟩
    · exact (hs.2 b (Nat.ne_of_lt (Nat.lt_of_lt_of_le (Heap.lt_size e) I.ok.above))).trans (I.base.keep b o e n hb hx)
    · obtain ⟨sl, e1⟩ := I.base.slot b o e n hb hx
      exact ⟨sl, (hs.2 b (Nat.ne_of_lt (Nat.lt_of_lt_of_le (Heap.lt_size e) I.ok.above))).trans e1⟩
    · obtain ⟨o', e1⟩ := I.base.there b o e hx
      exact ⟨o', (hs.2 b (Nat.ne_of_lt (Nat.lt_of_lt_of_le (Heap.lt_size e) I.ok.above))).trans e1⟩
    · by_cases hj : j = i
      · subst hj
        rw [hi] at e1; cases e1
        rw [List.getElem?_set_self hiσ] at e2
        cases e2
        exact ⟨u, r, .inl ⟨hk, by simp⟩⟩
      · rw [List.getElem?_set_ne (Ne.symm hj)] at e2
        obtain ⟨u', r', q⟩ := hl j y v' e1 e2 e3
        refine ⟨u', r', ?_⟩
        rcases q with ⟨k, e⟩ | ⟨k, c, e, z⟩
        · refine .inl ⟨k, ?_⟩
          have : y ≠ x := fun e => hj (nodup_ix hN e1 (e ▸ hi))
          simp [this, e]
        · exact .inr ⟨k, c, e, z.sameBut hs (cne y c e)⟩
    · obtain ⟨w', z⟩ := I.cell y c e
      exact ⟨w', z.sameBut hs (cne y c e)⟩
    · obtain ⟨e, n, ne, nf, d⟩ := I.pin p hp
      exact ⟨(hs.2 p.1 ne).trans e, n, ne, nf, d⟩
  · have hfn : X.fn x = true := by
      rcases hf with z | z
      · exact z
      · rw [z] at hk; cases hk
    obtain ⟨c, hc⟩ := I.ok.has x (.inl hk)
    obtain ⟨w', z⟩ := I.cell x c hc
    refine wpAny_storeName_cell I.ok.kind hk hc z (fun h' hc' hs => ?_)
    obtain ⟨oc, hoc, hocd⟩ := id z
    refine h { s with heap := h' } ⟨I.ok, I.os, I.bare, ⟨fun b o e n hb hx => ?_, fun b o e n hb hx => ?_, I.base.free, fun b o e hx => ?_, I.base.tups, I.base.frzs, I.base.tbls⟩, ⟨m, hn.sameBut hs (Ne.symm (cne x c hc)), fun j y v' e1 e2 e3 => ?_⟩, fun y c' e => ?_, I.free, I.freeC, fun p hp => ?_, tracked ⟨oc, hoc, I.freeC x c hc⟩ hs, by simpa using I.len⟩ ⟨c, hs, .inr hc⟩
    · exact (hs.2 b (Nat.ne_of_lt (Nat.lt_of_lt_of_le (Heap.lt_size e) (I.ok.cab x c hfn hc)))).trans (I.base.keep b o e n hb hx)
    · obtain ⟨sl, e1⟩ := I.base.slot b o e n hb hx
      exact ⟨sl, (hs.2 b (Nat.ne_of_lt (Nat.lt_of_lt_of_le (Heap.lt_size e) (I.ok.cab x c hfn hc)))).trans e1⟩
    · obtain ⟨o', e1⟩ := I.base.there b o e hx
      exact ⟨o', (hs.2 b (Nat.ne_of_lt (Nat.lt_of_lt_of_le (Heap.lt_size e) (I.ok.cab x c hfn hc)))).trans e1⟩
    · by_cases hj : j = i
      · subst hj
        rw [hi] at e1; cases e1
        rw [List.getElem?_set_self hiσ] at e2
        cases e2
        exact ⟨u, r, .inr ⟨.inl hk, c, hc, hc'⟩⟩
      · rw [List.getElem?_set_ne (Ne.symm hj)] at e2
        obtain ⟨u', r', q⟩ := hl j y v' e1 e2 e3
        refine ⟨u', r', ?_⟩
        rcases q with q | ⟨k, c', e, z'⟩
        · exact .inl q
        · refine .inr ⟨k, c', e, z'.sameBut hs ?_⟩
          rintro rfl
          exact hj (nodup_ix hN e1 (I.ok.inj _ _ _ e hc ▸ hi))
    · by_cases hcc : c' = c
      · subst hcc; exact ⟨_, hc'⟩
      · obtain ⟨w2, z2⟩ := I.cell y c' e
        exact ⟨w2, z2.sameBut hs hcc⟩
    · obtain ⟨e, n, ne, nf, d⟩ := I.pin p hp
      refine ⟨(hs.2 p.1 ?_).trans e, n, ne, nf, d⟩
      intro q
      rw [q, hoc] at e
      have q' : oc = p.2 := Option.some.inj e
      exact d w' (by rw [← q']; exact hocd)
theorem store_ok {M : Model} {A : Around} {E : Value → Shared → Prop} {i : Nat} {x : Str} {v : V} {u : Value} {Q : Unit → Shared → Prop} (I : Inv X pins σ H s) (hN : X.N.Nodup) (hi : X.N[i]? = some x) (hx : Loc X.env.scope x) (r : RelV v u)
    (h : ∀ s', Inv X pins (σ.set i (some v)) H s' → Q () s') (hf : X.fn x = true ∨ X.env.scope.names.lookup x = some .local := by first | exact .inl rfl | exact .inr rfl | assumption) : wpAny M A (storeName X.env x u) Q E s :=
  store_ok2 I hN hi hx r (fun s' I' _ => h s' I') hf
theorem Inv.call' {s' : Shared} {ch : List Addr} (I : Inv X pins σ H s) (ho : s'.os = s.os) (u : Un (frs X.stack) ch H H' s.heap s'.heap) (hok : HOk X.prog X.w H' s'.heap) (hg : AllBare s'.gens)
    (hch : ∀ b ∈ ch, (b ∈ X.ex ∨ X.s₀.heap.objs.size ≤ b) ∧ b ≠ X.env.locals ∧ (∀ x c, X.env.cells.lookup x = some c → c ≠ b) ∧ ∀ p ∈ X.pn ++ pins, p.1 ≠ b) : Inv X pins σ H' s' := by
  obtain ⟨h', g', d', t', o'⟩ := s'
  have e : o' = s.os := ho
  subst e
  exact I.call (g' := g') (t' := t') (d' := d') u hok hg hch
end

abbrev XK := Value → Option Addr → Hp → Prop
abbrev St := List (Option V)
abbrev VK := V → Hp → Prop
abbrev TE := St → Hp → VK → Prop
abbrev TT := St → Hp → (Bool → Hp → Prop) → Prop
abbrev TA := St → Hp → (List V → Hp → Prop) → Prop
set_option genInjectivity false in
structure Ends where
  nx : St → Hp → Prop
  rt : VK
  bk : St → Hp → Prop := fun _ _ => False
  ct : St → Hp → Prop := fun _ _ => False
abbrev TS := Ends → St → Hp → Prop

def EP (X : Cx) (pins : List (Addr × Obj)) (σ : St) (Q : VK) (u : Value) (s' : Shared) : Prop := ∃ v H', Inv X pins σ H' s' ∧ RelV v u ∧ Q v H'
def TP (X : Cx) (pins : List (Addr × Obj)) (σ : St) (Q : Bool → Hp → Prop) (b : Bool) (s' : Shared) : Prop := ∃ H', Inv X pins σ H' s' ∧ Q b H'
def AP (X : Cx) (pins : List (Addr × Obj)) (σ : St) (Q : List V → Hp → Prop) (us : List Value) (s' : Shared) : Prop := ∃ vs H', Inv X pins σ H' s' ∧ Vals vs us ∧ Q vs H'
def SP (X : Cx) (pins : List (Addr × Obj)) (D : Ends) (f : Flow) (s' : Shared) : Prop :=
  match f with
  | .next => ∃ σ' H', Inv X pins σ' H' s' ∧ D.nx σ' H'
  | .brk => ∃ σ' H', Inv X pins σ' H' s' ∧ D.bk σ' H'
  | .cont => ∃ σ' H', Inv X pins σ' H' s' ∧ D.ct σ' H'
  | .ret u => ∃ v σ' H', Inv X pins σ' H' s' ∧ RelV v u ∧ D.rt v H'

def PE (X : Cx) (e : Expr) (t : TE) : Prop :=
  ∀ (pins : List (Addr × Obj)) (s : Shared) (σ : St) (H : Hp) (Q : VK), Inv X pins σ H s → t σ H Q → wpAny (model X.prog X.w) X.A (eval e X.env) (EP X pins σ Q) X.xe s
def PT (X : Cx) (e : Expr) (t : TT) : Prop :=
  ∀ (pins : List (Addr × Obj)) (s : Shared) (σ : St) (H : Hp) (Q : Bool → Hp → Prop), Inv X pins σ H s → t σ H Q → wpAny (model X.prog X.w) X.A (isTrue e X.env (eval e X.env)) (TP X pins σ Q) X.xe s
def PW (X : Cx) (e : Expr) (t : TT) : Prop :=
  ∀ (whole : Sem Value) (pins : List (Addr × Obj)) (s : Shared) (σ : St) (H : Hp) (Q : Bool → Hp → Prop), Inv X pins σ H s → t σ H Q → wpAny (model X.prog X.w) X.A (isTrue e X.env whole) (TP X pins σ Q) X.xe s
theorem PW.pt {X : Cx} {e : Expr} {t : TT} (h : PW X e t) : PT X e t := h _
def PA (X : Cx) (es : List Expr) (t : TA) : Prop :=
  ∀ (pos : Pos) (pins : List (Addr × Obj)) (s : Shared) (σ : St) (H : Hp) (Q : List V → Hp → Prop), Inv X pins σ H s → t σ H Q → wpAny (model X.prog X.w) X.A (spliced (backTo pos (starEach es X.env))) (AP X pins σ Q) X.xe s
def PS (X : Cx) (st : Stmt) (t : TS) : Prop :=
  ∀ (pins : List (Addr × Obj)) (s : Shared) (σ : St) (H : Hp) (D : Ends), Inv X pins σ H s → t D σ H → wpAny (model X.prog X.w) X.A (exec st X.env) (SP X pins D) X.xe s
def PSs (X : Cx) (st : List Stmt) (t : TS) : Prop :=
  ∀ (pins : List (Addr × Obj)) (s : Shared) (σ : St) (H : Hp) (D : Ends), Inv X pins σ H s → t D σ H → wpAny (model X.prog X.w) X.A (execs st X.env) (SP X pins D) X.xe s
theorem thn {α : Type} {t : Sem α} {Q Q' : α → Shared → Prop} {M : Model} {A : Around} {E : Value → Shared → Prop} {s : Shared} (h : wpAny M A t Q E s) (hQ : ∀ a s, Q a s → Q' a s) : wpAny M A t Q' E s := wpAny_mono h hQ fun _ _ x => x
end L2

namespace L2
open PySem PySem.Spec PyProof.Rows
section
variable {X : Cx}

def tVar (i : Nat) : TE := fun σ H Q => ∃ v, σ[i]? = some (some v) ∧ Q v H
def tC (v : V) : TE := fun _ H Q => Q v H
theorem pe_var {i : Nat} {x : Str} {pos : Pos} (hN : X.N[i]? = some x) (hv : Vis X.env.scope x) (hd : (x == ("__debug__" : Str)) = false := by decide) (hcd : (x == ("__classdict__" : Str)) = false := by decide) : PE X (.Name x pos) (tVar i) := by
  intro pins s σ H Q I h
  obtain ⟨v, e, h⟩ := h
  obtain ⟨m, hn, hl⟩ := I.loc
  obtain ⟨u, r, l⟩ := hl i x v hN e hv
  have fin : EP X pins σ Q u s := ⟨v, H, I, r, h⟩
  rcases l with ⟨hk, hm⟩ | ⟨hk, c, hc, hcell⟩
  · exact wpAny_Name (wpAny_loadName_local I.ok.kind hk hn hm fin) hd
  · rcases hk with hk | hk
    · exact wpAny_Name (wpAny_loadName_cell I.ok.kind hk hc hcell fin) hd
    · exact wpAny_Name (wpAny_loadName_free I.ok.kind hk hc hcell fin hcd) hd
theorem pe_int {i j pos} : PE X (.Constant (.int i) j pos) (tC (.int i)) := fun _ _ _ H _ I h => wpAny_Constant_int ⟨.int i, H, I.tok _, ⟨_, rfl⟩, h⟩
theorem pe_bl {b j pos} : PE X (.Constant (.bool b) j pos) (tC (.bl b)) := fun _ _ _ H _ I h => Constant_bool ⟨.bl b, H, I, rfl, h⟩
theorem pe_non {j pos} : PE X (.Constant .none j pos) (tC .non) := fun _ _ _ H _ I h => Constant_none ⟨.non, H, I, rfl, h⟩
theorem pe_str {x j pos} : PE X (.Constant (.str x) j pos) (tC (.str x)) := fun _ _ _ H _ I h => Calls.Constant_str ⟨.str x, H, I.tok _, ⟨_, rfl⟩, h⟩

def Gl (X : Cx) (x : Str) : Prop := X.env.kindOf x = some .globalImplicit
theorem ld_glob {E : Value → Shared → Prop} {pins : List (Addr × Obj)} {s : Shared} {σ : St} {H : Hp} {x : Str} {u : Value} {pos : Pos} {Q : Value → Shared → Prop} (I : Inv X pins σ H s) (hg : Gl X x) (hm : X.mg x = some u) (h : Q u s)
    (hd : (x == ("__debug__" : Str)) = false := by decide) : wpAny (model X.prog X.w) X.A (eval (.Name x pos) X.env) Q E s :=
  Calls.Name_function_global I.ok.kind hg (Calls.loadGlobal_global (by rw [I.ok.glob]; exact I.mod.glob.keeps I.bk) hm h) hd
theorem ld_blt {E : Value → Shared → Prop} {pins : List (Addr × Obj)} {s : Shared} {σ : St} {H : Hp} {x : Str} {u : Value} {pos : Pos} {Q : Value → Shared → Prop} (I : Inv X pins σ H s) (hg : Gl X x) (hm : X.mg x = none) (hv : bootBuiltins x = some u) (h : Q u s)
    (hn : x ≠ "__name__" := by decide) (hd : (x == ("__debug__" : Str)) = false := by decide) : wpAny (model X.prog X.w) X.A (eval (.Name x pos) X.env) Q E s := by
  obtain ⟨mb, h1, h2⟩ := I.mod.blt
  exact Calls.Name_function_global I.ok.kind hg (Calls.loadGlobal_builtin (by rw [I.ok.glob]; exact I.mod.glob.keeps I.bk) hm (by rw [I.ok.blt]; exact h1.keeps I.bk) ((h2 x hn).trans hv) h) hd
theorem pe_glob {x : Str} {v : V} {u : Value} {pos : Pos} (hg : Gl X x) (hm : X.mg x = some u) (r : RelV v u) (hd : (x == ("__debug__" : Str)) = false := by decide) : PE X (.Name x pos) (tC v) :=
  fun _ _ _ H _ I h => ld_glob I hg hm ⟨v, H, I, r, h⟩ hd
theorem pe_bltn {x : Str} {v : V} {u : Value} {pos : Pos} (hg : Gl X x) (hm : X.mg x = none) (hv : bootBuiltins x = some u) (r : RelV v u) (hn : x ≠ "__name__" := by decide) (hd : (x == ("__debug__" : Str)) = false := by decide) : PE X (.Name x pos) (tC v) :=
  fun _ _ _ H _ I h => ld_blt I hg hm hv ⟨v, H, I, r, h⟩ hn hd

variable {a b : Expr} {ta tb : TE} {pos : Pos}
def PC (X : Cx) (op : CmpOp) (a b : Expr) (t : TE) : Prop :=
  ∀ (pins : List (Addr × Obj)) (s : Shared) (σ : St) (H : Hp) (Q : VK), Inv X pins σ H s → t σ H Q →
    wpAny (model X.prog X.w) X.A (eval a X.env) (fun v s₁ => wpAny (model X.prog X.w) X.A (eval b X.env) (fun u s₂ => wpAny (model X.prog X.w) X.A (compareOp op v u) (EP X pins σ Q) X.xe s₂) X.xe s₁) X.xe s
def tB (t : TE) : TT := fun σ H Q => t σ H fun x H1 => ∃ c, x = .bl c ∧ Q c H1
theorem pt_val {e : Expr} {t : TE} (h : PE X e t) (he : ∀ whole, isTrue e X.env whole = (do let v ← whole; standAt e.pos; holding [v] (truthy v)) := by intro _; rfl) : PT X e (tB t) := by
  intro pins s σ H Q I hw
  refine isTrue_plain (thn (h pins s σ H _ I hw) fun v s1 ⟨x, H1, I1, r1, q1⟩ => ?_) (he _)
  obtain ⟨d, rfl, q⟩ := q1
  cases r1
  exact wpAny_truthy_bool ⟨H1, I1, q⟩

variable {tA tB' : TT} {rest : List Expr}
def tAnd (t u : TT) : TT := fun σ H Q => t σ H fun c H1 => if c = true then u σ H1 Q else Q false H1
def tOr (t u : TT) : TT := fun σ H Q => t σ H fun c H1 => if c = true then Q true H1 else u σ H1 Q
def tNot (t : TT) : TT := fun σ H Q => t σ H fun c H1 => Q (!c) H1
theorem pw_and1 (ha : PT X a tA) : PW X (.BoolOp .And [a] pos) tA := by
  intro wh pins s σ H Q I h
  refine isTrue_and (thn (ha pins s σ H Q I h) fun c s1 e => ?_)
  cases c with
  | true => exact isTrue_and_nil e
  | false => exact e
theorem pw_or1 (ha : PT X a tA) : PW X (.BoolOp .Or [a] pos) tA := by
  intro wh pins s σ H Q I h
  refine isTrue_or (thn (ha pins s σ H Q I h) fun c s1 e => ?_)
  cases c with
  | false => exact isTrue_or_nil e
  | true => exact e
theorem pw_and (ha : PT X a tA) (hb : PW X (.BoolOp .And (b :: rest) pos) tB') : PW X (.BoolOp .And (a :: b :: rest) pos) (tAnd tA tB') := by
  intro wh pins s σ H Q I h
  refine isTrue_and (thn (ha pins s σ H _ I h) fun c s1 ⟨H1, I1, q1⟩ => ?_)
  cases c with
  | true => exact hb wh pins s1 σ H1 Q I1 q1
  | false => exact ⟨H1, I1, q1⟩
theorem pw_or (ha : PT X a tA) (hb : PW X (.BoolOp .Or (b :: rest) pos) tB') : PW X (.BoolOp .Or (a :: b :: rest) pos) (tOr tA tB') := by
  intro wh pins s σ H Q I h
  refine isTrue_or (thn (ha pins s σ H _ I h) fun c s1 ⟨H1, I1, q1⟩ => ?_)
  cases c with
  | true => exact ⟨H1, I1, q1⟩
  | false => exact hb wh pins s1 σ H1 Q I1 q1
theorem pt_not (ha : PT X a tA) : PT X (.UnaryOp .Not a pos) (tNot tA) := by
  intro pins s σ H Q I h
  exact isTrue_not (ha pins s σ H (fun c H1 => Q (!c) H1) I h)
def tAndV (ta tb : TE) : TE := fun σ H Q => ta σ H fun x H1 => ∃ c, x = .bl c ∧ if c = true then tb σ H1 Q else Q (.bl false) H1
def tOrV (ta tb : TE) : TE := fun σ H Q => ta σ H fun x H1 => ∃ c, x = .bl c ∧ if c = true then Q (.bl true) H1 else tb σ H1 Q
def tNotV (ta : TE) : TE := fun σ H Q => ta σ H fun x H1 => ∃ c, x = .bl c ∧ Q (.bl (!c)) H1
theorem pe_one {op} {t : TE} (h : PE X a t) : PE X (.BoolOp op [a] pos) t := fun pins s σ H Q I hw => BoolOp_one (h pins s σ H Q I hw)
theorem pe_and (ha : PE X a ta) (hb : PE X (.BoolOp .And (b :: rest) pos) tb) : PE X (.BoolOp .And (a :: b :: rest) pos) (tAndV ta tb) := by
  intro pins s σ H Q I h
  refine BoolOp_and (thn (ha pins s σ H _ I h) fun v s1 ⟨x, H1, I1, r1, q1⟩ => ?_)
  obtain ⟨c, rfl, q1⟩ := q1
  cases r1
  refine wpAny_truthy_bool ?_
  cases c with
  | true => exact hb pins s1 σ H1 Q I1 q1
  | false => exact ⟨.bl false, H1, I1, rfl, q1⟩
theorem pe_not (ha : PE X a ta) : PE X (.UnaryOp .Not a pos) (tNotV ta) := by
  intro pins s σ H Q I h
  refine UnaryOp_ (thn (ha pins s σ H _ I h) fun v s1 ⟨x, H1, I1, r1, q1⟩ => ?_)
  obtain ⟨c, rfl, q1⟩ := q1
  cases r1
  exact not_of (wpAny_truthy_bool ⟨.bl (!c), H1, I1, rfl, q1⟩)
def tIf (t : TT) (ta tb : TE) : TE := fun σ H Q => t σ H fun c H1 => if c = true then ta σ H1 Q else tb σ H1 Q
theorem pe_ifExp {c : Expr} (hc : PT X c tA) (ha : PE X a ta) (hb : PE X b tb) : PE X (.IfExp c a b pos) (tIf tA ta tb) := by
  intro pins s σ H Q I h
  refine wpAny_IfExp (thn (hc pins s σ H _ I h) fun d s1 ⟨H1, I1, q1⟩ => ?_)
  cases d with
  | true => exact ha pins s1 σ H1 Q I1 q1
  | false => exact hb pins s1 σ H1 Q I1 q1
end
end L2

namespace L2
open PySem PySem.Spec PyProof.Rows

def SqL (K : PySem.W.Frag) (H : Hp) (a : Addr) (xs : List V) : Prop :=
  Rd H a (.lst xs) ∨
    ∃ (o : Obj) (its : Array Value) (n : Nat), K.lookup a = some o ∧ o.cls = .type "list" ∧ o.dict = none ∧ o.data = .seq its n ∧ its.size ≤ sizeLine ∧ Vals xs its.toList
def SqT (K : PySem.W.Frag) (H : Hp) (a : Addr) (xs : List V) : Prop :=
  Rd H a (.tup xs) ∨
    ∃ (o : Obj) (its : Array Value) (n : Nat), K.lookup a = some o ∧ o.cls = .type "tuple" ∧ o.data = .seq its n ∧ its.size ≤ sizeLine ∧ Vals xs its.toList
def absV : Value → Option V
  | .none => some .non
  | .bool b => some (.bl b)
  | .int i _ => some (.int i)
  | .str x _ => some (.str x)
  | .bytes b _ => some (.byt b)
  | .float b _ => some (.flt b)
  | .ref a => some (.ref a)
  | .type n => some (.ty n)
  | _ => none
theorem RelV.abs {x : V} {u : Value} (r : RelV x u) : absV u = some x := by
  cases x with
  | non => cases r; rfl
  | bl _ => cases r; rfl
  | int _ => obtain ⟨t, rfl⟩ := r; rfl
  | str _ => obtain ⟨t, rfl⟩ := r; rfl
  | byt _ => obtain ⟨t, rfl⟩ := r; rfl
  | flt _ => obtain ⟨t, rfl⟩ := r; rfl
  | ref _ => cases r; rfl
  | ty _ => cases r; rfl
theorem RelV.inj {x y : V} {u : Value} (r : RelV x u) (q : RelV y u) : x = y := Option.some.inj (r.abs.symm.trans q.abs)
theorem Vals.inj : ∀ {xs ys : List V} {us : List Value}, Vals xs us → Vals ys us → xs = ys
  | _, _, _, .nil, .nil => rfl
  | _, _, _, .cons r t, .cons r' t' => by rw [r.inj r', Vals.inj t t']
section
variable {X : Cx} {pins : List (Addr × Obj)} {σ : St} {H : Hp} {s : Shared} {a : Addr} {xs ys : List V}
theorem SqL.of {K : PySem.W.Frag} (h : H a = some (.lst xs)) : SqL K H a xs := .inl (.inl h)
theorem SqT.of {K : PySem.W.Frag} (h : H a = some (.tup xs)) : SqT K H a xs := .inl (.inl h)
theorem Inv.list (I : Inv X pins σ H s) (h : SqL X.K H a xs) : ∃ its : List Value, Vals xs its ∧ PlainL s.heap a its.toArray ∧ xs.length ≤ sizeLine := by
  rcases h with h | ⟨o, its, n, hk, hc, hd, hs, hz, r⟩
  · obtain ⟨z, its, n, r, e⟩ := h.ok I.hok
    exact ⟨its, r, ⟨_, n, e, rfl, rfl, rfl⟩, z⟩
  · refine ⟨its.toList, r, ⟨o, n, I.kIn a o hk, hc, hd, by simpa using hs⟩, ?_⟩
    have e := r.length
    simp only [Array.length_toList] at e
    omega
theorem Inv.tuple (I : Inv X pins σ H s) (h : SqT X.K H a xs) : ∃ its : List Value, Vals xs its ∧ IsTup s.heap a its.toArray ∧ xs.length ≤ sizeLine := by
  rcases h with h | ⟨o, its, n, hk, hc, hs, hz, r⟩
  · obtain ⟨z, its, r, p⟩ := h.ok I.hok
    exact ⟨its, r, p, z⟩
  · refine ⟨its.toList, r, ⟨o, I.kIn a o hk, hc, n, by simpa using hs⟩, ?_⟩
    have e := r.length
    simp only [Array.length_toList] at e
    omega
theorem Inv.list_inj (I : Inv X pins σ H s) (h : SqL X.K H a xs) (h' : SqL X.K H a ys) : xs = ys := by
  obtain ⟨its, r, ⟨o, n, e, _, _, d⟩, _⟩ := I.list h
  obtain ⟨its', r', ⟨o', n', e', _, _, d'⟩, _⟩ := I.list h'
  rw [e] at e'; cases e'
  rw [d] at d'
  injection d' with d1 _
  have : its = its' := by simpa using congrArg Array.toList d1
  subst this
  exact r.inj r'
theorem Inv.tuple_inj (I : Inv X pins σ H s) (h : SqT X.K H a xs) (h' : SqT X.K H a ys) : xs = ys := by
  obtain ⟨its, r, ⟨o, e, _, n, d⟩, _⟩ := I.tuple h
  obtain ⟨its', r', ⟨o', e', _, n', d'⟩, _⟩ := I.tuple h'
  rw [e] at e'; cases e'
  rw [d] at d'
  injection d' with d1 _
  have : its = its' := by simpa using congrArg Array.toList d1
  subst this
  exact r.inj r'
end

abbrev Cx.wish (X : Cx) (E : Value → Shared → Prop) : Cx := { X with xe := E }
abbrev Cx.nox (X : Cx) : Cx := X.wish fun _ _ => False
theorem Cx.Ok.wish {X : Cx} (ok : X.Ok) (E : Value → Shared → Prop) : (X.wish E).Ok :=
  ⟨ok.mod, ok.kind, ok.glob, ok.blt, ok.above, ok.inj, ok.has, ok.cab, ok.hd, ok.frames, ok.stk, ok.exf, ok.bs, ok.bsz, ok.noex, ok.exfs, ok.funs, ok.frf⟩
theorem Cx.Ok.unwish {X : Cx} {E : Value → Shared → Prop} (ok : (X.wish E).Ok) : X.Ok :=
  ⟨ok.mod, ok.kind, ok.glob, ok.blt, ok.above, ok.inj, ok.has, ok.cab, ok.hd, ok.frames, ok.stk, ok.exf, ok.bs, ok.bsz, ok.noex, ok.exfs, ok.funs, ok.frf⟩
section
variable {X : Cx} {pins : List (Addr × Obj)} {σ : St} {H : Hp} {s : Shared} {E : Value → Shared → Prop}
theorem Inv.wish (I : Inv X pins σ H s) (E : Value → Shared → Prop) : Inv (X.wish E) pins σ H s := ⟨I.ok.wish E, I.os, I.bare, I.base, I.loc, I.cell, I.free, I.freeC, I.pin, I.hok, I.len⟩
theorem Inv.unwish (I : Inv (X.wish E) pins σ H s) : Inv X pins σ H s := ⟨I.ok.unwish, I.os, I.bare, I.base, I.loc, I.cell, I.free, I.freeC, I.pin, I.hok, I.len⟩
theorem SP.unwish {D : Ends} {f : Flow} {s' : Shared} (h : SP (X.wish E) pins D f s') : SP X pins D f s' := by
  cases f with
  | next => obtain ⟨σ', H', I, q⟩ := h; exact ⟨σ', H', I.unwish, q⟩
  | brk => obtain ⟨σ', H', I, q⟩ := h; exact ⟨σ', H', I.unwish, q⟩
  | cont => obtain ⟨σ', H', I, q⟩ := h; exact ⟨σ', H', I.unwish, q⟩
  | ret u => obtain ⟨v, σ', H', I, r, q⟩ := h; exact ⟨v, σ', H', I.unwish, r, q⟩
theorem PE.nox {e : Expr} {t : TE} (h : PE X.nox e t) : PE X e t := fun pins s σ H Q I hw =>
  wpAny_mono (h pins s σ H Q (I.wish _) hw) (fun _ _ ⟨v, H', I', r, q⟩ => ⟨v, H', I'.unwish, r, q⟩) fun _ _ z => False.elim z
theorem PT.nox {e : Expr} {t : TT} (h : PT X.nox e t) : PT X e t := fun pins s σ H Q I hw =>
  wpAny_mono (h pins s σ H Q (I.wish _) hw) (fun _ _ ⟨H', I', q⟩ => ⟨H', I'.unwish, q⟩) fun _ _ z => False.elim z
theorem PSs.nox {st : List Stmt} {t : TS} (h : PSs X.nox st t) : PSs X st t := fun pins s σ H D I hw =>
  wpAny_mono (h pins s σ H D (I.wish _) hw) (fun _ _ q => q.unwish) fun _ _ z => False.elim z
end

section
variable {X : Cx} {st : Stmt} {rest : List Stmt} {t u : TS} {e : Expr} {te : TE} {pos : Pos}
def tNext : TS := fun D σ H => D.nx σ H
def tSeq (t u : TS) : TS := fun D σ H => t { D with nx := u D } σ H
theorem pss_nil : PSs X [] tNext := fun _ _ σ H _ I h => wpAny_execs_nil ⟨σ, H, I, h⟩
theorem pss_cons (h1 : PS X st t) (h2 : PSs X rest u) : PSs X (st :: rest) (tSeq t u) := by
  intro pins s σ H D I h
  refine wpAny_execs_cons (thn (h1 pins s σ H { D with nx := u D } I h) fun f s1 q => ?_)
  cases f with
  | next =>
    obtain ⟨σ', H', I', q⟩ := q
    exact h2 pins s1 σ' H' D I' q
  | ret v => exact q
  | brk => exact q
  | cont => exact q
theorem pss_one (h1 : PS X st t) : PSs X [st] t := by
  intro pins s σ H D I h
  refine wpAny_execs_cons (thn (h1 pins s σ H D I h) fun f s1 q => ?_)
  cases f with
  | next => exact wpAny_execs_nil q
  | ret v => exact q
  | brk => exact q
  | cont => exact q
def tCont : TS := fun D σ H => D.ct σ H
theorem ps_continue : PS X (.Continue pos) tCont := fun _ _ σ H _ I h => wpAny_Continue ⟨σ, H, I, h⟩
theorem Inv.quiet {pins : List (Addr × Obj)} {σ : St} {H : Hp} {s : Shared} (I : Inv X pins σ H s) : interactive X.env = false := by simp [interactive, I.ok.kind]
def tDrop (te : TE) : TS := fun D σ H => te σ H fun _ H1 => D.nx σ H1
theorem ps_expr (he : PE X e te) (hs : swapsWith e none pos.line X.env = pure false := by rfl) : PS X (.Expr e pos) (tDrop te) := by
  intro pins s σ H D I h
  exact wpAny_Expr_any (thn (he pins s σ H _ I h) fun v s1 ⟨x, H1, I1, r1, q1⟩ => ⟨σ, H1, I1, q1⟩) I.quiet hs
def tRet (te : TE) : TS := fun D σ H => te σ H D.rt
theorem ps_ret (he : PE X e te) : PS X (.Return (some e) pos) (tRet te) := by
  intro pins s σ H D I h
  exact wpAny_Return_some (thn (he pins s σ H _ I h) fun v s1 ⟨x, H1, I1, r1, q1⟩ => ⟨x, σ, H1, I1, r1, q1⟩)
def tRetN : TS := fun D _ H => D.rt .non H
def tIfS (c : TT) (t u : TS) : TS := fun D σ H => c σ H fun b H1 => if b = true then t D σ H1 else u D σ H1
theorem ps_if {c : Expr} {a b : List Stmt} {tc : TT} (hc : PT X c tc) (ha : PSs X a t) (hb : PSs X b u) : PS X (.If c a b pos) (tIfS tc t u) := by
  intro pins s σ H D I h
  refine wpAny_If (thn (hc pins s σ H _ I h) fun d s1 ⟨H1, I1, q1⟩ => ?_)
  cases d with
  | true => exact ha pins s1 σ H1 D I1 q1
  | false => exact hb pins s1 σ H1 D I1 q1
end

abbrev TG := V → St → Hp → (St → Hp → Prop) → Prop
abbrev TGs := List V → St → Hp → (St → Hp → Prop) → Prop
def PG (X : Cx) (target : Expr) (t : TG) : Prop :=
  ∀ (pins : List (Addr × Obj)) (s : Shared) (σ : St) (H : Hp) (v : V) (u : Value) (Q : St → Hp → Prop), Inv X pins σ H s → RelV v u → t v σ H Q →
    wpAny (model X.prog X.w) X.A (assign target X.env u) (fun _ s' => ∃ σ' H', Inv X pins σ' H' s' ∧ Q σ' H') X.xe s
def PGs (X : Cx) (ts : List Expr) (t : TGs) : Prop :=
  ∀ (pins : List (Addr × Obj)) (s : Shared) (σ : St) (H : Hp) (vs : List V) (us : List Value) (Q : St → Hp → Prop), Inv X pins σ H s → Vals vs us → t vs σ H Q →
    wpAny (model X.prog X.w) X.A (assignInOrder ((assignEach ts X.env).map (·.2)) us) (fun _ s' => ∃ σ' H', Inv X pins σ' H' s' ∧ Q σ' H') X.xe s
section
variable {X : Cx} {pos : Pos}
def gName (i : Nat) : TG := fun v σ H Q => Q (σ.set i (some v)) H
theorem pg_name {i : Nat} {x : Str} (hN : X.N.Nodup) (hi : X.N[i]? = some x) (hx : Loc X.env.scope x) (hf : X.fn x = true ∨ X.env.scope.names.lookup x = some .local := by first | exact .inl rfl | exact .inr rfl | assumption) : PG X (.Name x pos) (gName i) := by
  intro pins s σ H v u Q I r h
  exact wpAny_assign_Name (store_ok I hN hi hx r (fun s' I' => ⟨_, H, I', h⟩) hf)
def gNil : TGs := fun vs σ H Q => vs = [] ∧ Q σ H
def gCons (t : TG) (u : TGs) : TGs := fun vs σ H Q => ∃ v r, vs = v :: r ∧ t v σ H fun σ' H' => u r σ' H' Q
theorem pgs_nil : PGs X [] gNil := by
  intro pins s σ H vs us Q I r h
  obtain ⟨e, h⟩ := h
  subst e
  cases r
  exact assignInOrder_nil ⟨σ, H, I, h⟩
theorem pgs_cons {e : Expr} {es : List Expr} {t : TG} {u : TGs} (h1 : PG X e t) (h2 : PGs X es u)
    (hs : (assignEach (e :: es) X.env).map (·.2) = assign e X.env :: (assignEach es X.env).map (·.2) := by rfl) : PGs X (e :: es) (gCons t u) := by
  intro pins s σ H vs us Q I r h
  obtain ⟨v, vr, e1, h⟩ := h
  subst e1
  cases r with
  | cons r rr =>
    rw [hs]
    refine assignInOrder_cons (thn (h1 pins s σ H _ _ _ I r h) fun _ s1 ⟨σ1, H1, I1, q1⟩ => ?_)
    exact h2 pins s1 σ1 H1 _ _ Q I1 rr q1
def gTup (K : PySem.W.Frag) (n : Nat) (t : TGs) : TG := fun v σ H Q => ∃ a xs, v = .ref a ∧ SqT K H a xs ∧ xs.length = n ∧ t xs σ H Q
theorem pg_tup {es : List Expr} {k : Nat} {t : TGs} {n : Nat} (hc : X.calm = true) (h : PGs X es t)
    (hn : (assignEach es X.env).length = n := by rfl) (hst : (assignEach es X.env).findIdx? (·.1) = none := by rfl) : PG X (.Tuple es k pos) (gTup X.K n t) := by
  intro pins s σ H v u Q I r hw
  obtain ⟨a, xs, e1, hq, hl, hw⟩ := hw
  subst e1
  cases r
  obtain ⟨its, rv, ht, hz⟩ := I.tuple hq
  refine assign_Tuple_tuple (I.ok.hd hc) ht (by simp [hn, ← hl, rv.length]) hst fun h' hx => ?_
  have I1 : Inv X pins σ H { s with heap := h' } := I.kept (t' := s.toks) fun b o e => hx b o (Nat.ne_of_lt (Heap.lt_size e)) e
  exact h pins _ σ H xs _ Q I1 (by simpa using rv) hw
def tAsg (te : TE) (g : TG) : TS := fun D σ H => te σ H fun x H1 => g x σ H1 D.nx
theorem ps_asg {tg e : Expr} {te : TE} {g : TG} (he : PE X e te) (hg : PG X tg g) (hs : swapsWithSole [tg] e pos.line X.env = pure false := by rfl) (hw : swappedStores [tg] e X.env = pure none := by rfl)
    (h1 : (assignEach [tg] X.env).map (·.2) = [assign tg X.env] := by rfl) : PS X (.Assign [tg] e pos) (tAsg te g) := by
  intro pins s σ H D I h
  refine wpAny_Assign_stores (thn (he pins s σ H _ I h) fun v s1 ⟨x, H1, I1, r1, q1⟩ => ?_) hs hw
  rw [h1]
  exact thn (hg pins s1 σ H1 x v _ I1 r1 q1) fun _ s2 q => q
theorem ps_set {i : Nat} {x : Str} {e : Expr} {te : TE} {pos' : Pos} (hN : X.N.Nodup) (hi : X.N[i]? = some x) (hx : Loc X.env.scope x) (he : PE X e te) (hs : swapsWith e (some (.Name x pos')) pos.line X.env = pure false := by rfl) (hf : X.fn x = true ∨ X.env.scope.names.lookup x = some .local := by first | exact .inl rfl | exact .inr rfl | assumption) :
    PS X (.Assign [.Name x pos'] e pos) (tAsg te (gName i)) := by
  intro pins s σ H D I h
  refine wpAny_Assign_Name (thn (he pins s σ H _ I h) fun v s1 ⟨y, H1, I1, r1, q1⟩ => ?_) hs
  exact store_ok I1 hN hi hx r1 (fun s2 I2 => ⟨_, H1, I2, q1⟩) hf
end

section
variable {X : Cx} {pos : Pos}
def tWhile (c : TT) (tb : TS) : TS := fun D σ H => ∃ W : Nat → St → Hp → Prop, (∃ m, W m σ H) ∧ ∀ m σ H, W m σ H →
  c σ H fun b H1 => if b = true then ∃ N : St → Hp → Prop, (∀ σ' H', N σ' H' → ∃ m', m' < m ∧ W m' σ' H') ∧ tb { D with nx := N, ct := N, bk := D.nx } σ H1 else D.nx σ H1
theorem ps_while {c : Expr} {body : List Stmt} {tc : TT} {tb : TS} (hp : PassesOwn (model X.prog X.w) X.A X.env X.xe) (hc : PT X c tc) (hb : PSs X body tb) : PS X (.While c body [] pos) (tWhile tc tb) := by
  intro pins s σ H D I h
  obtain ⟨W, ⟨m0, w0⟩, turn⟩ := h
  refine wpAny_While (codeAny_whileLoop (fun n s' => ∃ σ' H', Inv X pins σ' H' s' ∧ W n σ' H') ?_ m0 ⟨σ, H, I, w0⟩)
  rintro n s1 ⟨σ1, H1, I1, w1⟩
  refine wpAny_passesOwn hp (thn (hc pins s1 σ1 H1 _ I1 (turn n σ1 H1 w1)) fun b s2 ⟨H2, I2, q2⟩ => ?_)
  cases b with
  | true =>
    obtain ⟨N, hN, q2⟩ := q2
    rw [if_pos rfl]
    refine wpAny_passesOwn hp (thn (hb pins s2 σ1 H2 _ I2 q2) fun f s3 q3 => ?_)
    cases f with
    | next =>
      obtain ⟨σ3, H3, I3, n3⟩ := q3
      obtain ⟨m', hm, w3⟩ := hN σ3 H3 n3
      exact ⟨m', hm, σ3, H3, I3, w3⟩
    | cont =>
      obtain ⟨σ3, H3, I3, n3⟩ := q3
      obtain ⟨m', hm, w3⟩ := hN σ3 H3 n3
      exact ⟨m', hm, σ3, H3, I3, w3⟩
    | brk => exact q3
    | ret v => exact q3
  | false =>
    rw [if_neg Bool.false_ne_true]
    exact wpAny_execs_nil ⟨σ1, H2, I2, q2⟩
end

set_option genInjectivity false in
structure It where
  go : Nat → Hp → Prop
  yld : Nat → Hp → V → Hp → Prop
  stop : Nat → Hp → Prop
def FpOk (X : Cx) (pins : List (Addr × Obj)) (H : Hp) (b : Addr) : Prop :=
  H b = none ∧ b ≠ X.env.locals ∧ b ∉ X.fs ∧ (b ∈ X.ex ∨ X.s₀.heap.objs.size ≤ b) ∧ (∀ x c, X.env.cells.lookup x = some c → c ≠ b) ∧ ∀ p ∈ X.pn ++ pins, p.1 ≠ b
theorem Inv.fpOk {X : Cx} {pins : List (Addr × Obj)} {σ : St} {H H' : Hp} {s : Shared} {b : Addr} (I : Inv X pins σ H s) (hb : s.heap.objs.size ≤ b) (hn : H' b = none) : FpOk X pins H' b := by
  refine ⟨hn, Nat.ne_of_gt (Nat.lt_of_lt_of_le I.lt hb), I.nofs hb, .inr (Nat.le_trans I.sz hb), fun x c e z => ?_, fun p hp z => ?_⟩
  · obtain ⟨v, q⟩ := I.cell x c e
    exact absurd (Nat.lt_of_lt_of_le q.lt (by rw [z]; exact hb)) (Nat.lt_irrefl _)
  · exact absurd (Nat.lt_of_lt_of_le (Heap.lt_size (I.pin p hp).1) (by rw [z]; exact hb)) (Nat.lt_irrefl _)
structure Turn (P : Program) (w : World) (K : PySem.W.Frag) (tg : Expr) (J : It) (fp : List Addr) (it : Addr) (tn : Nat → Heap → Prop) : Prop where
  mem : it ∈ fp
  obj : ∀ i h, tn i h → ∀ b ∈ fp, ∃ o, h.get? b = some o ∧ ∀ v, o.data ≠ .cell v
  keep : ∀ i h h', tn i h → (∀ b ∈ fp, ∀ o, h.get? b = some o → h'.get? b = some o) → tn i h'
  item : ∀ (X : Cx), X.prog = P → X.w = w → X.K = K → X.calm = true → ∀ (i : Nat) (pins : List (Addr × Obj)) (s : Shared) (σ : St) (H : Hp) (E : Value → Shared → Prop), Inv X pins σ H s → (∀ b ∈ fp, FpOk X pins H b) → tn i s.heap → J.go i H →
    wpAny (model P w) X.A (pyNext (.ref it)) (fun r s1 => ∃ u, r = some u ∧
      wpAny (model P w) X.A (letOwnedTupleGo tg (.ref it) u) (fun _ s2 => ∃ x H', Inv X pins σ H' s2 ∧ RelV x u ∧ J.yld i H x H' ∧ tn (i + 1) s2.heap ∧ ∀ b ∈ fp, H' b = none) E s1) E s
  done : ∀ (X : Cx), X.prog = P → X.w = w → X.K = K → X.calm = true → ∀ (i : Nat) (pins : List (Addr × Obj)) (s : Shared) (σ : St) (H : Hp) (E : Value → Shared → Prop), Inv X pins σ H s → (∀ b ∈ fp, FpOk X pins H b) → tn i s.heap → J.stop i H →
    wpAny (model P w) X.A (pyNext (.ref it)) (fun r s1 => r = none ∧ Inv X pins σ H s1) E s
  self : ∀ (A : Around) (i : Nat) (s : Shared) (Q : Value → Shared → Prop) (E : Value → Shared → Prop), tn i s.heap → Q (.ref it) s → wpAny (model P w) A (pyIter (.ref it)) Q E s
abbrev TI := St → Hp → (It → Hp → Prop) → Prop
def PIE (X : Cx) (pins : List (Addr × Obj)) (σ : St) (tg : Expr) (R : It → Hp → Prop) (itv : Value) (s2 : Shared) : Prop :=
  ∃ (it : Addr) (fp : List Addr) (tn : Nat → Heap → Prop) (J : It) (H' : Hp), itv = .ref it ∧ Inv X pins σ H' s2 ∧ Turn X.prog X.w X.K tg J fp it tn ∧ tn 0 s2.heap ∧ (∀ b ∈ fp, FpOk X pins H' b) ∧ R J H'
def PI (X : Cx) (tg iter : Expr) (wi : TI) : Prop :=
  ∀ (pins : List (Addr × Obj)) (s : Shared) (σ : St) (H : Hp) (R : It → Hp → Prop), Inv X pins σ H s → wi σ H R →
    wpAny (model X.prog X.w) X.A (eval iter X.env) (fun v s1 => wpAny (model X.prog X.w) X.A (pyIter v) (PIE X pins σ tg R) X.xe s1) X.xe s

theorem go_of {M : Model} {A : Around} {E : Value → Shared → Prop} {s : Shared} {tg : Expr} {it : Addr} {u : Value} {o : Obj} {n : String} {vs : Array Value} {Q : Unit → Shared → Prop} (ho : s.heap.get? it = some o) (hc : o.cls = .type n) (hd : o.data = .fields vs)
    (hn : ["enumerate", "zip", "dict_itemiterator", "dict_reverseitemiterator", "odict_iterator", "itertools.zip_longest", "itertools.pairwise"].contains n = false) (hQ : Q () s) : wpAny M A (letOwnedTupleGo tg (.ref it) u) Q E s := by
  unfold letOwnedTupleGo
  cases tg <;> first
    | exact wpAny_pure hQ
    | (cases u <;> first
        | exact wpAny_pure hQ
        | (refine wpAny_bind (wpAny_load ho ?_)
           rw [hc, hd]
           show wpAny M A (if (["enumerate", "zip", "dict_itemiterator", "dict_reverseitemiterator", "odict_iterator", "itertools.zip_longest", "itertools.pairwise"].contains n && vs[0]? == some (rawInt _)) = true then _ else _) Q E s
           rw [if_neg (by intro h; rw [hn, Bool.false_and] at h; cases h)]
           exact wpAny_pure hQ))

def Itl (K : PySem.W.Frag) (a : Addr) : It :=
  ⟨fun i H => ∃ xs x, SqL K H a xs ∧ xs[i]? = some x, fun i H x H' => H' = H ∧ ∀ xs, SqL K H a xs → xs[i]? = some x, fun i H => ∃ xs, SqL K H a xs ∧ xs.length ≤ i⟩
def Itt (K : PySem.W.Frag) (a : Addr) : It :=
  ⟨fun i H => ∃ xs x, SqT K H a xs ∧ xs[i]? = some x, fun i H x H' => H' = H ∧ ∀ xs, SqT K H a xs → xs[i]? = some x, fun i H => ∃ xs, SqT K H a xs ∧ xs.length ≤ i⟩
def Itr (lo : Int) (n : Nat) : It := ⟨fun i _ => i < n, fun i H x H' => H' = H ∧ x = .int (lo + i), fun i _ => n ≤ i⟩
theorem turn_list {P : Program} {w : World} {K : PySem.W.Frag} {tg : Expr} (a it : Addr) : Turn P w K tg (Itl K a) [it] it (fun i h => h.IsListIter it a i) where
  mem := by simp
  obj := fun i h st b hb => by
    have e : b = it := by simpa using hb
    subst e
    obtain ⟨o, e, c, d⟩ := st
    exact ⟨o, e, fun v z => by rw [d] at z; cases z⟩
  keep := fun i h h' st k => st.at fun o e => k it (by simp) o e
  item := by
    intro X hP hw hK hc i pins s σ H E I hf st hg
    subst hP hw hK
    obtain ⟨xs, x, hq, hx⟩ := hg
    obtain ⟨its, rv, p, hz⟩ := I.list hq
    obtain ⟨u, hu, ru⟩ := rv.get hx
    obtain ⟨f0, f1, f2, f3, f4, f5⟩ := hf it (by simp)
    refine wpAny_pyNext_list_item st p.isList (x := u) (by simpa using hu) fun h' st' sb => ?_
    have I1 : Inv X pins σ H { s with heap := h' } := I.turned (t' := s.toks) (fun b o hb e => (sb.2 b hb).trans e) f0 f1 f3 f4 f5
    obtain ⟨o, e, c, d⟩ := id st'
    exact ⟨u, rfl, go_of (s := { s with heap := h' }) e c d (by decide) ⟨x, H, I1, ru, ⟨rfl, fun ys hy => by rw [I.list_inj hy hq]; exact hx⟩, st', fun b hb => (hf b hb).1⟩⟩
  done := by
    intro X hP hw hK hc i pins s σ H E I hf st hg
    subst hP hw hK
    obtain ⟨xs, hq, hx⟩ := hg
    obtain ⟨its, rv, p, hz⟩ := I.list hq
    obtain ⟨f0, f1, f2, f3, f4, f5⟩ := hf it (by simp)
    have hl := rv.length
    exact wpAny_pyNext_list_end (I.ok.hd hc) st p.isList (by simp; omega) fun h' eb => ⟨rfl, I.turned (t' := s.toks) (fun b o hb e => eb b o hb e) f0 f1 f3 f4 f5⟩
  self := fun _ _ _ _ _ st h => wpAny_pyIter_listiter st h
theorem turn_tuple {P : Program} {w : World} {K : PySem.W.Frag} {tg : Expr} (a it : Addr) : Turn P w K tg (Itt K a) [it] it (fun i h => h.IsTupleIter it a i) where
  mem := by simp
  obj := fun i h st b hb => by
    have e : b = it := by simpa using hb
    subst e
    obtain ⟨o, e, c, d⟩ := st
    exact ⟨o, e, fun v z => by rw [d] at z; cases z⟩
  keep := fun i h h' st k => st.at fun o e => k it (by simp) o e
  item := by
    intro X hP hw hK hc i pins s σ H E I hf st hg
    subst hP hw hK
    obtain ⟨xs, x, hq, hx⟩ := hg
    obtain ⟨its, rv, p, hz⟩ := I.tuple hq
    obtain ⟨u, hu, ru⟩ := rv.get hx
    obtain ⟨f0, f1, f2, f3, f4, f5⟩ := hf it (by simp)
    refine wpAny_pyNext_tuple_item st (show s.heap.IsTuple a its.toArray from p) (x := u) (by simpa using hu) fun h' st' sb => ?_
    have I1 : Inv X pins σ H { s with heap := h' } := I.turned (t' := s.toks) (fun b o hb e => (sb.2 b hb).trans e) f0 f1 f3 f4 f5
    obtain ⟨o, e, c, d⟩ := id st'
    exact ⟨u, rfl, go_of (s := { s with heap := h' }) e c d (by decide) ⟨x, H, I1, ru, ⟨rfl, fun ys hy => by rw [I.tuple_inj hy hq]; exact hx⟩, st', fun b hb => (hf b hb).1⟩⟩
  done := by
    intro X hP hw hK hc i pins s σ H E I hf st hg
    subst hP hw hK
    obtain ⟨xs, hq, hx⟩ := hg
    obtain ⟨its, rv, p, hz⟩ := I.tuple hq
    obtain ⟨f0, f1, f2, f3, f4, f5⟩ := hf it (by simp)
    have hl := rv.length
    exact wpAny_pyNext_tuple_end (I.ok.hd hc) st (show s.heap.IsTuple a its.toArray from p) (by simp; omega) fun h' eb => ⟨rfl, I.turned (t' := s.toks) (fun b o hb e => eb b o hb e) f0 f1 f3 f4 f5⟩
  self := fun _ _ _ _ _ st h => wpAny_pyIter_tupleiter st h
theorem turn_range {P : Program} {w : World} {K : PySem.W.Frag} {tg : Expr} (it : Addr) (lo : Int) (n : Nat) : Turn P w K tg (Itr lo n) [it] it (fun i h => IsRangeIter h it (lo + (i : Nat) * 1) ((n : Int) - (i : Nat)) 1) where
  mem := by simp
  obj := fun i h st b hb => by
    have e : b = it := by simpa using hb
    subst e
    exact ⟨_, st, fun v z => by
      have z' : Data.fields _ = Data.cell v := z
      cases z'⟩
  keep := fun i h h' st k => k it (by simp) _ st
  item := by
    intro X hP hw hK hc i pins s σ H E I hf st hg
    subst hP hw hK
    obtain ⟨f0, f1, f2, f3, f4, f5⟩ := hf it (by simp)
    have W := Walks.range (prog := X.prog) (w := X.w) (I.ok.hd hc) it lo 1 n
    refine W.item i s _ _ hg st fun v h' tk hv st' kk => ?_
    obtain ⟨t, rfl⟩ := hv
    have I1 : Inv X pins σ H { s with heap := h', toks := tk } := I.turned (fun b o hb e => kk b o (by simpa using hb) e) f0 f1 f3 f4 f5
    refine ⟨_, rfl, go_of (s := { s with heap := h', toks := tk }) (n := "range_iterator") st' rfl rfl (by decide) ⟨.int (lo + i), H, I1, ⟨t, ?_⟩, ⟨rfl, rfl⟩, st', fun b hb => (hf b hb).1⟩⟩
    rw [Int.mul_one]
  done := by
    intro X hP hw hK hc i pins s σ H E I hf st hg
    subst hP hw hK
    obtain ⟨f0, f1, f2, f3, f4, f5⟩ := hf it (by simp)
    exact wpAny_pyNext_range_end (I.ok.hd hc) st (by have : n ≤ i := hg; omega) fun h' eb => ⟨rfl, I.turned (t' := s.toks) (fun b o hb e => eb b o hb e) f0 f1 f3 f4 f5⟩
  self := fun _ _ _ _ _ st h => wpAny_pyIter_rangeiter st h
end L2

namespace L2
open PySem PySem.Spec PyProof.Rows
section
variable {X : Cx} {tg : Expr}
def iList (K : PySem.W.Frag) (tl : TE) : TI := fun σ H R => tl σ H fun x H1 => ∃ a, x = .ref a ∧ (∃ xs, SqL K H1 a xs) ∧ R (Itl K a) H1
def iTup (K : PySem.W.Frag) (tl : TE) : TI := fun σ H R => tl σ H fun x H1 => ∃ a, x = .ref a ∧ (∃ xs, SqT K H1 a xs) ∧ R (Itt K a) H1
theorem pi_list {l : Expr} {tl : TE} (hl : PE X l tl) : PI X tg l (iList X.K tl) := by
  intro pins s σ H R I h
  refine thn (hl pins s σ H _ I h) fun v s1 ⟨x, H1, I1, r1, q1⟩ => ?_
  obtain ⟨a, e, ⟨xs, hq⟩, q⟩ := q1
  subst e
  cases r1
  obtain ⟨its, rv, p, hz⟩ := I1.list hq
  refine wpAny_pyIter_list p.isList ?_
  refine ⟨s1.heap.objs.size, [s1.heap.objs.size], _, _, H1, rfl, I1.kept (t' := s1.toks) fun b o e => Heap.get?_push_of_some _ e, turn_list a _, ⟨_, Heap.get?_push_size _ rfl, rfl, rfl⟩, fun b hb => ?_, q⟩
  have e : b = s1.heap.objs.size := by simpa using hb
  subst e
  exact I1.fpOk (Nat.le_refl _) (I1.hok.fresh (Nat.le_refl _))
theorem pi_tup {l : Expr} {tl : TE} (hl : PE X l tl) : PI X tg l (iTup X.K tl) := by
  intro pins s σ H R I h
  refine thn (hl pins s σ H _ I h) fun v s1 ⟨x, H1, I1, r1, q1⟩ => ?_
  obtain ⟨a, e, ⟨xs, hq⟩, q⟩ := q1
  subst e
  cases r1
  obtain ⟨its, rv, p, hz⟩ := I1.tuple hq
  refine wpAny_pyIter_tuple (show s1.heap.IsTuple a its.toArray from p) ?_
  refine ⟨s1.heap.objs.size, [s1.heap.objs.size], _, _, H1, rfl, I1.kept (t' := s1.toks) fun b o e => Heap.get?_push_of_some _ e, turn_tuple a _, ⟨_, Heap.get?_push_size _ rfl, rfl, rfl⟩, fun b hb => ?_, q⟩
  have e : b = s1.heap.objs.size := by simpa using hb
  subst e
  exact I1.fpOk (Nat.le_refl _) (I1.hok.fresh (Nat.le_refl _))
theorem range_it {pins : List (Addr × Obj)} {σ : St} {H : Hp} {s : Shared} {R : It → Hp → Prop} {E : Value → Shared → Prop} {lo hi : Int} {t u v : Tok} {tk : Nat} (I : Inv X pins σ H s) (h1 : -(2 ^ 62) ≤ lo) (h2 : lo < 2 ^ 62) (h3 : -(2 ^ 62) ≤ hi) (h4 : hi < 2 ^ 62)
    (q : R (Itr lo (hi - lo).toNat) H) : wpAny (model X.prog X.w) X.A (pyIter (.ref s.heap.objs.size)) (PIE X pins σ tg R) E { s with heap := s.heap.push { cls := .type "range", data := .fields #[.int lo t, .int hi u, .int 1 v] }, toks := tk } := by
  refine wpAny_pyIter_range (IsRange.new ..) (small_one h1 h2 h3 h4) ?_
  have I1 : Inv X pins σ H { s with heap := s.heap.push { cls := .type "range", data := .fields #[.int lo t, .int hi u, .int 1 v] }, toks := tk } := I.kept fun b o e => Heap.get?_push_of_some _ e
  refine ⟨(s.heap.push { cls := .type "range", data := .fields #[.int lo t, .int hi u, .int 1 v] }).objs.size, [(s.heap.push { cls := .type "range", data := .fields #[.int lo t, .int hi u, .int 1 v] }).objs.size], _, _, H, rfl,
    I1.kept (t' := tk) fun b o e => Heap.get?_push_of_some _ e, turn_range _ lo (hi - lo).toNat, ?_, fun b hb => ?_, q⟩
  · have e1 : lo + ((0 : Nat) : Int) * 1 = lo := by simp
    have e2 : (((hi - lo).toNat : Nat) : Int) - ((0 : Nat) : Int) = Builtin.Range.rangeSize lo hi 1 := by rw [rangeSize_one]; split <;> omega
    show IsRangeIter _ _ (lo + ((0 : Nat) : Int) * 1) ((((hi - lo).toNat : Nat) : Int) - ((0 : Nat) : Int)) 1
    rw [e1, e2]
    exact Heap.get?_push_size _ rfl
  · have e : b = (s.heap.push { cls := .type "range", data := .fields #[.int lo t, .int hi u, .int 1 v] }).objs.size := by simpa using hb
    subst e
    exact I1.fpOk (Nat.le_refl _) (I1.hok.fresh (Nat.le_refl _))
def iRng1 (ta : TA) : TI := fun σ H R => ta σ H fun vs H1 => ∃ j : Int, vs = [.int j] ∧ -(2 ^ 62) ≤ j ∧ j < 2 ^ 62 ∧ R (Itr 0 j.toNat) H1
def iRng2 (ta : TA) : TI := fun σ H R => ta σ H fun vs H1 => ∃ i j : Int, vs = [.int i, .int j] ∧ (-(2 ^ 62) ≤ i ∧ i < 2 ^ 62 ∧ -(2 ^ 62) ≤ j ∧ j < 2 ^ 62) ∧ R (Itr i (j - i).toNat) H1
theorem pi_range1 {a : Expr} {ta : TA} {p pos : Pos} (hg : Gl X "range") (hm : X.mg "range" = none) (ha : PA X [a] ta) (hs : starEach [a] X.env = [(false, eval a X.env)] := by rfl) : PI X tg (.Call (.Name "range" p) [a] [] pos) (iRng1 ta) := by
  intro pins s σ H R I h
  refine Call_ (ld_blt I hg hm boot_range (PyProof.Rows.callWith_type1 (thn (ha pos pins s σ H _ I h) fun us s1 ⟨vs, H1, I1, r1, q1⟩ => ?_) hs rfl))
  obtain ⟨j, e, q1, q2, q⟩ := q1
  subst e
  cases r1 with
  | cons r rr =>
    cases rr
    obtain ⟨t, rfl⟩ := r
    exact call_range_1 (range_it I1 (by omega) (by omega) q1 q2 (by simpa using q))
theorem pi_range2 {a b : Expr} {ta : TA} {p pos : Pos} (hg : Gl X "range") (hm : X.mg "range" = none) (ha : PA X [a, b] ta) (hs : starEach [a, b] X.env = [(false, eval a X.env), (false, eval b X.env)] := by rfl) (hs2 : starEach [b] X.env = [(false, eval b X.env)] := by rfl) :
    PI X tg (.Call (.Name "range" p) [a, b] [] pos) (iRng2 ta) := by
  intro pins s σ H R I h
  refine Call_ (ld_blt I hg hm boot_range (PyProof.Rows.callWith_type1 (thn (ha pos pins s σ H _ I h) fun us s1 ⟨vs, H1, I1, r1, q1⟩ => ?_) (by rw [hs, hs2]) (by rw [hs2]; rfl)))
  obtain ⟨i, j, e, ⟨q1, q2, q3, q4⟩, q⟩ := q1
  subst e
  cases r1 with
  | cons r rr =>
    cases rr with
    | cons r' rr =>
      cases rr
      obtain ⟨t, rfl⟩ := r
      obtain ⟨t', rfl⟩ := r'
      exact call_range_2 (range_it I1 q1 q2 q3 q4 q)

def tFor (wi : TI) (g : TG) (tb : TS) : TS := fun D σ H => wi σ H fun J H1 => ∃ W : Nat → Nat → St → Hp → Prop, (∃ m, W 0 m σ H1) ∧ ∀ i m σ H, W i m σ H →
  (J.stop i H ∧ D.nx σ H) ∨ (J.go i H ∧ ∃ N : St → Hp → Prop, (∀ σ' H', N σ' H' → ∃ m', m' < m ∧ W (i + 1) m' σ' H') ∧ ∀ x H', J.yld i H x H' → g x σ H' fun σ2 H2 => tb { D with nx := N, ct := N, bk := D.nx } σ2 H2)
def pinsAt (fp : List Addr) (h : Heap) : List (Addr × Obj) := fp.filterMap fun b => (h.get? b).map fun o => (b, o)
theorem mem_pinsAt {fp : List Addr} {h : Heap} {b : Addr} {o : Obj} (hb : b ∈ fp) (e : h.get? b = some o) : (b, o) ∈ pinsAt fp h := List.mem_filterMap.mpr ⟨b, hb, by rw [e]; rfl⟩
theorem of_pinsAt {fp : List Addr} {h : Heap} {p : Addr × Obj} (hp : p ∈ pinsAt fp h) : p.1 ∈ fp ∧ h.get? p.1 = some p.2 := by
  obtain ⟨b, hb, e⟩ := List.mem_filterMap.mp hp
  cases q : h.get? b with
  | none => rw [q] at e; cases e
  | some o =>
    rw [q] at e
    have e' : (b, o) = p := Option.some.inj e
    subst e'
    exact ⟨hb, q⟩
theorem Inv.pinned {pins : List (Addr × Obj)} {σ : St} {H : Hp} {s : Shared} {fp : List Addr} (I : Inv X pins σ H s) (hf : ∀ b ∈ fp, FpOk X pins H b) (ho : ∀ b ∈ fp, ∃ o, s.heap.get? b = some o ∧ ∀ v, o.data ≠ .cell v) : Inv X (pins ++ pinsAt fp s.heap) σ H s :=
  I.pins_of fun p hp => (List.mem_append.mp hp).elim (fun z => I.pin p (List.mem_append_right _ z)) fun z => by
    obtain ⟨hb, e⟩ := of_pinsAt z
    obtain ⟨f0, f1, f2, _⟩ := hf p.1 hb
    obtain ⟨o, e', d⟩ := ho p.1 hb
    rw [e] at e'; cases e'
    exact ⟨e, f0, f1, f2, d⟩
theorem Inv.unpinned {pins pl : List (Addr × Obj)} {σ : St} {H : Hp} {s : Shared} (I : Inv X (pins ++ pl) σ H s) : Inv X pins σ H s := I.pins_of fun p hp => I.pin p (List.mem_append_right _ (List.mem_append_left _ hp))
theorem ps_for {iter : Expr} {body : List Stmt} {wi : TI} {g : TG} {tb : TS} {pos : Pos} (hp : PassesOwn (model X.prog X.w) X.A X.env X.xe) (hc : X.calm = true) (hi : PI X tg iter wi) (hg : PG X tg g) (hb : PSs X body tb)
    (hs : ∀ x, foldedSetIterable iter X.env x = pure x := by intro _; rfl) : PS X (.For tg iter body [] pos) (tFor wi g tb) := by
  intro pins s σ H D I h
  refine wpAny_For (thn (hi pins s σ H _ I h) fun v s1 h1 => thn h1 fun itv s2 h2 => ?_) hs
  obtain ⟨it, fp, tn, J, H2, e, I2, T, st2, f2, W, ⟨m0, w0⟩, turn⟩ := h2
  subst e
  -- what stays true of the iterator's objects through the loop
  have stat : ∀ {H' : Hp}, (∀ b ∈ fp, H' b = none) → ∀ b ∈ fp, FpOk X pins H' b := fun hn b hb => ⟨hn b hb, (f2 b hb).2⟩
  refine codeAny_forLoop_any (fun n s' => ∃ i σ' H', Inv X pins σ' H' s' ∧ tn i s'.heap ∧ (∀ b ∈ fp, H' b = none) ∧ W i n σ' H') ?_ m0 ⟨0, σ, H2, I2, st2, fun b hb => (f2 b hb).1, w0⟩
  rintro n s3 ⟨i, σ3, H3, I3, st3, fr3, w3⟩
  rcases turn i n σ3 H3 w3 with ⟨stop, qn⟩ | ⟨go, N, hN, step⟩
  · refine wpAny_passesOwn hp (thn (T.done X rfl rfl rfl hc i pins s3 σ3 H3 X.xe I3 (stat fr3) st3 stop) fun r s4 ⟨hr, I4⟩ => ?_)
    subst hr
    exact wpAny_execs_nil ⟨σ3, H3, I4, qn⟩
  · refine wpAny_passesOwn hp (thn (T.item X rfl rfl rfl hc i pins s3 σ3 H3 X.xe I3 (stat fr3) st3 go) fun r s4 ⟨u, hr, h4⟩ => ?_)
    subst hr
    refine wpAny_passesOwn hp (thn h4 fun _ s5 ⟨x, H5, I5, r5, y5, st5, fr5⟩ => ?_)
    have I5' := I5.pinned (stat fr5) (T.obj _ _ st5)
    refine wpAny_passesOwn hp (thn (hg _ s5 σ3 H5 x u _ I5' r5 (step x H5 y5)) fun _ s6 ⟨σ6, H6, I6, q6⟩ => ?_)
    refine wpAny_passesOwn hp (thn (hb _ s6 σ6 H6 _ I6 q6) fun f s7 q7 => ?_)
    have again : ∀ {σ7 : St} {H7 : Hp}, Inv X (pins ++ pinsAt fp s5.heap) σ7 H7 s7 → N σ7 H7 → ∃ m, m < n ∧ ∃ i σ' H', Inv X pins σ' H' s7 ∧ tn i s7.heap ∧ (∀ b ∈ fp, H' b = none) ∧ W i m σ' H' := fun {σ7 H7} I7 n7 => by
      obtain ⟨m', hm, w7⟩ := hN σ7 H7 n7
      refine ⟨m', hm, i + 1, σ7, H7, I7.unpinned, T.keep _ _ _ st5 fun b hb o e => (I7.pin (b, o) (List.mem_append_right _ (List.mem_append_right _ (mem_pinsAt hb e)))).1, fun b hb => ?_, w7⟩
      obtain ⟨o, e, d⟩ := T.obj _ _ st5 b hb
      exact (I7.pin (b, o) (List.mem_append_right _ (List.mem_append_right _ (mem_pinsAt hb e)))).2.1
    cases f with
    | next => obtain ⟨σ7, H7, I7, n7⟩ := q7; exact again I7 n7
    | cont => obtain ⟨σ7, H7, I7, n7⟩ := q7; exact again I7 n7
    | brk => obtain ⟨σ7, H7, I7, q7⟩ := q7; exact ⟨σ7, H7, I7.unpinned, q7⟩
    | ret v => obtain ⟨x7, σ7, H7, I7, r7, q7⟩ := q7; exact ⟨x7, σ7, H7, I7.unpinned, r7, q7⟩
end

theorem for_list {K : PySem.W.Frag} {a : Addr} {xs : List V} {g : TG} {tb : TS} {D : Ends} {σ : St} {H : Hp} (Pv : Nat → St → Hp → Prop) (h0 : Pv 0 σ H) (hl : ∀ i σ H, i ≤ xs.length → Pv i σ H → SqL K H a xs)
    (hs : ∀ i x σ H, xs[i]? = some x → Pv i σ H → g x σ H fun σ2 H2 => tb { D with nx := Pv (i + 1), ct := Pv (i + 1), bk := D.nx } σ2 H2) (hd : ∀ σ H, Pv xs.length σ H → D.nx σ H) :
    ∃ W : Nat → Nat → St → Hp → Prop, (∃ m, W 0 m σ H) ∧ ∀ i m σ H, W i m σ H →
      ((Itl K a).stop i H ∧ D.nx σ H) ∨ ((Itl K a).go i H ∧ ∃ N : St → Hp → Prop, (∀ σ' H', N σ' H' → ∃ m', m' < m ∧ W (i + 1) m' σ' H') ∧ ∀ x H', (Itl K a).yld i H x H' → g x σ H' fun σ2 H2 => tb { D with nx := N, ct := N, bk := D.nx } σ2 H2) := by
  refine ⟨fun i m σ H => m = xs.length - i ∧ i ≤ xs.length ∧ Pv i σ H, ⟨xs.length, by simp, Nat.zero_le _, h0⟩, ?_⟩
  rintro i m σ H ⟨rfl, hi, p⟩
  have q := hl i σ H hi p
  by_cases hlt : i < xs.length
  · refine .inr ⟨⟨xs, xs[i], q, by simp [hlt]⟩, Pv (i + 1), fun σ' H' p' => ⟨xs.length - (i + 1), by omega, rfl, hlt, p'⟩, fun x H' y => ?_⟩
    obtain ⟨e, y⟩ := y
    subst e
    exact hs i x σ _ (y xs q) p
  · have e : i = xs.length := by omega
    subst e
    exact .inl ⟨⟨xs, q, Nat.le_refl _⟩, hd σ H p⟩
theorem for_tup {K : PySem.W.Frag} {a : Addr} {xs : List V} {g : TG} {tb : TS} {D : Ends} {σ : St} {H : Hp} (Pv : Nat → St → Hp → Prop) (h0 : Pv 0 σ H) (hl : ∀ i σ H, i ≤ xs.length → Pv i σ H → SqT K H a xs)
    (hs : ∀ i x σ H, xs[i]? = some x → Pv i σ H → g x σ H fun σ2 H2 => tb { D with nx := Pv (i + 1), ct := Pv (i + 1), bk := D.nx } σ2 H2) (hd : ∀ σ H, Pv xs.length σ H → D.nx σ H) :
    ∃ W : Nat → Nat → St → Hp → Prop, (∃ m, W 0 m σ H) ∧ ∀ i m σ H, W i m σ H →
      ((Itt K a).stop i H ∧ D.nx σ H) ∨ ((Itt K a).go i H ∧ ∃ N : St → Hp → Prop, (∀ σ' H', N σ' H' → ∃ m', m' < m ∧ W (i + 1) m' σ' H') ∧ ∀ x H', (Itt K a).yld i H x H' → g x σ H' fun σ2 H2 => tb { D with nx := N, ct := N, bk := D.nx } σ2 H2) := by
  refine ⟨fun i m σ H => m = xs.length - i ∧ i ≤ xs.length ∧ Pv i σ H, ⟨xs.length, by simp, Nat.zero_le _, h0⟩, ?_⟩
  rintro i m σ H ⟨rfl, hi, p⟩
  have q := hl i σ H hi p
  by_cases hlt : i < xs.length
  · refine .inr ⟨⟨xs, xs[i], q, by simp [hlt]⟩, Pv (i + 1), fun σ' H' p' => ⟨xs.length - (i + 1), by omega, rfl, hlt, p'⟩, fun x H' y => ?_⟩
    obtain ⟨e, y⟩ := y
    subst e
    exact hs i x σ _ (y xs q) p
  · have e : i = xs.length := by omega
    subst e
    exact .inl ⟨⟨xs, q, Nat.le_refl _⟩, hd σ H p⟩
theorem for_range {lo : Int} {n : Nat} {g : TG} {tb : TS} {D : Ends} {σ : St} {H : Hp} (Pv : Nat → St → Hp → Prop) (h0 : Pv 0 σ H)
    (hs : ∀ i σ H, i < n → Pv i σ H → g (.int (lo + i)) σ H fun σ2 H2 => tb { D with nx := Pv (i + 1), ct := Pv (i + 1), bk := D.nx } σ2 H2) (hd : ∀ σ H, Pv n σ H → D.nx σ H) :
    ∃ W : Nat → Nat → St → Hp → Prop, (∃ m, W 0 m σ H) ∧ ∀ i m σ H, W i m σ H →
      ((Itr lo n).stop i H ∧ D.nx σ H) ∨ ((Itr lo n).go i H ∧ ∃ N : St → Hp → Prop, (∀ σ' H', N σ' H' → ∃ m', m' < m ∧ W (i + 1) m' σ' H') ∧ ∀ x H', (Itr lo n).yld i H x H' → g x σ H' fun σ2 H2 => tb { D with nx := N, ct := N, bk := D.nx } σ2 H2) := by
  refine ⟨fun i m σ H => m = n - i ∧ i ≤ n ∧ Pv i σ H, ⟨n, by simp, Nat.zero_le _, h0⟩, ?_⟩
  rintro i m σ H ⟨rfl, hi, p⟩
  by_cases hlt : i < n
  · refine .inr ⟨hlt, Pv (i + 1), fun σ' H' p' => ⟨n - (i + 1), by omega, rfl, hlt, p'⟩, fun x H' y => ?_⟩
    obtain ⟨e, y⟩ := y
    subst e y
    exact hs i σ _ hlt p
  · have e : i = n := by omega
    subst e
    exact .inl ⟨Nat.le_refl _, hd σ H p⟩
theorem while_by {c : TT} {tb : TS} {D : Ends} {σ : St} {H : Hp} (Pv : St → Hp → Prop) (μ : St → Hp → Nat) (h0 : Pv σ H)
    (hs : ∀ σ H, Pv σ H → c σ H fun b H1 => if b = true then tb { D with nx := fun σ' H' => Pv σ' H' ∧ μ σ' H' < μ σ H, ct := fun σ' H' => Pv σ' H' ∧ μ σ' H' < μ σ H, bk := D.nx } σ H1 else D.nx σ H1)
    (mono : ∀ σ H Q Q', (∀ b H1, Q b H1 → Q' b H1) → c σ H Q → c σ H Q') : tWhile c tb D σ H := by
  refine ⟨fun m σ H => m = μ σ H ∧ Pv σ H, ⟨_, rfl, h0⟩, ?_⟩
  rintro m σ H ⟨rfl, p⟩
  refine mono σ H _ _ (fun b H1 q => ?_) (hs σ H p)
  cases b with
  | true => exact ⟨_, fun σ' H' ⟨p', l⟩ => ⟨_, l, rfl, p'⟩, q⟩
  | false => exact q
end L2

namespace L2
open PySem PySem.Spec PyProof.Rows

abbrev R2 := V → V → Hp → VK → Prop
def OpR (X : Cx) (f : Value → Value → Sem Value) (r : R2) : Prop :=
  ∀ (pins : List (Addr × Obj)) (s : Shared) (σ : St) (H : Hp) (x y : V) (v u : Value) (Q : VK), Inv X pins σ H s → RelV x v → RelV y u → r x y H Q →
    wpAny (model X.prog X.w) X.A (f v u) (EP X pins σ Q) X.xe s
def UnR (X : Cx) (f : Value → Sem Value) (r : V → Hp → VK → Prop) : Prop :=
  ∀ (pins : List (Addr × Obj)) (s : Shared) (σ : St) (H : Hp) (x : V) (v : Value) (Q : VK), Inv X pins σ H s → RelV x v → r x H Q →
    wpAny (model X.prog X.w) X.A (f v) (EP X pins σ Q) X.xe s
def CallR (X : Cx) (f : Value) (r : List V → Hp → VK → Prop) : Prop :=
  ∀ (pins : List (Addr × Obj)) (s : Shared) (σ : St) (H : Hp) (xs : List V) (us : List Value) (Q : VK), Inv X pins σ H s → Vals xs us → r xs H Q →
    wpAny (model X.prog X.w) X.A (call f us) (EP X pins σ Q) X.xe s
def tOp (r : R2) (ta tb : TE) : TE := fun σ H Q => ta σ H fun x H1 => tb σ H1 fun y H2 => r x y H2 Q
def tUn (r : V → Hp → VK → Prop) (ta : TE) : TE := fun σ H Q => ta σ H fun x H1 => r x H1 Q
def rI (C : Int → Int → Prop) (g : Int → Int → V) : R2 := fun x y H Q => ∃ i j, x = .int i ∧ y = .int j ∧ C i j ∧ Q (g i j) H
def rI0 (g : Int → Int → V) : R2 := fun x y H Q => ∃ i j, x = .int i ∧ y = .int j ∧ Q (g i j) H
def rU (g : Int → V) : V → Hp → VK → Prop := fun x H Q => ∃ i, x = .int i ∧ Q (g i) H

section
variable {X : Cx} {a b c : Expr} {ta tb tc : TE} {pos : Pos}

theorem binT (ha : PE X a ta) (hb : PE X b tb) {pins : List (Addr × Obj)} {s : Shared} {σ : St} {H : Hp} {R : V → V → Hp → Prop} (I : Inv X pins σ H s)
    (h : ta σ H fun x H1 => tb σ H1 fun y H2 => R x y H2) {Q : Value → Shared → Prop} {f : Value → Value → Sem Value}
    (hf : ∀ v u s2 x y H2, Inv X pins σ H2 s2 → RelV x v → RelV y u → R x y H2 → wpAny (model X.prog X.w) X.A (f v u) Q X.xe s2) :
    wpAny (model X.prog X.w) X.A (eval a X.env) (fun v s₁ => wpAny (model X.prog X.w) X.A (eval b X.env) (fun u s₂ => wpAny (model X.prog X.w) X.A (f v u) Q X.xe s₂) X.xe s₁) X.xe s := by
  refine thn (ha pins s σ H _ I h) fun v s1 ⟨x, H1, I1, r1, q1⟩ => ?_
  refine thn (hb pins s1 σ H1 _ I1 q1) fun u s2 ⟨y, H2, I2, r2, q2⟩ => ?_
  exact hf v u s2 x y H2 I2 r1 r2 q2

theorem pe_op {op : Operator} {r : R2} (ho : OpR X (binaryOp op) r) (ha : PE X a ta) (hb : PE X b tb) : PE X (.BinOp a op b pos) (tOp r ta tb) := by
  intro pins s σ H Q I h
  exact wpAny_BinOp (binT ha hb I h fun v u s2 x y H2 I2 rx ry q => ho pins s2 σ H2 x y v u Q I2 rx ry q)
theorem pe_un {op : UnaryOp} {r : V → Hp → VK → Prop} (ho : UnR X (unaryOp op) r) (ha : PE X a ta) : PE X (.UnaryOp op a pos) (tUn r ta) := by
  intro pins s σ H Q I h
  exact UnaryOp_ (thn (ha pins s σ H _ I h) fun v s1 ⟨x, H1, I1, r1, q1⟩ => ho pins s1 σ H1 x v Q I1 r1 q1)
theorem opI {f : Value → Value → Sem Value} {C : Int → Int → Prop} {g : Int → Int → Int}
    (rule : ∀ (i j : Int) (t u : Tok) (s : Shared) (Q : Value → Shared → Prop) (E : Value → Shared → Prop), C i j → Q (.int (g i j) s.toks) { s with toks := s.toks + 1 } → wpAny (model X.prog X.w) X.A (f (.int i t) (.int j u)) Q E s) :
    OpR X f (rI C fun i j => .int (g i j)) := by
  intro pins s σ H x y v u Q I rx ry h
  obtain ⟨i, j, rfl, rfl, hc, q⟩ := h
  obtain ⟨t, rfl⟩ := rx
  obtain ⟨t', rfl⟩ := ry
  exact rule i j t t' s _ _ hc ⟨.int (g i j), H, I.tok _, ⟨_, rfl⟩, q⟩
theorem opI0 {f : Value → Value → Sem Value} {g : Int → Int → Int}
    (rule : ∀ (i j : Int) (t u : Tok) (s : Shared) (Q : Value → Shared → Prop) (E : Value → Shared → Prop), Q (.int (g i j) s.toks) { s with toks := s.toks + 1 } → wpAny (model X.prog X.w) X.A (f (.int i t) (.int j u)) Q E s) :
    OpR X f (rI0 fun i j => .int (g i j)) := by
  intro pins s σ H x y v u Q I rx ry h
  obtain ⟨i, j, rfl, rfl, q⟩ := h
  obtain ⟨t, rfl⟩ := rx
  obtain ⟨t', rfl⟩ := ry
  exact rule i j t t' s _ _ ⟨.int (g i j), H, I.tok _, ⟨_, rfl⟩, q⟩
theorem opB0 {f : Value → Value → Sem Value} {g : Int → Int → Bool}
    (rule : ∀ (i j : Int) (t u : Tok) (s : Shared) (Q : Value → Shared → Prop) (E : Value → Shared → Prop), Q (.bool (g i j)) s → wpAny (model X.prog X.w) X.A (f (.int i t) (.int j u)) Q E s) :
    OpR X f (rI0 fun i j => .bl (g i j)) := by
  intro pins s σ H x y v u Q I rx ry h
  obtain ⟨i, j, rfl, rfl, q⟩ := h
  obtain ⟨t, rfl⟩ := rx
  obtain ⟨t', rfl⟩ := ry
  exact rule i j t t' s _ _ ⟨.bl (g i j), H, I, rfl, q⟩

def CDiv (i j : Int) : Prop := 0 < j ∧ j < 1073741824
def CMul (i j : Int) : Prop := (-(2 ^ 64) < i ∧ i < 2 ^ 64) ∨ (-(2 ^ 64) < j ∧ j < 2 ^ 64)
theorem CMul.ok {i j : Int} (h : CMul i j) : IntMulOk i j := by
  rcases h with ⟨h1, h2⟩ | ⟨h1, h2⟩
  · exact .of_left (intBits_le_64 h1 h2)
  · exact .of_right (intBits_le_64 h1 h2)
theorem op_add : OpR X (binaryOp .Add) (rI0 fun i j => .int (i + j)) := opI0 fun _ _ _ _ _ _ _ q => add_int q
theorem op_sub : OpR X (binaryOp .Sub) (rI0 fun i j => .int (i - j)) := opI0 fun _ _ _ _ _ _ _ q => sub_int q
theorem op_mul : OpR X (binaryOp .Mult) (rI CMul fun i j => .int (i * j)) := opI fun _ _ _ _ _ _ _ hc q => mul_int q hc.ok
theorem op_fdiv : OpR X (binaryOp .FloorDiv) (rI CDiv fun i j => .int (i / j)) := opI fun i j _ _ _ _ _ hc q => by
  have h1 : (0 : Int) < j := hc.1
  have h2 : j < 1073741824 := hc.2
  exact floordiv_int (by omega) (by rw [Int.fdiv_eq_ediv_of_nonneg i (by omega)]; exact q) (.inl (PyProof.noPylong_small (by omega)))
theorem op_mod : OpR X (binaryOp .Mod) (rI (fun _ j => 0 < j) fun i j => .int (i % j)) := opI fun i j _ _ _ _ _ hc q => by
  have h1 : (0 : Int) < j := hc
  exact mod_int' (by omega) (by rw [Int.fmod_eq_emod_of_nonneg i (by omega)]; exact q)
theorem unI {f : Value → Sem Value} {g : Int → Int}
    (rule : ∀ (i : Int) (t : Tok) (s : Shared) (Q : Value → Shared → Prop) (E : Value → Shared → Prop), Q (.int (g i) s.toks) { s with toks := s.toks + 1 } → wpAny (model X.prog X.w) X.A (f (.int i t)) Q E s) :
    UnR X f (rU fun i => .int (g i)) := by
  intro pins s σ H x v Q I rx h
  obtain ⟨i, rfl, q⟩ := h
  obtain ⟨t, rfl⟩ := rx
  exact rule i t s _ _ ⟨.int (g i), H, I.tok _, ⟨_, rfl⟩, q⟩
theorem un_neg : UnR X (unaryOp .USub) (rU fun i => .int (-i)) := unI fun _ _ _ _ _ q => neg_int q
end

def scal : V → V → Bool
  | .non, .non => true | .non, .int _ => true | .int _, .non => true | .non, .bl _ => true | .bl _, .non => true | .non, .str _ => true | .str _, .non => true
  | .int _, .int _ => true | .bl _, .bl _ => true | .str _, .str _ => true | .byt _, .byt _ => true
  | .int _, .str _ => true | .str _, .int _ => true | .bl _, .str _ => true | .str _, .bl _ => true
  | _, _ => false
def rEq : R2 := fun x y H Q => scal x y = true ∧ Q (.bl (decide (x = y))) H
def rNe : R2 := fun x y H Q => scal x y = true ∧ Q (.bl (!decide (x = y))) H

theorem dec_int {i j : Int} : decide (V.int i = V.int j) = (i == j) := by
  rw [Bool.eq_iff_iff]
  simp
theorem dec_bl {i j : Bool} : decide (V.bl i = V.bl j) = (i == j) := by
  rw [Bool.eq_iff_iff]
  simp
theorem dec_str {i j : Str} : decide (V.str i = V.str j) = (i == j) := by
  rw [Bool.eq_iff_iff]
  simp
theorem dec_byt {i j : Array UInt8} : decide (V.byt i = V.byt j) = (i.toList == j.toList) := by
  rw [Bool.eq_iff_iff]
  cases i
  cases j
  simp

section
variable {X : Cx} {a b c : Expr} {ta tb tc : TE} {pos : Pos}
theorem fin_bl {pins : List (Addr × Obj)} {σ : St} {H : Hp} {s : Shared} {Q : VK} {k k' : Bool} (I : Inv X pins σ H s) (q : Q (.bl k) H) (e : k = k') : EP X pins σ Q (.bool k') s := by
  subst e
  exact ⟨.bl k, H, I, rfl, q⟩
theorem op_eq : OpR X (compareOp .Eq) rEq := by
  intro pins s σ H x y v u Q I rx ry h
  obtain ⟨hs, q⟩ := h
  cases x with
  | non =>
    cases rx
    cases y with
    | non => cases ry; exact PySem.EqNone.eq_none_none (fin_bl I q (by simp))
    | bl j => cases ry; exact PySem.EqNone.eq_none_bool (fin_bl I q (by simp))
    | int j => obtain ⟨t', rfl⟩ := ry; exact PySem.EqNone.eq_none_int (fin_bl I q (by simp))
    | str j => obtain ⟨t', rfl⟩ := ry; exact PySem.EqNone.eq_none_str (fin_bl I q (by simp))
    | _ => exact absurd (show false = true from hs) Bool.false_ne_true
  | bl i =>
    cases rx
    cases y with
    | non => cases ry; exact PySem.EqNone.eq_bool_none (fin_bl I q (by simp))
    | bl j => cases ry; exact eq_bool (fin_bl I q dec_bl)
    | str j => obtain ⟨t', rfl⟩ := ry; exact PySem.EqMixed.eq_bool_str (fin_bl I q (by simp))
    | _ => exact absurd (show false = true from hs) Bool.false_ne_true
  | int i =>
    obtain ⟨t, rfl⟩ := rx
    cases y with
    | non => cases ry; exact PySem.EqNone.eq_int_none (fin_bl I q (by simp))
    | int j => obtain ⟨t', rfl⟩ := ry; exact eq_int (fin_bl I q dec_int)
    | str j => obtain ⟨t', rfl⟩ := ry; exact PySem.EqMixed.eq_int_str (fin_bl I q (by simp))
    | _ => exact absurd (show false = true from hs) Bool.false_ne_true
  | str i =>
    obtain ⟨t, rfl⟩ := rx
    cases y with
    | non => cases ry; exact PySem.EqNone.eq_str_none (fin_bl I q (by simp))
    | bl j => cases ry; exact PySem.EqMixed.eq_str_bool (fin_bl I q (by simp))
    | int j => obtain ⟨t', rfl⟩ := ry; exact PySem.EqMixed.eq_str_int (fin_bl I q (by simp))
    | str j => obtain ⟨t', rfl⟩ := ry; exact eq_str (fin_bl I q dec_str)
    | _ => exact absurd (show false = true from hs) Bool.false_ne_true
  | byt i =>
    obtain ⟨t, rfl⟩ := rx
    cases y with
    | byt j => obtain ⟨t', rfl⟩ := ry; exact PySem.W.eq_bytes (fin_bl I q dec_byt)
    | _ => exact absurd (show false = true from hs) Bool.false_ne_true
  | _ => cases y <;> exact absurd (show false = true from hs) Bool.false_ne_true
theorem op_ne : OpR X (compareOp .NotEq) rNe := by
  intro pins s σ H x y v u Q I rx ry h
  obtain ⟨hs, q⟩ := h
  cases x with
  | non =>
    cases rx
    cases y with
    | non => cases ry; exact PySem.EqNone.ne_none_none (fin_bl I q (by simp))
    | bl j => cases ry; exact PySem.EqNone.ne_none_bool (fin_bl I q (by simp))
    | int j => obtain ⟨t', rfl⟩ := ry; exact PySem.EqNone.ne_none_int (fin_bl I q (by simp))
    | str j => obtain ⟨t', rfl⟩ := ry; exact PySem.EqNone.ne_none_str (fin_bl I q (by simp))
    | _ => exact absurd (show false = true from hs) Bool.false_ne_true
  | bl i =>
    cases rx
    cases y with
    | non => cases ry; exact PySem.EqNone.ne_bool_none (fin_bl I q (by simp))
    | bl j => cases ry; exact ne_bool (fin_bl I q (congrArg not dec_bl))
    | str j => obtain ⟨t', rfl⟩ := ry; exact PySem.EqMixed.ne_bool_str (fin_bl I q (by simp))
    | _ => exact absurd (show false = true from hs) Bool.false_ne_true
  | int i =>
    obtain ⟨t, rfl⟩ := rx
    cases y with
    | non => cases ry; exact PySem.EqNone.ne_int_none (fin_bl I q (by simp))
    | int j => obtain ⟨t', rfl⟩ := ry; exact ne_int (fin_bl I q (congrArg not dec_int))
    | str j => obtain ⟨t', rfl⟩ := ry; exact PySem.EqMixed.ne_int_str (fin_bl I q (by simp))
    | _ => exact absurd (show false = true from hs) Bool.false_ne_true
  | str i =>
    obtain ⟨t, rfl⟩ := rx
    cases y with
    | non => cases ry; exact PySem.EqNone.ne_str_none (fin_bl I q (by simp))
    | bl j => cases ry; exact PySem.EqMixed.ne_str_bool (fin_bl I q (by simp))
    | int j => obtain ⟨t', rfl⟩ := ry; exact PySem.EqMixed.ne_str_int (fin_bl I q (by simp))
    | str j => obtain ⟨t', rfl⟩ := ry; exact ne_str (fin_bl I q (congrArg not dec_str))
    | _ => exact absurd (show false = true from hs) Bool.false_ne_true
  | byt i =>
    obtain ⟨t, rfl⟩ := rx
    cases y with
    | byt j => obtain ⟨t', rfl⟩ := ry; exact PySem.W.ne_bytes (fin_bl I q (congrArg not dec_byt))
    | _ => exact absurd (show false = true from hs) Bool.false_ne_true
  | _ => cases y <;> exact absurd (show false = true from hs) Bool.false_ne_true

theorem op_lt : OpR X (compareOp .Lt) (rI0 fun i j => .bl (decide (i < j))) := opB0 fun _ _ _ _ _ _ _ q => lt_int q
theorem op_gt : OpR X (compareOp .Gt) (rI0 fun i j => .bl (decide (j < i))) := opB0 fun _ _ _ _ _ _ _ q => gt_int q
theorem nomark (b : Expr) {op : CmpOp} (h : op ≠ .In := by decide) (h2 : op ≠ .NotIn := by decide) : behindInMarks op b = false := by
  have e1 : (op == CmpOp.In) = false := by cases op <;> first | rfl | exact absurd rfl h
  have e2 : (op == CmpOp.NotIn) = false := by cases op <;> first | rfl | exact absurd rfl h2
  cases b <;> simp [behindInMarks, e1, e2]
theorem pe_cmpR {op : CmpOp} {r : R2} (ho : OpR X (compareOp op) r) (ha : PE X a ta) (hb : PE X b tb) (hm : behindInMarks op b = false) : PE X (.Compare a [op] [b] pos) (tOp r ta tb) := by
  intro pins s σ H Q I h
  exact wpAny_Compare1 (binT ha hb I h fun v u s2 x y H2 I2 rx ry q => ho pins s2 σ H2 x y v u Q I2 rx ry q) hm
def tTest (t : TE) : TT := fun σ H Q => t σ H fun x H' => ∃ k, x = .bl k ∧ Q k H'
theorem pt_cmpR {op : CmpOp} {r : R2} (ho : OpR X (compareOp op) r) (ha : PE X a ta) (hb : PE X b tb) (hm : behindInMarks op b = false) : PT X (.Compare a [op] [b] pos) (tTest (tOp r ta tb)) := by
  intro pins s σ H Q I h
  refine wpAny_isTrue_Compare1 (thn (ha pins s σ H _ I h) fun v s1 ⟨x, H1, I1, r1, q1⟩ => thn (hb pins s1 σ H1 _ I1 q1) fun u s2 ⟨y, H2, I2, r2, q2⟩ =>
    thn (ho pins s2 σ H2 x y v u _ I2 r1 r2 q2) fun c s3 ⟨z, H3, I3, r3, k, e, q3⟩ => ?_) hm
  subst e
  cases r3
  exact wpAny_truthy_bool ⟨H3, I3, q3⟩
def tChain (r r' : R2) (ta tb tc : TE) : TE := fun σ H Q => ta σ H fun x H1 => tb σ H1 fun y H2 => r x y H2 fun z H3 => ∃ k, z = .bl k ∧
  (if k = true then tc σ H3 fun w' H4 => r' y w' H4 Q else Q (.bl false) H3)
theorem line63 : (sizeLine : Nat) < 2 ^ 63 := by rw [sizeLine_eq]; decide
theorem op_add_str : OpR X (binaryOp .Add) (fun x y H Q => ∃ i j, x = .str i ∧ y = .str j ∧ i.length + j.length ≤ sizeLine ∧ Q (.str (i ++ j)) H) := by
  intro pins s σ H x y v u Q I rx ry h
  obtain ⟨i, j, rfl, rfl, hz, q⟩ := h
  obtain ⟨t, rfl⟩ := rx
  obtain ⟨t', rfl⟩ := ry
  exact add_str (fun t' tk => ⟨.str (i ++ j), H, I.tok _, ⟨_, rfl⟩, q⟩) hz
theorem vals1 {x : V} {us : List Value} (r : Vals [x] us) : ∃ u, us = [u] ∧ RelV x u := by
  cases r with
  | cons r1 r2 => cases r2; exact ⟨_, rfl, r1⟩
theorem vals2 {x y : V} {us : List Value} (r : Vals [x, y] us) : ∃ u w', us = [u, w'] ∧ RelV x u ∧ RelV y w' := by
  cases r with
  | cons r1 r2 =>
    cases r2 with
    | cons r3 r4 => cases r4; exact ⟨_, _, rfl, r1, r3⟩
theorem call_int1 : CallR X (.type "int") (fun xs H Q => (∃ i, xs = [.int i] ∧ Q (.int i) H) ∨ ∃ k, xs = [.bl k] ∧ Q (.int (if k then 1 else 0)) H) := by
  intro pins s σ H xs us Q I r h
  rcases h with ⟨i, rfl, q⟩ | ⟨k, rfl, q⟩
  · obtain ⟨u, rfl, t, rfl⟩ := vals1 r
    exact call_int_int ⟨.int i, H, I, ⟨_, rfl⟩, q⟩
  · obtain ⟨u, rfl, r1⟩ := vals1 r
    cases r1
    exact call_int_bool ⟨.int (if k then 1 else 0), H, I.tok _, ⟨_, rfl⟩, q⟩
def LenV (K : PySem.W.Frag) (x : V) (H : Hp) (n : Nat) : Prop :=
  match x with
  | .str y => y.length ≤ sizeLine ∧ n = y.length
  | .byt y => y.size ≤ sizeLine ∧ n = y.size
  | .ref p => (∃ xs, SqL K H p xs ∧ n = xs.length) ∨ ∃ xs, SqT K H p xs ∧ n = xs.length
  | _ => False
theorem call_len : CallR X (.builtin "len") (fun xs H Q => ∃ x n, xs = [x] ∧ LenV X.K x H n ∧ Q (.int n) H) := by
  intro pins s σ H xs us Q I r h
  obtain ⟨x, n, rfl, e, q⟩ := h
  obtain ⟨u, rfl, rx⟩ := vals1 r
  have hl := line63
  have hs : sizeLine = 16777216 := sizeLine_eq
  cases x with
  | str y =>
    obtain ⟨t, rfl⟩ := rx
    obtain ⟨hy, e'⟩ : y.length ≤ sizeLine ∧ n = y.length := e
    subst e'
    exact len_str (by omega) ⟨.int _, H, I.tok _, ⟨_, rfl⟩, q⟩
  | byt y =>
    obtain ⟨t, rfl⟩ := rx
    obtain ⟨hy, e'⟩ : y.size ≤ sizeLine ∧ n = y.size := e
    subst e'
    exact PySem.W.len_bytes (by omega) ⟨.int _, H, I.tok _, ⟨_, rfl⟩, q⟩
  | ref p =>
    cases rx
    have e' : (∃ xs, SqL X.K H p xs ∧ n = xs.length) ∨ ∃ xs, SqT X.K H p xs ∧ n = xs.length := e
    rcases e' with ⟨xs, hx, e'⟩ | ⟨xs, hx, e'⟩
    · subst e'
      obtain ⟨its, r', pl, hz⟩ := I.list hx
      have hlen := r'.length
      exact Calls.call_len_list pl.isList (by simp only [List.size_toArray]; omega) ⟨.int xs.length, H, I.tok _, ⟨_, by simp only [List.size_toArray]; rw [hlen]⟩, q⟩
    · subst e'
      obtain ⟨its, r', pl, hz⟩ := I.tuple hx
      have hlen := r'.length
      exact len_tuple pl (by simp only [List.size_toArray]; omega) ⟨.int xs.length, H, I.tok _, ⟨_, by simp only [List.size_toArray]; rw [hlen]⟩, q⟩
  | _ => exact (show False from e).elim
end
end L2

namespace L2
open PySem PySem.Spec PyProof.Rows

structure ObjM (h : Heap) (x dx C : Addr) (mA : Str → Option Value) : Prop where
  obj : h.get? x = some (PySem.W.instObj C dx)
  ns : h.Ns1 dx mA
  ne : dx ≠ x

theorem lookIn_ns {h : Heap} {dx : Addr} {mA : Str → Option Value} (n : h.Ns1 dx mA) : ∃ od, h.get? dx = some od ∧ ∀ name, PySem.W.lookIn name od = some (mA name) := by
  obtain ⟨o, es, ep, ho, hd, hk, _, hm⟩ := n
  refine ⟨o, ho, fun name => ?_⟩
  have e := hm name
  unfold nsFind findBy at e
  rw [← Array.find?_toList] at e
  unfold PySem.W.lookIn
  rw [hd]
  dsimp only
  split
  · rename_i y q
    rw [q] at e
    exact congrArg some e
  · rename_i q
    rw [q] at e
    have a : es.toList.any (·.refKey) = false := by
      rw [List.any_eq_false]
      intro y hy
      obtain ⟨z, t, hkey⟩ := hk y (Array.mem_toList_iff.mp hy)
      simp [DictEntry.refKey, hkey]
    have a' : ¬ es.toList.any (·.refKey) = true := by rw [a]; exact Bool.false_ne_true
    rw [if_neg a']
    exact congrArg some e

theorem ObjM.look {h : Heap} {x dx C : Addr} {mA : Str → Option Value} (I : ObjM h x dx C mA) : ∃ od, PySem.W.InstAt h x (PySem.W.instObj C dx) C (some od) ∧ ∀ name, PySem.W.lookIn name od = some (mA name) :=
  let ⟨od, ho, hl⟩ := lookIn_ns I.ns
  ⟨od, ⟨I.obj, rfl, rfl, ho⟩, hl⟩

section
variable {prog : Program} {w : World} {A : Around} {E : Value → Shared → Prop} {s : Shared} {K : PySem.W.Frag} {x dx C f : Addr} {mA : Str → Option Value} {name : Str} {v : Value}

theorem get_map {expr : Bool} {Q : Value → Shared → Prop} (X : K.In s.heap) (I : ObjM s.heap x dx C mA) (hg : PySem.W.plainGet K C name = true) (hh : PySem.W.hasDictIn K C = true)
    (ha : PySem.W.findIn K (.ref C) name = some none) (hv : mA name = some v) (hv' : PySem.W.handedIn v = true) (h : Q v { s with toks := s.toks + 1 }) :
    wpAny (model prog w) A (getAttr (.ref x) name expr) Q E s := by
  obtain ⟨od, J, hl⟩ := I.look
  exact PySem.W.get_value X J (PySem.W.plainGet_of hg).1 (PySem.W.findObj_own hh ha rfl (by rw [hl, hv])) hv' h

theorem get_meth {pl : Sem Bool} {Q : Value × List Value → Shared → Prop} (X : K.In s.heap) (I : ObjM s.heap x dx C mA) (hg : PySem.W.plainGet K C name = true)
    (hf : PySem.W.findIn K (.ref C) name = some (some (.ref f))) (ht : PySem.W.isFn K (.ref f) = true) (hv : mA name = none) (h : Q (.ref f, [.ref x]) s) :
    wpAny (model prog w) A (getMethod (.ref x) name pl) Q E s := by
  obtain ⟨od, J, hl⟩ := I.look
  exact PySem.W.method_fn X J (PySem.W.plainGet_of hg).1 (PySem.W.plainGet_of hg).2 hf (beq_iff_eq.mp ht) (by show (PySem.W.lookIn name od).map (·.isSome) = some false; rw [hl, hv]; rfl) h

theorem set_map {ns : List Str} {Q : Unit → Shared → Prop} (X : K.In s.heap) (I : ObjM s.heap x dx C mA)
    (hs : PySem.W.findIn K (.ref C) "__setattr__" = some (some (.builtin "object.__setattr__"))) (hp : PySem.W.plainOver K C = true) (ht : PySem.W.takerIn K C name = some none) (hh : PySem.W.hasDictIn K C = true)
    (hw : PySem.Within mA ns) (hsz : ns.length ≤ sizeLine)
    (h : ∀ h', ObjM h' x dx C (fun y => if y = name then some v else mA y) → Heap.SameBut dx s.heap h' → Q () { s with heap := h', toks := s.toks + 2 }) :
    wpAny (model prog w) A (setAttr (.ref x) name v) Q E s := by
  obtain ⟨od, J, hl⟩ := I.look
  refine PySem.W.set_plain X J hs (PySem.W.osa_open (s := { s with toks := s.toks + 1 }) (r := none) X J hp ht fun b => ?_)
  obtain ⟨cd, hc, hd'⟩ := PySem.W.any_some hh
  have hx : s.heap.get? x = some ⟨.ref C, some dx, .plain, #[]⟩ := I.obj
  refine wpAny_bind (wpAny_pure (wpAny_bind (wpAny_bind (wpAny_loadPart hx (wpAny_bind (PySem.W.Looks.here (s := { s with toks := s.toks + 1 }) (PySem.W.looks_clsIn X hc) ?_))))))
  rw [hd']
  refine wpAny_pure (a := some dx) (wpAny_bind (wpAny_pure (wpAny_bind ?_)))
  refine wpAny_nsSet1 (s := { s with toks := s.toks + 1 }) I.ns fun h' hn2 hs2 => ?_
  obtain ⟨oD, esD, epD, hoD, hdD, hcD⟩ := hn2.count (PySem.Within.cons name v hw)
  refine wpAny_bind (wpAny_lookBehind hoD (by rw [hdD]; exact pastItsLine_dict (Nat.le_trans hcD (by rw [List.length_cons]; omega))) ?_)
  exact wpAny_pure (h _ ⟨(hs2.2 _ (Ne.symm I.ne)).trans I.obj, hn2, I.ne⟩ hs2)

theorem make_map {R : Result → Shared → Prop} {vs : List Value} {kw : List (Str × Value)} (X : K.In s.heap) (hm : PySem.W.makesIn K C = true)
    (hi : PySem.W.findIn K (.ref C) "__init__" = some (some (.ref f))) (hf : PySem.W.typeIn K (.ref f) = some (.type "function"))
    (h : codeAny (model prog w) (A.under (.builtin "type.__call__" ⟨.ref C :: vs, kw⟩)) (.call (.ref f) ⟨.ref (s.heap.objs.size + 1) :: vs, kw⟩) (PySem.W.InitBack (s.heap.objs.size + 1) R)
      { s with heap := (s.heap.push PySem.W.emptyDict).push (PySem.W.instObj C s.heap.objs.size) }) :
    codeAny (model prog w) A (.call (.ref C) ⟨vs, kw⟩) R s := by
  obtain ⟨hh, g, d, t, os⟩ := s
  exact PySem.W.make_core (PySem.W.makes_of X hm) (PySem.W.looks_findIn X hi) (fun self => PySem.W.bind_fn X self hf) (.inl rfl) h
end

def putF (f : Str) (v : V) : List (Str × V) → List (Str × V)
  | [] => [(f, v)]
  | (g, x) :: r => if g = f then (g, v) :: r else (g, x) :: putF f v r
theorem lookup_putF (f g : Str) (v : V) : ∀ fs : List (Str × V), (putF f v fs).lookup g = if g = f then some v else fs.lookup g
  | [] => by
    show List.lookup g [(f, v)] = _
    by_cases h : g = f
    · have hb : (g == f) = true := beq_iff_eq.mpr h
      simp only [List.lookup, hb, if_pos h]
    · have hb : (g == f) = false := beq_eq_false_iff_ne.mpr h
      simp only [List.lookup, hb, if_neg h]
  | (k, x) :: r => by
    have ih := lookup_putF f g v r
    rw [show putF f v ((k, x) :: r) = (if k = f then (k, v) :: r else (k, x) :: putF f v r) from rfl]
    by_cases hk : k = f
    · rw [if_pos hk]
      by_cases h : g = k
      · have hb : (g == k) = true := beq_iff_eq.mpr h
        simp only [List.lookup, hb, if_pos (h.trans hk)]
      · have hb : (g == k) = false := beq_eq_false_iff_ne.mpr h
        simp only [List.lookup, hb, if_neg (fun e : g = f => h (e.trans hk.symm))]
    · rw [if_neg hk]
      by_cases h : g = k
      · have hb : (g == k) = true := beq_iff_eq.mpr h
        simp only [List.lookup, hb, if_neg (fun e : g = f => hk (h.symm.trans e))]
      · have hb : (g == k) = false := beq_eq_false_iff_ne.mpr h
        simp only [List.lookup, hb]
        exact ih
theorem keys_putF (f : Str) (v : V) : ∀ fs : List (Str × V), f ∈ (putF f v fs).map (·.1) ∧ ∀ g, g ∈ fs.map (·.1) → g ∈ (putF f v fs).map (·.1)
  | [] => ⟨by simp [putF], fun g h => by simp at h⟩
  | (k, x) :: r => by
    obtain ⟨i1, i2⟩ := keys_putF f v r
    rw [show putF f v ((k, x) :: r) = (if k = f then (k, v) :: r else (k, x) :: putF f v r) from rfl]
    by_cases hk : k = f
    · rw [if_pos hk]
      subst hk
      exact ⟨by simp, fun g h => by simpa using h⟩
    · rw [if_neg hk]
      refine ⟨?_, fun g h => ?_⟩
      · rw [List.map_cons]
        exact List.mem_cons_of_mem _ i1
      · rw [List.map_cons] at h ⊢
        rcases List.mem_cons.mp h with e | e
        · exact List.mem_cons.mpr (.inl e)
        · exact List.mem_cons_of_mem _ (i2 g e)
theorem length_putF (f : Str) (v : V) : ∀ fs : List (Str × V), (putF f v fs).length ≤ fs.length + 1
  | [] => by simp [putF]
  | (k, x) :: r => by
    have ih := length_putF f v r
    rw [show putF f v ((k, x) :: r) = (if k = f then (k, v) :: r else (k, x) :: putF f v r) from rfl]
    by_cases hk : k = f
    · rw [if_pos hk, List.length_cons, List.length_cons]; omega
    · rw [if_neg hk, List.length_cons, List.length_cons]; omega

theorem RelO.some_of {v : V} {o : Option Value} (r : RelO (some v) o) : ∃ u, o = some u ∧ RelV v u := by
  cases o with
  | none => exact (show False from r).elim
  | some u => exact ⟨u, rfl, r⟩
theorem RelO.none_of {o : Option Value} (r : RelO none o) : o = none := by
  cases o with
  | none => rfl
  | some u => exact (show False from r).elim
theorem handed_of {v : V} {u : Value} (r : RelV v u) : PySem.W.handedIn u = true := by
  cases v with
  | non => cases (show u = Value.none from r); rfl
  | bl b => cases (show u = Value.bool b from r); rfl
  | int i => obtain ⟨t, e⟩ := (show ∃ t, u = Value.int i t from r); cases e; rfl
  | str x => obtain ⟨t, e⟩ := (show ∃ t, u = Value.str x t from r); cases e; rfl
  | byt b => obtain ⟨t, e⟩ := (show ∃ t, u = Value.bytes b t from r); cases e; rfl
  | flt b => obtain ⟨t, e⟩ := (show ∃ t, u = Value.float b t from r); cases e; rfl
  | ref a => cases (show u = Value.ref a from r); rfl
  | ty n => cases (show u = Value.type n from r); rfl

section
variable {P : Program} {w : World} {H H' : Hp} {h h' : Heap} {a C dx : Addr} {fs fs' : List (Str × V)}
theorem ins_get (hok : HOk P w H h) (e : H a = some (.ins C dx fs)) : ∃ mA, ObjM h a dx C mA ∧ (∀ f, RelO (fs.lookup f) (mA f)) ∧ PySem.Within mA (fs.map (·.1)) ∧ fs.length ≤ 1000 ∧ H dx = some (.own a) := by
  obtain ⟨d, z, ne, ob, mA, n, r, q⟩ := (show ObjOk P w H h a (.ins C dx fs) from hok a _ e)
  exact ⟨mA, ⟨ob, n, ne⟩, r, q, z, d⟩
end

structure Cls (K : PySem.W.Frag) (C : Addr) : Prop where
  pg : PySem.W.plainGet K C Str.empty = true
  hd : PySem.W.hasDictIn K C = true
  po : PySem.W.plainOver K C = true
  sa : PySem.W.findIn K (.ref C) "__setattr__" = some (some (.builtin "object.__setattr__"))
theorem Cls.get {K : PySem.W.Frag} {C : Addr} (c : Cls K C) (f : Str) : PySem.W.plainGet K C f = true := c.pg
def NoAttr (K : PySem.W.Frag) (C : Addr) (f : Str) : Prop := PySem.W.findIn K (.ref C) f = some none
theorem NoAttr.taker {K : PySem.W.Frag} {C : Addr} {f : Str} (n : NoAttr K C f) : PySem.W.takerIn K C f = some none := by
  unfold PySem.W.takerIn
  rw [show PySem.W.findIn K (.ref C) f = some none from n]
  rfl
structure Meth (K : PySem.W.Frag) (C : Addr) (m : Str) (f : Addr) : Prop where
  at_ : PySem.W.findIn K (.ref C) m = some (some (.ref f))
  fn : PySem.W.isFn K (.ref f) = true
  kp : PySem.W.keepIn K (.ref f) = true

section
variable {X : Cx} {pins : List (Addr × Obj)} {σ : St} {H : Hp} {s : Shared} {a C dx : Addr} {fs : List (Str × V)} {f : Str} {v : V} {A : Around} {E : Value → Shared → Prop}

theorem getattr_ok {b : Bool} {Q : Value → Shared → Prop} (I : Inv X pins σ H s) (e : H a = some (.ins C dx fs)) (c : Cls X.K C) (n : NoAttr X.K C f) (l : fs.lookup f = some v)
    (h : ∀ u s', Inv X pins σ H s' → RelV v u → Q u s') : wpAny (model X.prog X.w) A (getAttr (.ref a) f b) Q E s := by
  obtain ⟨mA, O, r, _, _, _⟩ := ins_get I.hok e
  obtain ⟨u, hu, ru⟩ := RelO.some_of (v := v) (o := mA f) (by rw [← l]; exact r f)
  exact get_map I.kIn O (c.get f) c.hd n hu (handed_of ru) (h u _ (I.tok _) ru)

theorem getmeth_ok {m : Str} {g : Addr} {pl : Sem Bool} {Q : Value × List Value → Shared → Prop} (I : Inv X pins σ H s) (e : H a = some (.ins C dx fs)) (c : Cls X.K C) (k : Meth X.K C m g) (l : fs.lookup m = none)
    (h : Q (.ref g, [.ref a]) s) : wpAny (model X.prog X.w) A (getMethod (.ref a) m pl) Q E s := by
  obtain ⟨mA, O, r, _, _, _⟩ := ins_get I.hok e
  have hn : mA m = none := RelO.none_of (by rw [← l]; exact r m)
  exact get_meth I.kIn O (c.get m) k.at_ k.fn hn h

theorem setattr_ok {y : V} {u : Value} {Q : Unit → Shared → Prop} (I : Inv X pins σ H s) (e : H a = some (.ins C dx fs)) (c : Cls X.K C) (n : NoAttr X.K C f) (hl : fs.length < 1000) (ry : RelV y u)
    (h : ∀ s', Inv X pins σ (upd H a (.ins C dx (putF f y fs))) s' → Q () s') : wpAny (model X.prog X.w) A (setAttr (.ref a) f u) Q E s := by
  obtain ⟨mA, O, r, wi, _, ho⟩ := ins_get I.hok e
  have hz : (fs.map (·.1)).length ≤ sizeLine := by rw [List.length_map, sizeLine_eq]; omega
  refine set_map I.kIn O c.sa c.po n.taker c.hd wi hz fun h' O' sb => h _ ?_
  have hd : ∃ o, h'.get? dx = some o := let ⟨o, _, _, e', _⟩ := O'.ns; ⟨o, e'⟩
  refine I.write (x := a) (e := dx) (by rw [e]; exact True.intro) (.inr ho) (fun b q hb z => (sb.2 b hb).trans z) hd ?_
  refine ⟨by rw [upd_ne O.ne]; exact ho, ?_, O.ne, O'.obj, _, O'.ns, fun g => ?_, fun g hg => ?_⟩
  · have := length_putF f y fs; omega
  · show RelO ((putF f y fs).lookup g) (if g = f then some u else mA g)
    rw [lookup_putF]
    by_cases q : g = f
    · rw [if_pos q, if_pos q]; exact ry
    · rw [if_neg q, if_neg q]; exact r g
  · by_cases q : g = f
    · rw [q]; exact (keys_putF f y fs).1
    · refine (keys_putF f y fs).2 g (wi g fun z => hg ?_)
      show (if g = f then some u else mA g) = none
      rw [if_neg q]; exact z

theorem Inv.made (I : Inv X pins σ H s) : Inv X pins σ (upd (upd H s.heap.objs.size (.own (s.heap.objs.size + 1))) (s.heap.objs.size + 1) (.ins C s.heap.objs.size []))
    { s with heap := (s.heap.push PySem.W.emptyDict).push (PySem.W.instObj C s.heap.objs.size) } := by
  have e1 : (s.heap.push PySem.W.emptyDict).get? s.heap.objs.size = some PySem.W.emptyDict := Heap.get?_push_size s.heap rfl
  have e2 : ((s.heap.push PySem.W.emptyDict).push (PySem.W.instObj C s.heap.objs.size)).get? (s.heap.objs.size + 1) = some (PySem.W.instObj C s.heap.objs.size) := by
    have := Heap.get?_push_size (s.heap.push PySem.W.emptyDict) (o := PySem.W.instObj C s.heap.objs.size) rfl
    rwa [Heap.size_push] at this
  have e3 : (s.heap.push PySem.W.emptyDict).Ns s.heap.objs.size (fun _ => none) := ⟨PySem.W.emptyDict, #[], _, e1, rfl, (fun e he => absurd he (by simp)), fun _ => rfl⟩
  have I1 := I.laid (a := s.heap.objs.size) (o := .own (s.heap.objs.size + 1)) (h' := s.heap.push PySem.W.emptyDict) (t' := s.toks) (fun b u q => Heap.get?_push_of_some _ q) (Nat.le_refl _) ⟨_, e1⟩
  refine I1.laid (a := s.heap.objs.size + 1) (o := .ins C s.heap.objs.size []) (t' := s.toks) (fun b u q => Heap.get?_push_of_some _ q) (Nat.le_of_eq (Heap.size_push _ _)) ?_
  have ne : s.heap.objs.size ≠ s.heap.objs.size + 1 := Nat.ne_of_lt (Nat.lt_succ_self _)
  refine ⟨by rw [upd_ne ne, upd_same], Nat.zero_le _, ne, e2, fun _ => none, (Heap.Ns1.of_empty e3).at fun o q => Heap.get?_push_of_some _ q, fun _ => True.intro, fun y hy => absurd rfl hy⟩

theorem attr_of {prog : Program} {w : World} {env : Env} {e : Expr} {f : Str} {pos : Pos} {s : Shared} {Q : Value → Shared → Prop} (hb : attributeBase e f env (eval e env) = eval e env)
    (h : wpAny (model prog w) A (eval e env) (fun o s₁ => wpAny (model prog w) A (getAttr o f true) Q E s₁) E s) : wpAny (model prog w) A (eval (.Attribute e f pos) env) Q E s :=
  Attribute_any_ h (by rw [arm_eval_Attribute, hb])
end

def tFld (K : PySem.W.Frag) (ta : TE) (f : Str) : TE := fun σ H Q => ta σ H fun x H1 => ∃ a C dx fs v, x = .ref a ∧ H1 a = some (.ins C dx fs) ∧ Cls K C ∧ NoAttr K C f ∧ fs.lookup f = some v ∧ Q v H1
def sFld (K : PySem.W.Frag) (ta tv : TE) (f : Str) : TS := fun D σ H => tv σ H fun y H1 => ta σ H1 fun x H2 => ∃ a C dx fs, x = .ref a ∧ H2 a = some (.ins C dx fs) ∧ Cls K C ∧ NoAttr K C f ∧ fs.length < 1000 ∧
  D.nx σ (upd H2 a (.ins C dx (putF f y fs)))
section
variable {X : Cx} {o e value : Expr} {f : Str} {pos pos' tpos : Pos} {ta tv : TE}
theorem pe_fld (he : PE X e ta) (hb : attributeBase e f X.env (eval e X.env) = eval e X.env) : PE X (.Attribute e f pos) (tFld X.K ta f) := by
  intro pins s σ H Q I h
  refine attr_of hb (thn (he pins s σ H _ I h) fun u s1 ⟨x, H1, I1, rx, a, C, dx, fs, v, ex, ea, c, n, l, q⟩ => ?_)
  subst ex
  obtain rfl : u = Value.ref a := rx
  exact getattr_ok I1 ea c n l fun u' s2 I2 ru => ⟨v, H1, I2, ru, q⟩
theorem ps_fld (ha : PE X o ta) (hv : PE X value tv) (hs : swapsWith value (some (.Attribute o f pos')) pos.line X.env = pure false) : PS X (.Assign [.Attribute o f pos'] value pos) (sFld X.K ta tv f) := by
  intro pins s σ H D I h
  refine plainObj_wpAny_Assign_Attribute (thn (hv pins s σ H _ I h) fun u s1 ⟨y, H1, I1, ry, q⟩ => thn (ha pins s1 σ H1 _ I1 q) fun ov s2 ⟨x, H2, I2, rx, a, C, dx, fs, ex, ea, c, n, l, q2⟩ => ?_) hs
  subst ex
  obtain rfl : ov = Value.ref a := rx
  exact setattr_ok I2 ea c n l ry fun s3 I3 => ⟨σ, _, I3, q2⟩
end

section
variable {X : Cx} {pins : List (Addr × Obj)} {σ : St} {H : Hp} {s : Shared} {A : Around} {E : Value → Shared → Prop} {Q : Value → Shared → Prop} {c : Value} {b : Bool}
inductive TyOf (K : PySem.W.Frag) (H : Hp) : V → Value → Prop where
  | non : TyOf K H .non (.type "NoneType")
  | bl (x : Bool) : TyOf K H (.bl x) (.type "bool")
  | int (i : Int) : TyOf K H (.int i) (.type "int")
  | str (x : Str) : TyOf K H (.str x) (.type "str")
  | flt (x : UInt64) : TyOf K H (.flt x) (.type "float")
  | lst {a : Addr} {xs : List V} (e : H a = some (.lst xs)) : TyOf K H (.ref a) (.type "list")
  | frz {a : Addr} {o : Obj} {xs : List V} (e : H a = some (.frz o (.lst xs))) : TyOf K H (.ref a) (.type "list")
  | tup {a : Addr} {xs : List V} (e : H a = some (.tup xs)) : TyOf K H (.ref a) (.type "tuple")
  | dK {a : Addr} {kvs : List (Key × V)} (e : H a = some (.dK kvs)) : TyOf K H (.ref a) (.type "dict")
  | dT {a : Addr} {kvs : List (List Key × V)} (e : H a = some (.dT kvs)) : TyOf K H (.ref a) (.type "dict")
  | ins {a C dx : Addr} {fs : List (Str × V)} (e : H a = some (.ins C dx fs)) (cl : Cls K C) (ha : PySem.W.findIn K (.ref C) "__class__" = some (some (.builtin "object.__class__")))
      (hn : PySem.W.specialIn K (.builtin "object.__class__") "__get__" = some (some (.builtin "getset_descriptor.__get__"))) (htk : PySem.W.takesIn K (.builtin "object.__class__") = some true)
      (hm : PySem.W.mroIn K C (.type "object") = some true) : TyOf K H (.ref a) (.ref C)
theorem isinst_ok {x : V} {u t : Value} (I : Inv X pins σ H s) (rx : RelV x u) (ty : TyOf X.K H x t) (e : PySem.W.kitOne X.K t c = some b) (h : ∀ tk, Q (.bool b) { s with toks := tk }) :
    wpAny (model X.prog X.w) A (call (.builtin "isinstance") [u, c]) Q E s := by
  cases ty with
  | non => cases (show u = Value.none from rx); exact PySem.W.kia_one PySem.W.kitx_none I.kIn True.intro e (fun z => nomatch z) h
  | bl y => cases (show u = Value.bool y from rx); exact PySem.W.kia_one PySem.W.kitx_bool I.kIn True.intro e (fun z => nomatch z) h
  | int i => obtain ⟨t, q⟩ := (show ∃ t, u = Value.int i t from rx); cases q; exact PySem.W.kia_one PySem.W.kitx_int I.kIn True.intro e (fun z => nomatch z) h
  | str y => obtain ⟨t, q⟩ := (show ∃ t, u = Value.str y t from rx); cases q; exact PySem.W.kia_one PySem.W.kitx_str I.kIn True.intro e (fun z => nomatch z) h
  | flt y => obtain ⟨t, q⟩ := (show ∃ t, u = Value.float y t from rx); cases q; exact PySem.W.kia_one PySem.W.kitx_float I.kIn True.intro e (fun z => nomatch z) h
  | @lst a xs ea =>
    cases (show u = Value.ref a from rx)
    obtain ⟨_, _, n, _, h1⟩ := (show ObjOk X.prog X.w H s.heap a (.lst xs) from I.hok a _ ea)
    exact PySem.W.kia_one PySem.W.kitx_list I.kIn ⟨_, h1, rfl⟩ e (fun z => nomatch z) h
  | @frz a ob xs ea =>
    cases (show u = Value.ref a from rx)
    obtain ⟨_, _, _, n, _, h1⟩ := (show ObjOk X.prog X.w H s.heap a (.frz ob (.lst xs)) from I.hok a _ ea)
    exact PySem.W.kia_one PySem.W.kitx_list I.kIn ⟨_, h1, rfl⟩ e (fun z => nomatch z) h
  | @tup a xs ea =>
    cases (show u = Value.ref a from rx)
    obtain ⟨_, _, _, p⟩ := (show ObjOk X.prog X.w H s.heap a (.tup xs) from I.hok a _ ea)
    obtain ⟨o, h1, h2, _⟩ := p
    exact PySem.W.kia_one PySem.W.kitx_tuple I.kIn ⟨o, h1, h2⟩ e (fun z => nomatch z) h
  | @dK a kvs ea =>
    cases (show u = Value.ref a from rx)
    obtain ⟨_, _, vs, _, p⟩ := (show ObjOk X.prog X.w H s.heap a (.dK kvs) from I.hok a _ ea)
    obtain ⟨o, es, ep, h1, h2, _⟩ := p
    exact PySem.W.kia_one PySem.W.kitx_dict I.kIn ⟨o, h1, h2.1⟩ e (fun z => nomatch z) h
  | @dT a kvs ea =>
    cases (show u = Value.ref a from rx)
    obtain ⟨_, _, xs, _, o, es, ep, h1, h2, _⟩ := (show ObjOk X.prog X.w H s.heap a (.dT kvs) from I.hok a _ ea)
    exact PySem.W.kia_one PySem.W.kitx_dict I.kIn ⟨o, h1, h2.1⟩ e (fun z => nomatch z) h
  | @ins a C dx fs ea cl ha hn htk hm =>
    cases (show u = Value.ref a from rx)
    obtain ⟨mA, O, _⟩ := ins_get I.hok ea
    obtain ⟨od, J, _⟩ := O.look
    exact PySem.W.kia_one (PySem.W.kitx_own (cl.get _) cl.hd ha hn htk hm) I.kIn J e (fun z => nomatch z) h
end
end L2

namespace L2
open PySem PySem.Spec PyProof.Rows

structure Room (k : Nat) (A : Around) : Prop where
  hd : A.handled = none
  dp : A.depth + 3 * k + 5 < recursionLimit
  un : A.units + 16 * k + 200 < cLine
theorem Room.mono {j k : Nat} {A : Around} (r : Room k A) (h : j ≤ k) : Room j A := ⟨r.hd, by have := r.dp; omega, by have := r.un; omega⟩
theorem Room.deeper {k : Nat} {A : Around} (r : Room (k + 1) A) (env : Env) : Room k (A.deeper env) :=
  ⟨r.hd, by have := r.dp; show A.depth + 1 + 3 * k + 5 < _; omega, by have := r.un; show A.units + 3 + 16 * k + 200 < _; omega⟩
theorem make_depth {A : Around} {C : Addr} {us : List Value} {kw : List (Str × Value)} : (A.under (.builtin "type.__call__" ⟨.ref C :: us, kw⟩)).depth = A.depth + 1 := by
  first | rfl | simp [Around.under, Code.weight, Code.isCreation, Code.isGuard, Code.isCaller, Code.frames, Code.isFrame, guardIds]
theorem make_units {A : Around} {C : Addr} {us : List Value} {kw : List (Str × Value)} : (A.under (.builtin "type.__call__" ⟨.ref C :: us, kw⟩)).units = A.units + 1 := by
  first | rfl | simp [Around.under, Code.cUnits, Code.frames, Code.isFrame]
theorem Room.make {k : Nat} {A : Around} (r : Room (k + 1) A) (C : Addr) (us : List Value) (kw : List (Str × Value)) : Room k (A.under (.builtin "type.__call__" ⟨.ref C :: us, kw⟩)) :=
  ⟨r.hd, by have := r.dp; rw [make_depth]; omega, by have := r.un; rw [make_units]; omega⟩
theorem Room.depth {k : Nat} {A : Around} (r : Room k A) : A.depth < recursionLimit := by have := r.dp; omega
theorem Room.units {k : Nat} {A : Around} (r : Room k A) : A.units + 64 < cLine := by have := r.un; omega
def tNil : TA := fun _ H Q => Q [] H
def tCons (ta : TE) (tr : TA) : TA := fun σ H Q => ta σ H fun x H1 => tr σ H1 fun xs H2 => Q (x :: xs) H2
section
variable {X : Cx} {e : Expr} {es : List Expr} {te : TE} {t : TA} {pos : Pos}
theorem pa_nil : PA X [] tNil := fun _ _ _ _ H Q I h => Calls.spliced_nil ⟨[], H, I, .nil, h⟩
theorem pa_cons (ha : PE X e te) (hr : PA X es t) (hs : starEach (e :: es) X.env = (false, eval e X.env) :: starEach es X.env := by rfl) : PA X (e :: es) (tCons te t) := by
  intro pos pins s σ H Q I h
  rw [hs]
  show wpAny _ _ (spliced ((false, eval e X.env) :: backTo pos (starEach es X.env))) _ _ s
  refine Calls.spliced_cons (thn (ha pins s σ H _ I h) fun u s1 ⟨x, H1, I1, r1, q1⟩ => ?_)
  exact thn (hr pos pins s1 σ H1 _ I1 q1) fun us s2 ⟨xs, H2, I2, r2, q2⟩ => ⟨x :: xs, H2, I2, .cons r1 r2, q2⟩

def tTup (t : TA) : TE := fun σ H Q => t σ H fun xs H1 => xs.length ≤ sizeLine ∧ ∀ p, H1 p = none → Q (.ref p) (upd H1 p (.tup xs))
def tLst (t : TA) : TE := fun σ H Q => t σ H fun xs H1 => xs.length ≤ sizeLine ∧ ∀ p, H1 p = none → Q (.ref p) (upd H1 p (.lst xs))
theorem pe_tup {x1} (h : PA X es t) : PE X (.Tuple es x1 pos) (tTup t) := by
  intro pins s σ H Q I hq
  refine wpAny_Tuple_spliced (thn (h pos pins s σ H _ I hq) fun us s1 ⟨xs, H1, I1, r, z, q⟩ => ⟨by rw [← r.length]; exact z, ?_⟩)
  have hf : H1 s1.heap.objs.size = none := I1.hok.fresh (Nat.le_refl _)
  refine ⟨.ref s1.heap.objs.size, upd H1 s1.heap.objs.size (.tup xs), I1.laid (t' := s1.toks) (fun b u e => Heap.get?_push_of_some _ e) (Nat.le_refl _) ?_, rfl, q _ hf⟩
  exact ⟨z, us, r, ⟨_, Heap.get?_push_size _ rfl, rfl, _, rfl⟩⟩
theorem pe_lst (h : PA X es t) : PE X (.List es pos) (tLst t) := by
  intro pins s σ H Q I hq
  refine wpAny_List_spliced (thn (h pos pins s σ H _ I hq) fun us s1 ⟨xs, H1, I1, r, z, q⟩ => ⟨by rw [← r.length]; exact z, ?_⟩)
  have hf : H1 s1.heap.objs.size = none := I1.hok.fresh (Nat.le_refl _)
  refine ⟨.ref s1.heap.objs.size, upd H1 s1.heap.objs.size (.lst xs), I1.laid (t' := s1.toks) (fun b u e => Heap.get?_push_of_some _ e) (Nat.le_refl _) ?_, rfl, q _ hf⟩
  exact ⟨z, us, 0, r, Heap.get?_push_size _ rfl⟩
end

abbrev Sp := List V → Hp → VK → XK → Prop
abbrev CXT := List Env → Hp → Shared → XK → Value → Shared → Prop

structure Env0 (P : Program) (w : World) (K : PySem.W.Frag) (mg : Str → Option Value) (base : Heap) (A : Around) (outer : List Env) (s : Shared) (H : Hp) : Prop where
  frames : A.frames = some outer
  mod : Mod K mg base
  bs : ∀ b o, base.get? b = some o → s.heap.get? b = some o ∧ H b = none
  bsz : base.objs.size ≤ s.heap.objs.size
  funs : s.heap.FunFrames base outer
  frf : ∀ b ∈ frs outer, H b = none
  hok : HOk P w H s.heap
  bare : AllBare s.gens
def CE (outer : List Env) (P : Program) (w : World) (H : Hp) (s : Shared) (Q : VK) (u : Value) (s' : Shared) : Prop :=
  ∃ v H', s'.os = s.os ∧ AllBare s'.gens ∧ Un (frs outer) [] H H' s.heap s'.heap ∧ HOk P w H' s'.heap ∧ RelV v u ∧ Q v H'
def CR (CX : CXT) (outer : List Env) (P : Program) (w : World) (H : Hp) (s : Shared) (Q : VK) (E : XK) (r : Result) (s' : Shared) : Prop :=
  match r with
  | .ok (.ret u) => CE outer P w H s Q u s'
  | .ok _ => False
  | .error e => CX outer H s E e s'
structure FnOk (P : Program) (w : World) (K : PySem.W.Frag) (mg : Str → Option Value) (base : Heap) (CX : CXT) (k : Nat) (f : Addr) (fd : FuncData) (ps : List Str) (sp : Sp) : Prop where
  len : ∀ vs H Q E, sp vs H Q E → vs.length = ps.length
  run : ∀ (A : Around) (outer : List Env) (s : Shared) (H : Hp) (args : Args) (us : List Value) (vs : List V) (Q : VK) (E : XK), Room k A → Env0 P w K mg base A outer s H → BindsTo s fd args (ps.zip us) → Vals vs us → sp vs H Q E →
    codeAny (model P w) A (.call (.ref f) args) (CR CX outer P w H s Q E) s
theorem FnOk.mono {P : Program} {w : World} {K : PySem.W.Frag} {mg : Str → Option Value} {base : Heap} {CX : CXT} {j k : Nat} {f : Addr} {fd : FuncData} {ps : List Str} {sp : Sp} (F : FnOk P w K mg base CX j f fd ps sp) (h : j ≤ k) :
    FnOk P w K mg base CX k f fd ps sp := ⟨F.len, fun A outer s H args us vs Q E hr => F.run A outer s H args us vs Q E (hr.mono h)⟩
theorem Env0.make {P : Program} {w : World} {K : PySem.W.Frag} {mg : Str → Option Value} {base : Heap} {A : Around} {outer : List Env} {s : Shared} {H : Hp} (e : Env0 P w K mg base A outer s H) (C : Addr) (us : List Value) (kw : List (Str × Value)) :
    Env0 P w K mg base (A.under (.builtin "type.__call__" ⟨.ref C :: us, kw⟩)) outer s H := ⟨by first | exact e.frames | (simpa [Around.under, Code.envs, Code.isFrame, pushEnvs] using e.frames), e.mod, e.bs, e.bsz, e.funs, e.frf, e.hok, e.bare⟩
section
variable {X : Cx} {pins : List (Addr × Obj)} {σ : St} {H : Hp} {s s' : Shared}
theorem Inv.env0 (I : Inv X pins σ H s) : Env0 X.prog X.w X.K X.mg X.base X.A X.stack s H :=
  ⟨I.ok.frames, I.ok.mod, I.bs, Nat.le_trans I.ok.bsz I.sz, I.stack, I.stkFree, I.hok, I.bare⟩
theorem Inv.after {Q : VK} {u : Value} (I : Inv X pins σ H s) (h : CE X.stack X.prog X.w H s Q u s') : EP X pins σ Q u s' := by
  obtain ⟨v, H', os, bare, un, hok, r, q⟩ := h
  obtain ⟨hh, g, d, t, os'⟩ := s'
  obtain rfl : os' = s.os := os
  exact ⟨v, H', I.call (h' := hh) (g' := g) (d' := d) (t' := t) (ch := []) un hok bare (fun b z => absurd z (by simp)), r, q⟩
end

def tCall (sp : Sp) (dvs : List V) (E : XK) (t : TA) : TE := fun σ H Q => t σ H fun vs H1 => sp (vs ++ dvs) H1 Q E
def tMeth (C : Addr) (m : Str) (sp : Sp) (dvs : List V) (E : XK) (ta : TE) (t : TA) : TE := fun σ H Q => ta σ H fun x H1 => ∃ a dx fs, x = .ref a ∧ H1 a = some (.ins C dx fs) ∧ fs.lookup m = none ∧
  t σ H1 fun vs H2 => sp (x :: (vs ++ dvs)) H2 Q E
def tMake (C : Addr) (sp : Sp) (dvs : List V) (E : XK) (t : TA) : TE := fun σ H Q => t σ H fun vs H1 => ∀ x dx, H1 x = none → H1 dx = none → dx ≠ x →
  sp (.ref x :: (vs ++ dvs)) (upd (upd H1 dx (.own x)) x (.ins C dx [])) (fun v H2 => v = .non ∧ Q (.ref x) H2) E

def Binds (K : PySem.W.Frag) (fd : FuncData) (ps : List Str) (ds : List Value) : Prop :=
  ∀ (s : Shared) (us : List Value), K.In s.heap → (us ++ ds).length = ps.length → BindsTo s fd ⟨us, []⟩ (ps.zip (us ++ ds))
theorem Binds.all {K : PySem.W.Frag} {fd : FuncData} {ps : List Str} (h : ∀ us : List Value, us.length = ps.length → bindArgs fd ⟨us, []⟩ = pure (ps.zip us)) : Binds K fd ps [] := fun s us _ hl => by
  rw [List.append_nil] at hl ⊢
  exact .of_eq (h us hl)

def Passes (CX : CXT) (X : Cx) (E : XK) : Prop := ∀ (pins : List (Addr × Obj)) (σ : St) (H : Hp) (s : Shared) (e : Value) (s' : Shared), Inv X pins σ H s → CX X.stack H s E e s' → X.xe e s'

section
variable {X : Cx} {CX : CXT} {k : Nat} {f C : Addr} {fd : FuncData} {ps : List Str} {sp : Sp} {dvs : List V} {ds : List Value} {E : XK} {x m : Str} {p pos apos : Pos} {e o : Expr} {es : List Expr} {ta : TE} {t : TA}

theorem run_fn {pins : List (Addr × Obj)} {σ : St} {H : Hp} {s : Shared} {Q : VK} {us : List Value} {vs : List V} (F : FnOk X.prog X.w X.K X.mg X.base CX k f fd ps sp) (hr : Room k X.A) (hb : Binds X.K fd ps ds) (hd : Vals dvs ds) (hx : Passes CX X E)
    (I : Inv X pins σ H s) (r : Vals vs us) (h : sp (vs ++ dvs) H Q E) : wpAny (model X.prog X.w) X.A (call (.ref f) us) (EP X pins σ Q) X.xe s := by
  have r2 : Vals (vs ++ dvs) (us ++ ds) := r.append hd
  have hl : (us ++ ds).length = ps.length := by rw [← r2.length]; exact F.len _ _ _ _ h
  refine wpAny_call (codeAny_mono (F.run X.A X.stack s H ⟨us, []⟩ (us ++ ds) (vs ++ dvs) Q E hr I.env0 (hb s us I.kIn hl) r2 h) fun r s' hq => ?_)
  cases r with
  | error e => exact hx pins σ H s e s' I hq
  | ok fl =>
    cases fl with
    | ret u => exact I.after hq
    | next => exact False.elim hq
    | brk => exact False.elim hq
    | cont => exact False.elim hq

theorem pe_call (F : FnOk X.prog X.w X.K X.mg X.base CX k f fd ps sp) (hr : Room k X.A) (hg : Gl X x) (hm : X.mg x = some (.ref f)) (hk : PySem.W.keepIn X.K (.ref f) = true) (hb : Binds X.K fd ps ds) (hd : Vals dvs ds) (hx : Passes CX X E)
    (ha : PA X (e :: es) t) (hdb : (x == ("__debug__" : Str)) = false := by decide) (he : starEach (e :: es) X.env = (false, eval e X.env) :: starEach es X.env := by rfl) (hpl : (backTo pos (starEach es X.env)).any (·.1) = false := by rfl) :
    PE X (.Call (.Name x p) (e :: es) [] pos) (tCall sp dvs E t) := by
  intro pins s σ H Q I h
  refine wpAny_Call_Name_kw (ld_glob I hg hm ?_ hdb)
  refine PySem.W.callWith_K (h₀ := X.base) I.ok.mod.kin hk (thn (ha pos pins s σ H _ I h) fun us s1 ⟨vs, H1, I1, r, q⟩ => ⟨I1.kIn, ?_⟩) he hpl
  exact run_fn F hr hb hd hx I1 r q
theorem pe_meth {pl : Sem Bool} (he : PE X o ta) (c : Cls X.K C) (hm : Meth X.K C m f) (F : FnOk X.prog X.w X.K X.mg X.base CX k f fd ps sp) (hr : Room k X.A) (hb : Binds X.K fd ps ds) (hd : Vals dvs ds) (hx : Passes CX X E) (ha : PA X (e :: es) t)
    (hst : starEach (e :: es) X.env = (false, eval e X.env) :: starEach es X.env := by rfl) (hpl : (backTo pos (starEach es X.env)).any (·.1) = false := by rfl)
    (ht : eval (.Call (.Attribute o m apos) (e :: es) [] pos) X.env = (do
      let ov ← eval o X.env
      standAt apos.atName
      let (f, first) ← holding [ov] (getMethod ov m pl)
      callWith pos f first (backTo pos (starEach (e :: es) X.env)) (backToKw pos (keywordEach [] X.env))) := by rfl) :
    PE X (.Call (.Attribute o m apos) (e :: es) [] pos) (tMeth C m sp dvs E ta t) := by
  intro pins s σ H Q I h
  refine PySem.W.methodCall_KW (pl := pl) (thn (he pins s σ H _ I h) fun u s1 ⟨x, H1, I1, rx, a, dx, fs, ex, ea, l, q⟩ => ?_) ht
  subst ex
  obtain rfl : u = Value.ref a := rx
  refine getmeth_ok I1 ea c hm l ?_
  refine PySem.W.callWith_K (first := [.ref a]) (h₀ := X.base) I.ok.mod.kin hm.kp (thn (ha pos pins s1 σ H1 _ I1 q) fun us s2 ⟨vs, H2, I2, r, q2⟩ => ⟨I2.kIn, ?_⟩) hst hpl
  exact run_fn (us := .ref a :: us) (vs := .ref a :: vs) F hr hb hd hx I2 (.cons rfl r) q2
structure Mk (K : PySem.W.Frag) (C f : Addr) : Prop where
  makes : PySem.W.makesIn K C = true
  init : PySem.W.findIn K (.ref C) "__init__" = some (some (.ref f))
  fn : PySem.W.isFn K (.ref f) = true
  kp : PySem.W.keepIn K (.ref C) = true

theorem run_make {pins : List (Addr × Obj)} {σ : St} {H : Hp} {s : Shared} {Q : VK} {us : List Value} {vs : List V} (M : Mk X.K C f) (F : FnOk X.prog X.w X.K X.mg X.base CX k f fd ps sp) (hr : Room (k + 1) X.A) (hb : Binds X.K fd ps ds) (hd : Vals dvs ds)
    (hx : Passes CX X E) (I : Inv X pins σ H s) (r : Vals vs us)
    (h : ∀ x dx, H x = none → H dx = none → dx ≠ x → sp (.ref x :: (vs ++ dvs)) (upd (upd H dx (.own x)) x (.ins C dx [])) (fun v H2 => v = .non ∧ Q (.ref x) H2) E) :
    wpAny (model X.prog X.w) X.A (call (.ref C) us) (EP X pins σ Q) X.xe s := by
  have hq := h (s.heap.objs.size + 1) s.heap.objs.size (I.hok.fresh (Nat.le_succ _)) (I.hok.fresh (Nat.le_refl _)) (Nat.ne_of_lt (Nat.lt_succ_self _))
  have I2 := Inv.made (C := C) I
  have r2 : Vals (V.ref (s.heap.objs.size + 1) :: (vs ++ dvs)) (Value.ref (s.heap.objs.size + 1) :: (us ++ ds)) := .cons rfl (r.append hd)
  have hl : (Value.ref (s.heap.objs.size + 1) :: us ++ ds).length = ps.length := by
    have e := r2.length
    rw [F.len _ _ _ _ hq] at e
    exact e.symm
  refine wpAny_call (make_map (f := f) I.kIn M.makes M.init (beq_iff_eq.mp M.fn) (codeAny_mono (F.run _ X.stack _ _ ⟨Value.ref (s.heap.objs.size + 1) :: us, []⟩ (Value.ref (s.heap.objs.size + 1) :: (us ++ ds)) _ _ E (hr.make C us [])
    (I2.env0.make C us []) (hb _ (Value.ref (s.heap.objs.size + 1) :: us) I2.kIn hl) r2 hq) fun r s' hq' => ?_))
  cases r with
  | error e => exact hx pins σ _ _ e s' I2 hq'
  | ok fl =>
    cases fl with
    | ret u =>
      obtain ⟨v, H', I3, rv, ev, q3⟩ := I2.after hq'
      subst ev
      exact ⟨rv, ⟨V.ref (s.heap.objs.size + 1), H', I3, rfl, q3⟩⟩
    | next => exact False.elim hq'
    | brk => exact False.elim hq'
    | cont => exact False.elim hq'
theorem pe_make0 (M : Mk X.K C f) (F : FnOk X.prog X.w X.K X.mg X.base CX k f fd ps sp) (hr : Room (k + 1) X.A) (hg : Gl X x) (hm : X.mg x = some (.ref C)) (hb : Binds X.K fd ps ds) (hd : Vals dvs ds) (hx : Passes CX X E)
    (hdb : (x == ("__debug__" : Str)) = false := by decide) : PE X (.Call (.Name x p) [] [] pos) (tMake C sp dvs E tNil) := by
  intro pins s σ H Q I h
  refine wpAny_Call_Name_kw (ld_glob I hg hm ?_ hdb)
  exact PySem.W.callWith_K0 I.kIn M.kp (run_make (us := []) M F hr hb hd hx I .nil h)
end

section
variable {X : Cx} {CX : CXT} {k : Nat} {f C : Addr} {fd : FuncData} {ps ks : List Str} {sp : Sp} {E : XK} {x m : Str} {p pos apos kpos : Pos} {e o : Expr} {es : List Expr} {kws : List Keyword} {te ta : TE} {t tk : TA} {nm : Option Str}
variable {g : List Value → List Value → List Value} {gV : List V → List V → List V}
end

structure FnScope (N P : List Str) (sc : Scope) : Prop where
  kind : sc.kind = .function
  co : sc.isCoroutine = false
  gen : sc.isGenerator = false
  nd : N.Nodup
  pre : N.take P.length = P
  par : ∀ x ∈ P, sc.names.lookup x = some .local ∨ sc.names.lookup x = some .cell
  nofree : ∀ y ∈ sc.names, y.2 ≠ .free

theorem bindL_out {kindOf : Str → Option NameKind} {x : Str} : ∀ {binds : List (Str × Value)} {m : Str → Option Value}, (∀ v, (x, v) ∉ binds) → bindL kindOf binds m x = m x
  | [], _, _ => rfl
  | (n, v) :: r, m, h => by
    unfold bindL
    rw [bindL_out fun w hw => h w (List.mem_cons_of_mem _ hw)]
    split
    · have : x ≠ n := by rintro rfl; exact h v List.mem_cons_self
      simp [this]
    · rfl
theorem bindC_out {kindOf : Str → Option NameKind} {x : Str} : ∀ {binds : List (Str × Value)} {m : Str → Option Value}, (∀ v, (x, v) ∉ binds) → bindC kindOf binds m x = m x
  | [], _, _ => rfl
  | (n, v) :: r, m, h => by
    unfold bindC
    rw [bindC_out fun w hw => h w (List.mem_cons_of_mem _ hw)]
    split
    · rfl
    · have : x ≠ n := by rintro rfl; exact h v List.mem_cons_self
      simp [this]
theorem bindL_get {kindOf : Str → Option NameKind} {x : Str} {v : Value} : ∀ {P : List Str} {vs : List Value} {i : Nat} {m : Str → Option Value}, P.Nodup → P[i]? = some x → vs[i]? = some v → kindOf x = some .local →
    bindL kindOf (P.zip vs) m x = some v
  | [], _, _, _, _, h, _, _ => by simp at h
  | _ :: _, [], _, _, _, _, h, _ => by simp at h
  | p :: P, w :: vs, 0, m, nd, h1, h2, hk => by
    simp at h1 h2; subst h1; subst h2
    show bindL kindOf ((p, w) :: P.zip vs) m p = _
    unfold bindL
    rw [bindL_out fun v hv => (List.nodup_cons.mp nd).1 (List.of_mem_zip hv).1, if_pos hk]
    simp
  | p :: P, w :: vs, i + 1, m, nd, h1, h2, hk => by
    show bindL kindOf ((p, w) :: P.zip vs) m x = _
    unfold bindL
    exact bindL_get (i := i) (List.nodup_cons.mp nd).2 (by simpa using h1) (by simpa using h2) hk
theorem bindC_get {kindOf : Str → Option NameKind} {x : Str} {v : Value} : ∀ {P : List Str} {vs : List Value} {i : Nat} {m : Str → Option Value}, P.Nodup → P[i]? = some x → vs[i]? = some v → kindOf x ≠ some .local →
    bindC kindOf (P.zip vs) m x = some v
  | [], _, _, _, _, h, _, _ => by simp at h
  | _ :: _, [], _, _, _, _, h, _ => by simp at h
  | p :: P, w :: vs, 0, m, nd, h1, h2, hk => by
    simp at h1 h2; subst h1; subst h2
    show bindC kindOf ((p, w) :: P.zip vs) m p = _
    unfold bindC
    rw [bindC_out fun v hv => (List.nodup_cons.mp nd).1 (List.of_mem_zip hv).1, if_neg hk]
    simp
  | p :: P, w :: vs, i + 1, m, nd, h1, h2, hk => by
    show bindC kindOf ((p, w) :: P.zip vs) m x = _
    unfold bindC
    exact bindC_get (i := i) (List.nodup_cons.mp nd).2 (by simpa using h1) (by simpa using h2) hk

def start (N : List Str) (vs : List V) : St := vs.map some ++ List.replicate (N.length - vs.length) none

def cxOf (CX : CXT) (P : Program) (w : World) (K : PySem.W.Frag) (mg : Str → Option Value) (base : Heap) (N : List Str) (qual : Str) (scope : Scope) (f : Addr) (cd : Value) (A : Around) (outer : List Env) (s : Shared) (H : Hp) (E : XK) : Cx where
  prog := P
  w := w
  K := K
  mg := mg
  base := base
  A := A.deeper (envOfC qual scope s.heap.objs.size f cd)
  N := N
  s₀ := s
  H₀ := H
  env := envOfC qual scope s.heap.objs.size f cd
  outer := outer
  stack := envOfC qual scope s.heap.objs.size f cd :: outer
  ex := []
  calm := true
  fn := fun _ => true
  pn := []
  xe := fun e s' => wpAny (model P w) (A.deeper (envOfC qual scope s.heap.objs.size f cd)) (leaving (envOfC qual scope s.heap.objs.size f cd) e) (fun _ s'' => CX outer H s E e s'') (fun e' s'' => CX outer H s E e' s'') s'

theorem cell_has {sc : Scope} {n : Nat} {x : Str} (h : sc.names.lookup x = some .cell) : ∃ c, (cellsFrom n sc.names []).lookup x = some c := by
  have q := PySem.W.cellsFrom_some sc.names n [] (.inl h)
  exact Option.isSome_iff_exists.mp q

theorem inv_start {CX : CXT} {P : Program} {w : World} {K : PySem.W.Frag} {mg : Str → Option Value} {base : Heap} {N ps : List Str} {qual : Str} {scope : Scope} {f : Addr} {cd : Value} {A : Around} {outer : List Env} {s s1 : Shared} {H : Hp} {E : XK} {us : List Value} {vs : List V}
    (S : FnScope N ps scope) (hd : A.handled = none) (e0 : Env0 P w K mg base A outer s H) (hl : vs.length = ps.length) (r : Vals vs us)
    (x : InCallC s s.heap.objs.size (bindL (envOfC qual scope s.heap.objs.size f cd).kindOf (ps.zip us) fun _ => none) (cellsFrom (s.heap.objs.size + 1) scope.names []) (bindC (envOfC qual scope s.heap.objs.size f cd).kindOf (ps.zip us) fun _ => none) s1) :
    Inv (cxOf CX P w K mg base N qual scope f cd A outer s H E) [] (start N vs) H s1 := by
  have hpl : ps.length ≤ N.length := by have := congrArg List.length S.pre; rw [List.length_take] at this; omega
  obtain ⟨h1, tk, rfl, hk⟩ := x.done
  have noA : ∀ b : Addr, b ∉ (cxOf CX P w K mg base N qual scope f cd A outer s H E).ex := fun b z => absurd (show b ∈ ([] : List Addr) from z) (by simp)
  refine ⟨⟨e0.mod, S.kind, rfl, rfl, Nat.le_refl _, fun y z c h1 h2 => ?_, fun y hy => ?_, fun y c _ h => ?_, fun _ => hd, Around.frames_deeper e0.frames, .inr ⟨rfl, rfl⟩, fun b z => absurd z (noA b), e0.bs, e0.bsz, fun b _ _ => noA b, fun b z => absurd z (noA b), e0.funs, e0.frf⟩,
    rfl, e0.bare, Un.kept hk, ⟨_, x.toInCall.ns, fun i y v h1 h2 h3 => ?_⟩, fun y c h => ⟨_, x.cell y c h⟩, e0.hok.fresh (Nat.le_refl _), fun y c h => ?_, fun p hp => absurd (show p ∈ ([] : List (Addr × Obj)) from hp) (by simp), e0.hok.kept hk, ?_⟩
  · exact name_of_addr x.apart (PySem.mem_of_lookup h1) (PySem.mem_of_lookup h2)
  · have hy : scope.names.lookup y = some .cell ∨ scope.names.lookup y = some .free := hy
    rcases hy with hy | hy
    · exact cell_has hy
    · exact absurd rfl (S.nofree _ (PySem.mem_of_lookup hy))
  · exact Nat.le_of_lt (x.above y c (PySem.mem_of_lookup h))
  · have hi : i < vs.length := by
      unfold start at h2
      by_cases hi : i < vs.length
      · exact hi
      · rw [List.getElem?_append_right (by simpa using hi)] at h2
        rw [List.getElem?_replicate] at h2
        split at h2 <;> cases h2
    have ha : vs[i]? = some v := by
      unfold start at h2
      rw [List.getElem?_append_left (by simpa using hi), List.getElem?_map] at h2
      cases e : vs[i]? with
      | none => rw [e] at h2; cases h2
      | some a => rw [e] at h2; cases h2; rfl
    obtain ⟨u, hu, rv⟩ := r.get ha
    have hp : ps[i]? = some y := by
      rw [← S.pre, List.getElem?_take_of_lt (by omega)]; exact h1
    have ndP : ps.Nodup := by rw [← S.pre]; exact S.nd.sublist (List.take_sublist _ _)
    refine ⟨u, rv, ?_⟩
    rcases S.par y (List.mem_of_getElem? hp) with k | k
    · exact .inl ⟨k, bindL_get ndP hp hu k⟩
    · obtain ⟨c, e⟩ := cell_has (n := s.heap.objs.size + 1) k
      refine .inr ⟨.inl k, c, e, ?_⟩
      have q := x.cell y c e
      rw [bindC_get ndP hp hu (by show scope.names.lookup y ≠ _; rw [k]; decide)] at q
      exact q
  · exact e0.hok.fresh (Nat.le_of_lt (x.above y c (PySem.mem_of_lookup h)))
  · unfold start
    show _ = N.length
    rw [List.length_append, List.length_map, List.length_replicate]
    omega

theorem fn_of {CX : CXT} {P : Program} {w : World} {K : PySem.W.Frag} {mg : Str → Option Value} {base : Heap} {k : Nat} {f : Addr} {name qual : Str} {params : Arguments} {body : List Stmt} {scope : Scope} {dV kV doc pm cdv ct oc : Value} {an od : Option Addr}
    {osl : Array (Option Value)} {N ps : List Str} {sp : Sp} (lk : K.lookup f = some ⟨oc, od, .func (PySem.W.fnOf name qual params body scope dV kV doc pm an cdv ct), osl⟩) (hcd : PySem.W.codeIn K cdv qual = true) (S : FnScope N ps scope)
    (len : ∀ vs H Q E, sp vs H Q E → vs.length = ps.length)
    (hbody : ∀ (A : Around) (outer : List Env) (s : Shared) (H : Hp) (vs : List V) (Q : VK) (E : XK), Room k (A.deeper (envOfC qual scope s.heap.objs.size f cdv)) → sp vs H Q E →
      ∃ t, PSs (cxOf CX P w K mg base N qual scope f cdv A outer s H E) body t ∧ t { nx := fun _ H' => Q .non H', rt := Q } (start N vs) H) :
    FnOk P w K mg base CX (k + 1) f (PySem.W.fnOf name qual params body scope dV kV doc pm an cdv ct) ps sp := by
  refine ⟨len, fun A outer s H args us vs Q E hr e0 hb r hsp => ?_⟩
  have hl := len _ _ _ _ hsp
  have KX : K.In s.heap := e0.mod.kin.keeps fun b o e => (e0.bs b o e).1
  have lim : s.heap.NoLimit := e0.mod.nolimit.keeps fun b o e => (e0.bs b o e).1
  have hkind : ∀ y ∈ ps.zip us, scope.names.lookup y.1 = some .local ∨ (scope.names.lookup y.1 = some .cell ∧ ((cellsFrom (s.heap.objs.size + 1) scope.names []).lookup y.1).isSome = true) := fun ⟨n, v⟩ hy => by
    rcases S.par n (List.of_mem_zip hy).1 with q | q
    · exact .inl q
    · exact .inr ⟨q, PySem.W.cellsFrom_some _ _ _ (.inl q)⟩
  refine codeAny_call_function hr.depth (KX _ _ lk) rfl S.co S.gen rfl (PySem.W.codeRec_of KX hcd) (hb _ _ _ _ ?_)
  refine wpAny_newFunctionEnv_cells S.kind hkind fun env he s1 x => ?_
  subst he
  refine ⟨lim.keeps x.toInCall.keep, codeAny_func ?_⟩
  obtain ⟨t, ht, hq⟩ := hbody A outer s H vs Q E (hr.deeper _) hsp
  have I : Inv (cxOf CX P w K mg base N qual scope f cdv A outer s H E) [] (start N vs) H s1 := inv_start S hr.hd e0 hl r x
  refine wpAny_mono (ht [] s1 (start N vs) H _ I hq) (fun fl s' hs => ?_) fun e s' hs => hs
  have fin : ∀ {σ' : St} {H' : Hp} {v : V} {u : Value}, Inv (cxOf CX P w K mg base N qual scope f cdv A outer s H E) [] σ' H' s' → RelV v u → Q v H' → CE outer P w H s Q u s' :=
    fun {σ' H' v u} J rv q => ⟨v, H', J.os, J.bare, J.base, J.hok, rv, q⟩
  cases fl with
  | ret u =>
    obtain ⟨v, σ', H', J, rv, q⟩ := hs
    exact fin J rv q
  | next =>
    obtain ⟨σ', H', J, q⟩ := hs
    exact fin (v := V.non) (u := Value.none) J rfl q
  | brk =>
    obtain ⟨_, _, _, q⟩ := hs
    exact False.elim q
  | cont =>
    obtain ⟨_, _, _, q⟩ := hs
    exact False.elim q
end L2

namespace L2
open PySem PySem.Spec PyProof.Rows
section
variable {X : Cx} {x : Str} {p pos : Pos} {e : Expr} {es : List Expr} {t : TA} {id T : String} {r : List V → Hp → VK → Prop}

def tCB (r : List V → Hp → VK → Prop) (t : TA) : TE := fun σ H Q => t σ H fun vs H1 => r vs H1 Q
theorem pe_callB (hc : CallR X (.builtin id) r) (hg : Gl X x) (hm : X.mg x = none) (hv : bootBuiltins x = some (.builtin id)) (ha : PA X (e :: es) t) (hn : x ≠ "__name__" := by decide) (hdb : (x == ("__debug__" : Str)) = false := by decide)
    (he : starEach (e :: es) X.env = (false, eval e X.env) :: starEach es X.env := by rfl) (hpl : (backTo pos (starEach es X.env)).any (·.1) = false := by rfl) : PE X (.Call (.Name x p) (e :: es) [] pos) (tCB r t) := by
  intro pins s σ H Q I h
  refine wpAny_Call_Name_kw (ld_blt I hg hm hv ?_ hn hdb)
  exact PyProof.Rows.callWith_builtin1 (thn (ha pos pins s σ H _ I h) fun us s1 ⟨vs, H1, I1, r1, q1⟩ => hc pins s1 σ H1 vs us Q I1 r1 q1) he hpl
theorem pe_callTy (hc : CallR X (.type T) r) (hg : Gl X x) (hm : X.mg x = none) (hv : bootBuiltins x = some (.type T)) (ha : PA X (e :: es) t) (hn : x ≠ "__name__" := by decide) (hdb : (x == ("__debug__" : Str)) = false := by decide)
    (he : starEach (e :: es) X.env = (false, eval e X.env) :: starEach es X.env := by rfl) (hpl : (backTo pos (starEach es X.env)).any (·.1) = false := by rfl) : PE X (.Call (.Name x p) (e :: es) [] pos) (tCB r t) := by
  intro pins s σ H Q I h
  refine wpAny_Call_Name_kw (ld_blt I hg hm hv ?_ hn hdb)
  exact PyProof.Rows.callWith_type1 (thn (ha pos pins s σ H _ I h) fun us s1 ⟨vs, H1, I1, r1, q1⟩ => hc pins s1 σ H1 vs us Q I1 r1 q1) he hpl
end
end L2

namespace HT
open PySem PyProof.Rows

section
open PySem.SeqAt
open PySem.AutoSeq1 (wpAny_loadPart')
open PySem.MeetsSeq PySem.MeetsSeq2 PySem.MeetsSeq3

end

section
variable {prog : Program} {w : World} {A : Around} {E : Value → Shared → Prop} {s : Shared}

theorem cat_tup {t b : Addr} {vs ws : List Value} {Q : Value → Shared → Prop} (ht : IsTup s.heap t vs.toArray) (hb : IsTup s.heap b ws.toArray) (hv : vs ≠ [])
    (h1 : ws = [] → Q (.ref t) s) (h2 : ws ≠ [] → Q (.ref s.heap.objs.size) { s with heap := s.heap.push { cls := .type "tuple", data := .seq (vs ++ ws).toArray } })
    (hsz : vs.length + ws.length ≤ sizeLine) : wpAny (model prog w) A (binaryOp .Add (.ref t) (.ref b)) Q E s := by
  obtain ⟨⟨cls, dd, data, sl⟩, ho, hc, n, hd⟩ := id ht
  obtain ⟨⟨cls2, dd2, data2, sl2⟩, ho2, hc2, n2, hd2⟩ := id hb
  simp only at hc hd hc2 hd2
  subst hc hd hc2 hd2
  have e : vs.toArray ++ ws.toArray = (vs ++ ws).toArray := by simp
  by_cases hw : ws = []
  · exact concat_meets ⟨_, ho, rfl⟩ ⟨_, ho2, rfl⟩ noFill_tuple_add seq_tuple_add PySem.F.slot_tuple_add PySem.F.entry_tuple_add (PySem.F.args_tuple_add_2 _ _)
      (tuple_addW1 t b vs.toArray ws.toArray n n2 dd dd2 sl sl2 (by simpa using hv) (by simp [hw])) ⟨ho, ho2, h1 hw⟩
  · refine concat_meets ⟨_, ho, rfl⟩ ⟨_, ho2, rfl⟩ noFill_tuple_add seq_tuple_add PySem.F.slot_tuple_add PySem.F.entry_tuple_add (PySem.F.args_tuple_add_2 _ _)
      (tuple_addW2 t b vs.toArray ws.toArray n n2 dd dd2 sl sl2 (by simpa using hv) (by simpa using hw) (by rw [List.size_toArray, List.size_toArray]; exact hsz)) ⟨ho, ho2, ?_⟩
    rw [e]
    exact h2 hw

def sIx (n d : Nat) : Option Int → Nat
  | none => d
  | some v => if v < 0 then (v + (n : Int)).toNat else min v.toNat n
theorem sIx_nat (n d k : Nat) : sIx n d (some (k : Int)) = min k n := by
  show (if (k : Int) < 0 then ((k : Int) + (n : Int)).toNat else min (k : Int).toNat n) = min k n
  rw [if_neg (by omega), Int.toNat_natCast]
theorem sIx_le (n d : Nat) (hd : d ≤ n) (o : Option Int) : sIx n d o ≤ n := by
  cases o with
  | none => exact hd
  | some v =>
    show (if v < 0 then (v + (n : Int)).toNat else min v.toNat n) ≤ n
    by_cases hv : v < 0
    · rw [if_pos hv]; omega
    · rw [if_neg hv]; exact Nat.min_le_right _ _
theorem clip_eq (v : Int) (n d : Nat) : (if v < 0 then max (v + (n : Int)) 0 else min v (n : Int)) = ((sIx n d (some v) : Nat) : Int) := by
  show (if v < 0 then max (v + (n : Int)) 0 else min v (n : Int)) = (((if v < 0 then (v + (n : Int)).toNat else min v.toNat n) : Nat) : Int)
  by_cases hv : v < 0
  · simp only [if_pos hv]; omega
  · simp only [if_neg hv]; omega
theorem adjust_gen (lo hi : Option Int) (n : Nat) : Builtin.Slice.sliceAdjust lo hi 1 (n : Int) = (((sIx n 0 lo : Nat) : Int), ((sIx n n hi : Nat) : Int)) := by
  have h1 : ¬ ((1 : Int) < 0) := by omega
  unfold Builtin.Slice.sliceAdjust
  simp only [h1, if_false]
  refine Prod.ext ?_ ?_
  · cases lo with
    | none => rfl
    | some v => exact clip_eq v n 0
  · cases hi with
    | none => rfl
    | some v => exact clip_eq v n n
theorem places_gen (i j : Nat) : Builtin.Slice.slicePlaces (i : Int) (j : Int) 1 = j - i := by
  unfold Builtin.Slice.slicePlaces
  have h1 : (1 : Int) > 0 := by omega
  simp only [h1, if_true, Int.ediv_one]
  split <;> omega
theorem slicePart_ {v : Value} {o : Option Int} {Q : Option Int → Shared → Prop} (p : IsPart v o) (h : Q o s) : wpAny (model prog w) A (Builtin.Slice.slicePartIndex v) Q E s := by
  cases p with
  | none => exact slicePart_none h
  | int i t => exact slicePart_int h
theorem sliceApplied_gen {sl : Addr} {vl vu : Value} {lo hi : Option Int} {n : Nat} {Q : Int × Int × Nat → Shared → Prop} (hs : s.heap.IsSliceOf sl vl vu .none) (pl : IsPart vl lo) (pu : IsPart vu hi)
    (h : Q (((sIx n 0 lo : Nat) : Int), 1, sIx n n hi - sIx n 0 lo) s) : wpAny (model prog w) A (Builtin.Slice.sliceApplied (.ref sl) (pure (n : Int))) Q E s := by
  obtain ⟨os, hos, hcs, hds⟩ := id hs
  unfold Builtin.Slice.sliceApplied Builtin.Slice.sliceFields
  refine wpAny_bind (wpAny_bind (wpAny_field hos hds (x := vl) rfl (wpAny_bind (wpAny_field hos hds (x := vu) rfl (wpAny_bind (wpAny_field hos hds (x := .none) rfl (wpAny_pure ?_)))))))
  refine wpAny_bind (slicePart_none ?_)
  show wpAny _ _ (if ((1 : Int) == 0) = true then _ else _) _ _ s
  rw [if_neg (by decide)]
  refine wpAny_bind (slicePart_ pl (wpAny_bind (slicePart_ pu (wpAny_bind (wpAny_pure ?_)))))
  show wpAny _ _ (match Builtin.Slice.sliceAdjust lo hi 1 (n : Int) with | (lo, hi) => pure (lo, (1 : Int), Builtin.Slice.slicePlaces lo hi 1)) _ _ s
  rw [adjust_gen lo hi n]
  show wpAny _ _ (pure (((sIx n 0 lo : Nat) : Int), (1 : Int), Builtin.Slice.slicePlaces ((sIx n 0 lo : Nat) : Int) ((sIx n n hi : Nat) : Int) 1)) _ _ s
  rw [places_gen]
  exact wpAny_pure h
theorem pick_gen (xs : Array Value) (i k : Nat) : ((List.range k).filterMap fun (m : Nat) => xs[((i : Int) + (m : Int) * 1).toNat]?).toArray = ((xs.toList.drop i).take k).toArray := by
  have e : (fun (m : Nat) => xs[((i : Int) + (m : Int) * 1).toNat]?) = fun m => xs[i + m]? := by
    funext m
    have : ((i : Int) + (m : Int) * 1).toNat = i + m := by omega
    rw [this]
  rw [e]
  have := pick_run xs i k
  rw [List.filterMap_map] at this
  have e2 : ((fun x => xs[x]?) ∘ fun x => i + x) = fun m => xs[i + m]? := rfl
  rw [e2] at this
  rw [this]

theorem getItem_tuple_cut {t sl : Addr} {items : Array Value} {vl vu : Value} {lo hi : Option Int} {Q : Value → Shared → Prop} (ht : IsTup s.heap t items) (hs : s.heap.IsSliceOf sl vl vu .none) (pl : IsPart vl lo) (pu : IsPart vu hi)
    (hw : ¬ (sIx items.size 0 lo = 0 ∧ sIx items.size items.size hi = items.size))
    (h : Q (.ref s.heap.objs.size) { s with heap := s.heap.push { cls := .type "tuple", data := .seq ((items.toList.drop (sIx items.size 0 lo)).take (sIx items.size items.size hi - sIx items.size 0 lo)).toArray } })
    (hsz : items.size ≤ sizeLine) : wpAny (model prog w) A (getItem (.ref t) (.ref sl)) Q E s := by
  have htake : sizeOk (.seq ((items.toList.drop (sIx items.size 0 lo)).take (sIx items.size items.size hi - sIx items.size 0 lo)).toArray) := by
    show ((items.toList.drop (sIx items.size 0 lo)).take (sIx items.size items.size hi - sIx items.size 0 lo)).toArray.size ≤ sizeLine
    rw [List.size_toArray, List.length_take, List.length_drop, Array.length_toList]
    omega
  have hj : sIx items.size items.size hi ≤ items.size := sIx_le _ _ (Nat.le_refl _) hi
  obtain ⟨os, hos, hcs, hds⟩ := id hs
  have hTs : s.TypeIs (.ref sl) "slice" := ⟨os, hos, hcs⟩
  unfold getItem
  try with_reducible refine wpAny_holding ?_
  first | refine wpAny_bind (wpAny_pure ?_) | skip
  refine wpAny_bind (wpAny_sequenceKey ht.typeIs (by decide) ?_)
  refine wpAny_bind (wpAny_callSpecial?_slot (name := Str.ofString "__getitem__") ht.typeIs PyProof.Rows.slot_tuple_getitem
    (wpAny_call_entry PyProof.Rows.slot_tuple_getitem ht.typeIs entry_tuple_getitem ?_ (args_tuple_getitem _ _)))
  show wpAny _ _ (Builtin.Tuple.tupleItemsOf (.ref t) >>= _) _ _ s
  refine wpAny_bind (tupleItemsOf_ ht ?_)
  refine wpAny_bind (wpAny_typeOf hTs ?_)
  rw [if_pos (by decide)]
  refine wpAny_bind (sliceApplied_gen hs pl pu ?_)
  have hno : ¬ ((((sIx items.size 0 lo : Nat) : Int) == 0 && (1 : Int) == 1 && (sIx items.size items.size hi - sIx items.size 0 lo) == items.size) = true) := by
    intro q
    rw [Bool.and_eq_true, Bool.and_eq_true] at q
    have q1 : ((sIx items.size 0 lo : Nat) : Int) = 0 := eq_of_beq q.1.1
    have q2 : sIx items.size items.size hi - sIx items.size 0 lo = items.size := eq_of_beq q.2
    exact hw ⟨by omega, by omega⟩
  show wpAny _ _ (if (((sIx items.size 0 lo : Nat) : Int) == 0 && (1 : Int) == 1 && (sIx items.size items.size hi - sIx items.size 0 lo) == items.size) = true then _ else _) _ _ s
  rw [if_neg hno, pick_gen]
  first
    | exact wpAny_bind (m := Builtin.Tuple.tupleExact _) (wpAny_newObj_type (wpAny_pure ⟨_, rfl, wpAny_pure h⟩) htake)
    | exact wpAny_bind (m := Builtin.Tuple.tupleExact _) (wpAny_newObj_type (wpAny_bind (wpAny_pure (wpAny_pure ⟨_, rfl, wpAny_pure h⟩))) htake)
    | exact wpAny_bind (wpAny_bind (m := Builtin.Tuple.tupleExact _) (wpAny_newObj_type (wpAny_pure (wpAny_pure ⟨_, rfl, wpAny_pure h⟩)) htake))
    | exact wpAny_bind (wpAny_bind (m := Builtin.Tuple.tupleExact _) (wpAny_newObj_type (wpAny_pure ⟨_, rfl, wpAny_pure h⟩) htake))
end
end HT

namespace L2
open PySem PySem.Spec PyProof.Rows

abbrev TO := St → Hp → (Option Int → Hp → Prop) → Prop
def PO (X : Cx) (e : Option Expr) (t : TO) : Prop :=
  ∀ (pins : List (Addr × Obj)) (s : Shared) (σ : St) (H : Hp) (Q : Option Int → Hp → Prop), Inv X pins σ H s → t σ H Q →
    wpAny (model X.prog X.w) X.A (evalPart e X.env) (fun u s' => ∃ o H', Inv X pins σ H' s' ∧ IsPart u o ∧ Q o H') X.xe s
def tNoPart : TO := fun _ H Q => Q none H
def tPart (t : TE) : TO := fun σ H Q => t σ H fun x H1 => ∃ i, x = .int i ∧ Q (some i) H1

section
variable {X : Cx} {e : Expr} {te : TE} {lo hi : Option Expr} {tl th : TO} {pos p2 : Pos}

theorem po_none : PO X none tNoPart := by
  intro pins s σ H Q I h
  rw [evalPart_none]
  exact wpAny_pure ⟨none, H, I, .none, h⟩
theorem po_some (h : PE X e te) : PO X (some e) (tPart te) := by
  intro pins s σ H Q I hw
  rw [evalPart_some]
  refine thn (h pins s σ H _ I hw) fun u s1 ⟨x, H1, I1, r1, q1⟩ => ?_
  obtain ⟨i, rfl, q⟩ := q1
  obtain ⟨t, rfl⟩ := r1
  exact ⟨some i, H1, I1, .int i t, q⟩

def SlR (X : Cx) (r : V → Option Int → Option Int → Hp → VK → Prop) : Prop :=
  ∀ (pins : List (Addr × Obj)) (s : Shared) (σ : St) (H : Hp) (x : V) (v vl vu : Value) (lo hi : Option Int) (sl : Addr) (Q : VK), Inv X pins σ H s → RelV x v → s.heap.IsSliceOf sl vl vu .none → IsPart vl lo → IsPart vu hi → r x lo hi H Q →
    ∃ T id, typeLookup (.type T) "__getitem__" = pure (some (.builtin id)) ∧ s.TypeIs v T ∧ wpAny (model X.prog X.w) X.A (getItem v (.ref sl)) (EP X pins σ Q) X.xe s
def tSl (r : V → Option Int → Option Int → Hp → VK → Prop) (te : TE) (tl th : TO) : TE := fun σ H Q => te σ H fun x H1 => tl σ H1 fun l H2 => th σ H2 fun u H3 => r x l u H3 Q
theorem pe_slice {r : V → Option Int → Option Int → Hp → VK → Prop} (hr : SlR X r) (he : PE X e te) (hl : PO X lo tl) (hu : PO X hi th) : PE X (.Subscript e (.Slice lo hi none p2) pos) (tSl r te tl th) := by
  intro pins s σ H Q I h
  refine Subscript_ (thn (he pins s σ H _ I h) fun v s1 ⟨x, H1, I1, r1, q1⟩ => ?_)
  refine wpAny_Slice (thn (hl pins s1 σ H1 _ I1 q1) fun vl s2 ⟨l, H2, I2, pl, q2⟩ => thn (hu pins s2 σ H2 _ I2 q2) fun vu s3 ⟨u, H3, I3, pu, q3⟩ => ?_)
  rw [evalPart_none]
  refine wpAny_pure ?_
  have I4 : Inv X pins σ H3 { s3 with heap := s3.heap.push { cls := .type "slice", data := .fields #[vl, vu, .none] } } := I3.kept (t' := s3.toks) fun b ob q => Heap.get?_push_of_some _ q
  obtain ⟨T, id, hT, ht, hg⟩ := hr pins { s3 with heap := s3.heap.push { cls := .type "slice", data := .fields #[vl, vu, .none] } } σ H3 x v vl vu l u s3.heap.objs.size Q I4 r1 (Heap.IsSliceOf.new ..) pl pu q3
  show wpAny (model X.prog X.w) X.A (subscriptTail e (.Slice lo hi none p2) v (.ref s3.heap.objs.size)) (EP X pins σ Q) X.xe { s3 with heap := s3.heap.push { cls := .type "slice", data := .fields #[vl, vu, .none] } }
  exact tail_any (ops := [.ref s3.heap.objs.size, v]) ht hT hg (by with_unfolding_all rfl)

def cutV (xs : List V) (lo hi : Option Int) : List V := (xs.drop (HT.sIx xs.length 0 lo)).take (HT.sIx xs.length xs.length hi - HT.sIx xs.length 0 lo)
theorem cutV_length (xs : List V) (lo hi : Option Int) : (cutV xs lo hi).length ≤ xs.length := by
  unfold cutV
  rw [List.length_take, List.length_drop]
  omega
def rSlT (K : PySem.W.Frag) : V → Option Int → Option Int → Hp → VK → Prop := fun x lo hi H Q => ∃ a xs, x = .ref a ∧ SqT K H a xs ∧
  ¬ (HT.sIx xs.length 0 lo = 0 ∧ HT.sIx xs.length xs.length hi = xs.length) ∧ ∀ p, H p = none → Q (.ref p) (upd H p (.tup (cutV xs lo hi)))
theorem sl_tup : SlR X (rSlT X.K) := by
  intro pins s σ H x v vl vu lo hi sl Q I rx hs pl pu h
  obtain ⟨a, xs, rfl, hx, hw, q⟩ := h
  cases rx
  obtain ⟨its, r, ht, hz⟩ := I.tuple hx
  have hlen : its.toArray.size = xs.length := by rw [List.size_toArray]; exact r.length.symm
  refine ⟨"tuple", _, PyProof.Rows.slot_tuple_getitem.lookup, ht.typeIs, ?_⟩
  refine HT.getItem_tuple_cut ht hs pl pu (by rw [hlen]; exact hw) ?_ (by rw [hlen]; exact hz)
  rw [hlen]
  refine ⟨.ref s.heap.objs.size, _, I.laid (t' := s.toks) (o := .tup (cutV xs lo hi)) (fun b ob q => Heap.get?_push_of_some _ q) (Nat.le_refl _) ?_, rfl, q _ (I.hok.fresh (Nat.le_refl _))⟩
  exact ⟨Nat.le_trans (cutV_length xs lo hi) hz, _, (r.drop (HT.sIx xs.length 0 lo)).take (HT.sIx xs.length xs.length hi - HT.sIx xs.length 0 lo), IsTup.new _ _⟩

def rCatT (K : PySem.W.Frag) : R2 := fun x y H Q => ∃ a b xs ys, x = .ref a ∧ y = .ref b ∧ SqT K H a xs ∧ SqT K H b ys ∧ xs ≠ [] ∧ xs.length + ys.length ≤ sizeLine ∧
  (ys = [] → Q (.ref a) H) ∧ (ys ≠ [] → ∀ p, H p = none → Q (.ref p) (upd H p (.tup (xs ++ ys))))
theorem Vals.nil_iff {xs : List V} {us : List Value} (r : Vals xs us) : us = [] ↔ xs = [] := by
  cases r with
  | nil => simp
  | cons _ _ => simp
theorem op_catT : OpR X (binaryOp .Add) (rCatT X.K) := by
  intro pins s σ H x y v u Q I rx ry h
  obtain ⟨a, b, xs, ys, rfl, rfl, ha, hb, hx, hz, q1, q2⟩ := h
  cases rx
  cases ry
  obtain ⟨its, r1, p1, _⟩ := I.tuple ha
  obtain ⟨its2, r2, p2, _⟩ := I.tuple hb
  refine HT.cat_tup p1 p2 (fun z => hx (r1.nil_iff.mp z)) (fun z => ⟨.ref a, H, I, rfl, q1 (r2.nil_iff.mp z)⟩) (fun z => ?_) (by rw [← r1.length, ← r2.length]; exact hz)
  refine ⟨.ref s.heap.objs.size, _, I.laid (t' := s.toks) (o := .tup (xs ++ ys)) (fun b ob q => Heap.get?_push_of_some _ q) (Nat.le_refl _) ?_, rfl, q2 (fun w => z (r2.nil_iff.mpr w)) _ (I.hok.fresh (Nat.le_refl _))⟩
  exact ⟨by rw [List.length_append]; exact hz, _, r1.append r2, IsTup.new _ _⟩
end
end L2

namespace L2
open PySem PySem.Spec PyProof.Rows

def ixN (n : Nat) (i : Int) : Option Nat := if 0 ≤ i then (if i < n then some i.toNat else none) else if -(n : Int) ≤ i then some (i + n).toNat else none
def atI {α : Type} (xs : List α) (i : Int) : Option α := (ixN xs.length i).bind fun j => xs[j]?
theorem ixN_seq {n : Nat} {i : Int} {j : Nat} (h : ixN n i = some j) : seqIndex? i n = some j ∧ j < n ∧ -(n : Int) ≤ i ∧ i < n := by
  unfold ixN at h
  by_cases h0 : 0 ≤ i
  · rw [if_pos h0] at h
    by_cases h1 : i < n
    · rw [if_pos h1] at h
      have e : i.toNat = j := Option.some.inj h
      exact ⟨by rw [seqIndex_of h0 h1, e], by omega, by omega, h1⟩
    · rw [if_neg h1] at h; cases h
  · rw [if_neg h0] at h
    by_cases h1 : -(n : Int) ≤ i
    · rw [if_pos h1] at h
      have e : (i + n).toNat = j := Option.some.inj h
      exact ⟨by rw [seqIndex_neg (by omega) h1, e], by omega, h1, by omega⟩
    · rw [if_neg h1] at h; cases h
theorem atI_get {α : Type} {xs : List α} {i : Int} {v : α} (h : atI xs i = some v) : ∃ j, seqIndex? i xs.length = some j ∧ xs[j]? = some v ∧ j < xs.length ∧ -(xs.length : Int) ≤ i ∧ i < xs.length := by
  unfold atI at h
  cases e : ixN xs.length i with
  | none => rw [e] at h; cases h
  | some j =>
    rw [e] at h
    obtain ⟨h1, h2, h3, h4⟩ := ixN_seq e
    exact ⟨j, h1, h, h2, h3, h4⟩
theorem atI_nat {α : Type} {xs : List α} {j : Nat} {v : α} (h : xs[j]? = some v) : atI xs (j : Int) = some v := by
  have hj : j < xs.length := (List.getElem?_eq_some_iff.mp h).1
  have e : ixN xs.length (j : Int) = some j := by
    unfold ixN
    rw [if_pos (by omega), if_pos (by omega)]; simp
  unfold atI; rw [e]; exact h
def PlainIx (b : Expr) : Prop := ∀ o i, subscripted b false o i = operate [o, i] (getItem o i)
def IxR (X : Cx) (r : R2) : Prop :=
  ∀ (value slice : Expr) (pins : List (Addr × Obj)) (s : Shared) (σ : St) (H : Hp) (x y : V) (v u : Value) (Q : VK), Inv X pins σ H s → RelV x v → RelV y u → r x y H Q →
    subscripted slice false v u = operate [v, u] (getItem v u) → wpAny (model X.prog X.w) X.A (subscriptTail value slice v u) (EP X pins σ Q) X.xe s
def MtR (X : Cx) (id : String) (r : V → List V → Hp → VK → Prop) : Prop :=
  ∀ (pins : List (Addr × Obj)) (s : Shared) (σ : St) (H : Hp) (x : V) (xs : List V) (v : Value) (us : List Value) (Q : VK), Inv X pins σ H s → RelV x v → Vals xs us → r x xs H Q →
    wpAny (model X.prog X.w) X.A (call (.builtin id) (v :: us)) (EP X pins σ Q) X.xe s
section
variable {X : Cx} {a b : Expr} {ta tb : TE} {pos : Pos}
theorem pe_ix {r : R2} (hr : IxR X r) (ha : PE X a ta) (hb : PE X b tb) (hs : PlainIx b) : PE X (.Subscript a b pos) (tOp r ta tb) := by
  intro pins s σ H Q I h
  exact Subscript_ (binT ha hb I h fun v u s2 x y H2 I2 rx ry q => hr a b pins s2 σ H2 x y v u Q I2 rx ry q (hs _ _))

def rIxL (K : PySem.W.Frag) : R2 := fun x y H Q => ∃ p xs i v, x = .ref p ∧ y = .int i ∧ SqL K H p xs ∧ atI xs i = some v ∧ Q v H
def rIxT (K : PySem.W.Frag) : R2 := fun x y H Q => ∃ p xs i v, x = .ref p ∧ y = .int i ∧ SqT K H p xs ∧ atI xs i = some v ∧ Q v H
def rIxS : R2 := fun x y H Q => ∃ z i c, x = .str z ∧ y = .int i ∧ z.length ≤ sizeLine ∧ atI z.cps.toList i = some c ∧ Q (.str ⟨#[c]⟩) H
theorem ix_list : IxR X (rIxL X.K) := by
  intro value slice pins s σ H x y v u Q I rx ry h hs
  obtain ⟨p, xs, i, z, rfl, rfl, hq, he, q⟩ := h
  cases rx
  obtain ⟨t, rfl⟩ := ry
  obtain ⟨its, r, pl, hz⟩ := I.list hq
  obtain ⟨j, h1, h2, h3, h4, h5⟩ := atI_get he
  obtain ⟨w, ew, rw'⟩ := r.get h2
  have hl := r.length
  have hn := line63
  have fin : EP X pins σ Q w s := ⟨z, H, I, rw', q⟩
  by_cases h0 : 0 ≤ i
  · have hj : i.toNat = j := by
      rw [seqIndex_of h0 h5] at h1
      exact Option.some.inj h1
    exact item_listR pl.isList h0 (by omega) (by rw [hj]; simpa using ew) fin hs
  · have hj : (i + (its.toArray.size : Int)).toNat = j := by
      rw [seqIndex_neg (by omega) h4] at h1
      rw [List.size_toArray, ← hl]
      exact Option.some.inj h1
    exact subscriptTail_builtinR (x := w) pl.isList.typeIs slot_list_getitem.lookup
      (wpAny_getItem_list_neg (Q := fun r s' => r = w ∧ EP X pins σ Q r s') pl.isList (by omega) (by rw [List.size_toArray] <;> omega) (by omega) (by rw [hj]; simpa using ew) ⟨rfl, fin⟩) hs
theorem ix_tup : IxR X (rIxT X.K) := by
  intro value slice pins s σ H x y v u Q I rx ry h hs
  obtain ⟨p, xs, i, z, rfl, rfl, hq, he, q⟩ := h
  cases rx
  obtain ⟨t, rfl⟩ := ry
  obtain ⟨its, r, pl, hz⟩ := I.tuple hq
  obtain ⟨j, h1, h2, h3, h4, h5⟩ := atI_get he
  obtain ⟨w, ew, rw'⟩ := r.get h2
  have hl := r.length
  have hn := line63
  have fin : EP X pins σ Q w s := ⟨z, H, I, rw', q⟩
  exact subscriptTail_builtinR (x := w) pl.typeIs slot_tuple_getitem.lookup
    (getItem_tuple (j := j) (Q := fun r s' => r = w ∧ EP X pins σ Q r s') pl (by omega) (by omega) (by rw [List.size_toArray, ← hl]; exact h1) (by simpa using ew) ⟨rfl, fin⟩) hs
theorem ix_str : IxR X rIxS := by
  intro value slice pins s σ H x y v u Q I rx ry h hs
  obtain ⟨z, i, c, rfl, rfl, hz, he, q⟩ := h
  obtain ⟨t, rfl⟩ := rx
  obtain ⟨t', rfl⟩ := ry
  obtain ⟨j, h1, h2, h3, h4, h5⟩ := atI_get he
  have hl : z.cps.toList.length = z.length := by simp [Str.length]
  rw [hl] at h1 h4 h5
  have hn := line63
  exact tail_any (typeIs_str s z t) slot_str_getitem.lookup (getItem_str (c := c) (by
    have e1 : decide (i < -(2 ^ 63 : Int)) = false := decide_eq_false (by omega)
    have e2 : decide (i ≥ 2 ^ 63) = false := decide_eq_false (by omega)
    rw [e1, e2, Bool.or_false]) (by rw [h1]; simpa using h2) ⟨.str ⟨#[c]⟩, H, I.tok _, ⟨_, rfl⟩, q⟩) hs
theorem Inv.lst {pins : List (Addr × Obj)} {σ : St} {H : Hp} {s : Shared} {p : Addr} {xs : List V} (I : Inv X pins σ H s) (h : H p = some (.lst xs)) :
    ∃ (its : List Value) (n : Nat), Vals xs its ∧ s.heap.get? p = some { cls := .type "list", data := .seq its.toArray n } ∧ xs.length ≤ sizeLine := by
  obtain ⟨z, its, n, r, e⟩ := I.hok p _ h
  exact ⟨its, n, r, e, z⟩
theorem slice_bounds (lo hi : Option Int) (n : Nat) : (sliceBounds lo hi none n).1 = ((HT.sIx n 0 lo : Nat) : Int) ∧ (sliceBounds lo hi none n).2.1 = ((HT.sIx n n hi : Nat) : Int) ∧ (sliceBounds lo hi none n).2.2 = 1 := by
  refine ⟨?_, ?_, rfl⟩
  · cases lo with
    | none => simp [sliceBounds, HT.sIx]
    | some i =>
      simp only [sliceBounds, HT.sIx, Option.getD_none, show (1 : Int) > 0 by decide, if_true]
      by_cases h : i < 0
      · simp only [h, if_true] <;> omega
      · simp only [h, if_false] <;> omega
  · cases hi with
    | none => simp [sliceBounds, HT.sIx]
    | some i =>
      simp only [sliceBounds, HT.sIx, Option.getD_none, show (1 : Int) > 0 by decide, if_true]
      by_cases h : i < 0
      · simp only [h, if_true] <;> omega
      · simp only [h, if_false] <;> omega
theorem slicePick_cut (its : List Value) (lo hi : Option Int) : slicePick its.toArray lo hi none = ((its.drop (HT.sIx its.length 0 lo)).take (HT.sIx its.length its.length hi - HT.sIx its.length 0 lo)).toArray := by
  obtain ⟨h1, h2, h3⟩ := slice_bounds lo hi its.toArray.size
  unfold slicePick
  rw [h1, h2, h3]
  simp only [sliceRange_one, pick_run, List.size_toArray] <;> rfl
def rSlL (K : PySem.W.Frag) : V → Option Int → Option Int → Hp → VK → Prop := fun x lo hi H Q => ∃ a xs, x = .ref a ∧ SqL K H a xs ∧ ∀ p, H p = none → Q (.ref p) (upd H p (.lst (cutV xs lo hi)))
theorem sl_list : SlR X (rSlL X.K) := by
  intro pins s σ H x v vl vu lo hi sl Q I rx hs pl pu h
  obtain ⟨a, xs, rfl, hx, q⟩ := h
  cases rx
  obtain ⟨its, r, ht, hz⟩ := I.list hx
  have hlen := r.length
  refine ⟨"list", _, slot_list_getitem.lookup, ht.isList.typeIs, ?_⟩
  refine wpAny_getItem_list_slice ht.isList hs pl pu .none (by simp) ?_ (by rw [List.size_toArray] <;> omega)
  rw [slicePick_cut, ← hlen]
  refine ⟨.ref s.heap.objs.size, _, I.laid (t' := s.toks) (o := .lst (cutV xs lo hi)) (fun b ob q => Heap.get?_push_of_some _ q) (Nat.le_refl _) ?_, rfl, q _ (I.hok.fresh (Nat.le_refl _))⟩
  exact ⟨Nat.le_trans (cutV_length xs lo hi) hz, _, 0, (r.drop (HT.sIx xs.length 0 lo)).take (HT.sIx xs.length xs.length hi - HT.sIx xs.length 0 lo), Heap.get?_push_size _ rfl⟩

def flatV : V → Bool
  | .non => true
  | .bl _ => true
  | .int _ => true
  | .str _ => true
  | _ => false
def eqV : V → V → Bool
  | .non, .non => true
  | .bl a, .bl b => a == b
  | .bl a, .int b => (if a then 1 else 0) == b
  | .int a, .bl b => a == (if b then 1 else 0)
  | .int a, .int b => a == b
  | .str a, .str b => a == b
  | _, _ => false
theorem eqAt_V {A : Around} {s : Shared} {y x : V} {u v : Value} (ry : RelV y u) (rx : RelV x v) (fy : flatV y = true) (fx : flatV x = true) : SeqAt.EqAt A s u v (eqV y x) := by
  cases y with
  | non =>
    cases ry
    cases x with
    | non => cases rx; exact SeqAt.EqAt.same _
    | bl b => cases rx; exact SeqAt.EqAt.none_bool b
    | int b => obtain ⟨t, rfl⟩ := rx; exact SeqAt.EqAt.none_int b t
    | str b => obtain ⟨t, rfl⟩ := rx; exact SeqAt.EqAt.none_str b t
    | _ => exact absurd (show false = true from fx) Bool.false_ne_true
  | bl a =>
    cases ry
    cases x with
    | non => cases rx; exact SeqAt.EqAt.bool_none a
    | bl b => cases rx; exact SeqAt.EqAt.bool_bool a b
    | int b => obtain ⟨t, rfl⟩ := rx; exact SeqAt.EqAt.bool_int a b t
    | str b => obtain ⟨t, rfl⟩ := rx; exact SeqAt.EqAt.bool_str a b t
    | _ => exact absurd (show false = true from fx) Bool.false_ne_true
  | int a =>
    obtain ⟨t', rfl⟩ := ry
    cases x with
    | non => cases rx; exact SeqAt.EqAt.int_none a t'
    | bl b => cases rx; exact SeqAt.EqAt.int_bool a t' b
    | int b => obtain ⟨t, rfl⟩ := rx; exact SeqAt.EqAt.int_int a t' b t
    | str b => obtain ⟨t, rfl⟩ := rx; exact SeqAt.EqAt.int_str a t' b t
    | _ => exact absurd (show false = true from fx) Bool.false_ne_true
  | str a =>
    obtain ⟨t', rfl⟩ := ry
    cases x with
    | non => cases rx; exact SeqAt.EqAt.str_none a t'
    | bl b => cases rx; exact SeqAt.EqAt.str_bool a t' b
    | int b => obtain ⟨t, rfl⟩ := rx; exact SeqAt.EqAt.str_int a t' b t
    | str b => obtain ⟨t, rfl⟩ := rx; exact SeqAt.EqAt.str_str a t' b t
    | _ => exact absurd (show false = true from fx) Bool.false_ne_true
  | _ => exact absurd (show false = true from fy) Bool.false_ne_true
def eqU (x : V) (u : Value) : Bool := match u with
  | .none => eqV .non x
  | .bool b => eqV (.bl b) x
  | .int i _ => eqV (.int i) x
  | .str z _ => eqV (.str z) x
  | _ => false
theorem eqU_of {x y : V} {u : Value} (r : RelV y u) (f : flatV y = true) : eqU x u = eqV y x := by
  cases y with
  | non => cases r; rfl
  | bl b => cases r; rfl
  | int i => obtain ⟨t, rfl⟩ := r; rfl
  | str z => obtain ⟨t, rfl⟩ := r; rfl
  | _ => exact absurd (show false = true from f) Bool.false_ne_true
theorem any_eqU {x : V} : ∀ {xs : List V} {us : List Value}, Vals xs us → xs.all flatV = true → us.any (eqU x) = xs.any fun y => eqV y x
  | _, _, .nil, _ => rfl
  | y :: xs, u :: us, .cons r t, f => by
    rw [List.all_cons, Bool.and_eq_true] at f
    rw [List.any_cons, List.any_cons, eqU_of r f.1, any_eqU t f.2]
theorem mem_eqAt {A : Around} {s : Shared} {x : V} {v : Value} (rx : RelV x v) (fx : flatV x = true) : ∀ {xs : List V} {us : List Value}, Vals xs us → xs.all flatV = true → ∀ u ∈ us, SeqAt.EqAt A s u v (eqU x u)
  | _, _, .nil, _ => fun u hu => by cases hu
  | y :: xs, u :: us, .cons r t, f => fun u' hu => by
    rw [List.all_cons, Bool.and_eq_true] at f
    rcases List.mem_cons.mp hu with rfl | hu
    · rw [eqU_of r f.1]; exact eqAt_V r rx f.1 fx
    · exact mem_eqAt rx fx t f.2 u' hu
def inV (x : V) (xs : List V) : Bool := xs.any fun y => eqV y x
def rIn (K : PySem.W.Frag) (neg : Bool) : R2 := fun x y H Q => ∃ p xs, y = .ref p ∧ (SqL K H p xs ∨ SqT K H p xs) ∧ flatV x = true ∧ xs.all flatV = true ∧ Q (.bl (if neg then !inV x xs else inV x xs)) H
theorem op_in_seq : OpR X (compareOp .In) (rIn X.K false) := by
  intro pins s σ H x y v u Q I rx ry h
  obtain ⟨p, xs, rfl, hq, fx, fs, q⟩ := h
  cases ry
  rcases hq with hq | hq
  · obtain ⟨its, r, pl, hz⟩ := I.list hq
    refine SeqAt.in_listAt (eqU x) pl.isList (fun w hw => mem_eqAt rx fx r fs w (by simpa using hw)) ⟨.bl _, H, I, rfl, ?_⟩
    rw [show its.toArray.any (eqU x) = its.any (eqU x) by simp, any_eqU r fs]
    exact q
  · obtain ⟨its, r, pl, hz⟩ := I.tuple hq
    refine SeqAt.in_tupleAt (eqU x) pl (fun w hw => mem_eqAt rx fx r fs w (by simpa using hw)) ⟨.bl _, H, I, rfl, ?_⟩
    rw [show its.toArray.any (eqU x) = its.any (eqU x) by simp, any_eqU r fs]
    exact q
theorem op_notIn_seq : OpR X (compareOp .NotIn) (rIn X.K true) := by
  intro pins s σ H x y v u Q I rx ry h
  obtain ⟨p, xs, rfl, hq, fx, fs, q⟩ := h
  cases ry
  rcases hq with hq | hq
  · obtain ⟨its, r, pl, hz⟩ := I.list hq
    refine SeqAt.notIn_listAt (eqU x) pl.isList (fun w hw => mem_eqAt rx fx r fs w (by simpa using hw)) ⟨.bl _, H, I, rfl, ?_⟩
    rw [show its.toArray.any (eqU x) = its.any (eqU x) by simp, any_eqU r fs]
    exact q
  · obtain ⟨its, r, pl, hz⟩ := I.tuple hq
    refine SeqAt.notIn_tupleAt (eqU x) pl (fun w hw => mem_eqAt rx fx r fs w (by simpa using hw)) ⟨.bl _, H, I, rfl, ?_⟩
    rw [show its.toArray.any (eqU x) = its.any (eqU x) by simp, any_eqU r fs]
    exact q
theorem call_tuple_of : CallR X (.type "tuple") (fun xs H Q => ∃ p ys, xs = [.ref p] ∧ ((SqL X.K H p ys ∧ ∀ l, H l = none → Q (.ref l) (upd H l (.tup ys))) ∨ (SqT X.K H p ys ∧ Q (.ref p) H))) := by
  intro pins s σ H xs us Q I r h
  obtain ⟨p, ys, rfl, h⟩ := h
  obtain ⟨u, rfl, rx⟩ := vals1 r
  cases rx
  rcases h with ⟨hq, q⟩ | ⟨hq, q⟩
  · obtain ⟨its, r', pl, hz⟩ := I.list hq
    have hlen := r'.length
    refine call_tuple_list pl.isList (fun h' kp => ?_) (by simp only [List.size_toArray] <;> omega)
    have I1 : Inv X pins σ H { s with heap := h' } := I.kept (t' := s.toks) kp
    have I2 : Inv X pins σ (upd H h'.objs.size (.tup ys)) { s with heap := h'.push { cls := .type "tuple", data := .seq its.toArray } } :=
      I1.laid (t' := s.toks) (fun b o e => Heap.get?_push_of_some _ e) (Nat.le_refl _) (show ObjOk X.prog X.w _ _ _ (.tup ys) from ⟨hz, its, r', IsTup.new _ _⟩)
    exact ⟨.ref h'.objs.size, _, I2, rfl, q _ (I1.hok.fresh (Nat.le_refl _))⟩
  · obtain ⟨its, r', pl, hz⟩ := I.tuple hq
    exact call_tuple_same pl ⟨.ref p, H, I, rfl, q⟩

def tyV (K : PySem.W.Frag) (T : String) (x : V) (H : Hp) : Prop := match x with
  | .str _ => T = "str"
  | .int _ => T = "int"
  | .ref p => (T = "list" ∧ ∃ xs, SqL K H p xs) ∨ (T = "tuple" ∧ ∃ o, K.lookup p = some o ∧ o.cls = .type "tuple" ∧ o.dict = none) ∨
      (T = "dict" ∧ ((∃ kvs, H p = some (.dK kvs)) ∨ ∃ kvs, H p = some (.dT kvs))) ∨ (T = "set" ∧ ∃ S n, H p = some (.set S n))
  | _ => False
theorem tyV_is {pins : List (Addr × Obj)} {σ : St} {H : Hp} {s : Shared} {T : String} {x : V} {v : Value} (I : Inv X pins σ H s) (r : RelV x v) (ty : tyV X.K T x H) :
    s.TypeIs v T ∧ ∀ a, v = .ref a → ∃ ob, s.heap.get? a = some ob ∧ ob.dict = none := by
  cases x with
  | str z =>
    obtain ⟨t, rfl⟩ := r
    cases (show T = "str" from ty)
    exact ⟨typeIs_str s z t, fun _ e => nomatch e⟩
  | int i =>
    obtain ⟨t, rfl⟩ := r
    cases (show T = "int" from ty)
    exact ⟨typeIs_int s i t, fun _ e => nomatch e⟩
  | ref p =>
    cases r
    rcases ty with ⟨rfl, xs, hq⟩ | ⟨rfl, o, hk, hc, hd⟩ | ⟨rfl, hk⟩ | ⟨rfl, S, n, hk⟩
    · obtain ⟨its, _, pl, _⟩ := I.list hq
      refine ⟨pl.isList.typeIs, fun a e => ?_⟩
      cases e
      obtain ⟨o, n, e, c, hd, _⟩ := pl
      exact ⟨o, e, hd⟩
    · refine ⟨⟨o, I.kIn p o hk, hc⟩, fun a e => ?_⟩
      cases e
      exact ⟨o, I.kIn _ o hk, hd⟩
    · have z : ∃ o, s.heap.get? p = some o ∧ o.ExactDict := by
        rcases hk with ⟨kvs, hk⟩ | ⟨kvs, hk⟩
        · obtain ⟨_, _, _, _, o, _, _, e, ex, _⟩ := I.hok p _ hk
          exact ⟨o, e, ex⟩
        · obtain ⟨_, _, _, _, o, _, _, e, ex, _⟩ := I.hok p _ hk
          exact ⟨o, e, ex⟩
      obtain ⟨o, e, ex⟩ := z
      refine ⟨⟨o, e, ex.1⟩, fun a e2 => ?_⟩
      cases e2
      exact ⟨o, e, ex.2.1⟩
    · obtain ⟨o, _, _, _, e, ex, _⟩ := I.hok p _ hk
      refine ⟨⟨o, e, ex.1⟩, fun a e2 => ?_⟩
      cases e2
      exact ⟨o, e, ex.2.1⟩
  | _ => exact False.elim ty
def tBM0 (K : PySem.W.Frag) (T : String) (r : V → List V → Hp → VK → Prop) (to : TE) : TE := fun σ H Q => to σ H fun x H1 => tyV K T x H1 ∧ r x [] H1 Q
def tBM (K : PySem.W.Frag) (T : String) (r : V → List V → Hp → VK → Prop) (to : TE) (t : TA) : TE := fun σ H Q => to σ H fun x H1 => tyV K T x H1 ∧ t σ H1 fun xs H2 => r x xs H2 Q
variable {o e : Expr} {es : List Expr} {to : TE} {t : TA} {name : Str} {apos cpos : Pos} {T id : String} {r : V → List V → Hp → VK → Prop}
theorem pe_bm0 (pa : PlainAttrs T) (slot : Slot T name id) (hty : typeOf (.builtin id) = pure (.type "method_descriptor")) (hm : MtR X id r) (ho : PE X o to)
    (hbase : attributeBase o name X.env (eval o X.env) = eval o X.env := by rfl) (hline : (apos.endLine == cpos.line) = true := by rfl) : PE X (.Call (.Attribute o name apos) [] [] cpos) (tBM0 X.K T r to) := by
  intro pins s σ H Q I h
  refine wpAny_Call_method0_late hbase hline (thn (ho pins s σ H _ I h) fun v s1 ⟨x, H1, I1, r1, ty, q1⟩ => ?_)
  obtain ⟨h1, h2⟩ := tyV_is I1 r1 ty
  exact ⟨T, id, pa, slot, hty, h1, h2, Calls.callWith_builtin rfl (PySem.evalArgs_none (hm pins s1 σ H1 x [] v [] Q I1 r1 .nil q1))⟩
theorem pe_bm (pa : PlainAttrs T) (slot : Slot T name id) (hty : typeOf (.builtin id) = pure (.type "method_descriptor")) (hm : MtR X id r) (ho : PE X o to) (ha : PA X (e :: es) t)
    (hbase : attributeBase o name X.env (eval o X.env) = eval o X.env := by rfl)
    (hfew : ((backTo cpos (starEach (e :: es) X.env)).all (fun x => !x.1) && (backToKw cpos (keywordEach [] X.env)).all (fun x => x.1.isSome)
      && decide ((e :: es).length + ([] : List Keyword).length + (if ([] : List Keyword).isEmpty then 0 else 1) < 30)) = true := by rfl)
    (hline : (apos.endLine == cpos.line) = true := by rfl) (hs : starEach (e :: es) X.env = (false, eval e X.env) :: starEach es X.env := by rfl) (hplain : (backTo cpos (starEach es X.env)).any (·.1) = false := by rfl) :
    PE X (.Call (.Attribute o name apos) (e :: es) [] cpos) (tBM X.K T r to t) := by
  intro pins s σ H Q I h
  refine wpAny_Call_method_late hbase hfew hline rfl (thn (ho pins s σ H _ I h) fun v s1 ⟨x, H1, I1, r1, ty, q1⟩ => ?_)
  obtain ⟨h1, h2⟩ := tyV_is I1 r1 ty
  refine ⟨T, id, pa, slot, hty, h1, h2, ?_⟩
  have hA := ha cpos pins s1 σ H1 _ I1 q1
  rw [hs] at hA ⊢
  refine Calls.callWith_builtin (by show (false || (backTo cpos (starEach es X.env)).any (·.1)) = false; rw [hplain] <;> rfl) (Calls.evalArgs_plain ?_)
  exact thn hA fun us s2 ⟨vs, H2, I2, r2, q2⟩ => hm pins s2 σ H2 x vs v us Q I2 r1 r2 q2
/- xs.append(e), list.index on a module's tuple .. are MtR facts of 06m -/
end
end L2

namespace L2
open PySem PySem.Spec PyProof.Rows

def MtM (X : Cx) (id : String) (r : V → List V → Hp → VK → Prop) : Prop :=
  ∀ (pins : List (Addr × Obj)) (s : Shared) (σ : St) (H : Hp) (x : V) (xs : List V) (v : Value) (us : List Value) (Q : VK), Inv X pins σ H s → RelV x v → Vals xs us → r x xs H Q →
    wpAny (model X.prog X.w) X.A (call (.builtin id) (v :: us)) (EP X pins σ Q) X.xe s

theorem Vals.one : ∀ {x : V} {us : List Value}, Vals [x] us → ∃ u, us = [u] ∧ RelV x u
  | _, _, .cons r .nil => ⟨_, rfl, r⟩
theorem Vals.two : ∀ {x y : V} {us : List Value}, Vals [x, y] us → ∃ u v, us = [u, v] ∧ RelV x u ∧ RelV y v
  | _, _, _, .cons r (.cons q .nil) => ⟨_, _, rfl, r, q⟩
theorem Vals.zero : ∀ {us : List Value}, Vals [] us → us = []
  | _, .nil => rfl
theorem Vals.dropLast {xs : List V} {us : List Value} (h : Vals xs us) : Vals xs.dropLast us.dropLast := by
  induction h with
  | nil => exact .nil
  | cons r t ih =>
    cases t with
    | nil => exact .nil
    | cons q t' => exact .cons r ih
theorem Vals.eraseIdx : ∀ {xs : List V} {us : List Value} (i : Nat), Vals xs us → Vals (xs.eraseIdx i) (us.eraseIdx i)
  | _, _, _, .nil => .nil
  | _, _, 0, .cons _ t => t
  | _, _, i + 1, .cons r t => .cons r (Vals.eraseIdx i t)
theorem Vals.reverse {xs : List V} {us : List Value} (h : Vals xs us) : Vals xs.reverse us.reverse := by
  induction h with
  | nil => exact .nil
  | cons r t ih => rw [List.reverse_cons, List.reverse_cons]; exact Vals.append ih (.cons r .nil)
theorem erase_last {α : Type} (l : List α) : l.eraseIdx (l.length - 1) = l.dropLast := by
  induction l with
  | nil => rfl
  | cons a r ih =>
    cases r with
    | nil => rfl
    | cons b r =>
      have e : (a :: b :: r).length - 1 = ((b :: r).length - 1) + 1 := by
        have h1 : (a :: b :: r).length = r.length + 2 := rfl
        have h2 : (b :: r).length = r.length + 1 := rfl
        omega
      rw [e, List.eraseIdx_cons_succ, ih]
      all_goals rfl
section
variable {X : Cx} {pins : List (Addr × Obj)} {σ : St} {H : Hp} {s : Shared} {l b : Addr} {xs ys zs : List V}

theorem Inv.lset {its its' : List Value} {n : Nat} {f : Array Value → Array Value} {t' : Nat} (I : Inv X pins σ H s) (hH : H l = some (.lst xs))
    (e : s.heap.get? l = some { cls := .type "list", data := .seq its.toArray n }) (hf : f its.toArray = its'.toArray) (hv : Vals ys its') (hz : ys.length ≤ sizeLine) :
    Inv X pins σ (upd H l (.lst ys)) { s with heap := s.heap.update l (Obj.mapSeq f), toks := t' } := by
  have q := PySem.IsL.update e f
  rw [hf] at q
  refine I.write (x := l) (e := l) (by rw [hH]; exact trivial) (.inl rfl) (fun b' u hb hu => (Heap.get?_update_other s.heap (Obj.mapSeq f) (Ne.symm hb)).trans hu) ⟨_, q⟩ ?_
  exact ⟨hz, its', _, hv, q⟩
theorem Inv.lnew {its : List Value} {t' : Nat} (I : Inv X pins σ H s) (hv : Vals ys its) (hz : ys.length ≤ sizeLine) :
    Inv X pins σ (upd H s.heap.objs.size (.lst ys)) { s with heap := s.heap.push { cls := .type "list", data := .seq its.toArray }, toks := t' } :=
  I.laid (fun _ _ q => Heap.get?_push_of_some _ q) (Nat.le_refl _) ⟨hz, its, 0, hv, Heap.get?_push_size _ rfl⟩
theorem Inv.fresh (I : Inv X pins σ H s) : H s.heap.objs.size = none := I.hok.fresh (Nat.le_refl _)
theorem Inv.lstM (I : Inv X pins σ H s) (hH : H l = some (.lst xs)) : xs.length ≤ sizeLine ∧ ∃ (its : List Value) (n : Nat), Vals xs its ∧ xs.length = its.length ∧ s.heap.get? l = some { cls := .type "list", data := .seq its.toArray n } := by
  obtain ⟨z, its, n, r, e⟩ := I.hok l _ hH
  exact ⟨z, its, n, r, r.length, e⟩

end

section
variable {X : Cx}

def rAppend : V → List V → Hp → VK → Prop := fun x vs H Q => ∃ l xs y, x = .ref l ∧ vs = [y] ∧ H l = some (.lst xs) ∧ xs.length < sizeLine ∧ Q .non (upd H l (.lst (xs ++ [y])))
theorem mt_append : MtM X "list.append" rAppend := by
  intro pins s σ H x vs v us Q I rx rv h
  obtain ⟨l, xs, y, rfl, rfl, hH, hz, q⟩ := h
  cases rx
  obtain ⟨u, rfl, ru⟩ := rv.one
  obtain ⟨z, its, n, r, hl, e⟩ := I.lstM hH
  refine call_meets F.slot_list_append ⟨_, e, rfl⟩ F.entry_list_append (F.args_list_append_2 _ _) (PySem.list_append l its.toArray n u (by rw [List.size_toArray]; omega)) ⟨e, ?_⟩
  refine ⟨.non, _, I.lset (its' := its ++ [u]) hH e (by simp) (r.append (.cons ru .nil)) ?_, rfl, q⟩
  rw [List.length_append, List.length_singleton]
  omega

def rPop : V → List V → Hp → VK → Prop := fun x vs H Q => ∃ l xs y, x = .ref l ∧ vs = [] ∧ H l = some (.lst xs) ∧ xs[xs.length - 1]? = some y ∧ Q y (upd H l (.lst xs.dropLast))
theorem mt_pop : MtM X "list.pop" rPop := by
  intro pins s σ H x vs v us Q I rx rv h
  obtain ⟨l, xs, y, rfl, rfl, hH, hy, q⟩ := h
  cases rx
  have hus := rv.zero
  subst hus
  obtain ⟨z, its, n, r, hl, e⟩ := I.lstM hH
  obtain ⟨u, hu, ru⟩ := r.get hy
  have hy' : its.toArray[its.toArray.size - 1]? = some u := by
    show its.toArray[its.length - 1]? = some u
    rw [← Array.getElem?_toList, ← hl]
    exact hu
  refine call_meets F.slot_list_pop ⟨_, e, rfl⟩ F.entry_list_pop (F.args_list_pop_1 _) (MeetsSeq.list_pop_last l its.toArray n u hy' (by rw [List.size_toArray]; omega)) ⟨e, ?_⟩
  refine ⟨y, _, I.lset (its' := its.dropLast) hH e ?_ r.dropLast ?_, ru, q⟩
  · show its.toArray.eraseIdxIfInBounds (its.toArray.size - 1) = its.dropLast.toArray
    rw [List.size_toArray, List.eraseIdxIfInBounds_toArray, erase_last]
  · rw [List.length_dropLast]
    omega

def rCat : R2 := fun x y H Q => ∃ l b xs zs, x = .ref l ∧ y = .ref b ∧ H l = some (.lst xs) ∧ H b = some (.lst zs) ∧ xs.length + zs.length ≤ sizeLine ∧ ∀ p, H p = none → Q (.ref p) (upd H p (.lst (xs ++ zs)))
theorem op_cat : OpR X (binaryOp .Add) rCat := by
  intro pins s σ H x y v u Q I rx ry h
  obtain ⟨l, b, xs, zs, rfl, rfl, hH, hB, hz, q⟩ := h
  cases rx
  cases ry
  obtain ⟨z, its, n, r, hl, e⟩ := I.lstM hH
  obtain ⟨z2, its2, n2, r2, hl2, e2⟩ := I.lstM hB
  refine PySem.P.add_list e e2 ?_ (by rw [List.size_toArray, List.size_toArray]; omega)
  have ea : its.toArray ++ its2.toArray = (its ++ its2).toArray := by simp
  rw [ea]
  exact ⟨.ref _, _, I.lnew (t' := s.toks) (r.append r2) (by rw [List.length_append]; omega), rfl, q _ I.fresh⟩
end

section
variable {prog : Program} {w : World} {A : Around} {E : Value → Shared → Prop} {s : Shared}
end

section
variable {X : Cx}
end
end L2

namespace Att
open PySem PySem.W PySem.Calls PyProof.Rows

theorem ints_of_wellAll {P : Params} {h : Heap} : ∀ (ns : List Int) (vs : List Value), WellAll P h vs (ns.map WData.int) → IntsAre vs ns := by
  intro ns
  induction ns with
  | nil =>
    intro vs w
    rw [List.map_nil] at w
    cases w
    exact .nil
  | cons n ns ih =>
    intro vs w
    rw [List.map_cons] at w
    cases w with
    | cons a b =>
      cases a
      exact .cons _ _ (ih _ b)

theorem script_of {l : OpenLaw} {n : Nat} (hn : l.most = some n) {P : Params} {h : Heap} {args : List WData} {vals : List Value}
    (hpre : l.row.toRowW.claim.pre args = true) (hwl : WellAll P h vals args) :
    ∃ a vs ns, vals = [Value.ref a] ∧ args = [WData.list (ns.map WData.int)] ∧ h.get? a = some { cls := .type "list", data := .seq vs.toArray } ∧ IntsAre vs ns ∧ ns.length ≤ n := by
  have hsh : WShape.hasAll [] args [.list .int] = true := (pre_splitW hpre).1
  have hc : l.pre.holds [] { args := args } = true := (pre_splitW hpre).2
  obtain ⟨d, r, rfl, h1, h2⟩ := hasAllW_cons hsh
  obtain rfl := hasAllW_nil h2
  obtain ⟨xs, rfl, h3⟩ := hasW_list h1
  obtain ⟨ns, rfl⟩ := items_int h3
  have hlen : ns.length ≤ n := by
    unfold OpenLaw.pre at hc
    have h4 : (WTm.not (.lt (.lit (.int (n : Int))) (.len (.arg 0)))).holds [] { args := [.list (ns.map .int)] } = true := by
      have h4 := (holds_andW hc).1
      rw [hn] at h4
      exact h4
    have h5 := condW_of h4 (w_not (w_lt w_lit (w_len_list (w_arg rfl))))
    rw [List.length_map] at h5
    refine Nat.le_of_not_lt fun q => ?_
    have q' : (n : Int) < ((ns.length : Nat) : Int) := by omega
    first
      | (rw [decide_eq_true q'] at h5; exact absurd h5 (by decide))
      | (simp at h5; omega)
  cases hwl with
  | cons w1 w2 =>
    cases w2
    cases w1 with
    | list ho hall => exact ⟨_, _, ns, rfl, rfl, ho, ints_of_wellAll ns _ hall, hlen⟩

theorem post_true (l : OpenLaw) (args : List WData) : l.row.toRowW.claim.post args (.bool true) args = true :=
  postW_of (r := l.row.toRowW) (X := (true == true))
    (show WShape.has [] (.bool true) .bool = true by first | rfl | decide | simp [WShape.has, WShape.arms, WShape.armsAll])
    (show (WTm.eq .res (.lit (.bool true))).value [] { args := args, res := some (.bool true), after := args } = some (.bool (true == true)) from w_eq_bool (w_res rfl) w_lit) rfl

theorem attach_call {l : OpenLaw} {n : Nat} {q : Program} {loose : List Str} {XP : (Str → Option Value) → Heap → Prop} {YP : World → Heap → Prop} {d : DefRec}
    (hn : l.most = some n) (hdf : d.params.defaults = [])
    (call : ∀ (w : World) (s₀ s₁ : Shared) (mg mb : Str → Option Value) (fa : Addr) (o : Obj) (pm cd doc : Value) (a : Addr) (vs : List Value) (ns : List Int),
      Ground q loose [] XP w s₀ mg mb s₁.heap → YP w s₁.heap →
      s₁.heap.get? fa = some o → o.data = .func (docDef d.name d.params d.body d.scope pm cd doc) → s₁.heap.CodeRec cd d.name → mg d.name = some (.ref fa) →
      s₁.heap.get? a = some { cls := .type "list", data := .seq vs.toArray } → IntsAre vs ns → ns.length ≤ n → s₁.gens = #[] →
      codeAny (model l.prog w) callerA (.call (.ref fa) ⟨[.ref a], []⟩) (fun r s' => r = .ok (.ret (.bool true)) ∧ OldK s₁.heap s'.heap ∧ s'.os = s₁.os ∧ AllBare s'.gens) s₁) :
    WalkO q loose XP YP l.row.toRowW d [] (fun f vs => PySem.call f vs) := by
  intro w s₀ s₁ mg mb G Y fa o pm cd doc dV kV ho hd hcd hD hmg hg args vals as hpre hlay hrd hwl hlo
  obtain rfl : dV = .none := Dflts.none hD hdf
  obtain rfl : kV = .none := Dflts.noKw hD
  obtain ⟨a, vs, ns, rfl, rfl, hobj, hints, hlen⟩ := script_of hn hpre hwl
  refine enter_call (codeAny_mono (call w s₀ s₁ mg mb fa o pm cd doc a vs ns G Y ho (fd_plain hd) hcd hmg hobj hints hlen hg) fun r s' hq => ?_)
  obtain ⟨rfl, h2, h3, h4⟩ := hq
  exact ⟨.inl ⟨.bool true, .bool true, [], rfl, fun _ => rfl, .bool true, post_true l _, fun _ => ⟨List.Pairwise.nil, fun _ hm => (nomatch hm)⟩⟩, h2, h3, h4⟩

section
variable {prog : Program} {w : World} {A : Around} {E : Value → Shared → Prop} {s : Shared} {K : Frag}

end
end Att

namespace L2
open PySem PySem.Spec PyProof.Rows

theorem vals_ints : ∀ {vs : List Value} {ns : List Int}, IntsAre vs ns → Vals (ns.map V.int) vs
  | _, _, .nil => .nil
  | _, _, .cons n t h => .cons ⟨t, rfl⟩ (vals_ints h)

def Only (H : Hp) : Prop := ∀ b, H b = none ∨ ∃ o xs, H b = some (.frz o (.lst xs))

theorem law_call {P : Program} {w : World} {K : PySem.W.Frag} {mg mb : Str → Option Value} {CX : CXT} {k : Nat} {fa a : Addr} {fd : FuncData} {x : Str} {sp : Sp} {s₁ : Shared} {vs : List Value} {ns : List Int}
    (KX : K.In s₁.heap) (hns : s₁.heap.Ns mainGlobals mg) (hb : s₁.heap.Ns builtinsNs mb) (hbb : ∀ x : Str, x ≠ "__name__" → mb x = bootBuiltins x) (hlim : s₁.heap.NoLimit) (hg : s₁.gens = #[])
    (ha : s₁.heap.get? a = some { cls := .type "list", data := .seq vs.toArray }) (hi : IntsAre vs ns) (hl : ns.length ≤ sizeLine) (hr : Room k callerA)
    (F : ∀ base : Heap, K.In base → base.Ns mainGlobals mg → FnOk P w K mg base CX k fa fd [x] sp) (hbind : ∀ (s : Shared) (u : Value), BindsTo s fd ⟨[u], []⟩ [(x, u)])
    (hsp : ∀ H : Hp, Only H → SqL K H a (ns.map V.int) → sp [.ref a] H (fun v _ => v = .bl true) fun _ _ _ => False)
    (hCX : ∀ H e s', CX [] H s₁ (fun _ _ _ => False) e s' → False) :
    codeAny (model P w) callerA (.call (.ref fa) ⟨[.ref a], []⟩) (fun r s' => r = .ok (.ret (.bool true)) ∧ OldK s₁.heap s'.heap ∧ s'.os = s₁.os ∧ AllBare s'.gens) s₁ := by
  have rv := vals_ints hi
  have lenV := hi.length
  -- from an abstract heap in which nothing but the script may be tracked
  have core : ∀ H : Hp, Only H → SqL K H a (ns.map V.int) → HOk P w H s₁.heap → (∀ b, H b ≠ none → b = a) → (H a ≠ none → K.lookup a = none) →
      codeAny (model P w) callerA (.call (.ref fa) ⟨[.ref a], []⟩) (fun r s' => r = .ok (.ret (.bool true)) ∧ OldK s₁.heap s'.heap ∧ s'.os = s₁.os ∧ AllBare s'.gens) s₁ := by
    intro H hO hS hok hA hK
    have base_of : ∀ {b : Addr} {o : Obj}, s₁.heap.get? b = some o → H b = none → (hidT s₁.heap H).get? b = some o := fun e n => hidT_get e n
    have noA : ∀ {b : Addr} {o : Obj} {es : Array DictEntry} {ep : Nat}, s₁.heap.get? b = some o → o.data = .dict es ep → H b = none := fun {b o es ep} e d => by
      cases q : H b with
      | none => rfl
      | some u =>
        have e' : b = a := hA b (by rw [q]; simp)
        subst e'
        rw [ha] at e; cases e
        have d' : Data.seq vs.toArray _ = Data.dict es ep := d
        cases d'
    have nsK : ∀ {b : Addr} {m : Str → Option Value}, s₁.heap.Ns b m → (hidT s₁.heap H).Ns b m := fun {b m} ⟨o, es, ep, e, d, r⟩ => ⟨o, es, ep, base_of e (noA e d), d, r⟩
    have hKb : K.In (hidT s₁.heap H) := fun b o e => base_of (KX b o e) (by
      cases q : H b with
      | none => rfl
      | some u =>
        have e' : b = a := hA b (by rw [q]; simp)
        subst e'
        rw [hK (by rw [q]; simp)] at e; cases e)
    have hM : Mod K mg (hidT s₁.heap H) := ⟨hKb, nsK hns, ⟨mb, nsK hb, hbb⟩, let ⟨mc, h1, h2⟩ := hlim; ⟨mc, nsK h1, h2⟩⟩
    have e0 : Env0 P w K mg (hidT s₁.heap H) callerA [] s₁ H := ⟨rfl, hM, fun b o e => of_hidT e, Nat.le_of_eq (hidT_size _ _), trivial, fun b hb => absurd (show b ∈ ([] : List Addr) from hb) (by simp), hok, .of_eq hg⟩
    refine codeAny_mono ((F _ hKb (nsK hns)).run callerA [] s₁ H ⟨[.ref a], []⟩ [.ref a] [.ref a] _ _ hr e0 (hbind s₁ (.ref a)) (.cons rfl .nil) (hsp H hO hS)) fun r s' h => ?_
    cases r with
    | error e => exact (hCX H e s' h).elim
    | ok fl =>
      cases fl with
      | next => exact False.elim h
      | brk => exact False.elim h
      | cont => exact False.elim h
      | ret u =>
        obtain ⟨v, H', os, bare, un, hok', r', q⟩ := h
        have q' : v = .bl true := q
        subst q'
        obtain rfl : u = Value.bool true := r'
        refine ⟨rfl, OldK.of_keep fun b o e => ?_, os, bare⟩
        cases q : H b with
        | none => exact un.keep b o e q (by intro z; exact absurd (show b ∈ ([] : List Addr) from z) (by simp)) (by simp)
        | some u =>
          rcases hO b with z | ⟨ob, xs, z⟩
          · rw [q] at z; cases z
          · have z2 := un.frzs b ob _ z
            obtain ⟨e1, _⟩ := hok b _ z
            obtain ⟨e2, _⟩ := hok' b _ z2
            rw [e] at e1; cases e1
            exact e2
  cases hk : K.lookup a with
  | some o =>
    -- the script is one of the module's own objects
    have e := KX a o hk
    rw [ha] at e
    cases e
    refine core (fun _ => none) (fun _ => .inl rfl) (.inr ⟨_, vs.toArray, _, hk, rfl, rfl, rfl, by rw [List.size_toArray, lenV]; exact hl, by simpa using rv⟩) (fun b u z => by have z' : (none : Option HO) = some u := z; cases z') (fun b z => absurd rfl z) fun z => absurd rfl z
  | none =>
    refine core (fun b => if b = a then some (.frz { cls := .type "list", data := .seq vs.toArray } (.lst (ns.map V.int))) else none) (fun b => ?_) (.inl (.inr ⟨{ cls := .type "list", data := .seq vs.toArray }, if_pos rfl⟩)) (fun b u z => ?_) (fun b z => ?_) fun _ => hk
    · by_cases hb : b = a
      · exact .inr ⟨_, _, if_pos hb⟩
      · exact .inl (if_neg hb)
    · by_cases hb : b = a
      · have z' := (if_pos hb).symm.trans z
        cases z'
        subst hb
        exact ⟨ha, by rw [List.length_map]; exact hl, vs, _, rv, ha⟩
      · have z' := (if_neg hb).symm.trans z
        cases z'
    · by_cases hb : b = a
      · exact hb
      · exact absurd (if_neg hb) z
end L2

namespace L2
open PySem PySem.Spec PyProof.Rows

theorem walk_of {l : PySem.W.OpenLaw} {n k : Nat} {q : Program} {loose : List Str} {XP : (Str → Option Value) → Heap → Prop} {YP : World → Heap → Prop} {d : DefRec} {K : Params → PySem.W.Frag} {CX : World → CXT} {sp : World → Sp} {x : Str}
    (hn : l.most = some n) (hn2 : n ≤ sizeLine) (hdf : d.params.defaults = []) (hr : Room k callerA)
    (hY : ∀ (w : World) (h : Heap), YP w h → (K w.params).In h)
    (F : ∀ (w : World) (mg : Str → Option Value) (fa : Addr) (h : Heap), (K w.params).In h → h.Ns mainGlobals mg → mg d.name = some (.ref fa) →
      ∃ fd : FuncData, (∀ (s : Shared) (u : Value), BindsTo s fd ⟨[u], []⟩ [(x, u)]) ∧
        ∀ base : Heap, (K w.params).In base → base.Ns mainGlobals mg → FnOk l.prog w (K w.params) mg base (CX w) k fa fd [x] (sp w))
    (hsp : ∀ (w : World) (H : Hp) (a : Addr) (ns : List Int), ns.length ≤ n → Only H → SqL (K w.params) H a (ns.map V.int) → sp w [.ref a] H (fun v _ => v = .bl true) fun _ _ _ => False)
    (hCX : ∀ (w : World) (H : Hp) (s : Shared) (e : Value) (s' : Shared), CX w [] H s (fun _ _ _ => False) e s' → False) :
    PySem.W.WalkO q loose XP YP l.row.toRowW d [] (fun f vs => PySem.call f vs) := by
  refine Att.attach_call hn hdf fun w s₀ s₁ mg mb fa o pm cd doc a vs ns G Y ho hd hcd hmg hobj hints hlen hg => ?_
  have KX := hY w _ Y
  obtain ⟨fd, hb, hF⟩ := F w mg fa _ KX G.T.g hmg
  exact law_call KX G.T.g G.T.b G.T.builtins G.T.nolimit hg hobj hints (Nat.le_trans hlen hn2) hr hF hb (fun H hO hS => hsp w H a ns hlen hO hS) fun H e s' => hCX w H s₁ e s'
theorem walk_ofK {l : PySem.W.OpenLaw} {n k : Nat} {q : Program} {loose : List Str} {XP : (Str → Option Value) → Heap → Prop} {YP : World → Heap → Prop} {d : DefRec} {K : Params → PySem.W.Frag} {CX : CXT} {sp : PySem.W.Frag → Sp} {x : Str}
    (hn : l.most = some n) (hn2 : n ≤ sizeLine) (hdf : d.params.defaults = []) (hr : Room k callerA)
    (hY : ∀ (w : World) (h : Heap), YP w h → (K w.params).In h)
    (F : ∀ (w : World) (mg : Str → Option Value) (fa : Addr) (h : Heap), (K w.params).In h → h.Ns mainGlobals mg → mg d.name = some (.ref fa) →
      ∃ fd : FuncData, (∀ (s : Shared) (u : Value), BindsTo s fd ⟨[u], []⟩ [(x, u)]) ∧
        ∀ base : Heap, (K w.params).In base → base.Ns mainGlobals mg → FnOk l.prog w (K w.params) mg base CX k fa fd [x] (sp (K w.params)))
    (hsp : ∀ (K : PySem.W.Frag) (H : Hp) (a : Addr) (ns : List Int), ns.length ≤ n → Only H → SqL K H a (ns.map V.int) → sp K [.ref a] H (fun v _ => v = .bl true) fun _ _ _ => False)
    (hCX : ∀ (H : Hp) (s : Shared) (e : Value) (s' : Shared), CX [] H s (fun _ _ _ => False) e s' → False) :
    PySem.W.WalkO q loose XP YP l.row.toRowW d [] (fun f vs => PySem.call f vs) :=
  walk_of (K := K) (CX := fun _ => CX) (sp := fun w => sp (K w.params)) hn hn2 hdf hr hY F (fun w H a ns h1 h2 h3 => hsp (K w.params) H a ns h1 h2 h3) fun _ H s e s' => hCX H s e s'
end L2


namespace L2
open PySem PySem.Spec PyProof.Rows

def inClass (s : Stmt) (j : Nat) : Stmt := match s with
  | .ClassDef _ _ _ body _ _ _ _ _ _ _ => body.getD j (.Pass ⟨0, 0, 0, 0⟩)
  | _ => .Pass ⟨0, 0, 0, 0⟩
def defArgs (s : Stmt) : Arguments := match s with
  | .FunctionDef _ a _ _ _ _ _ _ _ _ => a
  | _ => { posonlyargs := [], args := [], vararg := none, kwonlyargs := [], kw_defaults := [], kwarg := none, defaults := [] }
def defBody (s : Stmt) : List Stmt := match s with
  | .FunctionDef _ _ b _ _ _ _ _ _ _ => b
  | _ => []
def defScope (s : Stmt) : Scope := match s with
  | .FunctionDef _ _ _ _ _ _ sc _ _ _ => sc
  | _ => { kind := .function, names := [], isGenerator := false, isCoroutine := false }

abbrev CX0 : CXT := fun _ _ _ _ _ _ => False
abbrev E0 : XK := fun _ _ _ => False
theorem pass0 {X : Cx} : Passes CX0 X E0 := fun _ _ _ _ _ _ _ h => h.elim

structure Fun (K : PySem.W.Frag) (x qual : Str) (st : Stmt) (f : Addr) (fd : FuncData) : Prop where
  ex : ∃ (oc : Value) (od : Option Addr) (kV doc pm : Value) (an : Option Addr) (cdv ct : Value) (osl : Array (Option Value)),
    fd = PySem.W.fnOf x qual (defArgs st) (defBody st) (defScope st) .none kV doc pm an cdv ct ∧ K.lookup f = some ⟨oc, od, .func fd, osl⟩ ∧ PySem.W.codeIn K cdv qual = true
  kp : PySem.W.keepIn K (.ref f) = true
section
variable {P : Program} {w : World} {K : PySem.W.Frag} {mg : Str → Option Value} {base : Heap}
theorem Fun.ok {x qual : Str} {st : Stmt} {f : Addr} {fd : FuncData} {N ps : List Str} {k : Nat} {sp : Sp} (F : Fun K x qual st f fd) (S : FnScope N ps (defScope st)) (len : ∀ vs H Q E, sp vs H Q E → vs.length = ps.length)
    (hbody : ∀ (cdv : Value) (A : Around) (outer : List Env) (s : Shared) (H : Hp) (vs : List V) (Q : VK) (E : XK), Room k (A.deeper (envOfC qual (defScope st) s.heap.objs.size f cdv)) → sp vs H Q E →
      ∃ t, PSs (cxOf CX0 P w K mg base N qual (defScope st) f cdv A outer s H E).nox (defBody st) t ∧ t { nx := fun _ H' => Q .non H', rt := Q } (start N vs) H) : FnOk P w K mg base CX0 (k + 1) f fd ps sp := by
  obtain ⟨oc, od, kV, doc, pm, an, cdv, ct, osl, rfl, lk, hcd⟩ := F.ex
  refine fn_of lk hcd S len fun A outer s H vs Q E hr hsp => ?_
  obtain ⟨t, h, q⟩ := hbody cdv A outer s H vs Q E hr hsp
  exact ⟨t, h.nox, q⟩
theorem Fun.binds {x qual : Str} {st : Stmt} {f : Addr} {fd : FuncData} {ps : List Str} (F : Fun K x qual st f fd)
    (h : ∀ (kV doc pm : Value) (an : Option Addr) (cdv ct : Value) (us : List Value), us.length = ps.length → bindArgs (PySem.W.fnOf x qual (defArgs st) (defBody st) (defScope st) .none kV doc pm an cdv ct) ⟨us, []⟩ = pure (ps.zip us)) : Binds K fd ps [] := by
  obtain ⟨oc, od, kV, doc, pm, an, cdv, ct, osl, rfl, lk, hcd⟩ := F.ex
  exact .all (h kV doc pm an cdv ct)
theorem fun_mk {x qual : Str} {st : Stmt} {f : Addr} {oc : Value} {od an : Option Addr} {osl : Array (Option Value)} {kV doc pm cdv ct : Value} (l : K.lookup f = some ⟨oc, od, .func (PySem.W.fnOf x qual (defArgs st) (defBody st) (defScope st) .none kV doc pm an cdv ct), osl⟩)
    (c : PySem.W.codeIn K cdv qual = true) (k : PySem.W.keepIn K (.ref f) = true) : Fun K x qual st f (PySem.W.fnOf x qual (defArgs st) (defBody st) (defScope st) .none kV doc pm an cdv ct) := ⟨⟨oc, od, kV, doc, pm, an, cdv, ct, osl, rfl, l, c⟩, k⟩
end
section
variable {X : Cx}
theorem pv (i : Nat) {x : Str} {pos : Pos} (hN : X.N[i]? = some x := by rfl) (hv : Vis X.env.scope x := by first | exact Or.inl rfl | exact Or.inr (Or.inl rfl) | exact Or.inr (Or.inr rfl)) (hd : (x == ("__debug__" : Str)) = false := by decide)
    (hcd : (x == ("__classdict__" : Str)) = false := by decide) : PE X (.Name x pos) (tVar i) := pe_var hN hv hd hcd
end

theorem iteF {A B : Prop} (h : B) : if false = true then A else B := by
  rw [if_neg Bool.false_ne_true]
  exact h
theorem iteT {A B : Prop} (h : A) : if true = true then A else B := by
  rw [if_pos rfl]
  exact h
def Same (H H' : Hp) : Prop := ∀ b o, H b = some o → H' b = some o
theorem Same.refl (H : Hp) : Same H H := fun _ _ h => h
theorem Same.trans {H H1 H2 : Hp} (a : Same H H1) (b : Same H1 H2) : Same H H2 := fun c o h => b c o (a c o h)
theorem Same.free {H H' : Hp} (e : Same H H') {l : Addr} (h : H' l = Option.none) : H l = Option.none := by
  cases q : H l with
  | none => rfl
  | some o =>
    rw [e l o q] at h
    cases h
theorem Same.seq {K : PySem.W.Frag} {H H' : Hp} {a : Addr} {xs : List V} (e : Same H H') (h : SqL K H a xs) : SqL K H' a xs := by
  rcases h with (h | ⟨o, h⟩) | h
  · exact .inl (.inl (e _ _ h))
  · exact .inl (.inr ⟨o, e _ _ h⟩)
  · exact .inr h

end L2


namespace L2
open PySem PySem.Spec PyProof.Rows

section
variable {κ : Type} [DecidableEq κ]
def valV (kvs : List (κ × V)) (k : κ) : Option V := (kvs.find? fun kv => decide (kv.1 = k)).map (·.2)
def putK (kvs : List (κ × V)) (k : κ) (v : V) : List (κ × V) :=
  if (kvs.any fun kv => decide (kv.1 = k)) = true then kvs.map (fun kv => if kv.1 = k then (kv.1, v) else kv) else kvs ++ [(k, v)]
def dropK (kvs : List (κ × V)) (k : κ) : List (κ × V) := kvs.filter fun kv => decide (kv.1 ≠ k)

theorem valV_pos {p : κ × V} {r : List (κ × V)} {k : κ} (e : p.1 = k) : valV (p :: r) k = some p.2 := by simp [valV, List.find?_cons, e]
theorem valV_neg {p : κ × V} {r : List (κ × V)} {k : κ} (e : ¬ p.1 = k) : valV (p :: r) k = valV r k := by simp [valV, List.find?_cons, e]
theorem RelO.getD {o : Option V} {u : Option Value} {d : V} {d' : Value} (r : RelO o u) (rd : RelV d d') : RelV (o.getD d) (u.getD d') := by
  cases o with
  | none => cases u with
    | none => exact rd
    | some _ => exact (show False from r).elim
  | some _ => cases u with
    | none => exact (show False from r).elim
    | some _ => exact r

theorem KV.val {kvs : List (κ × V)} {vs : List (κ × Value)} (r : KV kvs vs) (k : κ) : RelO (valV kvs k) (valueAt vs k) := by
  unfold KV at r
  induction r with
  | nil => exact True.intro
  | @cons p q ps qs h t ih =>
    obtain ⟨h1, h2⟩ := h
    by_cases e : p.1 = k
    · have e' : q.1 = k := h1.symm.trans e
      have b : valueAt (q :: qs) k = some q.2 := by simp [valueAt, List.find?_cons, e']
      rw [valV_pos e, b]; exact h2
    · have e' : ¬ q.1 = k := fun z => e (h1.trans z)
      have b : valueAt (q :: qs) k = valueAt qs k := by simp [valueAt, List.find?_cons, e']
      rw [valV_neg e, b]; exact ih
theorem KV.any {kvs : List (κ × V)} {vs : List (κ × Value)} (r : KV kvs vs) (k : κ) : (kvs.any fun kv => decide (kv.1 = k)) = vs.any fun kv => decide (kv.1 = k) := by
  unfold KV at r
  induction r with
  | nil => rfl
  | cons h t ih => rw [List.any_cons, List.any_cons, ih, h.1]
theorem KV.drop {kvs : List (κ × V)} {vs : List (κ × Value)} (r : KV kvs vs) (k : κ) : KV (dropK kvs k) (without vs k) := by
  unfold KV at r ⊢
  unfold dropK without
  induction r with
  | nil => exact .nil
  | @cons p q ps qs h t ih =>
    obtain ⟨h1, h2⟩ := h
    rw [List.filter_cons, List.filter_cons]
    by_cases e : p.1 = k
    · have a : ¬ decide (p.1 ≠ k) = true := by simp [e]
      have b : ¬ decide (q.1 ≠ k) = true := by simp [h1.symm.trans e]
      rw [if_neg a, if_neg b]; exact ih
    · have e' : ¬ q.1 = k := fun z => e (h1.trans z)
      have a : decide (p.1 ≠ k) = true := by simp [e]
      have b : decide (q.1 ≠ k) = true := by simp [e']
      rw [if_pos a, if_pos b]; exact .cons ⟨h1, h2⟩ ih
theorem KV.length {kvs : List (κ × V)} {vs : List (κ × Value)} (r : KV kvs vs) : kvs.length = vs.length := Paired.length r
end


abbrev KT (H : Hp) : List (List Key × V) → List (List Key × Addr × Value) → Prop := Paired fun p q => p.1 = q.1 ∧ H q.2.1 = some (.tup (p.1.map kV)) ∧ RelV p.2 q.2.2
theorem KT.val {H : Hp} {kvs : List (List Key × V)} {xs : List (List Key × Addr × Value)} (r : KT H kvs xs) (k : List Key) : RelO (valV kvs k) ((atKey xs k).map (·.2)) := by
  induction r with
  | nil => exact True.intro
  | @cons p q ps qs h t ih =>
    obtain ⟨h1, _, h2⟩ := h
    by_cases e : p.1 = k
    · have e' : q.1 = k := h1.symm.trans e
      have b : atKey (q :: qs) k = some q.2 := by simp [atKey, List.find?_cons, e']
      rw [valV_pos e, b]; exact h2
    · have e' : ¬ q.1 = k := fun z => e (h1.trans z)
      have b : atKey (q :: qs) k = atKey qs k := by simp [atKey, List.find?_cons, e']
      rw [valV_neg e, b]; exact ih
theorem KT.keeps {H H' : Hp} {kvs : List (List Key × V)} {xs : List (List Key × Addr × Value)} (r : KT H kvs xs) (ht : ∀ b ys, H b = some (.tup ys) → H' b = some (.tup ys)) : KT H' kvs xs :=
  Paired.mapP r fun _ _ z => ⟨z.1, ht _ _ z.2.1, z.2.2⟩

section
variable {P : Program} {w : World} {H : Hp} {h : Heap} {a : Addr}
end

def DGet (H : Hp) (a : Addr) (y : V) (r : Option V) : Prop :=
  (∃ kvs k, Rd H a (.dK kvs) ∧ y = kV k ∧ r = valV kvs k) ∨ ∃ kvs k b, Rd H a (.dT kvs) ∧ y = .ref b ∧ H b = some (.tup (k.map kV)) ∧ r = valV kvs k
def DPut (H : Hp) (a : Addr) (y v : V) (H' : Hp) : Prop :=
  (∃ kvs k, H a = some (.dK kvs) ∧ y = kV k ∧ kvs.length < sizeLine ∧ H' = upd H a (.dK (putK kvs k v))) ∨
  ∃ kvs k b, H a = some (.dT kvs) ∧ y = .ref b ∧ H b = some (.tup (k.map kV)) ∧ kvs.length < sizeLine ∧ H' = upd H a (.dT (putK kvs k v))
theorem DGet.t {H : Hp} {a b : Addr} {kvs : List (List Key × V)} {k : List Key} (e : H a = some (.dT kvs)) (eb : H b = some (.tup (k.map kV))) : DGet H a (.ref b) (valV kvs k) := .inr ⟨kvs, k, b, .inl e, rfl, eb, rfl⟩
theorem DPut.t {H : Hp} {a b : Addr} {kvs : List (List Key × V)} {k : List Key} {v : V} (e : H a = some (.dT kvs)) (eb : H b = some (.tup (k.map kV))) (hl : kvs.length < sizeLine) :
    DPut H a (.ref b) v (upd H a (.dT (putK kvs k v))) := .inr ⟨kvs, k, b, e, rfl, eb, hl, rfl⟩


section
variable {X : Cx} {pins : List (Addr × Obj)} {σ : St} {H : Hp} {s : Shared} {a : Addr} {y v : V} {u r : Value} {o : Option V} {A : Around} {E : Value → Shared → Prop}

end

section
variable {X : Cx} {pins : List (Addr × Obj)} {σ : St} {H : Hp} {s : Shared} {a : Addr} {kvs : List (Key × V)} {k : Key} {u : Value} {A : Around} {E : Value → Shared → Prop}
end


section
variable {X : Cx} {o i e value : Expr} {pos pos' tpos : Pos} {td ty tv : TE}
end


def tDNewK : TE := fun _ H Q => ∀ p, H p = none → Q (.ref p) (upd H p (.dK []))
section
variable {X : Cx} {pos : Pos}
end

structure M1 (X : Cx) (o : Expr) (m : Str) (apos : Pos) (e : Expr) (cpos : Pos) : Prop where
  base : attributeBase o m X.env (eval o X.env) = eval o X.env
  few : ((backTo cpos (starEach [e] X.env)).all (fun x => !x.1) && (backToKw cpos (keywordEach [] X.env)).all (fun x => x.1.isSome)
    && decide (([e] : List Expr).length + ([] : List Keyword).length + (if ([] : List Keyword).isEmpty then 0 else 1) < 30)) = true
  line : (apos.endLine == cpos.line) = true
  trees : backTo cpos (starEach [e] X.env) = [(false, eval e X.env)]
structure M2 (X : Cx) (o : Expr) (m : Str) (apos : Pos) (e f : Expr) (cpos : Pos) : Prop where
  base : attributeBase o m X.env (eval o X.env) = eval o X.env
  few : ((backTo cpos (starEach [e, f] X.env)).all (fun x => !x.1) && (backToKw cpos (keywordEach [] X.env)).all (fun x => x.1.isSome)
    && decide (([e, f] : List Expr).length + ([] : List Keyword).length + (if ([] : List Keyword).isEmpty then 0 else 1) < 30)) = true
  line : (apos.endLine == cpos.line) = true
  trees : backTo cpos (starEach [e, f] X.env) = [(false, eval e X.env), (false, eval f X.env)]

section
variable {X : Cx} {pins : List (Addr × Obj)} {σ : St} {H : Hp} {s : Shared} {a : Addr} {y d : V} {u r : Value} {o : Option V} {A : Around} {E : Value → Shared → Prop}
end

section
variable {X : Cx} {o e f : Expr} {apos cpos : Pos} {td ty tx : TE}
end

section
variable {X : Cx} {pins : List (Addr × Obj)} {σ : St} {H : Hp} {s : Shared} {a : Addr} {kvs : List (Key × V)} {A : Around} {E : Value → Shared → Prop}
end


section
variable {X : Cx} {pins : List (Addr × Obj)} {σ : St} {H : Hp} {s : Shared} {a : Addr} {y : V} {u : Value} {A : Around} {E : Value → Shared → Prop}
end
end L2
namespace L2
open PySem PySem.Spec PyProof.Rows
section
variable {X : Cx}
end
section
variable {κ : Type} [DecidableEq κ]
end
end L2

set_option maxHeartbeats 4000000
namespace L2
open PySem PySem.Spec PyProof.Rows

theorem noE {α : Type} {M : Model} {A : Around} {t : Sem α} {Q : α → Shared → Prop} {E : Value → Shared → Prop} {s : Shared} (h : wpAny M A t Q (fun _ _ => False) s) : wpAny M A t Q E s :=
  wpAny_mono h (fun _ _ q => q) fun _ _ f => f.elim

def closL (cells : List (Str × Addr)) : List (Str × NameKind) → List (Str × Addr) → List (Str × Addr)
  | [], acc => acc
  | (n, k) :: r, acc => closL cells r (if (k == NameKind.free) = true then (n, (cells.lookup n).getD 0) :: acc else acc)
theorem closL_sub {cells : List (Str × Addr)} {y : Str} {c : Addr} : ∀ (names : List (Str × NameKind)) (acc : List (Str × Addr)),
    (closL cells names acc).lookup y = some c → acc.lookup y = some c ∨ ((y, NameKind.free) ∈ names ∧ c = (cells.lookup y).getD 0)
  | [], acc, h => .inl h
  | (n, k) :: r, acc, h => by
    rcases closL_sub r _ h with h1 | ⟨h1, h2⟩
    · by_cases hk : (k == NameKind.free) = true
      · rw [if_pos hk, List.lookup_cons] at h1
        by_cases e : (y == n) = true
        · rw [e] at h1
          have e1 : y = n := by simpa using e
          have e2 : k = NameKind.free := by simpa using hk
          subst e1 e2
          exact .inr ⟨List.mem_cons_self, (Option.some.inj h1).symm⟩
        · have e1 : (y == n) = false := by simpa using e
          rw [e1] at h1
          exact .inl h1
      · rw [if_neg hk] at h1
        exact .inl h1
    · exact .inr ⟨List.mem_cons_of_mem _ h1, h2⟩
theorem closL_keeps {cells : List (Str × Addr)} {y : Str} : ∀ (names : List (Str × NameKind)) (acc : List (Str × Addr)), (∃ c, acc.lookup y = some c) → ∃ c, (closL cells names acc).lookup y = some c
  | [], _, h => h
  | (n, k) :: r, acc, h => by
    refine closL_keeps r _ ?_
    by_cases hk : (k == NameKind.free) = true
    · rw [if_pos hk, List.lookup_cons]
      by_cases e : (y == n) = true
      · rw [e]; exact ⟨_, rfl⟩
      · have e1 : (y == n) = false := by simpa using e
        rw [e1]; exact h
    · rw [if_neg hk]; exact h
theorem closL_has {cells : List (Str × Addr)} {y : Str} : ∀ (names : List (Str × NameKind)) (acc : List (Str × Addr)), (y, NameKind.free) ∈ names → ∃ c, (closL cells names acc).lookup y = some c
  | [], _, h => by simp at h
  | (n, k) :: r, acc, h => by
    rcases List.mem_cons.mp h with h | h
    · cases h
      refine closL_keeps r _ ?_
      rw [if_pos (by rfl), List.lookup_cons, beq_self_eq_true]
      exact ⟨_, rfl⟩
    · exact closL_has r _ h
theorem closureFor_free {scope : Scope} {env : Env} (h : ∀ x, (x, NameKind.free) ∈ scope.names → ∃ c, env.cells.lookup x = some c) : closureFor scope env = pure (closL env.cells scope.names []) := by
  have go : ∀ (names : List (Str × NameKind)) (acc : List (Str × Addr)), (∀ x, (x, NameKind.free) ∈ names → ∃ c, env.cells.lookup x = some c) →
      (forIn names acc fun (x : Str × NameKind) (cs : List (Str × Addr)) => match x with
        | (name, kind) => if (kind == NameKind.free) = true then do let a ← cellOf env name; pure (ForInStep.yield ((name, a) :: cs)) else pure (ForInStep.yield cs) : Sem (List (Str × Addr)))
      = pure (closL env.cells names acc) := by
    intro names
    induction names with
    | nil => intro acc _; rfl
    | cons x r ih =>
      intro acc hx
      obtain ⟨n, k⟩ := x
      rw [List.forIn_cons]
      by_cases hk : (k == NameKind.free) = true
      · have e2 : k = NameKind.free := by simpa using hk
        obtain ⟨c, hc⟩ := hx n (by rw [e2]; exact List.mem_cons_self)
        have hcell : cellOf env n = pure c := by unfold cellOf; rw [hc]
        simp only [hk, if_true, hcell]
        show (forIn r ((n, c) :: acc) _ : Sem (List (Str × Addr))) = _
        rw [ih _ fun y hy => hx y (List.mem_cons_of_mem _ hy)]
        simp only [closL, hk, if_true, hc, Option.getD_some]
      · simp only [hk, if_false]
        show (forIn r acc _ : Sem (List (Str × Addr))) = _
        rw [ih _ fun y hy => hx y (List.mem_cons_of_mem _ hy)]
        simp only [closL, hk, if_false]
        rfl
  have := go scope.names [] h
  unfold closureFor
  exact (congrArg (fun (t : Sem (List (Str × Addr))) => t >>= fun cs => (pure cs : Sem (List (Str × Addr)))) this).trans rfl

theorem lookup_relabel_free {env : Env} : ∀ {names : List (Str × NameKind)} {x : Str}, names.lookup x = some .free →
    (names.map fun (n, k) => if (k == NameKind.free && env.scope.kind == .function && env.kindOf n == some .cell) then (n, NameKind.cell) else (n, k)).lookup x = some .cell ∨
    (names.map fun (n, k) => if (k == NameKind.free && env.scope.kind == .function && env.kindOf n == some .cell) then (n, NameKind.cell) else (n, k)).lookup x = some .free
  | [], _, h => by simp at h
  | (n, k) :: r, x, h => by
    have ih := @lookup_relabel_free env r x
    show List.lookup x ((if (k == NameKind.free && env.scope.kind == .function && env.kindOf n == some .cell) = true then (n, NameKind.cell) else (n, k)) :: _) = _ ∨ List.lookup x ((if (k == NameKind.free && env.scope.kind == .function && env.kindOf n == some .cell) = true then (n, NameKind.cell) else (n, k)) :: _) = _
    cases hx : x == n with
    | true =>
      simp only [List.lookup_cons, hx] at h
      cases h
      by_cases hc : (NameKind.free == NameKind.free && env.scope.kind == .function && env.kindOf n == some .cell) = true
      · rw [if_pos hc]; left; simp [List.lookup_cons, hx]
      · rw [if_neg hc]; right; simp [List.lookup_cons, hx]
    | false =>
      simp only [List.lookup_cons, hx] at h
      by_cases hc : (k == NameKind.free && env.scope.kind == .function && env.kindOf n == some .cell) = true
      · rw [if_pos hc]; simp only [List.lookup_cons, hx]; exact ih h
      · rw [if_neg hc]; simp only [List.lookup_cons, hx]; exact ih h
theorem lookup_relabel_back {env : Env} {k : NameKind} : ∀ {names : List (Str × NameKind)} {x : Str},
    (names.map fun (n, k) => if (k == NameKind.free && env.scope.kind == .function && env.kindOf n == some .cell) then (n, NameKind.cell) else (n, k)).lookup x = some k →
    names.lookup x = some k ∨ (k = .cell ∧ names.lookup x = some .free)
  | [], _, h => by simp at h
  | (n, j) :: r, x, h => by
    have ih := @lookup_relabel_back env k r x
    have h' : List.lookup x ((if (j == NameKind.free && env.scope.kind == .function && env.kindOf n == some .cell) = true then (n, NameKind.cell) else (n, j)) :: r.map fun (n, k) => if (k == NameKind.free && env.scope.kind == .function && env.kindOf n == some .cell) then (n, NameKind.cell) else (n, k)) = some k := h
    cases hx : x == n with
    | true =>
      by_cases hc : (j == NameKind.free && env.scope.kind == .function && env.kindOf n == some .cell) = true
      · rw [if_pos hc] at h'
        simp only [List.lookup_cons, hx] at h' ⊢
        cases h'
        have e : j = NameKind.free := by
          have := hc
          simp only [Bool.and_eq_true] at this
          simpa using this.1.1
        rw [e]
        exact .inr ⟨rfl, rfl⟩
      · rw [if_neg hc] at h'
        simp only [List.lookup_cons, hx] at h' ⊢
        exact .inl h'
    | false =>
      by_cases hc : (j == NameKind.free && env.scope.kind == .function && env.kindOf n == some .cell) = true
      · rw [if_pos hc] at h'; simp only [List.lookup_cons, hx] at h' ⊢; exact ih h'
      · rw [if_neg hc] at h'; simp only [List.lookup_cons, hx] at h' ⊢; exact ih h'

def compChk (sc osc : Scope) (N N' : List Str) (sel : List (Option Nat)) : Bool :=
  (sc.names.all fun p => match p.2 with
    | .free => (osc.names.lookup p.1 == some .cell || osc.names.lookup p.1 == some .free) && sc.names.lookup p.1 == some .free
    | .cell => false
    | .local => sc.names.lookup p.1 == some .local
    | _ => true) && N'.length == sel.length && ((N'.zip sel).all fun p => match p.2 with
      | none => true
      | some j => N[j]? == some p.1 && sc.names.lookup p.1 == some .free)
def selS (sel : List (Option Nat)) (σ : St) : St := sel.map fun o => o.bind fun j => (σ[j]?).join

def cxComp (X : Cx) (N' : List Str) (scope : Scope) (C : Addr) (s : Shared) (H : Hp) (fp : List Addr) (pn : List (Addr × Obj)) : Cx where
  prog := X.prog
  w := X.w
  K := X.K
  mg := X.mg
  base := X.base
  A := X.A
  N := N'
  s₀ := s
  H₀ := H
  env := compEnvC scope (closL X.env.cells scope.names []) C X.env
  outer := X.stack
  stack := X.stack
  ex := fp
  fn := fun x => decide (scope.names.lookup x = some NameKind.local)
  calm := X.calm
  pn := pn
  xe := fun _ _ => False

section
variable {X : Cx} {pins : List (Addr × Obj)} {σ : St} {H : Hp} {s : Shared}

structure ChkOk (X : Cx) (sc : Scope) (N' : List Str) (sel : List (Option Nat)) : Prop where
  fr : ∀ x, (x, NameKind.free) ∈ sc.names → (X.env.kindOf x = some .cell ∨ X.env.kindOf x = some .free) ∧ sc.names.lookup x = some .free
  nc : ∀ y ∈ sc.names, y.2 ≠ NameKind.cell
  lo : ∀ y ∈ sc.names, y.2 = NameKind.local → sc.names.lookup y.1 = some .local
  ln : N'.length = sel.length
  sl : ∀ (i : Nat) (x : Str) (j : Nat), N'[i]? = some x → sel[i]? = some (some j) → X.N[j]? = some x ∧ sc.names.lookup x = some .free
theorem chk_ok {sc : Scope} {N' : List Str} {sel : List (Option Nat)} (h : compChk sc X.env.scope X.N N' sel = true) : ChkOk X sc N' sel := by
  unfold compChk at h
  simp only [Bool.and_eq_true] at h
  obtain ⟨⟨h1, h2⟩, h3⟩ := h
  rw [List.all_eq_true] at h1 h3
  refine ⟨fun x hx => ?_, fun y hy e => ?_, fun y hy e => ?_, by simpa using h2, fun i x j e1 e2 => ?_⟩
  · have := h1 _ hx
    simp only [Bool.and_eq_true, Bool.or_eq_true, beq_iff_eq] at this
    exact this
  · have := h1 _ hy
    rw [e] at this
    simp at this
  · have := h1 _ hy
    rw [e] at this
    simpa using this
  · have hm : (x, some j) ∈ N'.zip sel := by
      refine List.mem_of_getElem? (i := i) ?_
      rw [List.getElem?_zip_eq_some]
      exact ⟨e1, e2⟩
    have := h3 _ hm
    simp only [Bool.and_eq_true, beq_iff_eq] at this
    exact this

theorem clos_cells (I : Inv X pins σ H s) {sc : Scope} {N' : List Str} {sel : List (Option Nat)} (k : ChkOk X sc N' sel) :
    (∀ x, (x, NameKind.free) ∈ sc.names → ∃ c, X.env.cells.lookup x = some c) ∧ (∀ x c, (closL X.env.cells sc.names []).lookup x = some c → X.env.cells.lookup x = some c ∧ (x, NameKind.free) ∈ sc.names) := by
  have a : ∀ x, (x, NameKind.free) ∈ sc.names → ∃ c, X.env.cells.lookup x = some c := fun x hx => I.ok.has x (k.fr x hx).1
  refine ⟨a, fun x c h => ?_⟩
  rcases closL_sub _ _ h with h | ⟨h, e⟩
  · simp at h
  · obtain ⟨c', hc⟩ := a x h
    rw [hc] at e
    exact ⟨by rw [hc, e]; rfl, h⟩

theorem inv_block (I : Inv X pins σ H s) {scope : Scope} {N' : List Str} {sel : List (Option Nat)} {C : Addr} {fp : List Addr} {h₁ : Heap} {t' : Nat} {m : Str → Option Value} (hk : scope.kind = .function)
    (k : ChkOk X scope N' sel) (hC : s.heap.objs.size ≤ C) (hf : ∀ b ∈ fp, FpOk X pins H b) (hfl : ∀ b ∈ fp, b < s.heap.objs.size) (hns : h₁.Ns C m) (hkeep : ∀ b o, s.heap.get? b = some o → h₁.get? b = some o) :
    Inv (cxComp X N' scope C s H fp (X.pn ++ pins)) [] (selS sel σ) H { s with heap := h₁, toks := t' } := by
  obtain ⟨cl1, cl2⟩ := clos_cells I k
  have lkf : ∀ x, scope.names.lookup x = some .free → (relabel scope X.env).names.lookup x = some .cell ∨ (relabel scope X.env).names.lookup x = some .free := fun x hx => lookup_relabel_free hx
  have hfr : ∀ x, (relabel scope X.env).names.lookup x = some .cell ∨ (relabel scope X.env).names.lookup x = some .free → (x, NameKind.free) ∈ scope.names := fun x hx => by
    rcases hx with hx | hx
    · rcases lookup_relabel_back hx with h | ⟨_, h⟩
      · exact absurd rfl (k.nc _ (PySem.mem_of_lookup h))
      · exact PySem.mem_of_lookup h
    · rcases lookup_relabel_back hx with h | ⟨e, h⟩
      · exact PySem.mem_of_lookup h
      · exact PySem.mem_of_lookup h
  refine ⟨⟨I.ok.mod, hk, I.ok.glob, I.ok.blt, hC, fun x y c h1 h2 => ?_, fun x hx => ?_, fun x c h1 h2 => ?_, I.ok.hd, I.ok.frames, .inl rfl, fun b hb => ?_, I.bs, Nat.le_trans I.ok.bsz I.sz, fun b o e hb => ?_, fun b hb hb2 => ?_, I.stack, I.stkFree⟩,
    rfl, I.bare, Un.kept hkeep, ⟨m, hns, fun i x v e1 e2 e3 => ?_⟩, fun x c h => ?_, I.hok.fresh hC, fun x c h => ?_, fun p hp => ?_, I.hok.kept hkeep, ?_⟩
  · exact I.ok.inj x y c (cl2 x c h1).1 (cl2 y c h2).1
  · exact closL_has _ _ (hfr x hx)
  · have h1' : scope.names.lookup x = some NameKind.local := of_decide_eq_true h1
    have := (k.fr x (cl2 x c h2).2).2
    rw [h1'] at this
    cases this
  · refine ⟨Nat.ne_of_lt (Nat.lt_of_lt_of_le (hfl b hb) hC), fun x c h => ?_⟩
    exact (hf b hb).2.2.2.2.1 x c (cl2 x c h).1
  · rcases (hf b hb).2.2.2.1 with z | z
    · exact I.ok.noex b o e z
    · exact absurd (Nat.lt_of_lt_of_le (Heap.lt_size e) (Nat.le_trans I.ok.bsz z)) (Nat.lt_irrefl _)
  · rcases List.mem_cons.mp (I.stkSub b hb2) with z | z
    · exact (hf b hb).2.1 z
    · exact (hf b hb).2.2.1 z
  · -- a free name
    have e2' : sel[i]?.map (fun o => o.bind fun j => (σ[j]?).join) = some (some v) := by
      have := e2
      unfold selS at this
      rwa [List.getElem?_map] at this
    cases hs : sel[i]? with
    | none => rw [hs] at e2'; cases e2'
    | some o =>
      rw [hs] at e2'
      cases o with
      | none => cases e2'
      | some j =>
        have e4 : (σ[j]?).join = some v := Option.some.inj e2'
        have e5 : σ[j]? = some (some v) := by
          cases q : σ[j]? with
          | none => rw [q] at e4; cases e4
          | some r => rw [q] at e4; rw [show r = some v from e4]
        obtain ⟨hX, hl⟩ := k.sl i x j e1 hs
        obtain ⟨kk, _⟩ := k.fr x (PySem.mem_of_lookup hl)
        obtain ⟨m0, _, hloc⟩ := I.loc
        obtain ⟨u, ru, lu⟩ := hloc j x v hX e5 (kk.elim (fun z => .inr (.inl z)) fun z => .inr (.inr z))
        refine ⟨u, ru, ?_⟩
        rcases lu with ⟨z, _⟩ | ⟨_, c, hc, hcell⟩
        · rcases kk with y | y <;> (rw [z] at y; cases y)
        · refine .inr ⟨lkf x hl, c, ?_, hcell.keeps hkeep⟩
          obtain ⟨c', hc'⟩ := closL_has (cells := X.env.cells) scope.names [] (PySem.mem_of_lookup hl)
          have := (cl2 x c' hc').1
          rw [hc] at this
          cases this
          exact hc'
  · obtain ⟨v, z⟩ := I.cell x c (cl2 x c h).1
    exact ⟨v, z.keeps hkeep⟩
  · exact I.freeC x c (cl2 x c h).1
  · have hp' : p ∈ X.pn ++ pins := by
      have : p ∈ (X.pn ++ pins) ++ [] := hp
      rwa [List.append_nil] at this
    obtain ⟨e, n, ne, nf, d⟩ := I.pin p hp'
    refine ⟨hkeep _ _ e, n, Nat.ne_of_lt (Nat.lt_of_lt_of_le (Heap.lt_size e) hC), fun z => ?_, d⟩
    rcases List.mem_cons.mp (I.stkSub _ z) with z | z
    · exact ne z
    · exact nf z
  · show (sel.map _).length = N'.length
    rw [List.length_map]
    exact k.ln.symm

def PTs (X : Cx) (ifs : List Expr) (t : TT) : Prop :=
  ∀ (pins : List (Addr × Obj)) (s : Shared) (σ : St) (H : Hp) (Q : Bool → Hp → Prop), Inv X pins σ H s → t σ H Q →
    wpAny (model X.prog X.w) X.A (forIn ifs true fun c r => if r = true then do let ok ← isTrue c X.env (eval c X.env); pure (ForInStep.yield ok) else pure (ForInStep.yield r)) (TP X pins σ Q) X.xe s
def tTrue : TT := fun _ H Q => Q true H
theorem pts_nil : PTs X [] tTrue := fun _ _ _ H _ I h => wpAny_tests_nil ⟨H, I, h⟩
theorem pts_one {c : Expr} {t : TT} (h : PT X c t) : PTs X [c] t := fun pins s σ H Q I q => wpAny_tests_one (h pins s σ H Q I q)

theorem compLoop_any {prog : Program} {w : World} {A : Around} {R : Result → Shared → Prop} {s : Shared} {elt target iter : Expr} {ifs : List Expr} {scope : Scope} {pos : Pos} {it acc : Value} {env : Env} (I : Nat → Shared → Prop)
    (turn : ∀ n s, I n s → wpAny (model prog w) A (pyNext it) (fun r s₁ => match r with
      | none => R (.ok .next) s₁
      | some v => wpAny (model prog w) A (letOwnedTupleGo target it v) (fun _ s₁' => wpAny (model prog w) A (assign target env v) (fun _ s₂ =>
          wpAny (model prog w) A (forIn ifs true fun c r => if r = true then do let ok ← isTrue c env (eval c env); pure (ForInStep.yield ok) else pure (ForInStep.yield r)) (fun ok s₃ =>
            if ok = true then wpAny (model prog w) A (eval elt env) (fun x s₄ =>
              wpAny (model prog w) A (call (.builtin "list.append") [acc, x]) (fun _ s₅ => ∃ m, m < n ∧ I m s₅) (notedBy (model prog w) A env fun e s' => R (.error e) s') s₄) (notedBy (model prog w) A env fun e s' => R (.error e) s') s₃
            else ∃ m, m < n ∧ I m s₃) (notedBy (model prog w) A env fun e s' => R (.error e) s') s₂) (notedBy (model prog w) A env fun e s' => R (.error e) s') s₁') (notedBy (model prog w) A env fun e s' => R (.error e) s') s₁) (notedBy (model prog w) A env fun e s' => R (.error e) s') s)
    (n : Nat) (h : I n s) :
    codeAny (model prog w) A (.compLoop (.ListComp elt [⟨target, iter, ifs, 0⟩] scope pos) 0 it acc env) R s := by
  refine codeAny_loop rfl I (fun n s hI => ?_) n h
  show wpAny _ A ((compTurn (.ListComp elt [⟨target, iter, ifs, 0⟩] scope pos) 0 it acc env).onRaise (fun x => do noteFrame x env; theTreesLotGoes x)) _ _ s
  refine wpAny_noted ?_
  rw [compTurn_list]
  refine wpAny_bind (wpAny_standAt (wpAny_bind (wpAny_mono (turn n s hI) (fun r s₁ h₁ => ?_) fun _ _ h' => h')))
  cases r with
  | none => exact wpAny_pure h₁
  | some v =>
    refine wpAny_bind (wpAny_mono h₁ (fun _ s₁' h₁' => ?_) fun _ _ h' => h')
    refine wpAny_bind (wpAny_mono h₁' (fun _ s₂ h₂ => wpAny_bind (wpAny_mono h₂ (fun ok s₃ h₃ => ?_) fun _ _ h' => h')) fun _ _ h' => h')
    cases ok with
    | false => exact wpAny_pure ⟨rfl, h₃⟩
    | true =>
      exact wpAny_bind (wpAny_bind (wpAny_mono h₃ (fun x s₄ h₄ => wpAny_bind (wpAny_mono h₄ (fun _ s₅ h₅ => wpAny_pure (wpAny_pure ⟨rfl, h₅⟩)) fun _ _ h' => h')) fun _ _ h' => h'))

def lcTurn (sel : List (Option Nat)) (g : TG) (tt : TT) (te : TE) (σ : St) (J : It) (W : Nat → Nat → List V → Hp → Prop) (Q : List V → Hp → Prop) : Prop :=
  ∀ i m ys H, W i m ys H → (J.stop i H ∧ Q ys H) ∨
    (J.go i H ∧ ys.length < sizeLine ∧ ∃ N : List V → Hp → Prop, (∀ ys' H', N ys' H' → ∃ m', m' < m ∧ W (i + 1) m' ys' H') ∧
      ∀ x H', J.yld i H x H' → g x (selS sel σ) H' fun σ2 H2 => tt σ2 H2 fun b H3 => if b = true then te σ2 H3 fun y H4 => N (ys ++ [y]) H4 else N ys H3)

def GKeeps (sel : List (Option Nat)) (g : TG) : Prop := ∀ (σ : St) (x : V) (H : Hp) (Q : St → Hp → Prop), g x (selS sel σ) H Q → g x (selS sel σ) H fun σ2 H2 => (∀ (i : Nat) v, (selS sel σ)[i]? = some (some v) → σ2[i]? = some (some v)) ∧ Q σ2 H2
theorem sel_none {sel : List (Option Nat)} {i : Nat} {σ : St} {v : V} (h : sel[i]? = some none) : ¬ (selS sel σ)[i]? = some (some v) := fun e => by
  unfold selS at e
  rw [List.getElem?_map, h] at e
  cases e
theorem set_keeps {sel : List (Option Nat)} {i : Nat} {σ σ2 : St} {x : V} (h : sel[i]? = some none) (k : ∀ (j : Nat) v, (selS sel σ)[j]? = some (some v) → σ2[j]? = some (some v)) :
    ∀ (j : Nat) v, (selS sel σ)[j]? = some (some v) → (σ2.set i (some x))[j]? = some (some v) := fun j v e => by
  by_cases hj : i = j
  · subst hj; exact absurd e (sel_none h)
  · rw [List.getElem?_set_ne hj]; exact k j v e
theorem gk_name {sel : List (Option Nat)} {i : Nat} (h : sel[i]? = some none) : GKeeps sel (gName i) := fun _ _ _ _ q => ⟨set_keeps h fun _ _ e => e, q⟩
theorem lc_block {elt tg iter : Expr} {ifs : List Expr} {scope : Scope} {pos : Pos} {N' : List Str} {sel : List (Option Nat)} {g : TG} {tt : TT} {te : TE} {it : Addr} {fp : List Addr} {tn : Nat → Heap → Prop} {J : It}
    {W : Nat → Nat → List V → Hp → Prop} {Qe : List V → Hp → Prop} {RR : Value → Addr → Result → Shared → Prop} {E : Value → Shared → Prop} {m0 : Nat}
    (hc : X.calm = true) (hk : scope.kind = .function) (k : ChkOk X scope N' sel) (I : Inv X pins σ H s) (T : Turn X.prog X.w X.K tg J fp it tn) (st : tn 0 s.heap) (f2 : ∀ b ∈ fp, FpOk X pins H b)
    (hb : ∀ (C : Addr) (s : Shared) (H : Hp) (fp : List Addr) (pn : List (Addr × Obj)), PG (cxComp X N' scope C s H fp pn) tg g ∧ PTs (cxComp X N' scope C s H fp pn) ifs tt ∧ PE (cxComp X N' scope C s H fp pn) elt te)
    (hgk : GKeeps sel g) (w0 : W 0 m0 [] H) (turn : lcTurn sel g tt te σ J W Qe)
    (hRR : ∀ (D C : Addr) (s' : Shared) (H' : Hp) (ys : List V) (m : Str → Option Value), H' D = none → Inv X pins σ (upd H' D (.lst ys)) s' → s'.heap.Ns C m → FpOk X pins (upd H' D (.lst ys)) C → Qe ys H' → RR (.ref D) C (.ok .next) s') :
    wpAny (model X.prog X.w) X.A (newList []) (fun acc s₃ => wpAny (model X.prog X.w) X.A (newFunctionEnv scope X.env.globals (closL X.env.cells scope.names []) [] X.env.qual none .none (some X.env)) (fun cenv s₄ =>
      codeAny (model X.prog X.w) X.A (.compStart (.ListComp elt [⟨tg, iter, ifs, 0⟩] scope pos) 0 (.ref it) acc { cenv with scope := relabel scope X.env }) (RR acc cenv.locals) s₄) E s₃) E s := by
  refine wpAny_newObj_type (wpAny_newFunctionEnv k.nc (by intro y hy; simp at hy) (fun h₁ hns₁ hsb₁ => ?_) hk)
  dsimp only at hns₁ hsb₁ ⊢
  generalize hH2 : s.heap.push { cls := .type "list", dict := none, data := .seq ([] : List Value).toArray } = H2 at hns₁ hsb₁ ⊢
  have hC : H2.objs.size = s.heap.objs.size + 1 := by rw [← hH2, Heap.size_push]
  have hDC : s.heap.objs.size ≠ H2.objs.size := by rw [hC]; exact Nat.ne_of_lt (Nat.lt_succ_self _)
  have hCle : s.heap.objs.size ≤ H2.objs.size := by rw [hC]; exact Nat.le_succ _
  have below : ∀ b, b < s.heap.objs.size → b ≠ H2.objs.size ∧ b ≠ s.heap.objs.size := fun b hb => ⟨by rw [hC]; exact Nat.ne_of_lt (Nat.lt_succ_of_lt hb), Nat.ne_of_lt hb⟩
  have old : ∀ b o, s.heap.get? b = some o → h₁.get? b = some o := fun b o e => hsb₁.extBut b o (below b (Heap.lt_size e)).1 (Heap.get?_push_of_some _ (hH2 ▸ Heap.get?_push_of_some _ e))
  have hacc : h₁.get? s.heap.objs.size = some { cls := .type "list", data := .seq ([] : List Value).toArray } := hsb₁.extBut _ _ hDC (Heap.get?_push_of_some _ (hH2 ▸ Heap.get?_push_size _ rfl))
  have hfl : ∀ b ∈ fp, b < s.heap.objs.size := fun b hb => let ⟨_, e, _⟩ := T.obj 0 _ st b hb; Heap.lt_size e
  have hst₁ : tn 0 h₁ := T.keep _ _ _ st fun b _ o e => old b o e
  generalize hDe : s.heap.objs.size = D at hDC hCle below hacc hfl ⊢
  generalize hCe : H2.objs.size = C at hns₁ hsb₁ hC hDC hCle below ⊢
  have fD : ∀ {H' : Hp}, H' D = none → FpOk X pins H' D := fun hn => I.fpOk (by rw [hDe]; exact Nat.le_refl _) hn
  have fC : ∀ {H' : Hp}, H' C = none → FpOk X pins H' C := fun hn => I.fpOk (by rw [hDe]; exact hCle) hn
  have HD : H D = none := I.hok.fresh (by rw [hDe]; exact Nat.le_refl _)
  -- the pin of the new list, in the block
  have pinD : ∀ {o : Obj} {σ' : St} {H' : Hp} {s' : Shared} {ps : List (Addr × Obj)}, Inv (cxComp X N' scope C s H fp (X.pn ++ pins)) ps σ' H' s' → s'.heap.get? D = some o → H' D = none → (∀ v, o.data ≠ .cell v) →
      Inv (cxComp X N' scope C s H fp (X.pn ++ pins)) (ps ++ [(D, o)]) σ' H' s' := fun {o σ' H' s' ps} J1 e n d => by
    refine J1.pins_of fun p hp => ?_
    rcases List.mem_append.mp hp with hp | hp
    · exact J1.pin p (List.mem_append_right _ hp)
    · rw [List.mem_singleton.mp hp]
      refine ⟨e, n, hDC, fun z => ?_, d⟩
      rcases List.mem_cons.mp (I.stkSub D z) with z | z
      · exact (fD HD).2.1 z
      · exact (fD HD).2.2.1 z
  have loop : ∀ s₃ : Shared, s₃ = { s with heap := h₁, toks := s.toks + ([] : List (Str × Value)).length } →
      codeAny (model X.prog X.w) X.A (.compLoop (.ListComp elt [⟨tg, iter, ifs, 0⟩] scope pos) 0 (.ref it) (.ref D) (compEnvC scope (closL X.env.cells scope.names []) C X.env)) (RR (.ref D) C) s₃ := by
    rintro s₃ rfl
    have I4 : Inv (cxComp X N' scope C s H fp (X.pn ++ pins)) [] (selS sel σ) H { s with heap := h₁, toks := s.toks + ([] : List (Str × Value)).length } :=
      inv_block I hk k (by rw [hDe]; exact hCle) f2 (fun b hb => by rw [hDe]; exact hfl b hb) hns₁ old
    refine compLoop_any (fun n s' => ∃ i H' ys its nn, Inv (cxComp X N' scope C s H fp (X.pn ++ pins)) [] (selS sel σ) H' s' ∧ tn i s'.heap ∧ (∀ b ∈ fp, H' b = none) ∧ H' D = none ∧
      s'.heap.get? D = some { cls := .type "list", data := .seq (List.toArray its) nn } ∧ Vals ys its ∧ ys.length ≤ sizeLine ∧ W i n ys H') ?_ m0 ⟨0, H, [], [], 0, I4, hst₁, fun b hb => (f2 b hb).1, HD, hacc, .nil, Nat.zero_le _, w0⟩
    rintro n s3 ⟨i, H3, ys, its, nn, I3, st3, fr3, hD3, o3, v3, z3, w3⟩
    have I3' := pinD I3 o3 hD3 (fun v z => by cases z)
    have stat : ∀ {ps : List (Addr × Obj)} {H' : Hp}, (∀ p ∈ ps, p.1 = D) → (∀ b ∈ fp, H' b = none) → ∀ b ∈ fp, FpOk (cxComp X N' scope C s H fp (X.pn ++ pins)) ps H' b := fun {ps H'} hps hn b hb => by
      obtain ⟨a0, a1, a2, a3, a4, a5⟩ := f2 b hb
      refine ⟨hn b hb, Nat.ne_of_lt (Nat.lt_of_lt_of_le (hfl b hb) hCle), fun z => ?_, .inl hb, fun x c h => a4 x c ((clos_cells I k).2 x c h).1, fun p hp => ?_⟩
      · rcases List.mem_cons.mp (I.stkSub b z) with z | z
        · exact a1 z
        · exact a2 z
      · rcases List.mem_append.mp hp with hp | hp
        · exact a5 p hp
        · rw [hps p hp]
          exact (Nat.ne_of_lt (hfl b hb)).symm
    rcases turn i n ys H3 w3 with ⟨stop, qe⟩ | ⟨go, hz, Nn, hNn, step⟩
    · refine noE (thn (T.done (cxComp X N' scope C s H fp (X.pn ++ pins)) rfl rfl rfl hc i _ s3 _ H3 _ I3' (stat (fun p hp => by have : p ∈ [] ++ [(D, _)] := hp; rw [List.nil_append] at this; rw [List.mem_singleton.mp this]) fr3) st3 stop) fun r s4 ⟨hr, J4⟩ => ?_)
      subst hr
      obtain ⟨m4, n4, _⟩ := id J4.loc
      have o4 := (J4.pin (D, _) (List.mem_append_right _ (List.mem_append_right _ (List.mem_singleton.mpr rfl)))).1
      have hC4 : H3 C = none := J4.free
      have hDC' : C ≠ D := Ne.symm hDC
      refine hRR D C s4 H3 ys m4 hD3 (I.call' (ch := fp) J4.os ?_ ?_ J4.bare (fun b hb => ?_)) n4 (fC (by rw [upd_ne hDC']; exact hC4)) qe
      · have u := J4.base
        have nD : ∀ b o, s.heap.get? b = some o → b ≠ D := fun b o e => by rw [← hDe]; exact Nat.ne_of_lt (Heap.lt_size e)
        have nD2 : ∀ b o, H b = some o → b ≠ D := fun b o e => ne_of_none e HD
        exact ⟨u.keep, u.slot, fun b o e n hx => by rw [upd_ne (nD b o e)]; exact u.free b o e n hx, u.there, fun b xs e => by rw [upd_ne (nD2 b _ e)]; exact u.tups b xs e,
          fun b o w e => by rw [upd_ne (nD2 b _ e)]; exact u.frzs b o w e, fun b ps e => by rw [upd_ne (nD2 b _ e)]; exact u.tbls b ps e⟩
      · intro b o e
        by_cases hbD : b = D
        · subst hbD
          rw [upd_same] at e
          cases e
          exact ⟨z3, its, nn, v3, o4⟩
        · rw [upd_ne hbD] at e
          exact (J4.hok b o e).stay (fun c u _ q => q) (fun c q => by rw [upd_ne (ne_of_none q hD3)]; exact q) fun c xs q => by rw [upd_ne (ne_of_none q hD3)]; exact q
      · obtain ⟨a0, a1, a2, a3, a4, a5⟩ := f2 b hb
        exact ⟨a3, a1, a4, a5⟩
    · refine noE (thn (T.item (cxComp X N' scope C s H fp (X.pn ++ pins)) rfl rfl rfl hc i _ s3 _ H3 _ I3' (stat (fun p hp => by have : p ∈ [] ++ [(D, _)] := hp; rw [List.nil_append] at this; rw [List.mem_singleton.mp this]) fr3) st3 go) fun r s4 ⟨u, hr, h4⟩ => ?_)
      subst hr
      refine noE (thn h4 fun _ s5 ⟨x, H5, I5, r5, y5, st5, fr5⟩ => ?_)
      obtain ⟨hb1, hb2, hb3⟩ := hb C s H fp (X.pn ++ pins)
      have I5' := I5.pinned (stat (fun p hp => by have : p ∈ [] ++ [(D, _)] := hp; rw [List.nil_append] at this; rw [List.mem_singleton.mp this]) fr5) (T.obj _ _ st5)
      refine noE (thn (hb1 _ s5 _ H5 x u _ I5' r5 (hgk _ _ _ _ (step x H5 y5))) fun _ s6 ⟨σ6, H6, I6, hw6, q6⟩ => ?_)
      refine noE (thn (hb2 _ s6 σ6 H6 _ I6 q6) fun ok s7 ⟨H7, I7, q7⟩ => ?_)
      -- what stands behind the turn
      have back : ∀ {σ8 : St} {H8 : Hp} {s8 : Shared}, Inv (cxComp X N' scope C s H fp (X.pn ++ pins)) (([] ++ [(D, { cls := .type "list", data := .seq (List.toArray its) nn })]) ++ pinsAt fp s5.heap) σ8 H8 s8 →
          tn (i + 1) s8.heap ∧ (∀ b ∈ fp, H8 b = none) ∧ H8 D = none ∧ s8.heap.get? D = some { cls := .type "list", data := .seq (List.toArray its) nn } := fun {σ8 H8 s8} J8 => by
        refine ⟨T.keep _ _ _ st5 fun b hb o e => (J8.pin (b, o) (List.mem_append_right _ (List.mem_append_right _ (mem_pinsAt hb e)))).1, fun b hb => ?_, ?_, ?_⟩
        · obtain ⟨o, e, d⟩ := T.obj _ _ st5 b hb
          exact (J8.pin (b, o) (List.mem_append_right _ (List.mem_append_right _ (mem_pinsAt hb e)))).2.1
        · exact (J8.pin (D, _) (List.mem_append_right _ (List.mem_append_left _ (List.mem_append_right _ (List.mem_singleton.mpr rfl))))).2.1
        · exact (J8.pin (D, _) (List.mem_append_right _ (List.mem_append_left _ (List.mem_append_right _ (List.mem_singleton.mpr rfl))))).1
      have weak : ∀ {H8 : Hp} {s8 : Shared} {ps : List (Addr × Obj)}, Inv (cxComp X N' scope C s H fp (X.pn ++ pins)) ps σ6 H8 s8 → Inv (cxComp X N' scope C s H fp (X.pn ++ pins)) [] (selS sel σ) H8 s8 := fun {H8 s8 ps} J8 =>
        (J8.pins_of (pins' := []) fun p hp => by simp at hp).weak (by rw [J8.len]; exact I4.len) hw6
      cases ok with
      | false =>
        obtain ⟨st8, fr8, hD8, o8⟩ := back I7
        obtain ⟨m', hm, w8⟩ := hNn ys H7 q7
        exact ⟨m', hm, i + 1, H7, ys, its, nn, weak I7, st8, fr8, hD8, o8, v3, z3, w8⟩
      | true =>
        refine noE (thn (hb3 _ s7 σ6 H7 _ I7 q7) fun y s8 ⟨yv, H8, I8, ry, q8⟩ => ?_)
        obtain ⟨st8, fr8, hD8, o8⟩ := back I8
        obtain ⟨m', hm, w8⟩ := hNn _ _ q8
        have hl := v3.length
        refine call_meets F.slot_list_append ⟨_, o8, rfl⟩ F.entry_list_append (F.args_list_append_2 _ _) (PySem.list_append D (List.toArray its) nn y (by rw [List.size_toArray]; omega)) ⟨o8, ?_⟩
        have q := PySem.IsL.update o8 (fun z => z.push y)
        rw [show (List.toArray its).push y = (its ++ [y]).toArray by simp] at q
        have kp : ∀ b o, b ≠ D → s8.heap.get? b = some o → (s8.heap.update D (Obj.mapSeq fun z => z.push y)).get? b = some o := fun b o hb e => (Heap.get?_update_other s8.heap (Obj.mapSeq fun z => z.push y) (Ne.symm hb)).trans e
        refine ⟨m', hm, i + 1, H8, ys ++ [yv], its ++ [y], _, (weak I8).turned (t' := s8.toks) kp hD8 hDC (.inr (by show s.heap.objs.size ≤ D; rw [hDe]; exact Nat.le_refl _)) (fun x c h => (fD HD).2.2.2.2.1 x c ((clos_cells I k).2 x c h).1) (fun p hp => (fD HD).2.2.2.2.2 p (by have : p ∈ (X.pn ++ pins) ++ [] := hp; rwa [List.append_nil] at this)),
          T.keep _ _ _ st8 (fun b hb o e => kp b o (Nat.ne_of_lt (hfl b hb)) e), fr8, hD8, q, v3.append (.cons ry .nil), ?_, w8⟩
        rw [List.length_append, List.length_singleton]
        omega
  exact codeAny_compStart_list (loop _ rfl) (T.self _ 0 _ _ _ hst₁ (loop _ rfl))

def tLc (sel : List (Option Nat)) (wi : TI) (g : TG) (tt : TT) (te : TE) : TE := fun σ H Q => wi σ H fun J H1 => ∃ W : Nat → Nat → List V → Hp → Prop, (∃ m, W 0 m [] H1) ∧
  lcTurn sel g tt te σ J W fun ys H => ∀ D, H D = none → Q (.ref D) (upd H D (.lst ys))
theorem pe_lc {elt tg iter : Expr} {ifs : List Expr} {scope : Scope} {pos : Pos} {wi : TI} {N' : List Str} {sel : List (Option Nat)} {g : TG} {tt : TT} {te : TE}
    (hc : X.calm = true) (hk : scope.kind = .function) (chk : compChk scope X.env.scope X.N N' sel = true) (hi : PI X tg iter wi) (hgk : GKeeps sel g)
    (hb : ∀ (C : Addr) (s : Shared) (H : Hp) (fp : List Addr) (pn : List (Addr × Obj)), PG (cxComp X N' scope C s H fp pn) tg g ∧ PTs (cxComp X N' scope C s H fp pn) ifs tt ∧ PE (cxComp X N' scope C s H fp pn) elt te)
    (hs : ∀ x, foldedSetIterable iter X.env x = pure x := by intro _; rfl) : PE X (.ListComp elt [⟨tg, iter, ifs, 0⟩] scope pos) (tLc sel wi g tt te) := by
  intro pins s σ H Q I h
  have k := chk_ok chk
  rw [eval_ListComp]
  refine wpAny_comprehension_free (use := none) rfl hs (closureFor_free (clos_cells I k).1) hk k.lo (thn (hi pins s σ H _ I h) fun v s1 h1 => thn h1 fun itv s2 h2 => ?_)
  obtain ⟨it, fp, tn, J, H2, e, I2, T, st2, f2, W, ⟨m0, w0⟩, turn⟩ := h2
  subst e
  refine lc_block (RR := fun acc C => compPost (model X.prog X.w) X.A X.xe none (EP X pins σ Q) acc C) hc hk k I2 T st2 f2 hb hgk w0 turn ?_
  intro D C s' H' ys m hD I' hns fC q
  refine ⟨m, hns, fun h' hs' => ⟨.ref D, _, I'.turned (t' := s'.toks) (fun b o hb e => (hs'.2 b hb).trans e) fC.1 fC.2.1 fC.2.2.2.1 fC.2.2.2.2.1 fC.2.2.2.2.2, rfl, q D hD⟩⟩

theorem lc_list {K : PySem.W.Frag} {a : Addr} {xs : List V} {sel : List (Option Nat)} {g : TG} {tt : TT} {te : TE} {σ : St} {H : Hp} {Qe : List V → Hp → Prop} (Pv : Nat → List V → Hp → Prop) (h0 : Pv 0 [] H)
    (hl : ∀ i ys H, i ≤ xs.length → Pv i ys H → SqL K H a xs ∧ ys.length ≤ i) (hz : xs.length ≤ sizeLine)
    (hs : ∀ i x ys H, xs[i]? = some x → Pv i ys H → g x (selS sel σ) H fun σ2 H2 => tt σ2 H2 fun b H3 => if b = true then te σ2 H3 fun y H4 => Pv (i + 1) (ys ++ [y]) H4 else Pv (i + 1) ys H3)
    (hd : ∀ ys H, Pv xs.length ys H → Qe ys H) : ∃ W : Nat → Nat → List V → Hp → Prop, (∃ m, W 0 m [] H) ∧ lcTurn sel g tt te σ (Itl K a) W Qe := by
  refine ⟨fun i m ys H => m = xs.length - i ∧ i ≤ xs.length ∧ Pv i ys H, ⟨_, rfl, Nat.zero_le _, h0⟩, ?_⟩
  rintro i m ys H ⟨rfl, hi, p⟩
  obtain ⟨hS, hy⟩ := hl i ys H hi p
  by_cases e : i = xs.length
  · subst e
    exact .inl ⟨⟨xs, hS, Nat.le_refl _⟩, hd _ _ p⟩
  · have hlt : i < xs.length := Nat.lt_of_le_of_ne hi e
    refine .inr ⟨⟨xs, xs[i], hS, by simp [hlt]⟩, by omega, Pv (i + 1), fun ys' H' p' => ⟨xs.length - (i + 1), by omega, rfl, hlt, p'⟩, ?_⟩
    rintro x H' ⟨rfl, hx⟩
    exact hs i x ys H' (hx xs hS) p
theorem lc_tup {K : PySem.W.Frag} {a : Addr} {xs : List V} {sel : List (Option Nat)} {g : TG} {tt : TT} {te : TE} {σ : St} {H : Hp} {Qe : List V → Hp → Prop} (Pv : Nat → List V → Hp → Prop) (h0 : Pv 0 [] H)
    (hl : ∀ i ys H, i ≤ xs.length → Pv i ys H → SqT K H a xs ∧ ys.length ≤ i) (hz : xs.length ≤ sizeLine)
    (hs : ∀ i x ys H, xs[i]? = some x → Pv i ys H → g x (selS sel σ) H fun σ2 H2 => tt σ2 H2 fun b H3 => if b = true then te σ2 H3 fun y H4 => Pv (i + 1) (ys ++ [y]) H4 else Pv (i + 1) ys H3)
    (hd : ∀ ys H, Pv xs.length ys H → Qe ys H) : ∃ W : Nat → Nat → List V → Hp → Prop, (∃ m, W 0 m [] H) ∧ lcTurn sel g tt te σ (Itt K a) W Qe := by
  refine ⟨fun i m ys H => m = xs.length - i ∧ i ≤ xs.length ∧ Pv i ys H, ⟨_, rfl, Nat.zero_le _, h0⟩, ?_⟩
  rintro i m ys H ⟨rfl, hi, p⟩
  obtain ⟨hS, hy⟩ := hl i ys H hi p
  by_cases e : i = xs.length
  · subst e
    exact .inl ⟨⟨xs, hS, Nat.le_refl _⟩, hd _ _ p⟩
  · have hlt : i < xs.length := Nat.lt_of_le_of_ne hi e
    refine .inr ⟨⟨xs, xs[i], hS, by simp [hlt]⟩, by omega, Pv (i + 1), fun ys' H' p' => ⟨xs.length - (i + 1), by omega, rfl, hlt, p'⟩, ?_⟩
    rintro x H' ⟨rfl, hx⟩
    exact hs i x ys H' (hx xs hS) p
theorem lc_range {lo : Int} {n : Nat} {sel : List (Option Nat)} {g : TG} {tt : TT} {te : TE} {σ : St} {H : Hp} {Qe : List V → Hp → Prop} (Pv : Nat → List V → Hp → Prop) (h0 : Pv 0 [] H)
    (hl : ∀ i ys H, i ≤ n → Pv i ys H → ys.length ≤ i) (hz : n ≤ sizeLine)
    (hs : ∀ i ys H, i < n → Pv i ys H → g (.int (lo + i)) (selS sel σ) H fun σ2 H2 => tt σ2 H2 fun b H3 => if b = true then te σ2 H3 fun y H4 => Pv (i + 1) (ys ++ [y]) H4 else Pv (i + 1) ys H3)
    (hd : ∀ ys H, Pv n ys H → Qe ys H) : ∃ W : Nat → Nat → List V → Hp → Prop, (∃ m, W 0 m [] H) ∧ lcTurn sel g tt te σ (Itr lo n) W Qe := by
  refine ⟨fun i m ys H => m = n - i ∧ i ≤ n ∧ Pv i ys H, ⟨_, rfl, Nat.zero_le _, h0⟩, ?_⟩
  rintro i m ys H ⟨rfl, hi, p⟩
  have hy := hl i ys H hi p
  by_cases e : i = n
  · subst e
    exact .inl ⟨Nat.le_refl _, hd _ _ p⟩
  · have hlt : i < n := Nat.lt_of_le_of_ne hi e
    refine .inr ⟨hlt, by omega, Pv (i + 1), fun ys' H' p' => ⟨n - (i + 1), by omega, rfl, hlt, p'⟩, ?_⟩
    rintro x H' ⟨rfl, rfl⟩
    exact hs i ys H' hlt p

def tSetLc (i : Nat) (sel : List (Option Nat)) (wi : TI) (g : TG) (tt : TT) (te : TE) : TS := fun D σ H => wi σ H fun J H1 => ∃ W : Nat → Nat → List V → Hp → Prop, (∃ m, W 0 m [] H1) ∧
  lcTurn sel g tt te σ J W fun ys H => ∀ l, H l = none → D.nx (σ.set i (some (.ref l))) (upd H l (.lst ys))
theorem ps_setLc {i : Nat} {x : Str} {elt tg iter : Expr} {ifs : List Expr} {scope : Scope} {pos pos' spos : Pos} {wi : TI} {N' : List Str} {sel : List (Option Nat)} {g : TG} {tt : TT} {te : TE}
    (hN : X.N.Nodup) (hi' : X.N[i]? = some x) (hx : Loc X.env.scope x)
    (hc : X.calm = true) (hk : scope.kind = .function) (chk : compChk scope X.env.scope X.N N' sel = true) (hi : PI X tg iter wi) (hgk : GKeeps sel g)
    (hb : ∀ (C : Addr) (s : Shared) (H : Hp) (fp : List Addr) (pn : List (Addr × Obj)), PG (cxComp X N' scope C s H fp pn) tg g ∧ PTs (cxComp X N' scope C s H fp pn) ifs tt ∧ PE (cxComp X N' scope C s H fp pn) elt te)
    (hsw : swapsWith (.ListComp elt [⟨tg, iter, ifs, 0⟩] scope pos) (some (.Name x pos')) spos.line X.env = pure true)
    (hs : ∀ x, foldedSetIterable iter X.env x = pure x := by intro _; rfl) (hf : X.fn x = true ∨ X.env.scope.names.lookup x = some .local := by first | exact .inl rfl | exact .inr rfl | assumption) :
    PS X (.Assign [.Name x pos'] (.ListComp elt [⟨tg, iter, ifs, 0⟩] scope pos) spos) (tSetLc i sel wi g tt te) := by
  intro pins s σ H Dn I h
  have k := chk_ok chk
  rw [exec_Assign_Name_used _ _ _ _ hsw]
  refine wpAny_bind (wpAny_standAt (wpAny_bind ?_))
  show wpAny _ X.A (do let _ ← comprehension (.ListComp elt [⟨tg, iter, ifs, 0⟩] scope pos) scope X.env _ (newList []) false (eval iter X.env) (some (assign (.Name x pos') X.env))) _ _ s
  refine wpAny_bind (wpAny_mono (wpAny_comprehension_free (use := some (assign (.Name x pos') X.env)) (Q := fun _ s' => SP X pins Dn .next s') rfl hs (closureFor_free (clos_cells I k).1) hk k.lo
    (thn (hi pins s σ H _ I h) fun v s1 h1 => thn h1 fun itv s2 h2 => ?_)) (fun _ s' hq => wpAny_pure (wpAny_pure hq)) fun _ _ e => e)
  obtain ⟨it, fp, tn, J, H2, e, I2, T, st2, f2, W, ⟨m0, w0⟩, turn⟩ := h2
  subst e
  refine lc_block (RR := fun acc C => compPost (model X.prog X.w) X.A X.xe (some (assign (.Name x pos') X.env)) (fun _ s' => SP X pins Dn .next s') acc C) hc hk k I2 T st2 f2 hb hgk w0 turn ?_
  intro D C s' H' ys m hD I' hns fC q
  obtain ⟨oC, es, ep, eC, dC, rC⟩ := id hns
  have I'' : Inv X (pins ++ [(C, oC)]) σ (upd H' D (.lst ys)) s' := I'.pins_of fun p hp => by
    rcases List.mem_append.mp hp with hp | hp
    · exact I'.pin p (List.mem_append_right _ hp)
    · rw [List.mem_singleton.mp hp]
      exact ⟨eC, fC.1, fC.2.1, fC.2.2.1, fun v z => by rw [dC] at z; cases z⟩
  refine thn (pg_name (pos := pos') hN hi' hx hf (pins ++ [(C, oC)]) s' σ _ (.ref D) (.ref D) (fun σ2 H2 => σ2 = σ.set i (some (.ref D)) ∧ H2 = upd H' D (.lst ys)) I'' rfl ⟨rfl, rfl⟩) fun _ s9 h9 => ?_
  obtain ⟨σ9, H9, I9, rfl, rfl⟩ := h9
  have eC9 := (I9.pin (C, oC) (List.mem_append_right _ (List.mem_append_right _ (List.mem_singleton.mpr rfl)))).1
  refine ⟨m, ⟨oC, es, ep, eC9, dC, rC⟩, fun h' hs' => ?_⟩
  exact ⟨_, _, (I9.unpinned).turned (t' := s9.toks) (fun b o hb e => (hs'.2 b hb).trans e) fC.1 fC.2.1 fC.2.2.2.1 fC.2.2.2.2.1 fC.2.2.2.2.2, q D hD⟩
end
end L2
namespace L2
open PySem PySem.Spec PyProof.Rows
section
variable {X : Cx} {tg : Expr} {a b : Expr} {ta tb : TE} {pos : Pos}

def tMid (t u : TS) : TS := fun D σ H => ∃ M : St → Hp → Prop, t { D with nx := M } σ H ∧ ∀ σ' H', M σ' H' → u D σ' H'
theorem pss_mid {st : Stmt} {rest : List Stmt} {t u : TS} (h1 : PS X st t) (h2 : PSs X rest u) : PSs X (st :: rest) (tMid t u) := by
  intro pins s σ H D I h
  obtain ⟨M, hM, hu⟩ := h
  refine wpAny_execs_cons (thn (h1 pins s σ H { D with nx := M } I hM) fun f s1 q => ?_)
  cases f with
  | next =>
    obtain ⟨σ', H', I', q⟩ := q
    exact h2 pins s1 σ' H' D I' (hu _ _ q)
  | ret v => exact q
  | brk => exact q
  | cont => exact q

def Its (x : Str) : It := ⟨fun i _ => i < x.length, fun i H v H' => H' = H ∧ ∃ c, x.cps.toList[i]? = some c ∧ v = .str ⟨#[c]⟩, fun i _ => x.length ≤ i⟩
def iStr (tl : TE) : TI := fun σ H R => tl σ H fun x H1 => ∃ z, x = .str z ∧ R (Its z) H1
theorem call_isinst : CallR X (.builtin "isinstance") (fun xs H Q => ∃ x n t b, xs = [x, .ty n] ∧ TyOf X.K H x t ∧ PySem.W.kitOne X.K t (.type n) = some b ∧ Q (.bl b) H) := by
  intro pins s σ H xs us Q I r h
  obtain ⟨x, n, t, b, rfl, ty, e, q⟩ := h
  obtain ⟨u, w', rfl, ru, rw'⟩ := vals2 r
  cases rw'
  exact isinst_ok I ru ty e fun tk => ⟨.bl b, H, I.tok _, rfl, q⟩
def cutS (z : Str) (lo hi : Option Int) : Str := ⟨((z.cps.toList.drop (HT.sIx z.length 0 lo)).take (HT.sIx z.length z.length hi - HT.sIx z.length 0 lo)).toArray⟩
theorem sIx_leS (n d : Nat) (hd : d ≤ n) (o : Option Int) : HT.sIx n d o ≤ n := by
  cases o with
  | none => exact hd
  | some v => simp only [HT.sIx]; split <;> omega
theorem range_nat (a b : Nat) : sliceRange (a : Int) (b : Int) 1 = (List.range (b - a)).map (fun k => a + k) := by
  unfold sliceRange
  simp only [show (1 : Int) > 0 by decide, if_true]
  have ec : (if (a : Int) < (b : Int) then ((b : Int) - a + 1 - 1) / 1 else 0).toNat = b - a := by split <;> simp <;> omega
  rw [ec]
  refine List.map_congr_left fun k _ => ?_
  omega
theorem idx_eq (lo hi : Option Int) (n : Nat) : Builtin.Str.strSliceIndices lo hi 1 n = (List.range (HT.sIx n n hi - HT.sIx n 0 lo)).map (fun k => HT.sIx n 0 lo + k) := by
  rw [← range_nat]
  unfold Builtin.Str.strSliceIndices
  simp only [show (1 : Int) > 0 by decide, if_true]
  congr 1
  · cases lo with
    | none => rfl
    | some v => simp only [HT.sIx]; split <;> omega
  · cases hi with
    | none => rfl
    | some v => simp only [HT.sIx]; split <;> omega
theorem slice_eq (z : Str) (lo hi : Option Int) : Txt.slice z lo hi = cutS z lo hi := by
  have ha := sIx_leS z.length 0 (Nat.zero_le _) lo
  have hb := sIx_leS z.length z.length (Nat.le_refl _) hi
  unfold Txt.slice cutS
  rw [idx_eq]
  generalize HT.sIx z.length 0 lo = a at *
  generalize HT.sIx z.length z.length hi = b at *
  have hl : z.cps.toList.length = z.length := rfl
  split
  · rename_i h
    have h' : b - a = z.length := by simpa using h
    apply Str.ext'
    show z.cps = ((z.cps.toList.drop a).take (b - a)).toArray
    have h0 : a = 0 ∨ z.length = 0 := by omega
    rcases h0 with h0 | h0
    · subst h0
      rw [List.drop_zero, h', ← hl, List.take_length]
    · have : z.cps.toList = [] := List.eq_nil_of_length_eq_zero (hl.trans h0)
      have hz : z.cps = #[] := by rw [← Array.toArray_toList (xs := z.cps), this]
      rw [this, hz]; simp
  · by_cases hab : a ≤ b
    · have h := StrLaws.picks z.cps.toList (b - a) a (by omega)
      have h2 : List.filterMap (fun x => z.cps[x]?) (List.map (fun k => a + k) (List.range (b - a))) = List.take (b - a) (List.drop a z.cps.toList) := by simpa using h
      rw [h2]
    · have : b - a = 0 := by omega
      rw [this]; simp
theorem cut_le (z : Str) (lo hi : Option Int) : (cutS z lo hi).length ≤ z.length := by rw [← slice_eq]; exact Txt.slice_le z lo hi
def rSlS : V → Option Int → Option Int → Hp → VK → Prop := fun x lo hi H Q => ∃ z, x = .str z ∧ z.length ≤ sizeLine ∧ Q (.str (cutS z lo hi)) H
theorem sl_str : SlR X rSlS := by
  intro pins s σ H x v vl vu lo hi sl Q I rx hs pl pu h
  obtain ⟨z, rfl, hz, q⟩ := h
  obtain ⟨t, rfl⟩ := rx
  rw [← slice_eq] at q
  refine ⟨"str", _, F.slot_str_getitem.lookup, typeIs_str _ _ _, ?_⟩
  have fin : ∀ (l u : Option (Int × Tok)), vl = partValue l → vu = partValue u → lo = l.map (·.1) → hi = u.map (·.1) → wpAny (model X.prog X.w) X.A (getItem (.str z t) (.ref sl)) (EP X pins σ Q) X.xe s := by
    rintro l u rfl rfl rfl rfl
    exact wpAny_getItem_str_slice (l := l) (u := u) (st := none) hs rfl (post_val_or_str ⟨Nat.le_trans (Txt.slice_le z _ _) hz, fun t' k => ⟨.str _, H, I.tok _, ⟨_, rfl⟩, q⟩⟩)
  cases pl with
  | none =>
    cases pu with
    | none => exact fin none none rfl rfl rfl rfl
    | int j uj => exact fin none (some (j, uj)) rfl rfl rfl rfl
  | int i ui =>
    cases pu with
    | none => exact fin (some (i, ui)) none rfl rfl rfl rfl
    | int j uj => exact fin (some (i, ui)) (some (j, uj)) rfl rfl rfl rfl
def rStarts : V → List V → Hp → VK → Prop := fun x vs H Q => ∃ z y, x = .str z ∧ vs = [.str y] ∧ Q (.bl (Txt.startswith z y)) H
theorem strs_of {zs : List Str} : ∀ {us : List Value}, Vals (zs.map V.str) us → StrsAre us zs := by
  induction zs with
  | nil => intro us r; cases r; exact .nil
  | cons b bs ih =>
    intro us r
    cases r with
    | cons h t =>
      obtain ⟨tk, rfl⟩ := h
      exact .cons _ _ (ih t)
def rJoin (K : PySem.W.Frag) : V → List V → Hp → VK → Prop := fun x vs H Q => ∃ (z : Str) (p : Addr) (zs : List Str), x = .str z ∧ vs = [.ref p] ∧ SqL K H p (zs.map V.str) ∧ (zs.map (·.length)).sum + zs.length * z.length ≤ 16777216 ∧ Q (.str (Txt.join z zs)) H
theorem mt_join : MtR X "str.join" (rJoin X.K) := by
  intro pins s σ H x vs v us Q I rx rv h
  obtain ⟨z, p, zs, rfl, rfl, hp, hz, q⟩ := h
  obtain ⟨t, rfl⟩ := rx
  obtain ⟨u, rfl, ru⟩ := vals1 rv
  cases ru
  obtain ⟨its, r', pl, _⟩ := I.list hp
  exact join_list pl.isList (strs_of r') hz fun t' k => ⟨.str _, H, I.tok _, ⟨_, rfl⟩, q⟩

inductive EqD (K : PySem.W.Frag) (H : Hp) : Nat → V → V → Bool → Prop
  | flat {n : Nat} {x y : V} : flatV x = true → flatV y = true → EqD K H n x y (eqV x y)
  | same {n : Nat} {a : Addr} : EqD K H n (.ref a) (.ref a) true
  | lst {n : Nat} {a b : Addr} {xs ys : List V} {e : Nat → Bool} : SqL K H a xs → SqL K H b ys → a ≠ b → xs.length = ys.length → (∀ i x y, xs[i]? = some x → ys[i]? = some y → EqD K H n x y (e i)) → EqD K H (n + 1) (.ref a) (.ref b) ((List.range xs.length).all e)
  | lstN {n : Nat} {a b : Addr} {xs ys : List V} : SqL K H a xs → SqL K H b ys → a ≠ b → xs.length ≠ ys.length → EqD K H (n + 1) (.ref a) (.ref b) false
  | tup {n : Nat} {a b : Addr} {xs ys : List V} {e : Nat → Bool} : SqT K H a xs → SqT K H b ys → a ≠ b → (∀ i x y, xs[i]? = some x → ys[i]? = some y → EqD K H n x y (e i)) → EqD K H (n + 1) (.ref a) (.ref b) ((List.range (min xs.length ys.length)).all e && xs.length == ys.length)
  | tupF {n : Nat} {a : Addr} {xs : List V} {y : V} : SqT K H a xs → flatV y = true → EqD K H n (.ref a) y false
  | fTup {n : Nat} {a : Addr} {xs : List V} {y : V} : SqT K H a xs → flatV y = true → EqD K H n y (.ref a) false
theorem item_of {xs : List V} {its : List Value} {j : Nat} (r : Vals xs its) (h : j < its.toArray.size) : ∃ x, xs[j]? = some x ∧ RelV x its.toArray[j] := by
  have hl := r.length
  have hj : j < xs.length := by rw [List.size_toArray] at h; omega
  obtain ⟨u, hu, ru⟩ := r.get (i := j) (x := xs[j]) (by simp [hj])
  refine ⟨xs[j], by simp [hj], ?_⟩
  have e : its.toArray[j] = u := by
    have h2 : j < its.length := by rw [List.size_toArray] at h; exact h
    have := List.getElem?_eq_getElem h2
    rw [hu] at this
    simpa using (Option.some.inj this).symm
  rw [e]; exact ru
theorem _root_.PyProof.Rows.IsTup.isTuple' {h : Heap} {a : Addr} {its : Array Value} (p : IsTup h a its) : h.IsTuple a its := p
theorem EqD.at {K : PySem.W.Frag} {H : Hp} {n : Nat} {x y : V} {b : Bool} (d : EqD K H n x y b) : ∀ {X : Cx} {pins : List (Addr × Obj)} {σ : St} {s : Shared} {A : Around} {u v : Value}, X.K = K → Inv X pins σ H s → RelV x u → RelV y v → A.units + n < cLine → SeqAt.EqAt A s u v b := by
  induction d with
  | flat fx fy => intro X pins σ s A u v hK I rx ry hu; exact eqAt_V rx ry fx fy
  | same => intro X pins σ s A u v hK I rx ry hu; cases rx; cases ry; exact SeqAt.EqAt.same _
  | @lst n a b xs ys e hx hy hne hl _ ih =>
    intro X pins σ s A u v hK I rx ry hu
    subst hK
    cases rx; cases ry
    obtain ⟨ia, ra, pa, _⟩ := I.list hx
    obtain ⟨ib, rb, pb, _⟩ := I.list hy
    have la := ra.length
    have lb := rb.length
    have hs : ia.toArray.size = ib.toArray.size := by rw [List.size_toArray, List.size_toArray]; omega
    have q := SeqAt.RcAt.lists (A := A) (e := e) pa.isList pb.isList hs (by omega) fun j h1 h2 => by
      obtain ⟨x, ex, rx⟩ := item_of ra h1
      obtain ⟨y, ey, ry⟩ := item_of rb h2
      exact ih j x y ex ey rfl I rx ry (by show A.units + 1 + n < cLine; omega)
    rw [List.size_toArray, ← la] at q
    exact SeqAt.EqAt.of_refs hne q
  | @lstN n a b xs ys hx hy hne hl =>
    intro X pins σ s A u v hK I rx ry hu
    subst hK
    cases rx; cases ry
    obtain ⟨ia, ra, pa, _⟩ := I.list hx
    obtain ⟨ib, rb, pb, _⟩ := I.list hy
    have la := ra.length
    have lb := rb.length
    exact SeqAt.EqAt.of_refs hne (SeqAt.RcAt.lists_lengths pa.isList pb.isList (by rw [List.size_toArray, List.size_toArray]; simp; omega) (by omega))
  | @tup n a b xs ys e hx hy hne _ ih =>
    intro X pins σ s A u v hK I rx ry hu
    subst hK
    cases rx; cases ry
    obtain ⟨ia, ra, pa, _⟩ := I.tuple hx
    obtain ⟨ib, rb, pb, _⟩ := I.tuple hy
    have la := ra.length
    have lb := rb.length
    have q := SeqAt.RcAt.tuples (A := A) (e := e) pa.isTuple' pb.isTuple' (by omega) fun j h1 h2 => by
      obtain ⟨x, ex, rx⟩ := item_of ra h1
      obtain ⟨y, ey, ry⟩ := item_of rb h2
      exact ih j x y ex ey rfl I rx ry (by show A.units + 1 + n < cLine; omega)
    rw [List.size_toArray, List.size_toArray, ← la, ← lb] at q
    exact SeqAt.EqAt.of_refs hne q
  | @tupF n a xs y hx fy =>
    intro X pins σ s A u v hK I rx ry hu
    subst hK
    cases rx
    obtain ⟨ia, ra, pa, _⟩ := I.tuple hx
    have hu' : A.units < cLine := by omega
    cases y with
    | non => cases (show v = Value.none from ry); exact SeqAt.EqAt.tuple_none pa.isTuple' hu'
    | bl b => cases (show v = Value.bool b from ry); exact SeqAt.EqAt.tuple_bool b pa.isTuple' hu'
    | int i => obtain ⟨t, q⟩ := (show ∃ t, v = Value.int i t from ry); cases q; exact SeqAt.EqAt.tuple_int i t pa.isTuple' hu'
    | str z => obtain ⟨t, q⟩ := (show ∃ t, v = Value.str z t from ry); cases q; exact SeqAt.EqAt.tuple_str z t pa.isTuple' hu'
    | byt b => cases fy
    | flt b => cases fy
    | ref a => cases fy
    | ty n => cases fy
  | @fTup n a xs y hx fy =>
    intro X pins σ s A u v hK I rx ry hu
    subst hK
    cases ry
    obtain ⟨ia, ra, pa, _⟩ := I.tuple hx
    have hu' : A.units < cLine := by omega
    cases y with
    | non => cases (show u = Value.none from rx); exact SeqAt.EqAt.none_tuple pa.isTuple' hu'
    | bl b => cases (show u = Value.bool b from rx); exact SeqAt.EqAt.bool_tuple b pa.isTuple' hu'
    | int i => obtain ⟨t, q⟩ := (show ∃ t, u = Value.int i t from rx); cases q; exact SeqAt.EqAt.int_tuple i t pa.isTuple' hu'
    | str z => obtain ⟨t, q⟩ := (show ∃ t, u = Value.str z t from rx); cases q; exact SeqAt.EqAt.str_tuple z t pa.isTuple' hu'
    | byt b => cases fy
    | flt b => cases fy
    | ref a => cases fy
    | ty n => cases fy
def EqIt (K : PySem.W.Frag) (H : Hp) (n : Nat) (xs ys : List V) (e : Nat → Bool) : Prop := ∀ i x y, xs[i]? = some x → ys[i]? = some y → EqD K H n x y (e i)
def rEqL (K : PySem.W.Frag) (neg : Bool) : R2 := fun x y H Q => ∃ a b xs ys n e, x = .ref a ∧ y = .ref b ∧ SqL K H a xs ∧ SqL K H b ys ∧ n ≤ 90 ∧ EqIt K H n xs ys e ∧ Q (.bl (neg ^^ (decide (xs.length = ys.length) && (List.range xs.length).all e))) H
theorem op_eqL (hu : X.A.units + 100 < cLine) : OpR X (compareOp .Eq) (rEqL X.K false) := by
  intro pins s σ H x y v u Q I rx ry h
  obtain ⟨a, b, xs, ys, n, e, rfl, rfl, hx, hy, hn, he, q⟩ := h
  cases rx; cases ry
  obtain ⟨ia, ra, pa, _⟩ := I.list hx
  obtain ⟨ib, rb, pb, _⟩ := I.list hy
  have la := ra.length
  have lb := rb.length
  rw [Bool.false_xor] at q
  by_cases hl : xs.length = ys.length
  · rw [decide_eq_true hl, Bool.true_and] at q
    refine SeqAt.eq_listAt (e := e) pa.isList pb.isList (by rw [List.size_toArray, List.size_toArray]; omega) (by omega) (fun j h1 h2 => ?_) ⟨.bl _, H, I, rfl, ?_⟩
    · obtain ⟨x, ex, rx⟩ := item_of ra h1
      obtain ⟨y, ey, ry⟩ := item_of rb h2
      exact (he j x y ex ey).at rfl I rx ry (by show X.A.units + 1 + n < cLine; omega)
    · rw [List.size_toArray, ← la]; exact q
  · rw [decide_eq_false hl, Bool.false_and] at q
    exact SeqAt.eq_list_lengthsAt pa.isList pb.isList (by rw [List.size_toArray, List.size_toArray]; simp; omega) (by omega) ⟨.bl _, H, I, rfl, q⟩
theorem op_neL (hu : X.A.units + 100 < cLine) : OpR X (compareOp .NotEq) (rEqL X.K true) := by
  intro pins s σ H x y v u Q I rx ry h
  obtain ⟨a, b, xs, ys, n, e, rfl, rfl, hx, hy, hn, he, q⟩ := h
  cases rx; cases ry
  obtain ⟨ia, ra, pa, _⟩ := I.list hx
  obtain ⟨ib, rb, pb, _⟩ := I.list hy
  have la := ra.length
  have lb := rb.length
  rw [Bool.true_xor] at q
  by_cases hl : xs.length = ys.length
  · rw [decide_eq_true hl, Bool.true_and] at q
    refine SeqAt.RcNeAt.lists (e := e) pa.isList pb.isList (by rw [List.size_toArray, List.size_toArray]; omega) (by omega) (fun j h1 h2 => ?_) _ _ _ _ ⟨.bl _, H, I, rfl, ?_⟩
    · obtain ⟨x, ex, rx⟩ := item_of ra h1
      obtain ⟨y, ey, ry⟩ := item_of rb h2
      exact (he j x y ex ey).at rfl I rx ry (by show X.A.units + 1 + n < cLine; omega)
    · rw [List.size_toArray, ← la]; exact q
  · rw [decide_eq_false hl, Bool.false_and] at q
    exact SeqAt.RcNeAt.lists_lengths pa.isList pb.isList (by rw [List.size_toArray, List.size_toArray]; simp; omega) (by omega) _ _ _ _ ⟨.bl _, H, I, rfl, q⟩
def rEqT (K : PySem.W.Frag) (neg : Bool) : R2 := fun x y H Q => ∃ a b xs ys n e, x = .ref a ∧ y = .ref b ∧ SqT K H a xs ∧ SqT K H b ys ∧ n ≤ 90 ∧ EqIt K H n xs ys e ∧ Q (.bl (neg ^^ ((List.range (min xs.length ys.length)).all e && xs.length == ys.length))) H
theorem op_neT (hu : X.A.units + 100 < cLine) : OpR X (compareOp .NotEq) (rEqT X.K true) := by
  intro pins s σ H x y v u Q I rx ry h
  obtain ⟨a, b, xs, ys, n, e, rfl, rfl, hx, hy, hn, he, q⟩ := h
  cases rx; cases ry
  obtain ⟨ia, ra, pa, _⟩ := I.tuple hx
  obtain ⟨ib, rb, pb, _⟩ := I.tuple hy
  have la := ra.length
  have lb := rb.length
  rw [Bool.true_xor] at q
  refine SeqAt.RcNeAt.tuples (e := e) pa.isTuple' pb.isTuple' (by omega) (fun j h1 h2 => ?_) _ _ _ _ ⟨.bl _, H, I, rfl, ?_⟩
  · obtain ⟨x, ex, rx⟩ := item_of ra h1
    obtain ⟨y, ey, ry⟩ := item_of rb h2
    exact (he j x y ex ey).at rfl I rx ry (by show X.A.units + 1 + n < cLine; omega)
  · rw [List.size_toArray, List.size_toArray, ← la, ← lb]; exact q
theorem hu100 {A : Around} {k : Nat} (hr : Room k A) : A.units + 100 < cLine := Nat.lt_of_le_of_lt (by omega) hr.un

def strsAre : List Expr → List Str → Bool
  | [], [] => true
  | .Constant (.str x) _ _ :: r, z :: zs => x == z && strsAre r zs
  | _, _ => false
def tStrs (zs : List Str) : TA := fun _ H Q => Q (zs.map V.str) H
theorem pa_strs : ∀ {es : List Expr} {zs : List Str}, strsAre es zs = true → PA X es (tStrs zs) := by
  intro es
  induction es with
  | nil =>
    intro zs h
    cases zs with
    | nil => exact pa_nil
    | cons z zs => cases h
  | cons e r ih =>
    intro zs h
    unfold strsAre at h
    split at h
    · exact absurd ‹e :: r = []› (List.cons_ne_nil _ _)
    · rename_i x j p r' z zs' h1
      cases h1
      rw [Bool.and_eq_true] at h
      have hx : x = z := by simpa using h.1
      subst hx
      exact pa_cons (X := X) (e := .Constant (.str x) j p) pe_str (ih h.2)
    · cases h
end
end L2
namespace L2
open PySem PySem.Spec PyProof.Rows
set_option genInjectivity false in
structure Def (K : PySem.W.Frag) (mg : Str → Option Value) (x : Str) (st : Stmt) (ps : List Str) where
  f : Addr
  fd : FuncData
  F : Fun K x x st f fd
  hm : mg x = some (.ref f)
  b : Binds K fd ps []
theorem cxOf_K {CX : CXT} {P : Program} {w : World} {K : PySem.W.Frag} {mg : Str → Option Value} {base : Heap} {N : List Str} {qual : Str} {scope : Scope} {f : Addr} {cd : Value} {A : Around} {outer : List Env} {s : Shared} {H : Hp} {E : XK} :
    (cxOf CX P w K mg base N qual scope f cd A outer s H E).K = K := rfl
theorem cxComp_K {X : Cx} {N : List Str} {scope : Scope} {C : Addr} {s : Shared} {H : Hp} {fp : List Addr} {pn : List (Addr × Obj)} : (cxComp X N scope C s H fp pn).K = X.K := rfl
structure InK (K : PySem.W.Frag) (x : Str) (st : Stmt) : Prop where
  ex : ∃ (f : Addr) (oc : Value) (od : Option Addr) (kV doc pm : Value) (an : Option Addr) (cdv ct : Value) (osl : Array (Option Value)),
    PySem.W.nsIn K mainGlobals x = some (some (.ref f)) ∧ K.lookup f = some ⟨oc, od, .func (PySem.W.fnOf x x (defArgs st) (defBody st) (defScope st) .none kV doc pm an cdv ct), osl⟩ ∧ PySem.W.codeIn K cdv x = true ∧ PySem.W.keepIn K (.ref f) = true
theorem InK.of {K : PySem.W.Frag} {x : Str} {st : Stmt} {f : Addr} {oc : Value} {od : Option Addr} {kV doc pm : Value} {an : Option Addr} {cdv ct : Value} {osl : Array (Option Value)}
    (a : PySem.W.nsIn K mainGlobals x = some (some (.ref f))) (l : K.lookup f = some ⟨oc, od, .func (PySem.W.fnOf x x (defArgs st) (defBody st) (defScope st) .none kV doc pm an cdv ct), osl⟩) (c : PySem.W.codeIn K cdv x = true) (k : PySem.W.keepIn K (.ref f) = true) : InK K x st :=
  ⟨⟨f, oc, od, kV, doc, pm, an, cdv, ct, osl, a, l, c, k⟩⟩
theorem InK.def {K : PySem.W.Frag} {mg : Str → Option Value} {h : Heap} {x : Str} {st : Stmt} {ps : List Str} (i : InK K x st) (X : K.In h) (G : h.Ns mainGlobals mg)
    (hb : ∀ (kV doc pm : Value) (an : Option Addr) (cdv ct : Value) (us : List Value), us.length = ps.length → bindArgs (PySem.W.fnOf x x (defArgs st) (defBody st) (defScope st) .none kV doc pm an cdv ct) ⟨us, []⟩ = pure (ps.zip us)) : Nonempty (Def K mg x st ps) := by
  obtain ⟨f, oc, od, kV, doc, pm, an, cdv, ct, osl, a, l, c, k⟩ := i.ex
  have F := fun_mk (x := x) (qual := x) (st := st) l c k
  exact ⟨⟨f, _, F, PySem.W.mg_of X G a, F.binds hb⟩⟩
def strsOf : List Str → List Value → Bool
  | [], [] => true
  | z :: zs, .str x _ :: r => x == z && strsOf zs r
  | _, _ => false
structure InT (K : PySem.W.Frag) (x : Str) (zs : List Str) : Prop where
  ex : ∃ (p : Addr) (dd : Option Addr) (its : Array Value) (n : Nat) (sl : Array (Option Value)), PySem.W.nsIn K mainGlobals x = some (some (.ref p)) ∧ K.lookup p = some ⟨.type "tuple", dd, .seq its n, sl⟩ ∧ its.size ≤ sizeLine ∧ strsOf zs its.toList = true
theorem InT.of {K : PySem.W.Frag} {x : Str} {zs : List Str} {p : Addr} {dd : Option Addr} {its : Array Value} {n : Nat} {sl : Array (Option Value)} (a : PySem.W.nsIn K mainGlobals x = some (some (.ref p))) (l : K.lookup p = some ⟨.type "tuple", dd, .seq its n, sl⟩)
    (s : its.size ≤ sizeLine) (v : strsOf zs its.toList = true) : InT K x zs := ⟨⟨p, dd, its, n, sl, a, l, s, v⟩⟩
theorem bt_len : bootBuiltins "len" = some (.builtin "len") := by decide +kernel
theorem bt_isinstance : bootBuiltins "isinstance" = some (.builtin "isinstance") := by decide +kernel
theorem bt_str : bootBuiltins "str" = some (.type "str") := by decide +kernel
theorem bt_int : bootBuiltins "int" = some (.type "int") := by decide +kernel
theorem bt_bool : bootBuiltins "bool" = some (.type "bool") := by decide +kernel
theorem bt_tuple : bootBuiltins "tuple" = some (.type "tuple") := by decide +kernel
theorem Same.upd {H : Hp} {a : Addr} {o : HO} (h : H a = none) : Same H (L2.upd H a o) := fun b u e => by rw [upd_ne (ne_of_none e h)]; exact e
theorem lenV_str {K : PySem.W.Frag} {z : Str} {H : Hp} {n : Nat} : LenV K (.str z) H n ↔ z.length ≤ sizeLine ∧ n = z.length := Iff.rfl
theorem lenV_ref {K : PySem.W.Frag} {p : Addr} {H : Hp} {n : Nat} : LenV K (.ref p) H n ↔ (∃ xs, SqL K H p xs ∧ n = xs.length) ∨ ∃ xs, SqT K H p xs ∧ n = xs.length := Iff.rfl
end L2
namespace L2
open PySem PySem.Spec PyProof.Rows
section
variable {X : Cx} {o e f : Expr} {apos cpos pos : Pos} {td ty tx : TE}

def gLst (K : PySem.W.Frag) (n : Nat) (t : TGs) : TG := fun v σ H Q => ∃ a xs, v = .ref a ∧ SqL K H a xs ∧ xs.length = n ∧ t xs σ H Q
theorem draw_list {prog : Program} {w : World} {A : Around} {E : Value → Shared → Prop} {it l : Addr} {items : Array Value} (hne : l ≠ it) : ∀ (n i : Nat) (s : Shared) (Q : List Value → Shared → Prop), s.heap.IsListIter it l i → s.heap.IsList l items → i + n ≤ items.size →
    (∀ h', h'.IsListIter it l (i + n) → Heap.SameBut it s.heap h' → Q ((items.toList.drop i).take n) { s with heap := h' }) → wpAny (model prog w) A (draw (.ref it) n) Q E s
  | 0, i, s, Q, hit, _, _, hQ => by
    show wpAny _ _ (pure []) Q E s
    exact wpAny_pure (by simpa using hQ s.heap hit (Heap.SameBut.refl ..))
  | n + 1, i, s, Q, hit, ht, hle, hQ => by
    have hlt : i < items.size := by omega
    show wpAny _ _ (pyNext (.ref it) >>= _) Q E s
    refine wpAny_bind (wpAny_pyNext_list_item hit ht (x := items[i]) (by simp [hlt]) fun h₁ hit₁ hs₁ => ?_)
    refine wpAny_bind (wpAny_holding (draw_list hne n (i + 1) _ _ hit₁ (ht.extBut hs₁.extBut hne) (by omega) fun h₂ hit₂ hs₂ => wpAny_pure ?_))
    have hd : items.toList.drop i = items[i] :: items.toList.drop (i + 1) := by simp [List.drop_eq_getElem_cons, hlt]
    have := hQ h₂ (by rw [show i + (n + 1) = i + 1 + n by omega]; exact hit₂) (hs₁.trans hs₂)
    rw [hd, List.take_succ_cons] at this
    exact this
theorem unpackItems_list {prog : Program} {w : World} {A : Around} {E : Value → Shared → Prop} {s : Shared} {t : Addr} {items : Array Value} {Q : List Value → Shared → Prop} (hh : A.handled = none) (ht : s.heap.IsList t items)
    (hQ : ∀ h', Heap.ExtBut s.heap.objs.size s.heap h' → Q items.toList { s with heap := h' }) : wpAny (model prog w) A (unpackItems (.ref t) items.size none) Q E s := by
  have hlt : t ≠ s.heap.objs.size := by obtain ⟨o, ho, _⟩ := ht; exact Nat.ne_of_lt (Heap.lt_size ho)
  unfold unpackItems
  refine wpAny_bind ?_
  · unfold notIterableAtAll
    refine wpAny_bind (wpAny_specialOf ht.typeIs F.slot_list_iter.lookup ?_)
    refine wpAny_pure ?_
    simp only [Bool.false_eq_true, if_false]
    refine wpAny_bind (wpAny_holding (wpAny_pyIter_list ht ?_))
    refine wpAny_bind (wpAny_holding (draw_list hlt items.size 0 _ _ ⟨_, Heap.get?_push_size _ rfl, rfl, rfl⟩ (ht.push _) (by omega) fun h₁ hit₁ hs₁ => ?_))
    have hall : List.take items.size (List.drop 0 items.toList) = items.toList := by
      rw [List.drop_zero]; exact List.take_of_length_le (by simp)
    rw [hall]
    rw [if_neg (by simp)]
    have ht₁ : h₁.IsList t items := (ht.push _).extBut hs₁.extBut hlt
    refine wpAny_bind (wpAny_holding (wpAny_pyNext_list_end hh hit₁ ht₁ (by simp) fun h₂ he₂ => ?_))
    simp only [Option.isSome_none, Bool.false_eq_true, if_false]
    refine wpAny_pure (hQ h₂ fun b o hb e => he₂ b o hb (hs₁.extBut b o hb (Heap.get?_push_of_some _ e)))
theorem pg_lst {es : List Expr} {k : Nat} {t : TGs} {n : Nat} (hc : X.calm = true) (h : PGs X es t)
    (hn : (assignEach es X.env).length = n := by rfl) (hst : (assignEach es X.env).findIdx? (·.1) = none := by rfl) : PG X (.Tuple es k pos) (gLst X.K n t) := by
  intro pins s σ H v u Q I r hw
  obtain ⟨a, xs, e1, hq, hl, hw⟩ := hw
  subst e1
  cases r
  obtain ⟨its, rv, ht, hz⟩ := I.list hq
  rw [arm_assign_Tuple]
  refine wpAny_bind (wpAny_standAt ?_)
  unfold unpack
  rw [show (assignEach es X.env).length = its.toArray.size by rw [hn, ← hl, List.size_toArray, rv.length], hst]
  refine wpAny_bind (wpAny_holding (unpackItems_list (I.ok.hd hc) ht.isList fun h' hx => ?_))
  have I1 : Inv X pins σ H { s with heap := h' } := I.kept (t' := s.toks) fun b o e => hx b o (Nat.ne_of_lt (Heap.lt_size e)) e
  exact h pins _ σ H xs _ Q I1 (by simpa using rv) hw

variable {K : PySem.W.Frag}
theorem ix_listK (h : X.K = K) : IxR X (rIxL K) := by subst h; exact ix_list
theorem ix_tupK (h : X.K = K) : IxR X (rIxT K) := by subst h; exact ix_tup
theorem call_lenK (h : X.K = K) : CallR X (.builtin "len") (fun xs H Q => ∃ x n, xs = [x] ∧ LenV K x H n ∧ Q (.int n) H) := by subst h; exact call_len
theorem call_tuple_ofK (h : X.K = K) : CallR X (.type "tuple") (fun xs H Q => ∃ p ys, xs = [.ref p] ∧ ((SqL K H p ys ∧ ∀ l, H l = none → Q (.ref l) (upd H l (.tup ys))) ∨ (SqT K H p ys ∧ Q (.ref p) H))) := by subst h; exact call_tuple_of
def tIfM (c : TT) (t u : TS) : TS := fun D σ H => ∃ M1 M2 : Hp → Prop, (c σ H fun b H1 => if b = true then M1 H1 else M2 H1) ∧ (∀ H1, M1 H1 → t D σ H1) ∧ ∀ H1, M2 H1 → u D σ H1
theorem ps_ifM {X : Cx} {pos : Pos} {t u : TS} {c : Expr} {a b : List Stmt} {tc : TT} (hc : PT X c tc) (ha : PSs X a t) (hb : PSs X b u) : PS X (.If c a b pos) (tIfM tc t u) := by
  intro pins s σ H D I h
  obtain ⟨M1, M2, h, h1, h2⟩ := h
  refine wpAny_If (thn (hc pins s σ H _ I h) fun d s1 ⟨H1, I1, q1⟩ => ?_)
  cases d with
  | true => exact ha pins s1 σ H1 D I1 (h1 _ q1)
  | false => exact hb pins s1 σ H1 D I1 (h2 _ q1)
theorem Inv.turned2 {X : Cx} {pins : List (Addr × Obj)} {σ : List (Option V)} {H : Hp} {s : Shared} {h' : Heap} {t' : Nat} {e it : Addr} (I : Inv X pins σ H s) (k : ∀ b o, b ≠ e → b ≠ it → s.heap.get? b = some o → h'.get? b = some o) (fe : FpOk X pins H e) (fi : FpOk X pins H it) : Inv X pins σ H { s with heap := h', toks := t' } := by
  obtain ⟨e0, e1, _, e3, e4, e5⟩ := fe
  obtain ⟨i0, i1, _, i3, i4, i5⟩ := fi
  have nit : ∀ b u, H b = some u → b ≠ it := fun b u q z => by rw [z, i0] at q; cases q
  have nie : ∀ b u, H b = some u → b ≠ e := fun b u q z => by rw [z, e0] at q; cases q
  have kk : ∀ b o, b ∉ [e, it] → s.heap.get? b = some o → h'.get? b = some o := fun b o hc q => k b o (fun z => hc (by simp [z])) (fun z => hc (by simp [z])) q
  refine I.step (g' := s.gens) (d' := s.drawn) (ch := [e, it]) (fun b hb => ?_) (fun b o _ _ hc q _ => kk b o hc q) (fun b o _ _ hc q _ => ⟨o.slots, kk b o hc q⟩) (fun _ _ _ _ n => n)
    (fun b o hc q => ⟨o, kk b o hc q⟩) (fun _ _ q => q) (fun _ _ _ q => q) (fun b ps q => ⟨#[], by rw [q]; simp⟩) (fun m hm => ?_) (fun b u q => ?_) I.bare
  · rcases List.mem_cons.mp hb with rfl | hb
    · exact ⟨e3, e1, e4, e5⟩
    · have z : b = it := by simpa using hb
      subst z
      exact ⟨i3, i1, i4, i5⟩
  · obtain ⟨o, es, ep, ho, r⟩ := hm
    exact ⟨o, es, ep, k _ o (Ne.symm e1) (Ne.symm i1) ho, r⟩
  · refine (I.hok b u q).stay (fun c v hc q' => k c v ?_ ?_ q') (fun _ q => q) fun _ _ q => q
    · rcases hc with z | z
      · rw [z]; exact nie b u q
      · exact nie c _ z
    · rcases hc with z | z
      · rw [z]; exact nit b u q
      · exact nit c _ z
def Ite (K : PySem.W.Frag) (a : Addr) : It :=
  ⟨fun i H => ∃ xs x, SqL K H a xs ∧ xs[i]? = some x, fun i H v H' => ∃ p x, v = .ref p ∧ H p = none ∧ H' = upd H p (.tup [.int (i : Nat), x]) ∧ ∀ xs, SqL K H a xs → xs[i]? = some x, fun i H => ∃ xs, SqL K H a xs ∧ xs.length ≤ i⟩
theorem turn_enum {P : Program} {w : World} {K : PySem.W.Frag} {es : List Expr} {x1} {pos : Pos} (a e it : Addr) (hne : e ≠ it) : Turn P w K (.Tuple es x1 pos) (Ite K a) [e, it] e (fun i h => (∃ old, IsEnum h e it (i : Nat) old) ∧ h.IsListIter it a i) where
  mem := by simp
  obj := fun i h st b hb => by
    obtain ⟨⟨old, he⟩, hit⟩ := st
    rcases List.mem_cons.mp hb with rfl | hb
    · exact ⟨_, he, fun v z => by
        have z' : Data.fields _ = Data.cell v := z
        cases z'⟩
    · have z : b = it := by simpa using hb
      subst z
      obtain ⟨o, e, c, d⟩ := hit
      exact ⟨o, e, fun v z => by rw [d] at z; cases z⟩
  keep := fun i h h' st k => ⟨let ⟨old, he⟩ := st.1; ⟨old, k e (by simp) _ he⟩, st.2.at fun o q => k it (by simp) o q⟩
  item := by
    intro X hP hw hK hc i pins s σ H E I hf st hg
    subst hP hw hK
    obtain ⟨xs, x, hq, hx⟩ := hg
    obtain ⟨its, rv, p, hz⟩ := I.list hq
    obtain ⟨u, hu, ru⟩ := rv.get hx
    obtain ⟨⟨old, he⟩, hit⟩ := st
    have fe := hf e (by simp)
    have fi := hf it (by simp)
    have helt : e < s.heap.objs.size := Heap.lt_size he
    have hilt : it < s.heap.objs.size := by obtain ⟨_, q, _⟩ := hit; exact Heap.lt_size q
    refine wpAny_pyNext_enum_item he hit p.isList (x := u) (by simpa using hu) hne fun h' ho hit' hT hsz hk => ?_
    refine ⟨_, rfl, wpAny_letOwnedTupleGo_enum ho fun h'' he'' hs'' => ?_⟩
    have hfr : H s.heap.objs.size = none := I.hok.fresh (Nat.le_refl _)
    have I1 : Inv X pins σ (upd H s.heap.objs.size (.tup [.int (i : Nat), x])) { s with heap := s.heap.push { cls := .type "tuple", data := .seq #[.int (i : Nat) s.toks, u] }, toks := s.toks } :=
      I.laid (t' := s.toks) (fun b v q => Heap.get?_push_of_some _ q) (Nat.le_refl _) ⟨show 2 ≤ sizeLine by decide, [.int (i : Nat) s.toks, u], .cons ⟨_, rfl⟩ (.cons ru .nil), ⟨_, Heap.get?_push_size _ rfl, rfl, _, rfl⟩⟩
    have up : ∀ {b : Addr}, FpOk X pins H b → b < s.heap.objs.size → FpOk X pins (upd H s.heap.objs.size (.tup [.int (i : Nat), x])) b := fun f hb => ⟨by rw [upd_ne (Nat.ne_of_lt hb)]; exact f.1, f.2⟩
    have I2 : Inv X pins σ (upd H s.heap.objs.size (.tup [.int (i : Nat), x])) { s with heap := h'', toks := s.toks + 1 } :=
      Inv.turned2 (s := { s with heap := s.heap.push { cls := .type "tuple", data := .seq #[.int (i : Nat) s.toks, u] }, toks := s.toks }) (h' := h'') (t' := s.toks + 1) (e := e) (it := it) I1 (fun b o b1 b2 q => by
        rw [hs''.2 b b1]
        by_cases hb : b = s.heap.objs.size
        · subst hb
          rw [Heap.get?_push_size _ rfl] at q
          cases q
          exact hT
        · refine hk b o b1 b2 ?_
          rw [← q]
          exact (Heap.get?_push_ne _ _ _ hb).symm) (up fe helt) (up fi hilt)
    refine ⟨.ref s.heap.objs.size, _, I2, rfl, ⟨_, x, rfl, hfr, rfl, fun ys hy => by rw [I.list_inj hy hq]; exact hx⟩, ⟨⟨_, by simpa using he''⟩, hit'.at fun o q => (hs''.2 it hne.symm).trans q⟩, fun b hb => ?_⟩
    rcases List.mem_cons.mp hb with rfl | hb
    · exact (up fe helt).1
    · have z : b = it := by simpa using hb
      subst z
      exact (up fi hilt).1
  done := by
    intro X hP hw hK hc i pins s σ H E I hf st hg
    subst hP hw hK
    obtain ⟨xs, hq, hx⟩ := hg
    obtain ⟨its, rv, p, hz⟩ := I.list hq
    obtain ⟨⟨old, he⟩, hit⟩ := st
    have fe := hf e (by simp)
    have fi := hf it (by simp)
    have hl := rv.length
    exact wpAny_pyNext_enum_end (I.ok.hd hc) he hit p.isList (by simp; omega) fun h' eb => ⟨rfl, Inv.turned2 (t' := s.toks) (e := e) (it := it) I (fun b o _ hb q => eb b o hb q) fe fi⟩
  self := fun _ _ _ _ _ st h => let ⟨_, he⟩ := st.1; wpAny_pyIter_enum he h
theorem bt_enumerate : bootBuiltins "enumerate" = some (.type "enumerate") := by decide +kernel
def iEnum (K : PySem.W.Frag) (ta : TA) : TI := fun σ H R => ta σ H fun vs H1 => ∃ a : Addr, vs = [.ref a] ∧ (∃ xs, SqL K H1 a xs) ∧ R (Ite K a) H1
theorem pi_enum {X : Cx} {es : List Expr} {x1} {tpos : Pos} {a : Expr} {ta : TA} {p pos : Pos} (hg : Gl X "enumerate") (hm : X.mg "enumerate" = none) (ha : PA X [a] ta) (hs : starEach [a] X.env = [(false, eval a X.env)] := by rfl) : PI X (.Tuple es x1 tpos) (.Call (.Name "enumerate" p) [a] [] pos) (iEnum X.K ta) := by
  intro pins s σ H R I h
  refine Call_ (ld_blt I hg hm bt_enumerate (PyProof.Rows.callWith_type1 (thn (ha pos pins s σ H _ I h) fun us s1 ⟨vs, H1, I1, r1, q1⟩ => ?_) hs rfl))
  obtain ⟨l, q0, ⟨xs, hq⟩, q⟩ := q1
  subst q0
  cases r1 with
  | cons r rr =>
    cases rr
    cases r
    obtain ⟨its, rv, pl, hz⟩ := I1.list hq
    refine call_enumerate_list pl.isList fun h' he hit hsz hk => wpAny_pyIter_enum he ?_
    refine ⟨s1.heap.objs.size + 1, [s1.heap.objs.size + 1, s1.heap.objs.size], _, _, H1, rfl, I1.kept (t' := s1.toks) hk, turn_enum l _ _ (Nat.succ_ne_self _), ⟨⟨_, he⟩, hit⟩, fun b hb => ?_, q⟩
    rcases List.mem_cons.mp hb with rfl | hb
    · exact I1.fpOk (by omega) (I1.hok.fresh (by omega))
    · have z : b = s1.heap.objs.size := by simpa using hb
      subst z
      exact I1.fpOk (Nat.le_refl _) (I1.hok.fresh (Nat.le_refl _))
theorem for_enum {K : PySem.W.Frag} {a : Addr} {xs : List V} {g : TG} {tb : TS} {D : Ends} {σ : St} {H : Hp} (Pv : Nat → St → Hp → Prop) (h0 : Pv 0 σ H) (hl : ∀ i σ H, i ≤ xs.length → Pv i σ H → SqL K H a xs)
    (hs : ∀ i x p σ H, xs[i]? = some x → Pv i σ H → H p = none → g (.ref p) σ (upd H p (.tup [.int (i : Nat), x])) fun σ2 H2 => tb { D with nx := Pv (i + 1), ct := Pv (i + 1), bk := D.nx } σ2 H2) (hd : ∀ σ H, Pv xs.length σ H → D.nx σ H) :
    ∃ W : Nat → Nat → St → Hp → Prop, (∃ m, W 0 m σ H) ∧ ∀ i m σ H, W i m σ H →
      ((Ite K a).stop i H ∧ D.nx σ H) ∨ ((Ite K a).go i H ∧ ∃ N : St → Hp → Prop, (∀ σ' H', N σ' H' → ∃ m', m' < m ∧ W (i + 1) m' σ' H') ∧ ∀ x H', (Ite K a).yld i H x H' → g x σ H' fun σ2 H2 => tb { D with nx := N, ct := N, bk := D.nx } σ2 H2) := by
  refine ⟨fun i m σ H => m = xs.length - i ∧ i ≤ xs.length ∧ Pv i σ H, ⟨xs.length, by simp, Nat.zero_le _, h0⟩, ?_⟩
  rintro i m σ H ⟨rfl, hi, p⟩
  have q := hl i σ H hi p
  by_cases hlt : i < xs.length
  · refine .inr ⟨⟨xs, xs[i], q, by simp [hlt]⟩, Pv (i + 1), fun σ' H' p' => ⟨xs.length - (i + 1), by omega, rfl, hlt, p'⟩, fun v H' y => ?_⟩
    obtain ⟨b, x, rfl, hb, rfl, hx⟩ := y
    exact hs i x b σ H (hx xs q) p hb
  · have z : i = xs.length := by omega
    subst z
    exact .inl ⟨⟨xs, q, Nat.le_refl _⟩, hd σ H p⟩
end
end L2
namespace L2
open PySem PySem.Spec PyProof.Rows
structure InC (K : PySem.W.Frag) (x : Str) (C : Addr) : Prop where
  a : PySem.W.nsIn K mainGlobals x = some (some (.ref C))
  pg : PySem.W.plainGet K C Str.empty = true
  hd : PySem.W.hasDictIn K C = true
  po : PySem.W.plainOver K C = true
  sa : PySem.W.findIn K (.ref C) "__setattr__" = some (some (.builtin "object.__setattr__"))
  mak : PySem.W.makesIn K C = true
  kp : PySem.W.keepIn K (.ref C) = true
theorem InC.cls {K : PySem.W.Frag} {x : Str} {C : Addr} (i : InC K x C) : Cls K C := ⟨i.pg, i.hd, i.po, i.sa⟩
structure InM (K : PySem.W.Frag) (C : Addr) (m q : Str) (st : Stmt) : Prop where
  ex : ∃ (f : Addr) (oc : Value) (od : Option Addr) (kV doc pm : Value) (an : Option Addr) (cdv ct : Value) (osl : Array (Option Value)),
    PySem.W.findIn K (.ref C) m = some (some (.ref f)) ∧ PySem.W.isFn K (.ref f) = true ∧ K.lookup f = some ⟨oc, od, .func (PySem.W.fnOf m q (defArgs st) (defBody st) (defScope st) .none kV doc pm an cdv ct), osl⟩ ∧ PySem.W.codeIn K cdv q = true ∧ PySem.W.keepIn K (.ref f) = true
theorem InM.of {K : PySem.W.Frag} {C : Addr} {m q : Str} {st : Stmt} {f : Addr} {oc : Value} {od : Option Addr} {kV doc pm : Value} {an : Option Addr} {cdv ct : Value} {osl : Array (Option Value)}
    (a : PySem.W.findIn K (.ref C) m = some (some (.ref f))) (i : PySem.W.isFn K (.ref f) = true) (l : K.lookup f = some ⟨oc, od, .func (PySem.W.fnOf m q (defArgs st) (defBody st) (defScope st) .none kV doc pm an cdv ct), osl⟩) (c : PySem.W.codeIn K cdv q = true) (k : PySem.W.keepIn K (.ref f) = true) : InM K C m q st :=
  ⟨⟨f, oc, od, kV, doc, pm, an, cdv, ct, osl, a, i, l, c, k⟩⟩
set_option genInjectivity false in
structure MDef (K : PySem.W.Frag) (C : Addr) (m q : Str) (st : Stmt) (ps : List Str) where
  f : Addr
  fd : FuncData
  F : Fun K m q st f fd
  me : Meth K C m f
  b : Binds K fd ps []
theorem InM.def {K : PySem.W.Frag} {C : Addr} {m q : Str} {st : Stmt} {ps : List Str} (i : InM K C m q st)
    (hb : ∀ (kV doc pm : Value) (an : Option Addr) (cdv ct : Value) (us : List Value), us.length = ps.length → bindArgs (PySem.W.fnOf m q (defArgs st) (defBody st) (defScope st) .none kV doc pm an cdv ct) ⟨us, []⟩ = pure (ps.zip us)) : Nonempty (MDef K C m q st ps) := by
  obtain ⟨f, oc, od, kV, doc, pm, an, cdv, ct, osl, a, i, l, c, k⟩ := i.ex
  have F := fun_mk (x := m) (qual := q) (st := st) l c k
  exact ⟨⟨f, _, F, ⟨a, i, k⟩, F.binds hb⟩⟩
section
variable {X : Cx}
end
end L2
namespace HT
open PySem PySem.Spec PyProof.Rows
section
variable {prog : Program} {w : World} {A : Around} {E : Value → Shared → Prop} {s : Shared}
theorem getItem_tuple_whole {t sl : Addr} {items : Array Value} {vl vu : Value} {lo hi : Option Int} {Q : Value → Shared → Prop} (ht : IsTup s.heap t items) (hs : s.heap.IsSliceOf sl vl vu .none) (pl : IsPart vl lo) (pu : IsPart vu hi)
    (hw : sIx items.size 0 lo = 0 ∧ sIx items.size items.size hi = items.size) (h : Q (.ref t) s) : wpAny (model prog w) A (getItem (.ref t) (.ref sl)) Q E s := by
  obtain ⟨os, hos, hcs, hds⟩ := id hs
  have hTs : s.TypeIs (.ref sl) "slice" := ⟨os, hos, hcs⟩
  unfold getItem
  try with_reducible refine wpAny_holding ?_
  first | refine wpAny_bind (wpAny_pure ?_) | skip
  refine wpAny_bind (wpAny_sequenceKey ht.typeIs (by decide) ?_)
  refine wpAny_bind (wpAny_callSpecial?_slot (name := Str.ofString "__getitem__") ht.typeIs PyProof.Rows.slot_tuple_getitem
    (wpAny_call_entry PyProof.Rows.slot_tuple_getitem ht.typeIs entry_tuple_getitem ?_ (args_tuple_getitem _ _)))
  show wpAny _ _ (Builtin.Tuple.tupleItemsOf (.ref t) >>= _) _ _ s
  refine wpAny_bind (tupleItemsOf_ ht ?_)
  refine wpAny_bind (wpAny_typeOf hTs ?_)
  rw [if_pos (by decide)]
  refine wpAny_bind (sliceApplied_gen hs pl pu ?_)
  dsimp only
  rw [if_pos (by rw [hw.1, hw.2]; simp)]
  unfold Builtin.Tuple.tupleIsExact
  refine wpAny_bind (wpAny_bind (wpAny_typeOf ht.typeIs (wpAny_pure ?_)))
  rw [if_pos (by decide)]
  refine wpAny_bind (wpAny_rule (wpAny_pure ?_))
  exact ⟨_, rfl, wpAny_pure h⟩
end
end HT
namespace L2
open PySem PySem.Spec PyProof.Rows
section
variable {X : Cx}
def rSlTW (K : PySem.W.Frag) : V → Option Int → Option Int → Hp → VK → Prop := fun x lo hi H Q => ∃ a xs, x = .ref a ∧ SqT K H a xs ∧
  ((HT.sIx xs.length 0 lo = 0 ∧ HT.sIx xs.length xs.length hi = xs.length) → Q x H) ∧ (¬ (HT.sIx xs.length 0 lo = 0 ∧ HT.sIx xs.length xs.length hi = xs.length) → ∀ p, H p = none → Q (.ref p) (upd H p (.tup (cutV xs lo hi))))
theorem sl_tupW : SlR X (rSlTW X.K) := by
  intro pins s σ H x v vl vu lo hi sl Q I rx hs pl pu h
  obtain ⟨a, xs, e, hx, q1, q2⟩ := h
  by_cases hw : HT.sIx xs.length 0 lo = 0 ∧ HT.sIx xs.length xs.length hi = xs.length
  · subst e
    cases rx
    obtain ⟨its, r, ht, hz⟩ := I.tuple hx
    have hlen : its.toArray.size = xs.length := by rw [List.size_toArray]; exact r.length.symm
    refine ⟨"tuple", _, PyProof.Rows.slot_tuple_getitem.lookup, ht.typeIs, ?_⟩
    exact HT.getItem_tuple_whole ht hs pl pu (by rw [hlen]; exact hw) ⟨.ref a, H, I, rfl, q1 hw⟩
  · exact sl_tup pins s σ H x v vl vu lo hi sl Q I rx hs pl pu ⟨a, xs, e, hx, hw, q2 hw⟩
end
end L2
namespace L2
open PySem PySem.Spec PyProof.Rows
theorem KV.at {kvs : List (Key × V)} {vs : List (Key × Value)} {i : Nat} {kv : Key × V} (r : KV kvs vs) (h : kvs[i]? = some kv) : ∃ u, vs[i]? = some (kv.1, u) ∧ RelV kv.2 u := by
  have go : ∀ (l₁ : List (Key × V)) (l₂ : List (Key × Value)), Paired (fun (p : Key × V) (q : Key × Value) => p.1 = q.1 ∧ RelV p.2 q.2) l₁ l₂ → ∀ (i : Nat) (kv : Key × V), l₁[i]? = some kv → ∃ u, l₂[i]? = some (kv.1, u) ∧ RelV kv.2 u := by
    intro l₁ l₂ r
    induction r with
    | nil => intro i kv h; simp at h
    | @cons a b _ _ r t ih =>
      intro i kv h
      cases i with
      | zero =>
        simp at h
        subst h
        obtain ⟨e, q⟩ := r
        refine ⟨b.2, ?_, q⟩
        rw [List.getElem?_cons_zero, e]
      | succ i =>
        rw [List.getElem?_cons_succ] at h ⊢
        exact ih i kv h
  exact go kvs vs r i kv h
section
variable {X : Cx} {pins : List (Addr × Obj)} {σ : St} {H : Hp} {s : Shared}
end
end L2
namespace L2
open PySem PySem.Spec PyProof.Rows
structure FunD (K : PySem.W.Frag) (x qual : Str) (st : Stmt) (dV : Value) (f : Addr) (fd : FuncData) : Prop where
  ex : ∃ (oc : Value) (od : Option Addr) (kV doc pm : Value) (an : Option Addr) (cdv ct : Value) (osl : Array (Option Value)),
    fd = PySem.W.fnOf x qual (defArgs st) (defBody st) (defScope st) dV kV doc pm an cdv ct ∧ K.lookup f = some ⟨oc, od, .func fd, osl⟩ ∧ PySem.W.codeIn K cdv qual = true
  kp : PySem.W.keepIn K (.ref f) = true
theorem FunD.ok {P : Program} {w : World} {K : PySem.W.Frag} {mg : Str → Option Value} {base : Heap} {x qual : Str} {st : Stmt} {dV : Value} {f : Addr} {fd : FuncData} {N ps : List Str} {k : Nat} {sp : Sp} (F : FunD K x qual st dV f fd) (S : FnScope N ps (defScope st)) (len : ∀ vs H Q E, sp vs H Q E → vs.length = ps.length)
    (hbody : ∀ (cdv : Value) (A : Around) (outer : List Env) (s : Shared) (H : Hp) (vs : List V) (Q : VK) (E : XK), Room k (A.deeper (envOfC qual (defScope st) s.heap.objs.size f cdv)) → sp vs H Q E →
      ∃ t, PSs (cxOf CX0 P w K mg base N qual (defScope st) f cdv A outer s H E).nox (defBody st) t ∧ t { nx := fun _ H' => Q .non H', rt := Q } (start N vs) H) : FnOk P w K mg base CX0 (k + 1) f fd ps sp := by
  obtain ⟨oc, od, kV, doc, pm, an, cdv, ct, osl, rfl, lk, hcd⟩ := F.ex
  refine fn_of lk hcd S len fun A outer s H vs Q E hr hsp => ?_
  obtain ⟨t, h, q⟩ := hbody cdv A outer s H vs Q E hr hsp
  exact ⟨t, h.nox, q⟩
structure CMeth (K : PySem.W.Frag) (C : Addr) (m : Str) (f : Addr) : Prop where
  ga : PySem.W.specialIn K (.ref C) "__getattribute__" = some (some (.builtin "type.__getattribute__"))
  rd : PySem.W.readsIn K C (.type "type") = true
  fi : PySem.W.findCls K (.ref C) (.type "type") m = some (.val (.ref f))
  kp : PySem.W.keepIn K (.ref f) = true
structure InMD (K : PySem.W.Frag) (C : Addr) (m q : Str) (st : Stmt) : Prop where
  ex : ∃ (f T : Addr) (oc : Value) (od : Option Addr) (kV doc pm : Value) (an : Option Addr) (cdv ct : Value) (osl : Array (Option Value)) (dd : Option Addr) (n : Nat) (sl : Array (Option Value)),
    PySem.W.findIn K (.ref C) m = some (some (.ref f)) ∧ PySem.W.isFn K (.ref f) = true ∧ K.lookup f = some ⟨oc, od, .func (PySem.W.fnOf m q (defArgs st) (defBody st) (defScope st) (.ref T) kV doc pm an cdv ct), osl⟩ ∧ PySem.W.codeIn K cdv q = true ∧ PySem.W.keepIn K (.ref f) = true ∧
      K.lookup T = some ⟨.type "tuple", dd, .seq #[.none] n, sl⟩ ∧ CMeth K C m f
theorem InMD.of {K : PySem.W.Frag} {C : Addr} {m q : Str} {st : Stmt} {f T : Addr} {oc : Value} {od : Option Addr} {kV doc pm : Value} {an : Option Addr} {cdv ct : Value} {osl : Array (Option Value)} {dd : Option Addr} {n : Nat} {sl : Array (Option Value)}
    (a : PySem.W.findIn K (.ref C) m = some (some (.ref f))) (i : PySem.W.isFn K (.ref f) = true) (l : K.lookup f = some ⟨oc, od, .func (PySem.W.fnOf m q (defArgs st) (defBody st) (defScope st) (.ref T) kV doc pm an cdv ct), osl⟩) (c : PySem.W.codeIn K cdv q = true) (k : PySem.W.keepIn K (.ref f) = true)
    (d : K.lookup T = some ⟨.type "tuple", dd, .seq #[.none] n, sl⟩) (ga : PySem.W.specialIn K (.ref C) "__getattribute__" = some (some (.builtin "type.__getattribute__"))) (rd : PySem.W.readsIn K C (.type "type") = true) (fi : PySem.W.findCls K (.ref C) (.type "type") m = some (.val (.ref f))) : InMD K C m q st :=
  ⟨⟨f, T, oc, od, kV, doc, pm, an, cdv, ct, osl, dd, n, sl, a, i, l, c, k, d, ga, rd, fi, k⟩⟩
set_option genInjectivity false in
structure MDefD (K : PySem.W.Frag) (C : Addr) (m q : Str) (st : Stmt) (ps : List Str) where
  f : Addr
  fd : FuncData
  dV : Value
  F : FunD K m q st dV f fd
  me : Meth K C m f
  b : Binds K fd ps []
  b1 : Binds K fd ps [.none]
  cm : CMeth K C m f
theorem InMD.def {K : PySem.W.Frag} {C : Addr} {m q : Str} {st : Stmt} {ps : List Str} (i : InMD K C m q st)
    (h0 : ∀ (T : Addr) (kV doc pm : Value) (an : Option Addr) (cdv ct : Value) (us : List Value), us.length = ps.length → ∃ k, bindArgs (PySem.W.fnOf m q (defArgs st) (defBody st) (defScope st) (.ref T) kV doc pm an cdv ct) ⟨us, []⟩ = seqItems? (.ref T) >>= k ∧ k (some #[.none]) = pure (ps.zip us))
    (h1 : ∀ (T : Addr) (kV doc pm : Value) (an : Option Addr) (cdv ct : Value) (us : List Value), us.length + 1 = ps.length → ∃ k, bindArgs (PySem.W.fnOf m q (defArgs st) (defBody st) (defScope st) (.ref T) kV doc pm an cdv ct) ⟨us, []⟩ = seqItems? (.ref T) >>= k ∧ k (some #[.none]) = pure (ps.zip (us ++ [Value.none]))) : Nonempty (MDefD K C m q st ps) := by
  obtain ⟨f, T, oc, od, kV, doc, pm, an, cdv, ct, osl, dd, n, sl, a, i, l, c, k, d, cm⟩ := i.ex
  refine ⟨⟨f, PySem.W.fnOf m q (defArgs st) (defBody st) (defScope st) (.ref T) kV doc pm an cdv ct, .ref T, ⟨⟨oc, od, kV, doc, pm, an, cdv, ct, osl, rfl, l, c⟩, k⟩, ⟨a, i, k⟩, fun s us X hl => ?_, fun s us X hl => ?_, cm⟩⟩
  · rw [List.append_nil] at hl ⊢
    obtain ⟨kk, e1, e2⟩ := h0 T kV doc pm an cdv ct us hl
    exact BindsTo.of_defaults (T := T) (items := #[.none]) rfl (X T _ d) rfl e1 e2
  · obtain ⟨kk, e1, e2⟩ := h1 T kV doc pm an cdv ct us (by rw [List.length_append] at hl; exact hl)
    exact BindsTo.of_defaults (T := T) (items := #[.none]) rfl (X T _ d) rfl e1 e2
section
variable {X : Cx} {CX : CXT} {k : Nat} {f C : Addr} {fd : FuncData} {ps : List Str} {sp : Sp} {dvs : List V} {ds : List Value} {E : XK} {x m : Str} {p pos apos : Pos} {e o : Expr} {es : List Expr} {ta : TE} {t : TA}
end
end L2
namespace L2
open PySem PySem.Spec PyProof.Rows
section
variable {X : Cx}
end
section
variable {X : Cx} {pins : List (Addr × Obj)} {σ : St} {H : Hp} {s : Shared} {a : Addr} {kvs : List (Key × V)} {k : Key} {u r : Value} {v : V} {A : Around} {E : Value → Shared → Prop}
end
end L2
namespace L2
open PySem PySem.Spec PyProof.Rows
end L2
namespace L2
open PySem PySem.Spec PyProof.Rows
end L2
namespace L2
open PySem PySem.Spec PyProof.Rows
end L2
namespace L2
open PySem PySem.Spec PyProof.Rows
section
variable {X : Cx} {CX : CXT} {k : Nat} {f : Addr} {fd : FuncData} {ps : List Str} {sp : Sp} {dvs : List V} {ds : List Value} {E : XK} {x : Str} {p pos : Pos} {e : Expr} {es : List Expr} {ta : TE} {t : TA}
end
end L2
namespace L2
open PySem PySem.Spec PyProof.Rows
theorem tuple_addW0 (l b : Addr) (items items2 : Array Value) (n n2 : Nat) (dd dd2 : Option Addr) (sl sl2 : Array (Option Value)) (hc0 : items.isEmpty = true) :
    Meets (Builtin.«tuple.__add__» ⟨[.ref l, .ref b], []⟩) (fun _ R s => s.heap.get? l = some { cls := .type "tuple", dict := dd, data := .seq items n, slots := sl } ∧ s.heap.get? b = some { cls := .type "tuple", dict := dd2, data := .seq items2 n2, slots := sl2 } ∧ R (.ok (.ret (Value.ref b))) { s with heap := s.heap, toks := s.toks }) :=
  .of_wp fun prog w A R s h => by obtain ⟨hp, g, d, tk, os⟩ := s; obtain ⟨hl, hb, h⟩ := h; have f2 := sub_tuple_tuple; wp_walk using wpAny_loadPart' hl, wpAny_loadPart' hb; exact ⟨_, rfl, h⟩
def rCatT0 (K : PySem.W.Frag) : R2 := fun x y H Q => rCatT K x y H Q ∨ ∃ a b, x = .ref a ∧ y = .ref b ∧ SqT K H a [] ∧ (∃ ys, SqT K H b ys) ∧ Q (.ref b) H
theorem op_catT0 {X : Cx} : OpR X (binaryOp .Add) (rCatT0 X.K) := by
  intro pins s σ H x y v u Q I rx ry h
  rcases h with h | ⟨a, b, rfl, rfl, ha, ⟨ys, hb⟩, q⟩
  · exact op_catT pins s σ H x y v u Q I rx ry h
  · cases rx
    cases ry
    obtain ⟨its, r1, p1, _⟩ := I.tuple ha
    obtain ⟨its2, r2, p2, _⟩ := I.tuple hb
    cases r1
    obtain ⟨⟨cls, dd, data, sl⟩, ho, hc, n, hd⟩ := id p1
    obtain ⟨⟨cls2, dd2, data2, sl2⟩, ho2, hc2, n2, hd2⟩ := id p2
    simp only at hc hd hc2 hd2
    subst hc hd hc2 hd2
    exact concat_meets ⟨_, ho, rfl⟩ ⟨_, ho2, rfl⟩ noFill_tuple_add seq_tuple_add PySem.F.slot_tuple_add PySem.F.entry_tuple_add (PySem.F.args_tuple_add_2 _ _)
      (tuple_addW0 a b _ its2.toArray n n2 dd dd2 sl sl2 (by simp)) ⟨ho, ho2, ⟨.ref b, H, I, rfl, q⟩⟩
end L2
namespace L2
open PySem PySem.Spec PyProof.Rows
theorem call_isinstK {X : Cx} {K : PySem.W.Frag} (h : X.K = K) : CallR X (.builtin "isinstance") (fun xs H Q => ∃ x n t b, xs = [x, .ty n] ∧ TyOf K H x t ∧ PySem.W.kitOne K t (.type n) = some b ∧ Q (.bl b) H) := by subst h; exact call_isinst
end L2
namespace L2
open PySem PySem.Spec PyProof.Rows
theorem call_strV {X : Cx} : CallR X (.type "str") (fun xs H Q => (∃ i : Int, xs = [.int i] ∧ i.natAbs.log2 < 1920 ∧ Q (.str (toString i)) H) ∨ ∃ z, xs = [.str z] ∧ Q (.str z) H) := by
  intro pins s σ H xs us Q I r h
  rcases h with ⟨i, rfl, hz, q⟩ | ⟨z, rfl, q⟩
  · obtain ⟨u, rfl, t, rfl⟩ := vals1 r
    exact PySem.P.str_of_int hz ⟨.str _, H, I.tok _, ⟨_, rfl⟩, q⟩
  · obtain ⟨u, rfl, t, rfl⟩ := vals1 r
    exact PySem.P.str_of_str ⟨.str _, H, I, ⟨_, rfl⟩, q⟩
def repS (k : Nat) (z : Str) : Str := ⟨(List.replicate k z.cps).foldl (· ++ ·) #[]⟩
theorem foldl_size (xs : List (Array Nat)) : ∀ a : Array Nat, (xs.foldl (· ++ ·) a).size = a.size + (xs.map Array.size).sum := by
  induction xs with
  | nil => intro a; simp
  | cons x r ih => intro a; rw [List.foldl_cons, ih, Array.size_append, List.map_cons, List.sum_cons, Nat.add_assoc]
theorem repS_len (k : Nat) (z : Str) : (repS k z).length = k * z.length := by
  show ((List.replicate k z.cps).foldl (· ++ ·) #[]).size = _
  rw [foldl_size]
  simp [Str.length]
def rMulS : R2 := fun x y H Q => ∃ (z : Str) (k : Nat), x = .str z ∧ y = .int k ∧ k ≤ 1000 ∧ z.length * k ≤ sizeLine ∧ Q (.str (repS k z)) H
theorem op_mulS {X : Cx} : OpR X (binaryOp .Mult) rMulS := by
  intro pins s σ H x y v u Q I rx ry h
  obtain ⟨z, k, rfl, rfl, hk0, hz, q⟩ := h
  obtain ⟨t, rfl⟩ := rx
  obtain ⟨t', rfl⟩ := ry
  by_cases hk : (k : Int) < 1
  · have k0 : k = 0 := by omega
    subst k0
    refine PySem.P.mul_str_none hk (by decide) ⟨.str _, H, I.tok _, ⟨_, rfl⟩, ?_⟩
    exact q
  have hsl : sizeLine = 16777216 := by decide
  by_cases h1 : ((k : Int) == 1 || z.length == 0) = true
  · have e : repS k z = z := by
      rcases Bool.or_eq_true_iff.mp h1 with e | e
      · have k1 : k = 1 := by have := eq_of_beq e; omega
        subst k1
        show (⟨#[] ++ z.cps⟩ : Str) = z
        rw [Array.empty_append]
      · have e0 : z.length = 0 := eq_of_beq e
        have hr := repS_len k z
        rw [e0, Nat.mul_zero] at hr
        have c1 : z.cps = #[] := Array.size_eq_zero_iff.mp e0
        have c2 : (repS k z).cps = #[] := Array.size_eq_zero_iff.mp hr
        have : ∀ {a b : Str}, a.cps = b.cps → a = b := fun {a b} h => by cases a; cases b; simp_all
        exact this (c2.trans c1.symm)
    rw [e] at q
    · refine PySem.P.mul_str ?_ (fun _ h => by rw [h1] at h; cases h) (fun _ h => by rw [h1] at h; cases h) ?_
      · rw [decide_eq_false (by omega), decide_eq_false (by omega)]; rfl
      · rw [if_neg hk, if_pos h1]
        exact ⟨.str _, H, I, ⟨_, rfl⟩, q⟩
  · have h1' : ((k : Int) == 1 || z.length == 0) = false := by
      cases e : ((k : Int) == 1 || z.length == 0) with
      | true => exact absurd e h1
      | false => rfl
    have hz0 : z.length ≠ 0 := fun e => by rw [e] at h1'; simp at h1'
    have hkk : k ≤ sizeLine := Nat.le_trans (Nat.le_mul_of_pos_left k (Nat.pos_of_ne_zero hz0)) hz
    refine PySem.P.mul_str ?_ (fun _ _ => ?_) (fun _ _ => ?_) ?_
    · rw [decide_eq_false (by omega), decide_eq_false (by omega)]; rfl
    · have : z.length * k ≤ 16777216 := by omega
      rw [Int.not_gt_eq]
      refine (Int.le_ediv_iff_mul_le (by omega)).mpr ?_
      have e : ((z.length : Int) * (k : Int)) = ((z.length * k : Nat) : Int) := by simp
      rw [e]
      omega
    · show decide (z.length * ((k : Int)).toNat > sizeLine) = false
      rw [Int.toNat_natCast]
      exact decide_eq_false (by omega)
    · rw [if_neg hk, if_neg h1]
      exact ⟨by rw [Int.toNat_natCast]; show (repS k z).length ≤ sizeLine; rw [repS_len, Nat.mul_comm]; exact hz, .str _, H, I.tok _, ⟨_, rfl⟩, by rw [Int.toNat_natCast]; exact q⟩
end L2
namespace L2
open PySem PySem.Spec PyProof.Rows
def tRevL (K : PySem.W.Frag) (te : TE) (tk : TO) : TE := fun σ H Q => te σ H fun x H1 => tk σ H1 fun o H2 => o = some (-1) ∧ ∃ a xs, x = .ref a ∧ SqL K H2 a xs ∧ ∀ p, H2 p = none → Q (.ref p) (upd H2 p (.lst xs.reverse))
theorem pe_revL {X : Cx} {e : Expr} {st : Option Expr} {p2 pos : Pos} {te : TE} {tk : TO} {ops : Value → Value → List Value} (he : PE X e te) (hk : PO X st tk) (hs : ∀ v u : Value, subscripted (.Slice none none st p2) false v u = operate (ops v u) (getItem v u)) : PE X (.Subscript e (.Slice none none st p2) pos) (tRevL X.K te tk) := by
  intro pins s σ H Q I h
  refine Subscript_ (thn (he pins s σ H _ I h) fun v s1 ⟨x, H1, I1, r1, q1⟩ => ?_)
  refine wpAny_Slice ?_
  rw [evalPart_none]
  refine wpAny_pure ?_
  refine wpAny_pure ?_
  refine thn (hk pins s1 σ H1 _ I1 q1) fun vk s3 ⟨o, H3, I3, pk, q3⟩ => ?_
  obtain ⟨rfl, a, xs, rfl, hx, q⟩ := q3
  cases r1
  have I4 : Inv X pins σ H3 { s3 with heap := s3.heap.push { cls := .type "slice", data := .fields #[.none, .none, vk] } } := I3.kept (t' := s3.toks) fun b ob q => Heap.get?_push_of_some _ q
  obtain ⟨its, r, ht, hz⟩ := I4.list hx
  have hlen := r.length
  have hg : wpAny (model X.prog X.w) X.A (getItem (.ref a) (.ref s3.heap.objs.size)) (EP X pins σ Q) X.xe { s3 with heap := s3.heap.push { cls := .type "slice", data := .fields #[.none, .none, vk] } } := by
    refine wpAny_getItem_list_slice ht.isList (Heap.IsSliceOf.new ..) .none .none pk (by decide) ?_ (by rw [List.size_toArray] <;> omega)
    rw [PySem.W.krv_pick]
    refine ⟨.ref _, _, I4.laid (t' := s3.toks) (o := .lst xs.reverse) (fun b ob q => Heap.get?_push_of_some _ q) (Nat.le_refl _) ?_, rfl, q _ (I4.hok.fresh (Nat.le_refl _))⟩
    exact ⟨by rw [List.length_reverse]; exact hz, _, 0, r.reverse, Heap.get?_push_size _ rfl⟩
  show wpAny (model X.prog X.w) X.A (subscriptTail e (.Slice none none st p2) (.ref a) (.ref s3.heap.objs.size)) (EP X pins σ Q) X.xe { s3 with heap := s3.heap.push { cls := .type "slice", data := .fields #[.none, .none, vk] } }
  exact tail_any (ops := ops _ _) ht.isList.typeIs slot_list_getitem.lookup hg (hs _ _)
end L2
namespace K12
open PySem L2
theorem ifT {c A B : Prop} [Decidable c] (hc : c) (h : A) : if decide c = true then A else B := by
  rw [if_pos (decide_eq_true hc)]; exact h
theorem ifF {c A B : Prop} [Decidable c] (hc : ¬ c) (h : B) : if decide c = true then A else B := by
  rw [if_neg (by rw [decide_eq_false hc]; exact Bool.false_ne_true)]; exact h
theorem ifNT {c A B : Prop} [Decidable c] (hc : ¬ c) (h : A) : if (!decide c) = true then A else B := by
  rw [if_pos (by rw [decide_eq_false hc]; rfl)]; exact h
theorem ifNF {c A B : Prop} [Decidable c] (hc : c) (h : B) : if (!decide c) = true then A else B := by
  rw [if_neg (by rw [decide_eq_true hc]; exact Bool.false_ne_true)]; exact h
theorem take_snoc {α β : Type} {f : α → β} {xs : List α} {i : Nat} {x : α} (h : xs[i]? = some x) : (xs.take i).map f ++ [f x] = (xs.take (i + 1)).map f := by
  rw [List.take_succ, h, List.map_append]
  rfl
def places (z : Str) : List Nat :=
  if z = "group" then [3] else if z = "limit" then [3, 4] else if z = "keep" then [2] else if z = "try" then [2, 4] else if z = "do" then [2, 3] else if z = "when" then [4] else if z = "repeat" then [3] else if z = "errand" then [3] else []
def lenOf (z : Str) : Nat :=
  if z = "group" then 4 else if z = "limit" then 5 else if z = "keep" then 3 else if z = "try" then 5 else if z = "do" then 4 else if z = "when" then 5 else if z = "repeat" then 4 else if z = "errand" then 4 else 0
theorem places_cases (z : Str) : (z = "group" ∧ places z = [3] ∧ lenOf z = 4) ∨ (z = "limit" ∧ places z = [3, 4] ∧ lenOf z = 5) ∨ (z = "keep" ∧ places z = [2] ∧ lenOf z = 3) ∨ (z = "try" ∧ places z = [2, 4] ∧ lenOf z = 5) ∨ (z = "do" ∧ places z = [2, 3] ∧ lenOf z = 4) ∨ (z = "when" ∧ places z = [4] ∧ lenOf z = 5) ∨ (z = "repeat" ∧ places z = [3] ∧ lenOf z = 4) ∨ (z = "errand" ∧ places z = [3] ∧ lenOf z = 4) ∨
    (places z = [] ∧ z ≠ "group" ∧ z ≠ "limit" ∧ z ≠ "keep" ∧ z ≠ "try" ∧ z ≠ "do" ∧ z ≠ "when" ∧ z ≠ "repeat" ∧ z ≠ "errand") := by
  by_cases h1 : z = "group"
  · subst h1; exact .inl ⟨rfl, by decide +kernel, by decide +kernel⟩
  by_cases h2 : z = "limit"
  · subst h2; exact .inr (.inl ⟨rfl, by decide +kernel, by decide +kernel⟩)
  by_cases h3 : z = "keep"
  · subst h3; exact .inr (.inr (.inl ⟨rfl, by decide +kernel, by decide +kernel⟩))
  by_cases h4 : z = "try"
  · subst h4; exact .inr (.inr (.inr (.inl ⟨rfl, by decide +kernel, by decide +kernel⟩)))
  by_cases h5 : z = "do"
  · subst h5; exact .inr (.inr (.inr (.inr (.inl ⟨rfl, by decide +kernel, by decide +kernel⟩))))
  by_cases h6 : z = "when"
  · subst h6; exact .inr (.inr (.inr (.inr (.inr (.inl ⟨rfl, by decide +kernel, by decide +kernel⟩)))))
  by_cases h7 : z = "repeat"
  · subst h7; exact .inr (.inr (.inr (.inr (.inr (.inr (.inl ⟨rfl, by decide +kernel, by decide +kernel⟩))))))
  by_cases h8 : z = "errand"
  · subst h8; exact .inr (.inr (.inr (.inr (.inr (.inr (.inr (.inl ⟨rfl, by decide +kernel, by decide +kernel⟩)))))))
  · refine .inr (.inr (.inr (.inr (.inr (.inr (.inr (.inr (⟨?_, h1, h2, h3, h4, h5, h6, h7, h8⟩))))))))
    unfold places
    rw [if_neg h1, if_neg h2, if_neg h3, if_neg h4, if_neg h5, if_neg h6, if_neg h7, if_neg h8]
def TV (v : V) : Prop := (∃ n : Int, v = .int n ∧ 0 ≤ n ∧ n < 10000000) ∨ ∃ z : Str, v = .str z ∧ z.length ≤ 60
def StV (v : V) : Prop := ∃ z : Str, v = .str z ∧ z.length ≤ 60
theorem TV.int {n : Int} (h0 : 0 ≤ n) (h1 : n < 10000000) : TV (.int n) := .inl ⟨n, rfl, h0, h1⟩
theorem StV.tv {v : V} (h : StV v) : TV v := .inr h
def thLen (z : Str) : Nat := if z = "when" then 2 else if z = "keep" then 0 else if z = "try" then 0 else if z = "do" then 0 else 1
abbrev twoW (z : Str) : Prop := z = "try" ∨ z = "do" ∨ z = "limit"
abbrev wordW (z : Str) : Prop := z = "errand" ∨ z = "group" ∨ z = "limit" ∨ z = "keep" ∨ z = "try" ∨ z = "do" ∨ z = "when" ∨ z = "repeat"
def tryL : List Addr → V → List V
  | [b0, b1], fa => [.ref b0, fa, .ref b1]
  | _, _ => []
structure BlkSh (z : Str) (r : List V) (th : List V) (fa : V) (bs : List Addr) : Prop where
  w : wordW z
  e : r = th ++ (if z = "try" then tryL bs fa else bs.map V.ref)
  tv : ∀ t ∈ th, TV t
  sv : z = "when" → ∀ t, th[0]? = some t → StV t
  tl : th.length = thLen z
  fv : z = "try" → StV fa
  two : twoW z → bs.length = 2
  one : ¬ twoW z → bs.length = 1
structure PlnSh (z : Str) (r : List V) : Prop where
  p : places z = []
  l : z.length ≤ 10
  tv : ∀ t ∈ r, TV t
  rl : r.length ≤ 4
  b : z = "begin" → ∃ (a b c : Str) (l : Int), r = [.str a, .str b, .str c, .int l] ∧ 0 ≤ l
def RowSh (z : Str) (r : List V) : Prop := ∃ (ln : Int) (r' : List V), r = .int ln :: r' ∧ (PlnSh z r' ∨ ∃ th fa bs, BlkSh z r' th fa bs)
def rowParts : List V → List V
  | .str z :: r => (places z).filterMap fun i => (V.str z :: r)[i]?
  | _ => []
def RowOk : Nat → Hp → V → Prop
  | 0, _, _ => False
  | n + 1, H, v => ∃ (a : Addr) (z : Str) (r : List V), v = .ref a ∧ H a = some (.tup (.str z :: r)) ∧ RowSh z r ∧ (places z ≠ [] → r.length + 1 = lenOf z) ∧
      ∀ p ∈ rowParts (.str z :: r), ∃ (b : Addr) (ys : List V), p = .ref b ∧ H b = some (.tup ys) ∧ ∀ y ∈ ys, RowOk n H y
def RowsOk (n : Nat) (H : Hp) (v : V) : Prop := ∃ (b : Addr) (ys : List V), v = .ref b ∧ H b = some (.tup ys) ∧ ∀ y ∈ ys, RowOk n H y
theorem RowOk.same {H H' : Hp} (s : Same H H') : ∀ {n : Nat} {v : V}, RowOk n H v → RowOk n H' v
  | 0, _, h => h
  | n + 1, v, h => by
    obtain ⟨a, z, r, e1, e2, e3, e4, e5⟩ := h
    refine ⟨a, z, r, e1, s a _ e2, e3, e4, fun p hp => ?_⟩
    obtain ⟨b, ys, f1, f2, f3⟩ := e5 p hp
    exact ⟨b, ys, f1, s b _ f2, fun y hy => (f3 y hy).same s⟩
theorem RowsOk.same {H H' : Hp} (s : Same H H') {n : Nat} {v : V} (h : RowsOk n H v) : RowsOk n H' v := by
  obtain ⟨b, ys, e1, e2, e3⟩ := h
  exact ⟨b, ys, e1, s b _ e2, fun y hy => (e3 y hy).same s⟩
def partsF (H : Hp) : V → List V
  | .ref a => match H a with
    | some (.tup xs) => rowParts xs
    | _ => []
  | _ => []
theorem partsF_of {H : Hp} {a : Addr} {xs : List V} (h : H a = some (.tup xs)) : partsF H (.ref a) = rowParts xs := by
  show (match H a with | some (.tup xs) => rowParts xs | _ => []) = _
  rw [h]
theorem rowParts_str (z : Str) (r : List V) : rowParts (.str z :: r) = (places z).filterMap fun i => (V.str z :: r)[i]? := rfl
theorem places_in {z : Str} {r : List V} (h : places z ≠ [] → r.length + 1 = lenOf z) : ∀ p ∈ places z, p < (V.str z :: r).length := by
  intro p hp
  rw [List.length_cons]
  rcases places_cases z with ⟨_, ep, el⟩ | ⟨_, ep, el⟩ | ⟨_, ep, el⟩ | ⟨_, ep, el⟩ | ⟨_, ep, el⟩ | ⟨_, ep, el⟩ | ⟨_, ep, el⟩ | ⟨_, ep, el⟩ | ⟨ep, _⟩
  all_goals
    rw [ep] at hp h
    simp only [List.mem_cons, List.not_mem_nil, or_false] at hp
  all_goals
    have h' := h (by simp)
    rw [el] at h'
    omega
def walkF : Nat → Hp → V → List V
  | 0, _, _ => []
  | n + 1, H, .ref b => match H b with
    | some (.tup ys) => ys.flatMap fun y => y :: (partsF H y).flatMap (walkF n H)
    | _ => []
  | _ + 1, _, _ => []
theorem walkF_of {n : Nat} {H : Hp} {b : Addr} {ys : List V} (h : H b = some (.tup ys)) : walkF (n + 1) H (.ref b) = ys.flatMap fun y => y :: (partsF H y).flatMap (walkF n H) := by
  show (match H b with | some (.tup ys) => ys.flatMap fun y => y :: (partsF H y).flatMap (walkF n H) | _ => []) = _
  rw [h]
theorem RowOk.parts_same {n : Nat} {H H' : Hp} {v : V} (h : RowOk n H v) (s : Same H H') : partsF H' v = partsF H v := by
  cases n with
  | zero => exact h.elim
  | succ n =>
    obtain ⟨a, z, r, rfl, e2, _⟩ := h
    rw [partsF_of e2, partsF_of (s a _ e2)]
theorem RowOk.parts_ok {n : Nat} {H : Hp} {v : V} (h : RowOk (n + 1) H v) : ∀ p ∈ partsF H v, RowsOk n H p := by
  obtain ⟨a, z, r, rfl, e2, _, _, e5⟩ := h
  rw [partsF_of e2]
  exact e5
theorem flatMap_congr' {α β : Type} {f g : α → List β} : ∀ {xs : List α}, (∀ x ∈ xs, f x = g x) → xs.flatMap f = xs.flatMap g
  | [], _ => rfl
  | x :: r, h => by
    rw [List.flatMap_cons, List.flatMap_cons, h x List.mem_cons_self, flatMap_congr' fun y hy => h y (List.mem_cons_of_mem _ hy)]
theorem flatMap_snoc {α β : Type} {f : α → List β} {xs : List α} {i : Nat} {x : α} (h : xs[i]? = some x) : (xs.take (i + 1)).flatMap f = (xs.take i).flatMap f ++ f x := by
  rw [List.take_succ, h, List.flatMap_append]
  simp
theorem flatMap_le {α β : Type} {f : α → List β} (xs : List α) (i : Nat) : ((xs.take i).flatMap f).length ≤ (xs.flatMap f).length := by
  have e : xs.flatMap f = (xs.take i).flatMap f ++ (xs.drop i).flatMap f := by rw [← List.flatMap_append, List.take_append_drop]
  rw [e, List.length_append]
  omega
theorem same_set {H H2 : Hp} {l : Addr} {o : HO} (s : Same H H2) (h : H l = none) : Same H (upd H2 l o) := fun b u e => by rw [upd_ne (ne_of_none e h)]; exact s b u e
theorem join1 : ∀ cs : List Nat, (Txt.join "" (cs.map fun c => (⟨#[c]⟩ : Str))).length = cs.length := by
  intro cs
  show (Builtin.Str.glued _ _).length = _
  rw [StrLaws.glued_eq_join]
  induction cs with
  | nil => rfl
  | cons c r ih =>
    cases r with
    | nil => rfl
    | cons d r =>
      show ((⟨#[c]⟩ : Str) ++ "" ++ Str.join "" (List.map (fun c => (⟨#[c]⟩ : Str)) (d :: r))).length = _
      have e : ∀ a b : Str, (a ++ b).length = a.length + b.length := fun a b => Array.size_append
      rw [e, e, ih]
      show 1 + (Str.ofString "").length + _ = _
      rw [show (Str.ofString "").length = 0 by decide +kernel]
      simp only [List.length_cons]
      omega
theorem app_len (a b : Str) : (a ++ b).length = a.length + b.length := Array.size_append
theorem flat_keys : ∀ zs : List Str, (zs.map V.str).all flatV = true
  | [] => rfl
  | _ :: r => by rw [List.map_cons, List.all_cons, flat_keys r]; rfl
theorem in_int {ns : List Int} {i : Nat} {y : V} (h : (ns.map V.int)[i]? = some y) : ∃ n, y = V.int n ∧ ns[i]? = some n := by
  rw [List.getElem?_map] at h
  cases e : ns[i]? with
  | none => rw [e] at h; cases h
  | some n => rw [e] at h; exact ⟨n, (Option.some.inj h).symm, rfl⟩
theorem pick {xs : List V} {m : Int} (h0 : 0 ≤ m) (h1 : m < xs.length) : ∃ v, atI xs m = some v ∧ v ∈ xs := by
  have hlt : m.toNat < xs.length := by omega
  refine ⟨xs[m.toNat], ?_, List.getElem_mem hlt⟩
  have hat := atI_nat (xs := xs) (j := m.toNat) (v := xs[m.toNat]) (by simp [hlt])
  rw [show ((m.toNat : Nat) : Int) = m by omega] at hat
  exact hat
theorem pickS {xs : List V} {m : Int} (hs : ∀ v ∈ xs, ∃ z : Str, v = .str z ∧ z.length ≤ 20) (h0 : 0 ≤ m) (h1 : m < xs.length) : ∃ z : Str, atI xs m = some (.str z) ∧ z.length ≤ 20 := by
  obtain ⟨v, e, hv⟩ := pick h0 h1
  obtain ⟨z, rfl, hz⟩ := hs v hv
  exact ⟨z, e, hz⟩
def shortS : V → Bool
  | .str z => decide (z.length ≤ 20)
  | _ => false
theorem shortS_all {xs : List V} (h : xs.all shortS = true) : ∀ v ∈ xs, ∃ z : Str, v = .str z ∧ z.length ≤ 20 := by
  intro v hv
  have := List.all_eq_true.mp h v hv
  cases v with
  | str z => exact ⟨z, rfl, of_decide_eq_true this⟩
  | _ => cases this
theorem sum1 : ∀ cs : List Nat, (List.map ((fun x => x.length) ∘ fun c => (⟨#[c]⟩ : Str)) cs).sum = cs.length := by
  intro cs
  induction cs with
  | nil => rfl
  | cons c r ih => rw [List.map_cons, List.sum_cons, ih, List.length_cons]; show 1 + _ = _; omega
theorem ifB {c A B : Prop} [Decidable c] (ha : A) (hb : B) : if c then A else B := by
  by_cases e : c
  · rw [if_pos e]; exact ha
  · rw [if_neg e]; exact hb
theorem pickLast {xs : List V} (h : 0 < xs.length) : ∃ v, atI xs (-1) = some v ∧ v ∈ xs ∧ xs[xs.length - 1]? = some v := by
  have hlt : xs.length - 1 < xs.length := by omega
  refine ⟨xs[xs.length - 1], ?_, List.getElem_mem hlt, List.getElem?_eq_getElem hlt⟩
  unfold atI ixN
  rw [if_neg (by decide), if_pos (by omega)]
  simp only [Option.bind_some]
  rw [show ((-1 : Int) + (xs.length : Nat)).toNat = xs.length - 1 by omega]
  exact List.getElem?_eq_getElem hlt
theorem ixAny {K : PySem.W.Frag} {H : Hp} {p : Addr} {xs : List V} {m : Int} {Q : VK} (hp : SqL K H p xs) (h0 : 0 ≤ m) (h1 : m < xs.length) (k : ∀ v ∈ xs, Q v H) : rIxL K (.ref p) (.int m) H Q := by
  obtain ⟨v, e, hv⟩ := pick h0 h1
  exact ⟨p, _, _, _, rfl, rfl, hp, e, k v hv⟩
theorem mod_lt {x : Int} {n : Nat} (h : 1 ≤ n) : 0 ≤ x % (n : Int) ∧ x % (n : Int) < n := ⟨Int.emod_nonneg _ (by omega), Int.emod_lt_of_pos _ (by omega)⟩
def SameT (H H' : Hp) : Prop := ∀ (a : Addr) (xs : List V), H a = some (.tup xs) → H' a = some (.tup xs)
theorem RowOk.sameT {H H' : Hp} (s : SameT H H') : ∀ {n : Nat} {v : V}, RowOk n H v → RowOk n H' v
  | 0, _, h => h
  | n + 1, v, h => by
    obtain ⟨a, z, r, e1, e2, e3, e4, e5⟩ := h
    refine ⟨a, z, r, e1, s a _ e2, e3, e4, fun p hp => ?_⟩
    obtain ⟨b, ys, f1, f2, f3⟩ := e5 p hp
    exact ⟨b, ys, f1, s b _ f2, fun y hy => (f3 y hy).sameT s⟩
theorem RowsOk.sameT {H H' : Hp} (s : SameT H H') {n : Nat} {v : V} (h : RowsOk n H v) : RowsOk n H' v := by
  obtain ⟨b, ys, e1, e2, e3⟩ := h
  exact ⟨b, ys, e1, s b _ e2, fun y hy => (e3 y hy).sameT s⟩
theorem RowOk.parts_sameT {n : Nat} {H H' : Hp} {v : V} (h : RowOk n H v) (s : SameT H H') : partsF H' v = partsF H v := by
  cases n with
  | zero => exact h.elim
  | succ n =>
    obtain ⟨a, z, r, rfl, e2, _⟩ := h
    rw [partsF_of e2, partsF_of (s a _ e2)]
theorem walkF_sameT {H H' : Hp} (s : SameT H H') : ∀ {n : Nat} {v : V}, RowsOk n H v → walkF (n + 1) H' v = walkF (n + 1) H v := by
  intro n
  induction n with
  | zero =>
    intro v h
    obtain ⟨b, ys, rfl, e2, e3⟩ := h
    rw [walkF_of e2, walkF_of (s b _ e2)]
    exact flatMap_congr' fun y hy => (e3 y hy).elim
  | succ n ih =>
    intro v h
    obtain ⟨b, ys, rfl, e2, e3⟩ := h
    rw [walkF_of e2, walkF_of (s b _ e2)]
    refine flatMap_congr' fun y hy => ?_
    rw [(e3 y hy).parts_sameT s]
    congr 1
    exact flatMap_congr' fun p hp => ih ((e3 y hy).parts_ok p hp)
def rowF (n : Nat) (H : Hp) (y : V) : List V := y :: (partsF H y).flatMap (walkF n H)
theorem rowF_sameT {H H' : Hp} (s : SameT H H') {n : Nat} {y : V} (h : RowOk n H y) : rowF n H' y = rowF n H y := by
  unfold rowF
  rw [h.parts_sameT s]
  congr 1
  cases n with
  | zero => exact h.elim
  | succ n => exact flatMap_congr' fun p hp => walkF_sameT s (h.parts_ok p hp)
set_option genInjectivity false in
structure Fr where
  f : Addr
  t : Addr
  L : Addr
  ps : List Addr
  z : Str
  fa : V
  th : List V
  rss : List (List V)
  c : Nat
def Fr.own (F : Fr) : List Addr := F.f :: F.L :: F.ps
structure FrAt (H : Hp) (n : Nat) (F : Fr) : Prop where
  hf : H F.f = some (.lst [.str F.z, .ref F.t, .ref F.L, F.fa])
  ht : H F.t = some (.tup F.th)
  hL : H F.L = some (.lst (F.ps.map V.ref))
  hp : ∀ (i : Nat) (p : Addr) (rs : List V), F.ps[i]? = some p → F.rss[i]? = some rs → H p = some (.lst rs)
  len : F.ps.length = F.rss.length
  one : F.ps.length = 1 ∨ (F.ps.length = 2 ∧ twoW F.z)
  word : wordW F.z
  things : F.th.length = thLen F.z
  tv : ∀ t ∈ F.th, TV t
  sv : F.z = "when" → ∀ t, F.th[0]? = some t → StV t
  fv : F.z = "try" → StV F.fa
  rows : ∀ rs ∈ F.rss, ∀ r ∈ rs, RowOk n H r
  wt : (F.rss.flatMap fun rs => rs.flatMap (rowF n H)).length ≤ F.c
theorem FrAt.move {H H' : Hp} {n : Nat} {F : Fr} (h : FrAt H n F) (s : SameT H H') (o : ∀ a ∈ F.own, H' a = H a) : FrAt H' n F where
  hf := by rw [o F.f List.mem_cons_self]; exact h.hf
  ht := s _ _ h.ht
  hL := by rw [o F.L (List.mem_cons_of_mem _ List.mem_cons_self)]; exact h.hL
  hp := fun i p rs h1 h2 => by rw [o p (List.mem_cons_of_mem _ (List.mem_cons_of_mem _ (List.mem_of_getElem? h1)))]; exact h.hp i p rs h1 h2
  len := h.len
  one := h.one
  word := h.word
  things := h.things
  tv := h.tv
  sv := h.sv
  fv := h.fv
  rows := fun rs hrs r hr => (h.rows rs hrs r hr).sameT s
  wt := by
    have e : (F.rss.flatMap fun rs => rs.flatMap (rowF n H')) = F.rss.flatMap fun rs => rs.flatMap (rowF n H) :=
      flatMap_congr' fun rs hrs => flatMap_congr' fun r hr => rowF_sameT s (h.rows rs hrs r hr)
    rw [e]; exact h.wt
theorem sameT_of {H H' : Hp} (s : Same H H') : SameT H H' := fun a _ h => s a _ h
theorem FrAt.here {H : Hp} {n : Nat} {F : Fr} (h : FrAt H n F) : ∀ a ∈ F.own, ∃ xs, H a = some (.lst xs) := by
  intro a ha
  rcases List.mem_cons.mp ha with rfl | ha
  · exact ⟨_, h.hf⟩
  rcases List.mem_cons.mp ha with rfl | ha
  · exact ⟨_, h.hL⟩
  obtain ⟨i, hi⟩ := List.getElem?_of_mem ha
  have hlt : i < F.rss.length := by
    have := (List.getElem?_eq_some_iff.mp hi).1
    have := h.len
    omega
  exact ⟨_, h.hp i a _ hi (List.getElem?_eq_getElem hlt)⟩
theorem FrAt.same {H H' : Hp} {n : Nat} {F : Fr} (h : FrAt H n F) (s : Same H H') : FrAt H' n F :=
  h.move (sameT_of s) fun a ha => by
    obtain ⟨xs, e⟩ := h.here a ha
    rw [e]; exact s a _ e

def top (i : Nat) : Stmt := PySem.Challenge.pw_nightwatch_k12_written.main.body.getD i (.Pass ⟨0, 0, 0, 0⟩)

set_option genInjectivity false in
structure Tx (P : Program) (w : World) (K : PySem.W.Frag) (mg : Str → Option Value) where
  d_l_parts : Def K mg "_law_parts" (top 21) ["_law_row"]
  d_l_cell_at : Def K mg "_law_cell_at" (top 9) ["_law_script", "_law_k"]
  d_l_mixed : Def K mg "_law_mixed" (top 10) ["_law_x"]
  d_l_stream : Def K mg "_law_stream" (top 11) ["_law_cell", "_law_many"]
  d_l_name_by : Def K mg "_law_name_by" (top 12) ["_law_x"]
  d_l_names : Def K mg "_law_names" (top 13) ["_law_x"]
  d_l_value_by : Def K mg "_law_value_by" (top 14) ["_law_x", "_law_names_here"]
  d_l_plain : Def K mg "_law_plain" (top 15) ["_law_x", "_law_names_here"]
  d_l_opened : Def K mg "_law_opened" (top 16) ["_law_x", "_law_names_here"]
  d_l_closed : Def K mg "_law_closed" (top 17) ["_law_frame"]
  d_l_put : Def K mg "_law_put" (top 18) ["_law_errands", "_law_stack", "_law_x", "_law_names_here", "_law_deep"]
  d_l_program : Def K mg "_law_program" (top 19) ["_law_cells", "_law_names_here", "_law_deep"]
  d_begin_words : Def K mg "begin_words" (top 2) ["row"]
  d_head_words : Def K mg "head_words" (top 3) ["row"]
  d_turn_words : Def K mg "turn_words" (top 4) ["row"]
  d_l_words : Def K mg "_law_words" (top 20) ["_law_row"]
  d_l_turning : Def K mg "_law_turning" (top 22) ["_law_row"]
  d_written : Def K mg "written" (top 6) ["program"]
  d_numbered : Def K mg "numbered" (top 7) ["program"]
  d_l_lines : Def K mg "_law_lines" (top 23) ["_law_rows", "_law_deep"]
  d_l_set : Def K mg "_law_set" (top 25) ["_law_row", "_law_line", "_law_told"]
  d_l_on : Def K mg "_law_on" (top 24) ["_law_rows", "_law_places", "_law_at"]
  d_l_alike : Def K mg "_law_alike" (top 27) ["_law_found", "_law_due"]
  d_l_numbered : Def K mg "_law_numbered" (top 26) ["_law_program_here"]
  d_l_right : Def K mg "_law_right" (top 28) ["_law_program_here"]
  C_Writing : Addr
  k_Writing : Cls K C_Writing
  h_Writing : mg "Writing" = some (.ref C_Writing)
  n_Writing_lines : NoAttr K C_Writing "lines"
  m_Writing___init__ : MDef K C_Writing "__init__" "Writing.__init__" (inClass (top 5) 0) ["self"]
  m_Writing_put_line : MDef K C_Writing "put_line" "Writing.put_line" (inClass (top 5) 1) ["self", "words", "deep"]
  m_Writing_put_turn : MDef K C_Writing "put_turn" "Writing.put_turn" (inClass (top 5) 2) ["self", "row", "deep"]
  m_Writing_put_rows : MDef K C_Writing "put_rows" "Writing.put_rows" (inClass (top 5) 3) ["self", "rows", "deep"]
  m_Writing_put_row : MDef K C_Writing "put_row" "Writing.put_row" (inClass (top 5) 4) ["self", "row", "deep"]
  M_Writing : Mk K C_Writing m_Writing___init__.f
  stt : Tok
  stm : mg "STEP_IN" = some (.str "  " stt)
  n_len : mg "len" = none
  n_isinstance : mg "isinstance" = none
  n_list : mg "list" = none
  n_tuple : mg "tuple" = none
  n_int : mg "int" = none
  n_range : mg "range" = none
  n_enumerate : mg "enumerate" = none
  n_str : mg "str" = none
  n_bool : mg "bool" = none
section
variable {P : Program} {w : World} {K : PySem.W.Frag} {mg : Str → Option Value} {base : Heap}
seal PE PT PW PA PS PSs PG PGs PI PC PTs PO
def spCell (K : PySem.W.Frag) : Sp := fun vs H Q _ => ∃ (a : Addr) (ns : List Int) (k : Int), vs = [.ref a, .int k] ∧ SqL K H a (ns.map V.int) ∧ ns.length ≤ 63 ∧ 0 ≤ k ∧ ∀ n : Int, Q (.int n) H
def spMixed : Sp := fun vs H Q _ => ∃ x : Int, vs = [.int x] ∧ ∀ r : Int, 0 ≤ r → r < 2147483647 → Q (.int r) H
def spStream : Sp := fun vs H Q _ => ∃ c m : Int, vs = [.int c, .int m] ∧ 0 ≤ m ∧ m ≤ 100 ∧ ∀ (l : Addr) (ns : List Int) (H' : Hp), H l = none → (ns.length : Int) = m → (∀ n ∈ ns, 0 ≤ n ∧ n < 2147483647) → H' l = some (.lst (ns.map V.int)) → Same H H' → Q (.ref l) H'
def spLParts : Sp := fun vs H Q _ => ∃ (v : V) (n : Nat), vs = [v] ∧ RowOk n H v ∧ ∀ (p : Addr) (H' : Hp), H p = none → H' p = some (.lst (partsF H v)) → Same H H' → Q (.ref p) H'
def spNo : Sp := fun _ _ _ _ => False
theorem fn_no {f : Addr} {fd : FuncData} {ps : List Str} {k : Nat} : FnOk P w K mg base CX0 k f fd ps spNo := ⟨fun _ _ _ _ h => h.elim, fun _ _ _ _ _ _ _ _ _ _ _ _ _ h => h.elim⟩
def spNameBy : Sp := fun vs H Q _ => ∃ x : Int, vs = [.int x] ∧ 0 ≤ x ∧ ∀ (z : Str) (H' : Hp), z.length ≤ 20 → Same H H' → Q (.str z) H'
def NamesAt (H : Hp) (l : Addr) : Prop := ∃ zs : List Str, H l = some (.lst (zs.map V.str)) ∧ 1 ≤ zs.length ∧ zs.length ≤ 9 ∧ ∀ z ∈ zs, z.length ≤ 40
def spNames : Sp := fun vs H Q _ => ∃ x : Int, vs = [.int x] ∧ ∀ (l : Addr) (H' : Hp), H l = none → NamesAt H' l → Same H H' → Q (.ref l) H'
theorem names_tv {zs : List Str} (h : ∀ z ∈ zs, z.length ≤ 40) {v : V} (hv : v ∈ zs.map V.str) : TV v := by
  obtain ⟨z, hz, rfl⟩ := List.mem_map.mp hv
  exact .inr ⟨z, rfl, Nat.le_trans (h z hz) (by decide)⟩
theorem names_st {zs : List Str} (h : ∀ z ∈ zs, z.length ≤ 40) {v : V} (hv : v ∈ zs.map V.str) : StV v := by
  obtain ⟨z, hz, rfl⟩ := List.mem_map.mp hv
  exact ⟨z, rfl, Nat.le_trans (h z hz) (by decide)⟩
def spValueBy : Sp := fun vs H Q _ => ∃ (x : Int) (l : Addr), vs = [.int x, .ref l] ∧ 0 ≤ x ∧ NamesAt H l ∧ ∀ (v : V) (H' : Hp), TV v → Same H H' → Q v H'
def spPlain : Sp := fun vs H Q _ => ∃ (x : Int) (l : Addr), vs = [.int x, .ref l] ∧ 0 ≤ x ∧ NamesAt H l ∧ ∀ (p : Addr) (z : Str) (r : List V) (H' : Hp), H p = none → H' p = some (.tup (.str z :: r)) → RowSh z r → places z = [] → Same H H' → Q (.ref p) H'
def NewFr (H H' : Hp) (F : Fr) : Prop := (∀ n, FrAt H' n F) ∧ F.own.Nodup ∧ (∀ a ∈ F.own, H a = none) ∧ F.c = 0 ∧ Same H H'
def spOpened : Sp := fun vs H Q _ => ∃ (x : Int) (l : Addr), vs = [.int x, .ref l] ∧ 0 ≤ x ∧ NamesAt H l ∧ ∀ (F : Fr) (H' : Hp), NewFr H H' F → F.z ≠ "errand" → Q (.ref F.f) H'
def ThOk (z : Str) (th : List V) (fa : V) : Prop := th.length = thLen z ∧ (∀ t ∈ th, TV t) ∧ (z = "when" → ∀ t, th[0]? = some t → StV t) ∧ (z = "try" → StV fa)
theorem thok1 {z : Str} {v fa : V} (h : (1 : Nat) = thLen z) (hw : z ≠ "when") (ht : z ≠ "try") (hv : TV v) : ThOk z [v] fa := ⟨h, fun t ht => by rw [List.mem_singleton.mp ht]; exact hv, fun e => absurd e hw, fun e => absurd e ht⟩
theorem thok0 {z : Str} {fa : V} (h : (0 : Nat) = thLen z) (hf : z = "try" → StV fa) : ThOk z [] fa := ⟨h, (fun _ h => nomatch h), (fun _ _ h => nomatch h), hf⟩
theorem new_fr {H G G3 : Hp} {t p L f : Addr} {z : Str} {fa : V} {th : List V} (s : Same H G) (ht : G t = some (.tup th)) (hp : G p = none) (hL : upd G p (.lst []) L = none) (s2' : Same (upd (upd G p (.lst [])) L (.lst [.ref p])) G3) (hf : G3 f = none) (hw : wordW z) (hth : ThOk z th fa) :
    NewFr H (upd G3 f (.lst [.str z, .ref t, .ref L, fa])) ⟨f, t, L, [p], z, fa, th, [[]], 0⟩ := by
  have s1 := Same.upd (o := .lst []) hp
  have s2 := (Same.upd (o := .lst [.ref p]) hL).trans s2'
  have s3 := Same.upd (o := .lst [.str z, .ref t, .ref L, fa]) hf
  have sA := s.trans ((s1.trans s2).trans s3)
  have nLp : L ≠ p := fun e => by rw [e, upd_same] at hL; cases hL
  have nfL : f ≠ L := fun e => by rw [e, s2' L _ upd_same] at hf; cases hf
  have nfp : f ≠ p := fun e => by rw [e, s2 p _ upd_same] at hf; cases hf
  refine ⟨fun n => ⟨upd_same, ((s1.trans s2).trans s3) t _ ht, s3 L _ (s2' L _ upd_same), ?_, rfl, .inl rfl, hw, hth.1, hth.2.1, hth.2.2.1, hth.2.2.2, ?_, by simp⟩, ?_, ?_, rfl, sA⟩
  · intro i p' rs h1 h2
    cases i with
    | zero =>
      cases h1
      cases h2
      exact s3 p _ (s2 p _ upd_same)
    | succ i => cases h1
  · intro rs hrs r hr
    rw [List.mem_singleton.mp hrs] at hr
    cases hr
  · show [f, L, p].Nodup
    simp [nfL, nfp, nLp]
  · intro a ha
    rcases List.mem_cons.mp ha with rfl | ha
    · exact (s.trans (s1.trans s2)).free hf
    rcases List.mem_cons.mp ha with rfl | ha
    · exact (s.trans s1).free hL
    · rw [List.mem_singleton.mp ha]; exact s.free hp
def ErrAt (n c : Nat) (H : Hp) (v : V) : Prop := RowOk (n + 1) H v ∧ (rowF (n + 1) H v).length ≤ c + 1
def MadeAt (n c : Nat) (H : Hp) (z : Str) (v : V) : Prop := (z = "errand" ∧ ErrAt n c H v) ∨ (z ≠ "errand" ∧ RowOk (n + 1) H v ∧ (rowF (n + 1) H v).length ≤ c + 1)
def spClosed : Sp := fun vs H Q _ => ∃ (F : Fr) (n : Nat), vs = [.ref F.f] ∧ FrAt H n F ∧ F.c ≤ 1000 ∧ ∀ (v : V) (H' : Hp), MadeAt n F.c H' F.z v → Same H H' → Q v H'
theorem pln {z : Str} {ln : Int} {r : List V} (hp : places z = []) (hl : z.length ≤ 10) (nb : z ≠ "begin") (tv : ∀ t ∈ r, TV t) (rl : r.length ≤ 4) : RowSh z (.int ln :: r) := ⟨ln, r, rfl, .inl ⟨hp, hl, tv, rl, fun e => absurd e nb⟩⟩
theorem tv1 {a : V} (h : TV a) : ∀ t ∈ [a], TV t := fun t ht => by rw [List.mem_singleton.mp ht]; exact h
theorem tv2 {a b : V} (h : TV a) (h' : TV b) : ∀ t ∈ [a, b], TV t := fun t ht => by
  rcases List.mem_cons.mp ht with rfl | ht
  · exact h
  · exact tv1 h' t ht
abbrev plW (z : Str) : Prop := places z = [] ∧ z.length ≤ 10 ∧ z ≠ "begin"
theorem walk_bs {n : Nat} {H : Hp} : ∀ (bs : List Addr) (rss : List (List V)), bs.length = rss.length → (∀ (j : Nat) (b : Addr) (rs : List V), bs[j]? = some b → rss[j]? = some rs → H b = some (.tup rs)) →
    (bs.map V.ref).flatMap (walkF (n + 1) H) = rss.flatMap fun rs => rs.flatMap (rowF n H)
  | [], [], _, _ => rfl
  | [], _ :: _, h, _ => nomatch h
  | _ :: _, [], h, _ => nomatch h
  | b :: bs, rs :: rss, h, hb => by
    rw [List.map_cons, List.flatMap_cons, List.flatMap_cons, walkF_of (hb 0 b rs rfl rfl), walk_bs bs rss (Nat.succ.inj h) fun j b' rs' h1 h2 => hb (j + 1) b' rs' h1 h2]
    rfl
theorem len1 {α : Type} : ∀ {xs : List α}, xs.length = 1 → ∃ x, xs = [x]
  | [x], _ => ⟨x, rfl⟩
theorem len2 {α : Type} : ∀ {xs : List α}, xs.length = 2 → ∃ x y, xs = [x, y]
  | [x, y], _ => ⟨x, y, rfl⟩
theorem made_shape {z : Str} {i : Int} {r th : List V} {fa : V} {bs : List Addr} (B : BlkSh z r th fa bs) : rowParts (.str z :: .int i :: r) = bs.map V.ref ∧ (V.int i :: r).length + 1 = lenOf z := by
  obtain ⟨hw, rfl, _, _, hth, _, h2, h1⟩ := B
  rw [rowParts_str]
  rcases hw with rfl | rfl | rfl | rfl | rfl | rfl | rfl | rfl
  · obtain ⟨x, rfl⟩ := len1 (hth.trans (show thLen "errand" = 1 by decide +kernel))
    obtain ⟨b, rfl⟩ := len1 (h1 (by decide +kernel))
    rw [if_neg (by decide +kernel), show places "errand" = [3] by decide +kernel, show lenOf "errand" = 4 by decide +kernel]
    exact ⟨rfl, rfl⟩
  · obtain ⟨x, rfl⟩ := len1 (hth.trans (show thLen "group" = 1 by decide +kernel))
    obtain ⟨b, rfl⟩ := len1 (h1 (by decide +kernel))
    rw [if_neg (by decide +kernel), show places "group" = [3] by decide +kernel, show lenOf "group" = 4 by decide +kernel]
    exact ⟨rfl, rfl⟩
  · obtain ⟨x, rfl⟩ := len1 (hth.trans (show thLen "limit" = 1 by decide +kernel))
    obtain ⟨b, b1, rfl⟩ := len2 (h2 (by decide +kernel))
    rw [if_neg (by decide +kernel), show places "limit" = [3, 4] by decide +kernel, show lenOf "limit" = 5 by decide +kernel]
    exact ⟨rfl, rfl⟩
  · obtain rfl := List.length_eq_zero_iff.mp (hth.trans (show thLen "keep" = 0 by decide +kernel))
    obtain ⟨b, rfl⟩ := len1 (h1 (by decide +kernel))
    rw [if_neg (by decide +kernel), show places "keep" = [2] by decide +kernel, show lenOf "keep" = 3 by decide +kernel]
    exact ⟨rfl, rfl⟩
  · obtain rfl := List.length_eq_zero_iff.mp (hth.trans (show thLen "try" = 0 by decide +kernel))
    obtain ⟨b, b1, rfl⟩ := len2 (h2 (by decide +kernel))
    rw [if_pos rfl, show places "try" = [2, 4] by decide +kernel, show lenOf "try" = 5 by decide +kernel]
    exact ⟨rfl, rfl⟩
  · obtain rfl := List.length_eq_zero_iff.mp (hth.trans (show thLen "do" = 0 by decide +kernel))
    obtain ⟨b, b1, rfl⟩ := len2 (h2 (by decide +kernel))
    rw [if_neg (by decide +kernel), show places "do" = [2, 3] by decide +kernel, show lenOf "do" = 4 by decide +kernel]
    exact ⟨rfl, rfl⟩
  · obtain ⟨x, y, rfl⟩ := len2 (hth.trans (show thLen "when" = 2 by decide +kernel))
    obtain ⟨b, rfl⟩ := len1 (h1 (by decide +kernel))
    rw [if_neg (by decide +kernel), show places "when" = [4] by decide +kernel, show lenOf "when" = 5 by decide +kernel]
    exact ⟨rfl, rfl⟩
  · obtain ⟨x, rfl⟩ := len1 (hth.trans (show thLen "repeat" = 1 by decide +kernel))
    obtain ⟨b, rfl⟩ := len1 (h1 (by decide +kernel))
    rw [if_neg (by decide +kernel), show places "repeat" = [3] by decide +kernel, show lenOf "repeat" = 4 by decide +kernel]
    exact ⟨rfl, rfl⟩
theorem made_of {n c : Nat} {H : Hp} {z : Str} {th : List V} {i : Int} {bs : List Addr} {fa : V} {rss : List (List V)} {a : Addr} (B : BlkSh z (th ++ (if z = "try" then tryL bs fa else bs.map V.ref)) th fa bs)
    (hlen : bs.length = rss.length) (hb : ∀ (j : Nat) (b : Addr) (rs : List V), bs[j]? = some b → rss[j]? = some rs → H b = some (.tup rs)) (hrows : ∀ rs ∈ rss, ∀ r ∈ rs, RowOk n H r) (hwt : (rss.flatMap fun rs => rs.flatMap (rowF n H)).length ≤ c)
    (ha : H a = some (.tup (.str z :: (.int i :: th ++ (if z = "try" then tryL bs fa else bs.map V.ref))))) : MadeAt n c H z (.ref a) := by
  have hW := walk_bs (n := n) bs rss hlen hb
  have each : ∀ p ∈ bs.map V.ref, RowsOk n H p := by
    intro p hp
    obtain ⟨b, hbm, rfl⟩ := List.mem_map.mp hp
    obtain ⟨j, hj⟩ := List.getElem?_of_mem hbm
    have hlt : j < rss.length := by
      have := (List.getElem?_eq_some_iff.mp hj).1
      omega
    exact ⟨b, rss[j], rfl, hb j b _ hj (List.getElem?_eq_getElem hlt), fun y hy => hrows _ (List.getElem_mem hlt) y hy⟩
  obtain ⟨e1, e2⟩ := made_shape (i := i) B
  have key : RowOk (n + 1) H (.ref a) ∧ (rowF (n + 1) H (.ref a)).length ≤ c + 1 := by
    refine ⟨⟨a, z, _, rfl, ha, ⟨i, _, rfl, .inr ⟨th, fa, bs, B⟩⟩, fun _ => e2, fun p hp => ?_⟩, ?_⟩
    · exact each p (by rw [← e1]; exact hp)
    · unfold rowF
      rw [partsF_of ha, show rowParts (.str z :: (.int i :: th ++ (if z = "try" then tryL bs fa else bs.map V.ref))) = bs.map V.ref from e1, hW, List.length_cons]
      omega
  by_cases hz : z = "errand"
  · exact .inl ⟨hz, key⟩
  · exact .inr ⟨hz, key⟩
theorem eqV_str (y z : Str) : eqV (.str y) (.str z) = decide (z = y) := by
  show (y == z) = _
  by_cases e : z = y
  · subst e; simp
  · rw [decide_eq_false e]; simp [Ne.symm e]
theorem inTwo (z : Str) : inV (V.str z) [V.str "try", V.str "do", V.str "limit"] = decide (twoW z) := by
  show (eqV _ _ || (eqV _ _ || (eqV _ _ || false))) = _
  rw [eqV_str, eqV_str, eqV_str, Bool.or_false]
  by_cases h1 : z = "try"
  · subst h1; decide +kernel
  by_cases h2 : z = "do"
  · subst h2; decide +kernel
  by_cases h3 : z = "limit"
  · subst h3; decide +kernel
  have hn : ¬ twoW z := fun h => h.elim h1 fun h => h.elim h2 h3
  rw [decide_eq_false h1, decide_eq_false h2, decide_eq_false h3, decide_eq_false hn]
  rfl
theorem ErrAt.sameT {n c : Nat} {H H' : Hp} {v : V} (s : SameT H H') (h : ErrAt n c H v) : ErrAt n c H' v := ⟨h.1.sameT s, by rw [rowF_sameT s h.1]; exact h.2⟩
theorem sameT_upd {H : Hp} {a : Addr} {xs : List V} {o : HO} (h : H a = some (.lst xs)) : SameT H (upd H a o) := fun b ys hb => by
  rw [upd_ne (fun e => by rw [e, h] at hb; cases hb)]; exact hb
theorem SameT.trans {H H1 H2 : Hp} (a : SameT H H1) (b : SameT H1 H2) : SameT H H2 := fun x ys h => b x ys (a x ys h)
structure SA (H0 H : Hp) (sa ea : Addr) (Fs : List Fr) (c t : Nat) : Prop where
  out : Same H0 H
  new : ∀ a ∈ sa :: ea :: Fs.flatMap Fr.own, H0 a = none
  hs : H sa = some (.lst (Fs.map fun F => V.ref F.f))
  he : ∃ es : List V, H ea = some (.lst es) ∧ es.length ≤ t ∧ ∀ e ∈ es, ErrAt 22 100 H e
  le : Fs.length ≤ 21
  fr : ∀ (i : Nat) (F : Fr), Fs[i]? = some F → FrAt H (22 - i) F ∧ (F.z = "errand" ↔ i = 0)
  nd : (sa :: ea :: Fs.flatMap Fr.own).Nodup
  sum : (Fs.map Fr.c).sum ≤ c
theorem own_mem {Fs : List Fr} {i : Nat} {F : Fr} (h : Fs[i]? = some F) {a : Addr} (ha : a ∈ F.own) : a ∈ Fs.flatMap Fr.own := List.mem_flatMap.mpr ⟨F, List.mem_of_getElem? h, ha⟩
theorem SA.mono {H0 H : Hp} {sa ea : Addr} {Fs : List Fr} {c t c' t' : Nat} (h : SA H0 H sa ea Fs c t) (hc : c ≤ c') (ht : t ≤ t') : SA H0 H sa ea Fs c' t' := by
  obtain ⟨es, e1, e2, e3⟩ := h.he
  exact ⟨h.out, h.new, h.hs, ⟨es, e1, Nat.le_trans e2 ht, e3⟩, h.le, h.fr, h.nd, Nat.le_trans h.sum hc⟩
theorem SA.move {H0 H H' : Hp} {sa ea : Addr} {Fs : List Fr} {c t : Nat} (h : SA H0 H sa ea Fs c t) (s : SameT H H') (out : Same H0 H') (o : ∀ a ∈ sa :: ea :: Fs.flatMap Fr.own, H' a = H a) : SA H0 H' sa ea Fs c t := by
  obtain ⟨es, e1, e2, e3⟩ := h.he
  refine ⟨out, h.new, ?_, ⟨es, ?_, e2, fun e he => (e3 e he).sameT s⟩, h.le, fun i F hi => ⟨(h.fr i F hi).1.move s fun a ha => o a (List.mem_cons_of_mem _ (List.mem_cons_of_mem _ (own_mem hi ha))), (h.fr i F hi).2⟩, h.nd, h.sum⟩
  · rw [o sa List.mem_cons_self]; exact h.hs
  · rw [o ea (List.mem_cons_of_mem _ List.mem_cons_self)]; exact e1
theorem SA.there {H0 H : Hp} {sa ea : Addr} {Fs : List Fr} {c t : Nat} (h : SA H0 H sa ea Fs c t) : ∀ a ∈ sa :: ea :: Fs.flatMap Fr.own, ∃ xs, H a = some (.lst xs) := by
  intro a ha
  rcases List.mem_cons.mp ha with rfl | ha
  · exact ⟨_, h.hs⟩
  rcases List.mem_cons.mp ha with rfl | ha
  · obtain ⟨es, e1, _⟩ := h.he
    exact ⟨_, e1⟩
  obtain ⟨F, hF, ha⟩ := List.mem_flatMap.mp ha
  obtain ⟨i, hi⟩ := List.getElem?_of_mem hF
  exact (h.fr i F hi).1.here a ha
theorem SA.same {H0 H H' : Hp} {sa ea : Addr} {Fs : List Fr} {c t : Nat} (h : SA H0 H sa ea Fs c t) (s : Same H H') : SA H0 H' sa ea Fs c t :=
  h.move (sameT_of s) (h.out.trans s) fun a ha => by
    obtain ⟨xs, e⟩ := h.there a ha
    rw [e]; exact s _ _ e
theorem flat_snoc (Gs : List Fr) (F : Fr) : (Gs ++ [F]).flatMap Fr.own = Gs.flatMap Fr.own ++ F.own := by simp
theorem get_snoc {α : Type} {Gs : List α} {F X : α} {i : Nat} (h : (Gs ++ [F])[i]? = some X) : (i < Gs.length ∧ Gs[i]? = some X) ∨ (i = Gs.length ∧ X = F) := by
  by_cases hi : i < Gs.length
  · rw [List.getElem?_append_left hi] at h
    exact .inl ⟨hi, h⟩
  · rw [List.getElem?_append_right (by omega)] at h
    have e1 := (List.getElem?_eq_some_iff.mp h).1
    have e2 : i - Gs.length = 0 := by simp only [List.length_cons, List.length_nil] at e1; omega
    rw [e2] at h
    cases h
    exact .inr ⟨by omega, rfl⟩
theorem get_last {α : Type} {Gs : List α} {F : α} : (Gs ++ [F])[Gs.length]? = some F := by
  rw [List.getElem?_append_right (Nat.le_refl _), Nat.sub_self]; rfl
theorem SA.pop {H0 H : Hp} {sa ea : Addr} {Gs : List Fr} {F : Fr} {c t : Nat} (h : SA H0 H sa ea (Gs ++ [F]) c t) :
    ∃ c', c' + F.c ≤ c ∧ SA H0 (upd H sa (.lst (Gs.map fun F => V.ref F.f))) sa ea Gs c' t ∧ FrAt (upd H sa (.lst (Gs.map fun F => V.ref F.f))) (22 - Gs.length) F ∧ (F.z = "errand" ↔ Gs.length = 0) := by
  have nd := h.nd
  have hnew := h.new
  rw [flat_snoc] at nd hnew
  obtain ⟨n1, n2⟩ := List.nodup_cons.mp nd
  obtain ⟨n3, n4⟩ := List.nodup_cons.mp n2
  obtain ⟨n5, n6, n7⟩ := List.nodup_append.mp n4
  have sT : SameT H (upd H sa (.lst (Gs.map fun F => V.ref F.f))) := sameT_upd h.hs
  have mv : ∀ a ∈ ea :: (Gs.flatMap Fr.own ++ F.own), upd H sa (.lst (Gs.map fun F => V.ref F.f)) a = H a := fun a ha => upd_ne (fun e => n1 (e ▸ ha))
  obtain ⟨es, e1, e2, e3⟩ := h.he
  have hl := h.le
  rw [List.length_append] at hl
  refine ⟨(Gs.map Fr.c).sum, ?_, ⟨same_set h.out (h.new sa List.mem_cons_self), ?_, upd_same, ⟨es, ?_, e2, fun e he => (e3 e he).sameT sT⟩, by omega, ?_, ?_, Nat.le_refl _⟩, ?_, ?_⟩
  · have := h.sum
    rw [List.map_append, List.sum_append] at this
    simp only [List.map_cons, List.map_nil, List.sum_cons, List.sum_nil] at this
    omega
  · intro a ha
    refine hnew a ?_
    rcases List.mem_cons.mp ha with rfl | ha
    · exact List.mem_cons_self
    rcases List.mem_cons.mp ha with rfl | ha
    · exact List.mem_cons_of_mem _ List.mem_cons_self
    · exact List.mem_cons_of_mem _ (List.mem_cons_of_mem _ (List.mem_append_left _ ha))
  · rw [mv ea List.mem_cons_self]; exact e1
  · intro i X hi
    have hi' : (Gs ++ [F])[i]? = some X := by rw [List.getElem?_append_left (List.getElem?_eq_some_iff.mp hi).1]; exact hi
    exact ⟨(h.fr i X hi').1.move sT fun a ha => mv a (List.mem_cons_of_mem _ (List.mem_append_left _ (own_mem hi ha))), (h.fr i X hi').2⟩
  · refine List.nodup_cons.mpr ⟨fun hm => n1 ?_, List.nodup_cons.mpr ⟨fun hm => n3 (List.mem_append_left _ hm), n5⟩⟩
    rcases List.mem_cons.mp hm with e | hm
    · rw [e]; exact List.mem_cons_self
    · exact List.mem_cons_of_mem _ (List.mem_append_left _ hm)
  · exact (h.fr _ _ get_last).1.move sT fun a ha => mv a (List.mem_cons_of_mem _ (List.mem_append_right _ ha))
  · exact (h.fr _ _ get_last).2
theorem SA.push {H0 H H1 : Hp} {sa ea : Addr} {Fs : List Fr} {F : Fr} {c t : Nat} (h : SA H0 H sa ea Fs c t) (hn : NewFr H H1 F) (hl : Fs.length < 21) (hz : F.z = "errand" ↔ Fs.length = 0) :
    SA H0 (upd H1 sa (.lst ((Fs.map fun F => V.ref F.f) ++ [.ref F.f]))) sa ea (Fs ++ [F]) c t := by
  obtain ⟨hF, hnd, hno, hc, s⟩ := hn
  have h1 := h.same s
  have dis : ∀ a ∈ sa :: ea :: Fs.flatMap Fr.own, a ∉ F.own := fun a ha hm => by
    obtain ⟨xs, e⟩ := h.there a ha
    rw [hno a hm] at e
    cases e
  have nd := h.nd
  obtain ⟨n1, n2⟩ := List.nodup_cons.mp nd
  obtain ⟨n3, n4⟩ := List.nodup_cons.mp n2
  have sT : SameT H1 (upd H1 sa (.lst ((Fs.map fun F => V.ref F.f) ++ [.ref F.f]))) := sameT_upd h1.hs
  have mv : ∀ a, a ≠ sa → upd H1 sa (.lst ((Fs.map fun F => V.ref F.f) ++ [.ref F.f])) a = H1 a := fun a ha => upd_ne ha
  obtain ⟨es, e1, e2, e3⟩ := h1.he
  refine ⟨same_set h1.out (h.new sa List.mem_cons_self), ?_, ?_, ⟨es, ?_, e2, fun e he => (e3 e he).sameT sT⟩, ?_, ?_, ?_, ?_⟩
  · intro a ha
    rw [flat_snoc] at ha
    rcases List.mem_cons.mp ha with rfl | ha
    · exact h.new _ List.mem_cons_self
    rcases List.mem_cons.mp ha with rfl | ha
    · exact h.new _ (List.mem_cons_of_mem _ List.mem_cons_self)
    rcases List.mem_append.mp ha with ha | ha
    · exact h.new _ (List.mem_cons_of_mem _ (List.mem_cons_of_mem _ ha))
    · exact h.out.free (hno a ha)
  · rw [upd_same, List.map_append]; rfl
  · rw [mv ea (fun e => n1 (by rw [← e]; exact List.mem_cons_self))]; exact e1
  · rw [List.length_append]; simp only [List.length_cons, List.length_nil]; omega
  · intro i X hi
    rcases get_snoc hi with ⟨_, hi'⟩ | ⟨rfl, rfl⟩
    · exact ⟨(h1.fr i X hi').1.move sT fun a ha => mv a fun e => n1 (e ▸ List.mem_cons_of_mem _ (own_mem hi' ha)), (h1.fr i X hi').2⟩
    · exact ⟨(hF _).move sT fun a ha => mv a fun e => dis sa List.mem_cons_self (e ▸ ha), hz⟩
  · rw [flat_snoc]
    refine List.nodup_cons.mpr ⟨fun hm => ?_, List.nodup_cons.mpr ⟨fun hm => ?_, List.nodup_append.mpr ⟨n4, hnd, fun a ha b hb e => dis a (List.mem_cons_of_mem _ (List.mem_cons_of_mem _ ha)) (e ▸ hb)⟩⟩⟩
    · rcases List.mem_cons.mp hm with e | hm
      · exact n1 (e ▸ List.mem_cons_self)
      rcases List.mem_append.mp hm with hm | hm
      · exact n1 (List.mem_cons_of_mem _ hm)
      · exact dis _ List.mem_cons_self hm
    · rcases List.mem_append.mp hm with hm | hm
      · exact n3 hm
      · exact dis _ (List.mem_cons_of_mem _ List.mem_cons_self) hm
  · rw [List.map_append, List.sum_append]
    simp only [List.map_cons, List.map_nil, List.sum_cons, List.sum_nil, hc]
    exact h.sum
theorem SA.addErr {H0 H : Hp} {sa ea : Addr} {Fs : List Fr} {c t : Nat} {es : List V} {e : V} (h : SA H0 H sa ea Fs c t) (hes : H ea = some (.lst es)) (he : ErrAt 22 100 H e) : SA H0 (upd H ea (.lst (es ++ [e]))) sa ea Fs c (t + 1) := by
  have nd := h.nd
  obtain ⟨n1, n2⟩ := List.nodup_cons.mp nd
  obtain ⟨n3, n4⟩ := List.nodup_cons.mp n2
  have sT : SameT H (upd H ea (.lst (es ++ [e]))) := sameT_upd hes
  obtain ⟨es', e1, e2, e3⟩ := h.he
  rw [hes] at e1
  cases e1
  refine ⟨same_set h.out (h.new ea (List.mem_cons_of_mem _ List.mem_cons_self)), h.new, ?_, ⟨es ++ [e], upd_same, ?_, fun x hx => ?_⟩, h.le, fun i X hi => ⟨(h.fr i X hi).1.move sT fun a ha => upd_ne fun e => n3 (e ▸ own_mem hi ha), (h.fr i X hi).2⟩, h.nd, h.sum⟩
  · rw [upd_ne (fun e => n1 (by rw [e]; exact List.mem_cons_self))]; exact h.hs
  · rw [List.length_append]; simp only [List.length_cons, List.length_nil]; omega
  · rcases List.mem_append.mp hx with hx | hx
    · exact (e3 x hx).sameT sT
    · rw [List.mem_singleton.mp hx]; exact he.sameT sT
theorem SA.last {H0 H H' : Hp} {sa ea : Addr} {Gs : List Fr} {F F' : Fr} {c t w : Nat} (h : SA H0 H sa ea (Gs ++ [F]) c t) (sT : SameT H H') (out : Same H0 H') (o : ∀ a ∈ sa :: ea :: Gs.flatMap Fr.own, H' a = H a) (hF : FrAt H' (22 - Gs.length) F') (ez : F'.z = F.z) (ef : F'.f = F.f) (ec : F'.c ≤ F.c + w)
    (sub : ∀ a ∈ F'.own, a ∈ F.own ∨ (H a = none)) (nd' : F'.own.Nodup) : SA H0 H' sa ea (Gs ++ [F']) (c + w) t := by
  have there := h.there
  have nd := h.nd
  have hnew := h.new
  rw [flat_snoc] at nd hnew there
  obtain ⟨n1, n2⟩ := List.nodup_cons.mp nd
  obtain ⟨n3, n4⟩ := List.nodup_cons.mp n2
  obtain ⟨n5, n6, n7⟩ := List.nodup_append.mp n4
  obtain ⟨es, e1, e2, e3⟩ := h.he
  have up : ∀ a ∈ sa :: ea :: Gs.flatMap Fr.own, a ∈ sa :: ea :: (Gs.flatMap Fr.own ++ F.own) := by
    intro a ha
    rcases List.mem_cons.mp ha with rfl | ha
    · exact List.mem_cons_self
    rcases List.mem_cons.mp ha with rfl | ha
    · exact List.mem_cons_of_mem _ List.mem_cons_self
    · exact List.mem_cons_of_mem _ (List.mem_cons_of_mem _ (List.mem_append_left _ ha))
  have dis : ∀ a ∈ sa :: ea :: Gs.flatMap Fr.own, a ∉ F'.own := by
    intro a ha hm
    rcases sub a hm with hm | hm
    · rcases List.mem_cons.mp ha with rfl | ha
      · exact n1 (List.mem_cons_of_mem _ (List.mem_append_right _ hm))
      rcases List.mem_cons.mp ha with rfl | ha
      · exact n3 (List.mem_append_right _ hm)
      · exact n7 a ha a hm rfl
    · obtain ⟨xs, e⟩ := there a (up a ha)
      rw [hm] at e
      cases e
  refine ⟨out, ?_, ?_, ⟨es, ?_, e2, fun e he => (e3 e he).sameT sT⟩, ?_, ?_, ?_, ?_⟩
  · intro a ha
    rw [flat_snoc] at ha
    rcases List.mem_cons.mp ha with rfl | ha
    · exact hnew _ List.mem_cons_self
    rcases List.mem_cons.mp ha with rfl | ha
    · exact hnew _ (List.mem_cons_of_mem _ List.mem_cons_self)
    rcases List.mem_append.mp ha with ha | ha
    · exact hnew _ (List.mem_cons_of_mem _ (List.mem_cons_of_mem _ (List.mem_append_left _ ha)))
    · rcases sub a ha with ha | ha
      · exact hnew _ (List.mem_cons_of_mem _ (List.mem_cons_of_mem _ (List.mem_append_right _ ha)))
      · exact h.out.free ha
  · rw [o sa List.mem_cons_self, h.hs, List.map_append, List.map_append]
    simp only [List.map_cons, List.map_nil, ef]
  · rw [o ea (List.mem_cons_of_mem _ List.mem_cons_self)]; exact e1
  · have := h.le
    rw [List.length_append] at this ⊢
    exact this
  · intro i X hi
    rcases get_snoc hi with ⟨hlt, hi'⟩ | ⟨rfl, rfl⟩
    · have hi2 : (Gs ++ [F])[i]? = some X := by rw [List.getElem?_append_left hlt]; exact hi'
      exact ⟨(h.fr i X hi2).1.move sT fun a ha => o a (List.mem_cons_of_mem _ (List.mem_cons_of_mem _ (own_mem hi' ha))), (h.fr i X hi2).2⟩
    · exact ⟨hF, by rw [ez]; exact (h.fr _ _ get_last).2⟩
  · rw [flat_snoc]
    refine List.nodup_cons.mpr ⟨fun hm => ?_, List.nodup_cons.mpr ⟨fun hm => ?_, List.nodup_append.mpr ⟨n5, nd', fun a ha b hb e => dis a (List.mem_cons_of_mem _ (List.mem_cons_of_mem _ ha)) (e ▸ hb)⟩⟩⟩
    · rcases List.mem_cons.mp hm with e | hm
      · exact n1 (by rw [e]; exact List.mem_cons_self)
      rcases List.mem_append.mp hm with hm | hm
      · exact n1 (List.mem_cons_of_mem _ (List.mem_append_left _ hm))
      · exact dis _ List.mem_cons_self hm
    · rcases List.mem_append.mp hm with hm | hm
      · exact n3 (List.mem_append_left _ hm)
      · exact dis _ (List.mem_cons_of_mem _ List.mem_cons_self) hm
  · have := h.sum
    rw [List.map_append, List.sum_append] at this ⊢
    simp only [List.map_cons, List.map_nil, List.sum_cons, List.sum_nil] at this ⊢
    omega
def spPut : Sp := fun vs H Q _ => ∃ (ea sa na : Addr) (x : Int) (d : Bool) (H0 : Hp) (Fs : List Fr) (c t : Nat), vs = [.ref ea, .ref sa, .int x, .ref na, .bl d] ∧ 0 ≤ x ∧ NamesAt H0 na ∧ 0 < Fs.length ∧ SA H0 H sa ea Fs c t ∧ c ≤ 90 ∧ t ≤ 70 ∧
  ∀ (H' : Hp) (Fs' : List Fr), 0 < Fs'.length → SA H0 H' sa ea Fs' (c + 1) (t + 1) → Q .non H'
theorem atI_lastS {xs : List V} {x : V} : atI (xs ++ [x]) (-1) = some x := by
  obtain ⟨v, e, _, h⟩ := pickLast (xs := xs ++ [x]) (by rw [List.length_append]; simp only [List.length_cons, List.length_nil]; omega)
  rw [e, ← h, show (xs ++ [x]).length - 1 = xs.length by rw [List.length_append]; rfl]
  exact get_last
theorem snoc_of {α : Type} {xs : List α} (h : 0 < xs.length) : ∃ ys x, xs = ys ++ [x] := by
  rcases List.eq_nil_or_concat xs with rfl | ⟨L, b, e⟩
  · exact absurd h (Nat.lt_irrefl 0)
  · exact ⟨L, b, by rw [e]; simp⟩
theorem FrAt.lastP {H : Hp} {n : Nat} {F : Fr} (h : FrAt H n F) : ∃ qs p rss0 rs, F.ps = qs ++ [p] ∧ F.rss = rss0 ++ [rs] ∧ qs.length = rss0.length := by
  have l1 : 0 < F.ps.length := by rcases h.one with e | ⟨e, _⟩ <;> omega
  obtain ⟨qs, p, e1⟩ := snoc_of l1
  obtain ⟨rss0, rs, e2⟩ := snoc_of (show 0 < F.rss.length by have := h.len; omega)
  refine ⟨qs, p, rss0, rs, e1, e2, ?_⟩
  have := h.len
  rw [e1, e2, List.length_append, List.length_append] at this
  exact Nat.add_right_cancel this
theorem SA.readTop {K : PySem.W.Frag} {H0 H : Hp} {sa ea : Addr} {Gs : List Fr} {F : Fr} {c t : Nat} {R : VK} (h : SA H0 H sa ea (Gs ++ [F]) c t) (k : R (.ref F.f) H) : rIxL K (.ref sa) (.int (-1)) H R :=
  ⟨sa, _, _, .ref F.f, rfl, rfl, SqL.of h.hs, by rw [List.map_append]; exact atI_lastS, k⟩
theorem FrAt.readL {K : PySem.W.Frag} {H : Hp} {n : Nat} {F : Fr} {R : VK} (h : FrAt H n F) (k : R (.ref F.L) H) : rIxL K (.ref F.f) (.int 2) H R :=
  ⟨F.f, _, _, .ref F.L, rfl, rfl, SqL.of h.hf, atI_nat (j := 2) rfl, k⟩
theorem FrAt.readZ {K : PySem.W.Frag} {H : Hp} {n : Nat} {F : Fr} {R : VK} (h : FrAt H n F) (k : R (.str F.z) H) : rIxL K (.ref F.f) (.int 0) H R :=
  ⟨F.f, _, _, .str F.z, rfl, rfl, SqL.of h.hf, atI_nat (j := 0) rfl, k⟩
theorem FrAt.readP {K : PySem.W.Frag} {H : Hp} {n : Nat} {F : Fr} {R : VK} {qs : List Addr} {p : Addr} (h : FrAt H n F) (e : F.ps = qs ++ [p]) (k : R (.ref p) H) : rIxL K (.ref F.L) (.int (-1)) H R :=
  ⟨F.L, _, _, .ref p, rfl, rfl, SqL.of h.hL, by rw [e, List.map_append]; exact atI_lastS, k⟩
theorem SA.top {H0 H : Hp} {sa ea : Addr} {Gs : List Fr} {F : Fr} {c t : Nat} (h : SA H0 H sa ea (Gs ++ [F]) c t) : FrAt H (22 - Gs.length) F := (h.fr _ _ get_last).1
theorem SA.topNd {H0 H : Hp} {sa ea : Addr} {Gs : List Fr} {F : Fr} {c t : Nat} (h : SA H0 H sa ea (Gs ++ [F]) c t) : F.own.Nodup ∧ ∀ a ∈ sa :: ea :: Gs.flatMap Fr.own, a ∉ F.own := by
  have nd := h.nd
  rw [flat_snoc] at nd
  obtain ⟨n1, n2⟩ := List.nodup_cons.mp nd
  obtain ⟨n3, n4⟩ := List.nodup_cons.mp n2
  obtain ⟨n5, n6, n7⟩ := List.nodup_append.mp n4
  refine ⟨n6, fun a ha hm => ?_⟩
  rcases List.mem_cons.mp ha with rfl | ha
  · exact n1 (List.mem_cons_of_mem _ (List.mem_append_right _ hm))
  rcases List.mem_cons.mp ha with rfl | ha
  · exact n3 (List.mem_append_right _ hm)
  · exact n7 a ha a hm rfl
theorem SA.topC {H0 H : Hp} {sa ea : Addr} {Gs : List Fr} {F : Fr} {c t : Nat} (h : SA H0 H sa ea (Gs ++ [F]) c t) : F.c ≤ c := by
  have := h.sum
  rw [List.map_append, List.sum_append] at this
  simp only [List.map_cons, List.map_nil, List.sum_cons, List.sum_nil] at this
  omega
theorem SA.newOwn {H0 H : Hp} {sa ea : Addr} {Gs : List Fr} {F : Fr} {c t : Nat} (h : SA H0 H sa ea (Gs ++ [F]) c t) {a : Addr} (ha : a ∈ F.own) : H0 a = none :=
  h.new a (List.mem_cons_of_mem _ (List.mem_cons_of_mem _ (by rw [flat_snoc]; exact List.mem_append_right _ ha)))
theorem SA.addRow {H0 H : Hp} {sa ea : Addr} {Gs : List Fr} {F : Fr} {c t : Nat} {qs : List Addr} {p : Addr} {rss0 : List (List V)} {rs : List V} {y : V} (h : SA H0 H sa ea (Gs ++ [F]) c t) (e1 : F.ps = qs ++ [p]) (e2 : F.rss = rss0 ++ [rs]) (e3 : qs.length = rss0.length) (hy : RowOk (22 - Gs.length) H y) :
    H p = some (.lst rs) ∧ rs.length ≤ c ∧ ∃ F', SA H0 (upd H p (.lst (rs ++ [y]))) sa ea (Gs ++ [F']) (c + (rowF (22 - Gs.length) H y).length) t := by
  have hF := h.top
  obtain ⟨nd, dis⟩ := h.topNd
  have hpm : p ∈ F.own := List.mem_cons_of_mem _ (List.mem_cons_of_mem _ (by rw [e1]; exact List.mem_append_right _ List.mem_cons_self))
  have hp : H p = some (.lst rs) := hF.hp qs.length p rs (by rw [e1]; exact get_last) (by rw [e2, e3]; exact get_last)
  have lw : rs.length ≤ F.c := by
    have hw := hF.wt
    rw [e2, List.flatMap_append, List.length_append] at hw
    simp only [List.flatMap_cons, List.flatMap_nil, List.append_nil] at hw
    have : ∀ xs : List V, xs.length ≤ (xs.flatMap (rowF (22 - Gs.length) H)).length := by
      intro xs
      induction xs with
      | nil => exact Nat.le_refl _
      | cons x r ih =>
        rw [List.flatMap_cons, List.length_append, List.length_cons]
        have : 1 ≤ (rowF (22 - Gs.length) H x).length := by unfold rowF; rw [List.length_cons]; omega
        omega
    have := this rs
    omega
  have sT : SameT H (upd H p (.lst (rs ++ [y]))) := sameT_upd hp
  have nd' := nd
  unfold Fr.own at nd'
  rw [e1] at nd'
  obtain ⟨m1, m2⟩ := List.nodup_cons.mp nd'
  obtain ⟨m3, m4⟩ := List.nodup_cons.mp m2
  obtain ⟨m5, m6, m7⟩ := List.nodup_append.mp m4
  have nf : F.f ≠ p := fun e => m1 (by rw [e]; exact List.mem_cons_of_mem _ (List.mem_append_right _ List.mem_cons_self))
  have nL : F.L ≠ p := fun e => m3 (by rw [e]; exact List.mem_append_right _ List.mem_cons_self)
  refine ⟨hp, Nat.le_trans lw h.topC, { F with rss := rss0 ++ [rs ++ [y]], c := F.c + (rowF (22 - Gs.length) H y).length }, ?_⟩
  refine h.last sT (same_set h.out (h.newOwn hpm)) (fun a ha => upd_ne fun e => dis a ha (by rw [e]; exact hpm)) ⟨?_, ?_, ?_, ?_, ?_, hF.one, hF.word, hF.things, hF.tv, hF.sv, hF.fv, ?_, ?_⟩ rfl rfl (Nat.le_refl _) (fun a ha => .inl ha) nd
  · show upd H p _ F.f = _
    rw [upd_ne nf]; exact hF.hf
  · exact sT _ _ hF.ht
  · show upd H p _ F.L = _
    rw [upd_ne nL]; exact hF.hL
  · intro i q rs' hq hr
    have hq' : (qs ++ [p])[i]? = some q := by rw [← e1]; exact hq
    rcases get_snoc hq' with ⟨hlt, hq2⟩ | ⟨rfl, rfl⟩
    · have hr' : rss0[i]? = some rs' := by
        have hr0 : (rss0 ++ [rs ++ [y]])[i]? = some rs' := hr
        rw [List.getElem?_append_left (by omega)] at hr0
        exact hr0
      rw [upd_ne (fun e => m7 q (List.mem_of_getElem? hq2) p List.mem_cons_self e)]
      exact hF.hp i q rs' hq (by rw [e2, List.getElem?_append_left (by omega)]; exact hr')
    · have hr0 : (rss0 ++ [rs ++ [y]])[qs.length]? = some rs' := hr
      rw [e3, get_last] at hr0
      cases hr0
      exact upd_same
  · show F.ps.length = (rss0 ++ [rs ++ [y]]).length
    rw [hF.len, e2, List.length_append, List.length_append]; rfl
  · intro rs' hrs r hr
    rcases List.mem_append.mp hrs with hrs | hrs
    · exact (hF.rows rs' (by rw [e2]; exact List.mem_append_left _ hrs) r hr).sameT sT
    · rw [List.mem_singleton.mp hrs] at hr
      rcases List.mem_append.mp hr with hr | hr
      · exact (hF.rows rs (by rw [e2]; exact List.mem_append_right _ List.mem_cons_self) r hr).sameT sT
      · rw [List.mem_singleton.mp hr]; exact hy.sameT sT
  · show ((rss0 ++ [rs ++ [y]]).flatMap fun r => r.flatMap (rowF (22 - Gs.length) (upd H p (.lst (rs ++ [y]))))).length ≤ F.c + (rowF (22 - Gs.length) H y).length
    have hw := hF.wt
    rw [e2] at hw
    have e : ((rss0 ++ [rs ++ [y]]).flatMap fun r => r.flatMap (rowF (22 - Gs.length) (upd H p (.lst (rs ++ [y]))))) = (rss0 ++ [rs ++ [y]]).flatMap fun r => r.flatMap (rowF (22 - Gs.length) H) := by
      refine flatMap_congr' fun rs' hrs => flatMap_congr' fun r hr => rowF_sameT sT ?_
      rcases List.mem_append.mp hrs with hrs | hrs
      · exact hF.rows rs' (by rw [e2]; exact List.mem_append_left _ hrs) r hr
      · rw [List.mem_singleton.mp hrs] at hr
        rcases List.mem_append.mp hr with hr | hr
        · exact hF.rows rs (by rw [e2]; exact List.mem_append_right _ List.mem_cons_self) r hr
        · rw [List.mem_singleton.mp hr]; exact hy
    rw [e]
    rw [List.flatMap_append, List.length_append] at hw ⊢
    simp only [List.flatMap_cons, List.flatMap_nil, List.append_nil, List.flatMap_append, List.length_append] at hw ⊢
    omega
theorem SA.addPart {H0 H : Hp} {sa ea : Addr} {Gs : List Fr} {F : Fr} {c t : Nat} {q : Addr} (h : SA H0 H sa ea (Gs ++ [F]) c t) (hq : H q = none) (h1 : F.ps.length = 1) (h2 : twoW F.z) :
    ∃ F', SA H0 (upd (upd H q (.lst [])) F.L (.lst (F.ps.map V.ref ++ [.ref q]))) sa ea (Gs ++ [F']) c t := by
  have hF := h.top
  obtain ⟨nd, dis⟩ := h.topNd
  have hLm : F.L ∈ F.own := List.mem_cons_of_mem _ List.mem_cons_self
  have s1 := Same.upd (o := .lst []) hq
  have hF1 := hF.same s1
  have sT : SameT H (upd (upd H q (.lst [])) F.L (.lst (F.ps.map V.ref ++ [.ref q]))) := (sameT_of s1).trans (sameT_upd hF1.hL)
  have here : ∀ a ∈ F.own, a ≠ q := fun a ha e => by
    obtain ⟨xs, e'⟩ := hF.here a ha
    rw [e, hq] at e'
    cases e'
  have nd' := nd
  unfold Fr.own at nd'
  obtain ⟨m1, m2⟩ := List.nodup_cons.mp nd'
  obtain ⟨m3, m4⟩ := List.nodup_cons.mp m2
  refine ⟨{ F with ps := F.ps ++ [q], rss := F.rss ++ [[]] }, ?_⟩
  refine h.last (w := 0) sT (same_set (h.out.trans s1) (h.newOwn hLm)) (fun a ha => ?_) ⟨?_, sT _ _ hF.ht, ?_, ?_, ?_, .inr ⟨?_, h2⟩, hF.word, hF.things, hF.tv, hF.sv, hF.fv, ?_, ?_⟩ rfl rfl (Nat.le_refl _) (fun a ha => ?_) ?_
  · rw [upd_ne (fun e => dis a ha (by rw [e]; exact hLm))]
    refine upd_ne fun e => ?_
    have ha' : a ∈ sa :: ea :: (Gs ++ [F]).flatMap Fr.own := by
      rw [flat_snoc]
      rcases List.mem_cons.mp ha with rfl | ha
      · exact List.mem_cons_self
      rcases List.mem_cons.mp ha with rfl | ha
      · exact List.mem_cons_of_mem _ List.mem_cons_self
      · exact List.mem_cons_of_mem _ (List.mem_cons_of_mem _ (List.mem_append_left _ ha))
    obtain ⟨xs, e'⟩ := h.there a ha'
    rw [e, hq] at e'
    cases e'
  · show upd _ F.L _ F.f = _
    rw [upd_ne (fun e => m1 (by rw [e]; exact List.mem_cons_self))]
    exact hF1.hf
  · show upd _ F.L _ F.L = some (.lst ((F.ps ++ [q]).map V.ref))
    rw [upd_same, List.map_append]; rfl
  · intro i p rs hp hr
    have hp0 : (F.ps ++ [q])[i]? = some p := hp
    have hr0 : (F.rss ++ [[]])[i]? = some rs := hr
    rcases get_snoc hp0 with ⟨hlt, hp2⟩ | ⟨rfl, rfl⟩
    · rw [List.getElem?_append_left (by have := hF.len; omega)] at hr0
      rw [upd_ne (fun e => m3 (by rw [← e]; exact List.mem_of_getElem? hp2))]
      exact hF1.hp i p rs hp2 hr0
    · rw [hF.len, get_last] at hr0
      cases hr0
      rw [upd_ne (fun e => here F.L hLm e.symm)]
      exact upd_same
  · show (F.ps ++ [q]).length = (F.rss ++ [[]]).length
    rw [List.length_append, List.length_append, hF.len]; rfl
  · show (F.ps ++ [q]).length = 2
    rw [List.length_append, h1]; rfl
  · intro rs hrs r hr
    rcases List.mem_append.mp hrs with hrs | hrs
    · exact (hF.rows rs hrs r hr).sameT sT
    · rw [List.mem_singleton.mp hrs] at hr; cases hr
  · have hw := hF.wt
    have e : ∀ G : Hp, SameT H G → (((F.rss ++ [[]]).flatMap fun (r : List V) => r.flatMap (rowF (22 - Gs.length) G))) = F.rss.flatMap fun r => r.flatMap (rowF (22 - Gs.length) H) := by
      intro G s
      rw [List.flatMap_append]
      simp only [List.flatMap_cons, List.flatMap_nil, List.append_nil]
      exact flatMap_congr' fun rs' hrs => flatMap_congr' fun r hr => rowF_sameT s (hF.rows rs' hrs r hr)
    show ((F.rss ++ [[]]).flatMap fun (r : List V) => r.flatMap (rowF (22 - Gs.length) _)).length ≤ F.c
    rw [e _ sT]; exact hw
  · have ha' : a ∈ F.f :: F.L :: (F.ps ++ [q]) := ha
    rcases List.mem_cons.mp ha' with rfl | ha'
    · exact .inl List.mem_cons_self
    rcases List.mem_cons.mp ha' with rfl | ha'
    · exact .inl hLm
    rcases List.mem_append.mp ha' with ha' | ha'
    · exact .inl (List.mem_cons_of_mem _ (List.mem_cons_of_mem _ ha'))
    · rw [List.mem_singleton.mp ha']; exact .inr hq
  · show (F.f :: F.L :: (F.ps ++ [q])).Nodup
    refine List.nodup_cons.mpr ⟨fun hm => ?_, List.nodup_cons.mpr ⟨fun hm => ?_, List.nodup_append.mpr ⟨m4, by simp, fun a ha b hb e => ?_⟩⟩⟩
    · rcases List.mem_cons.mp hm with e | hm
      · exact m1 (by rw [e]; exact List.mem_cons_self)
      rcases List.mem_append.mp hm with hm | hm
      · exact m1 (List.mem_cons_of_mem _ hm)
      · exact here F.f List.mem_cons_self (List.mem_singleton.mp hm)
    · rcases List.mem_append.mp hm with hm | hm
      · exact m3 hm
      · exact here F.L hLm (List.mem_singleton.mp hm)
    · exact here a (List.mem_cons_of_mem _ (List.mem_cons_of_mem _ ha)) (e.trans (List.mem_singleton.mp hb))
theorem SA.doPop {H0 H : Hp} {sa ea : Addr} {Gs : List Fr} {F : Fr} {c t : Nat} {R : VK} (h : SA H0 H sa ea (Gs ++ [F]) c t) (k : R (.ref F.f) (upd H sa (.lst (Gs.map fun F => V.ref F.f)))) : rPop (.ref sa) [] H R := by
  have e : (Gs ++ [F]).map (fun F => V.ref F.f) = Gs.map (fun F => V.ref F.f) ++ [.ref F.f] := by rw [List.map_append]; rfl
  refine ⟨sa, _, .ref F.f, rfl, rfl, h.hs, ?_, ?_⟩
  · rw [e, show (Gs.map (fun F => V.ref F.f) ++ [V.ref F.f]).length - 1 = (Gs.map (fun F => V.ref F.f)).length by rw [List.length_append]; rfl]
    exact get_last
  · rw [e, List.dropLast_concat]; exact k
theorem SA.putRow {K : PySem.W.Frag} {H0 H : Hp} {sa ea : Addr} {Gs : List Fr} {G : Fr} {c t : Nat} {mt : V → Hp → Prop} {R : V → V → Hp → Prop} {N : VK} (h : SA H0 H sa ea (Gs ++ [G]) c t) (hm : ∀ p xs H1, SqL K H1 p xs → mt (.ref p) H1)
    (k : ∀ p : Addr, (∀ (y : V) (H1 : Hp), Same H H1 → RowOk (22 - Gs.length) H1 y → c ≤ 500 → (∀ H' G', SA H0 H' sa ea (Gs ++ [G']) (c + (rowF (22 - Gs.length) H1 y).length) t → N .non H') → rAppend (.ref p) [y] H1 N) → R (.ref p) (.ref p) H) :
    rIxL K (.ref sa) (.int (-1)) H fun x H1 => rIxL K x (.int 2) H1 fun x H1 => rIxL K x (.int (-1)) H1 fun x H1 => mt x H1 ∧ R x x H1 := by
  have hF := h.top
  obtain ⟨qs, p, rss0, rs, e1, e2, e3⟩ := hF.lastP
  refine h.readTop (hF.readL (hF.readP e1 ⟨?_, k p fun y H1 s hy hc k2 => ?_⟩))
  · exact hm p _ _ (SqL.of (hF.hp qs.length p rs (by rw [e1]; exact get_last) (by rw [e2, e3]; exact get_last)))
  · obtain ⟨a1, a2, F', a3⟩ := (h.same s).addRow e1 e2 e3 hy
    exact ⟨p, rs, y, rfl, rfl, a1, Nat.lt_of_le_of_lt (Nat.le_trans a2 hc) (show 500 < sizeLine by decide), k2 _ F' a3⟩
theorem SA.closeIn {K : PySem.W.Frag} {H0 H : Hp} {sa ea : Addr} {Gs : List Fr} {F : Fr} {c t : Nat} {mt : V → Hp → Prop} {N : VK} {E : XK} (h : SA H0 H sa ea (Gs ++ [F]) c t) (hg : 0 < Gs.length) (hc : c ≤ 400) (hm : ∀ p xs H1, SqL K H1 p xs → mt (.ref p) H1)
    (k : ∀ (H' : Hp) (Gs' : List Fr), Gs'.length = Gs.length → SA H0 H' sa ea Gs' (c + 1) t → N .non H') :
    rPop (.ref sa) [] H fun x H1 => spClosed [x] H1 (fun y H1 => rIxL K (.ref sa) (.int (-1)) H1 fun x H1 => rIxL K x (.int 2) H1 fun x H1 => rIxL K x (.int (-1)) H1 fun x H1 => mt x H1 ∧ rAppend x [y] H1 N) E := by
  obtain ⟨c', hc', hS', hF', hz⟩ := h.pop
  have hl := h.le
  rw [List.length_append] at hl
  simp only [List.length_cons, List.length_nil] at hl
  refine h.doPop ⟨F, _, rfl, hF', by omega, fun v H2 hmade s2 => ?_⟩
  rcases hmade with ⟨e, _⟩ | ⟨_, hrow, hw⟩
  · exact absurd (hz.mp e) (by omega)
  have hS2 := hS'.same s2
  clear hS' hF' s2 h
  obtain ⟨Gs', G, rfl⟩ := snoc_of hg
  have hlen : (Gs' ++ [G]).length = Gs'.length + 1 := by rw [List.length_append]; rfl
  rw [hlen] at hrow hw hl
  rw [show 22 - (Gs'.length + 1) + 1 = 22 - Gs'.length by omega] at hrow hw
  refine hS2.putRow (R := fun x _ H1 => rAppend x [v] H1 N) hm fun p add => add v H2 (Same.refl _) hrow (by omega) fun H' G' hS3 => ?_
  refine k H' (Gs' ++ [G']) ?_ (hS3.mono (by omega) (Nat.le_refl _))
  rw [hlen, List.length_append]; rfl
def spProgram : Sp := fun vs H Q _ => ∃ (ca na : Addr) (d : Bool) (ns : List Int), vs = [.ref ca, .ref na, .bl d] ∧ H ca = some (.lst (ns.map V.int)) ∧ ns.length ≤ 63 ∧ NamesAt H na ∧
  ∀ (p : Addr) (es : List V) (H' : Hp), H p = none → H' p = some (.tup es) → (∀ e ∈ es, ErrAt 22 100 H' e) → es.length ≤ 64 → Same H H' → Q (.ref p) H'
def spLaw (K : PySem.W.Frag) : Sp := fun vs H Q _ => ∃ (a : Addr) (ns : List Int), vs = [.ref a] ∧ SqL K H a (ns.map V.int) ∧ ns.length ≤ 63 ∧ ∀ H', Q (.bl true) H'
theorem cut_ints (ns : List Int) (lo hi : Option Int) : ∃ ms : List Int, cutV (ns.map V.int) lo hi = ms.map V.int ∧ ms.length ≤ ns.length := by
  unfold cutV
  refine ⟨(ns.drop (HT.sIx (ns.map V.int).length 0 lo)).take (HT.sIx (ns.map V.int).length (ns.map V.int).length hi - HT.sIx (ns.map V.int).length 0 lo), by rw [List.map_take, List.map_drop], ?_⟩
  rw [List.length_take, List.length_drop]
  omega
theorem SA.first {H G4 : Hp} {ea sa : Addr} {F : Fr} (hea : H ea = none) (hn : NewFr (upd H ea (.lst [])) G4 F) (hz : F.z = "errand") (hsa : G4 sa = none) : SA H (upd G4 sa (.lst [.ref F.f])) sa ea [F] 0 0 := by
  obtain ⟨hF, hnd, hno, hc, s⟩ := hn
  have s1 := Same.upd (o := .lst []) hea
  have s3 := Same.upd (o := .lst [.ref F.f]) hsa
  have out := (s1.trans s).trans s3
  have hea4 := s ea _ upd_same
  have e : [F].flatMap Fr.own = F.own := by simp
  have n1 : sa ∉ F.own := fun hm => by
    obtain ⟨xs, q⟩ := (hF 0).here sa hm
    rw [hsa] at q
    cases q
  have n2 : sa ≠ ea := fun q => by rw [q, hea4] at hsa; cases hsa
  have n3 : ea ∉ F.own := fun hm => by
    have q := hno ea hm
    rw [upd_same] at q
    cases q
  refine ⟨out, ?_, upd_same, ⟨[], s3 _ _ hea4, Nat.le_refl _, fun _ h => nomatch h⟩, (show 1 ≤ 21 by decide), ?_, ?_, ?_⟩
  · intro a ha
    rw [e] at ha
    rcases List.mem_cons.mp ha with rfl | ha
    · exact (s1.trans s).free hsa
    rcases List.mem_cons.mp ha with rfl | ha
    · exact hea
    · exact s1.free (hno a ha)
  · intro i X hi
    cases i with
    | zero =>
      cases hi
      exact ⟨(hF _).same s3, fun _ => rfl, fun _ => hz⟩
    | succ i => cases hi
  · rw [e]
    refine List.nodup_cons.mpr ⟨fun hm => ?_, List.nodup_cons.mpr ⟨n3, hnd⟩⟩
    rcases List.mem_cons.mp hm with q | hm
    · exact n2 q
    · exact n1 hm
  · rw [List.map_cons, List.map_nil, List.sum_cons, List.sum_nil, hc]
    exact Nat.le_refl _
def lenAt (H : Hp) (a : Addr) : Nat := match H a with
  | some (.lst xs) => xs.length
  | _ => 0
theorem lenAt_of {H : Hp} {a : Addr} {xs : List V} (h : H a = some (.lst xs)) : lenAt H a = xs.length := by unfold lenAt; rw [h]
theorem RowOk.partsRef {m : Nat} {H : Hp} {y : V} (h : RowOk m H y) : ∀ p ∈ partsF H y, ∃ a, p = V.ref a := by
  intro p hp
  cases m with
  | zero => exact h.elim
  | succ m =>
    obtain ⟨b, _, e, _⟩ := h.parts_ok p hp
    exact ⟨b, e⟩
def txt : V → Str
  | .int n => (toString n : String)
  | .str z => z
  | _ => ""
def isR : V → Bool
  | .ref _ => true
  | _ => false
theorem TV.notR {v : V} (h : TV v) : isR v = false := by
  rcases h with ⟨n, rfl, _⟩ | ⟨z, rfl, _⟩ <;> rfl
def wordsF (z : Str) (r : List V) : List Str :=
  if z = "begin" then
    match r with
    | [.str a, .str b, .str c, .int l] => [("begin" : Str), a, b, "in", c] ++ (if l = 0 then [] else [("within" : Str), txt (.int l)])
    | _ => []
  else if z = "try" then ["try"] else z :: ((r.filter fun v => !isR v).map txt)
def rowZ (H : Hp) : V → Str × List V
  | .ref a => match H a with
    | some (.tup (.str z :: _ :: r)) => (z, r)
    | _ => ("", [])
  | _ => ("", [])
theorem rowZ_of {H : Hp} {a : Addr} {z : Str} {x : V} {r : List V} (h : H a = some (.tup (.str z :: x :: r))) : rowZ H (.ref a) = (z, r) := by
  show (match H a with | some (.tup (.str z :: _ :: r)) => (z, r) | _ => ("", [])) = _
  rw [h]
def rowWords (H : Hp) (v : V) : List Str := wordsF (rowZ H v).1 (rowZ H v).2
def elems (H : Hp) : V → List V
  | .ref a => match H a with
    | some (.tup ys) => ys
    | _ => []
  | _ => []
theorem elems_of {H : Hp} {a : Addr} {ys : List V} (h : H a = some (.tup ys)) : elems H (.ref a) = ys := by
  show (match H a with | some (.tup ys) => ys | _ => []) = _
  rw [h]
def turnF (H : Hp) (v : V) : List (List Str) :=
  if (rowZ H v).1 = "try" then [[("but" : Str), txt ((rowZ H v).2.getD 1 .non)]] else if (rowZ H v).1 = "do" then [["last"]] else if elems H ((rowZ H v).2.getD 2 .non) = [] then [] else [["late"]]
abbrev Ln := Nat × List Str
def lnsL (f : V → List Ln) (tn en : List Ln) : Bool → List V → List Ln
  | w, [] => if w then en else []
  | w, x :: r => if isR x then (if w then tn else []) ++ (f x ++ lnsL f tn en true r) else lnsL f tn en w r
theorem lnsL_no {f : V → List Ln} {tn en : List Ln} {w : Bool} {x : V} {r : List V} (h : isR x = false) : lnsL f tn en w (x :: r) = lnsL f tn en w r := by
  show (if isR x then _ else _) = _
  rw [if_neg (by rw [h]; exact Bool.false_ne_true)]
theorem lnsL_ref {f : V → List Ln} {tn en : List Ln} {w : Bool} {a : Addr} {r : List V} : lnsL f tn en w (.ref a :: r) = (if w then tn else []) ++ (f (.ref a) ++ lnsL f tn en true r) := rfl
theorem lnsL_congr {f g : V → List Ln} {tn en : List Ln} : ∀ {r : List V} {w : Bool}, (∀ x ∈ r, isR x = true → f x = g x) → lnsL f tn en w r = lnsL g tn en w r
  | [], _, _ => rfl
  | x :: r, w, h => by
    cases e : isR x with
    | false => rw [lnsL_no e, lnsL_no e]; exact lnsL_congr fun y hy => h y (List.mem_cons_of_mem _ hy)
    | true =>
      cases x with
      | ref a => rw [lnsL_ref, lnsL_ref, h _ List.mem_cons_self rfl, lnsL_congr fun y hy => h y (List.mem_cons_of_mem _ hy)]
      | _ => cases e
theorem lnsL_len {f g : V → List Ln} {tn en tn' en' : List Ln} (ht : tn.length = tn'.length) (he : en.length = en'.length) : ∀ {r : List V} {w : Bool}, (∀ x ∈ r, isR x = true → (f x).length = (g x).length) → (lnsL f tn en w r).length = (lnsL g tn' en' w r).length
  | [], w, _ => by
    cases w with
    | false => rfl
    | true => exact he
  | x :: r, w, h => by
    cases e : isR x with
    | false => rw [lnsL_no e, lnsL_no e]; exact lnsL_len ht he fun y hy => h y (List.mem_cons_of_mem _ hy)
    | true =>
      cases x with
      | ref a =>
        rw [lnsL_ref, lnsL_ref, List.length_append, List.length_append, List.length_append, List.length_append, h _ List.mem_cons_self rfl, lnsL_len ht he fun y hy => h y (List.mem_cons_of_mem _ hy)]
        cases w <;> simp [ht]
      | _ => cases e
theorem lnsL_filter {f : V → List Ln} {tn en : List Ln} : ∀ (r : List V) (w : Bool), lnsL f tn en w (r.filter isR) = lnsL f tn en w r
  | [], _ => rfl
  | x :: r, w => by
    cases e : isR x with
    | false => rw [List.filter_cons, if_neg (by rw [e]; exact Bool.false_ne_true), lnsL_no e]; exact lnsL_filter r w
    | true =>
      rw [List.filter_cons, if_pos e]
      cases x with
      | ref a => rw [lnsL_ref, lnsL_ref, lnsL_filter r true]
      | _ => cases e
def rowLn (f : V → Nat → List Ln) (H : Hp) (y : V) (d : Nat) : List Ln := (d, rowWords H y) :: lnsL (fun p => f p (d + 1)) ((turnF H y).map fun ws => (d, ws)) [(d, ["end"])] false (rowZ H y).2
def linesF : Nat → Hp → V → Nat → List Ln
  | 0, _, _, _ => []
  | n + 1, H, v, d => (elems H v).flatMap fun y => rowLn (linesF n H) H y d
theorem linesF_len (n : Nat) (H : Hp) : ∀ (v : V) (d e : Nat), (linesF n H v d).length = (linesF n H v e).length := by
  induction n with
  | zero => intro v d e; rfl
  | succ n ih =>
    intro v d e
    show ((elems H v).flatMap fun y => rowLn (linesF n H) H y d).length = ((elems H v).flatMap fun y => rowLn (linesF n H) H y e).length
    rw [List.length_flatMap, List.length_flatMap]
    congr 1
    refine List.map_congr_left fun y _ => ?_
    unfold rowLn
    have := lnsL_len (f := fun p => linesF n H p (d + 1)) (g := fun p => linesF n H p (e + 1)) (tn := (turnF H y).map fun ws => (d, ws)) (tn' := (turnF H y).map fun ws => (e, ws)) (en := [(d, ["end"])]) (en' := [(e, ["end"])]) (by rw [List.length_map, List.length_map]) rfl (r := (rowZ H y).2) (w := false) fun x _ _ => ih x _ _
    rw [List.length_cons, List.length_cons, this]
inductive Tr where
  | i (n : Int)
  | s (z : Str)
  | t (ts : List Tr)
def trV : V → Tr
  | .int n => .i n
  | .str z => .s z
  | _ => .t []
def fldN (num : V → Nat → Tr) (len : V → Nat) (tn : Nat) : Bool → Nat → List V → List Tr
  | _, _, [] => []
  | w, c, x :: r => if isR x then num x (if w then c + tn else c) :: fldN num len tn true ((if w then c + tn else c) + len x) r else trV x :: fldN num len tn w c r
def numL (f : V → Nat → Tr) (len : V → Nat) : Nat → List V → List Tr
  | _, [] => []
  | k, y :: r => f y k :: numL f len (k + len y) r
def rowN (num : V → Nat → Tr) (len : V → Nat) (H : Hp) (y : V) (k : Nat) : Tr := .t (.s (rowZ H y).1 :: .i (k + 1 : Nat) :: fldN num len (turnF H y).length false (k + 1) (rowZ H y).2)
def numF : Nat → Hp → V → Nat → Tr
  | 0, _, _, _ => .t []
  | n + 1, H, v, k => .t (numL (rowN (numF n H) (fun p => (linesF n H p 0).length) H) (fun y => (rowLn (linesF n H) H y 0).length) k (elems H v))
def RepT : Nat → Hp → V → Tr → Prop
  | 0, _, v, t => match t with
    | .i n => v = .int n
    | .s z => v = .str z
    | .t _ => False
  | m + 1, H, v, t => match t with
    | .i n => v = .int n
    | .s z => v = .str z
    | .t ts => ∃ (a : Addr) (xs : List V), v = .ref a ∧ H a = some (.tup xs) ∧ xs.length = ts.length ∧ ts.length ≤ 100000 ∧ ∀ (i : Nat) (x : V) (t : Tr), xs[i]? = some x → ts[i]? = some t → RepT m H x t
theorem RepT.sameT {H H' : Hp} (s : SameT H H') : ∀ {m : Nat} {v : V} {t : Tr}, RepT m H v t → RepT m H' v t
  | 0, _, .i _, h => h
  | 0, _, .s _, h => h
  | _ + 1, _, .i _, h => h
  | _ + 1, _, .s _, h => h
  | 0, _, .t _, h => h
  | m + 1, v, .t ts, h => by
    obtain ⟨a, xs, e1, e2, e3, e4, e5⟩ := h
    exact ⟨a, xs, e1, s _ _ e2, e3, e4, fun i x t hx ht => (e5 i x t hx ht).sameT s⟩
theorem RepT.tv {m : Nat} {H : Hp} {v : V} (h : TV v) : RepT m H v (trV v) := by
  rcases h with ⟨n, rfl, _⟩ | ⟨z, rfl, _⟩ <;> cases m <;> rfl
theorem RowSh.z {z : Str} {r : List V} (h : RowSh z r) : ∃ ln r', r = .int ln :: r' := by
  obtain ⟨ln, r', e, _⟩ := h
  exact ⟨ln, r', e⟩
theorem RowOk.zOf {n : Nat} {H : Hp} {v : V} (h : RowOk n H v) : ∃ (a : Addr) (ln : Int), v = .ref a ∧ H a = some (.tup (.str (rowZ H v).1 :: .int ln :: (rowZ H v).2)) := by
  cases n with
  | zero => exact h.elim
  | succ n =>
    obtain ⟨a, z, r, rfl, e2, e3, _⟩ := h
    obtain ⟨ln, r', rfl⟩ := e3.z
    rw [rowZ_of e2]
    exact ⟨a, ln, rfl, e2⟩
theorem RowOk.z_same {n : Nat} {H H' : Hp} {v : V} (h : RowOk n H v) (s : SameT H H') : rowZ H' v = rowZ H v := by
  obtain ⟨a, ln, rfl, e⟩ := h.zOf
  exact rowZ_of (s _ _ e)
theorem parts_isR {z : Str} {r th : List V} {fa : V} {bs : List Addr} (B : BlkSh z r th fa bs) : r.filter isR = bs.map V.ref := by
  have f0 : ∀ {xs : List V}, (∀ t ∈ xs, TV t) → xs.filter isR = [] := fun h => List.filter_eq_nil_iff.mpr fun x hx => by rw [(h x hx).notR]; exact Bool.false_ne_true
  have f1 : ∀ ys : List Addr, (ys.map V.ref).filter isR = ys.map V.ref := fun ys => List.filter_eq_self.mpr fun x hx => by
    obtain ⟨b, _, rfl⟩ := List.mem_map.mp hx
    rfl
  rw [B.e, List.filter_append, f0 B.tv, List.nil_append]
  by_cases ez : z = "try"
  · rw [if_pos ez]
    obtain ⟨b0, b1, rfl⟩ := len2 (B.two (.inl ez))
    obtain ⟨y, hy, _⟩ := B.fv ez
    rw [hy]
    rfl
  · rw [if_neg ez]; exact f1 bs
theorem RowOk.parts_eq {n : Nat} {H : Hp} {v : V} (h : RowOk n H v) : partsF H v = (rowZ H v).2.filter isR := by
  cases n with
  | zero => exact h.elim
  | succ n =>
    obtain ⟨a, z, r, rfl, e2, e3, _, _⟩ := h
    obtain ⟨ln, r', rfl, P | ⟨th, fa, bs, B⟩⟩ := e3
    · rw [partsF_of e2, rowZ_of e2, rowParts_str, P.p]
      show [] = r'.filter isR
      refine (List.filter_eq_nil_iff.mpr fun x hx => ?_).symm
      rw [(P.tv x hx).notR]; exact Bool.false_ne_true
    · rw [partsF_of e2, rowZ_of e2, (made_shape B).1]
      exact (parts_isR B).symm
theorem RowOk.part_ok {n : Nat} {H : Hp} {v : V} (h : RowOk (n + 1) H v) : ∀ p ∈ (rowZ H v).2, isR p = true → RowsOk n H p := fun p hp e => h.parts_ok p (by rw [h.parts_eq]; exact List.mem_filter.mpr ⟨hp, e⟩)
theorem RowsOk.elems_same {n : Nat} {H H' : Hp} {v : V} (h : RowsOk n H v) (s : SameT H H') : elems H' v = elems H v := by
  obtain ⟨b, ys, rfl, e, _⟩ := h
  rw [elems_of e, elems_of (s _ _ e)]
theorem elems_no {H : Hp} {x : V} (h : isR x = false) : elems H x = [] := by
  cases x <;> first | rfl | cases h
theorem RowOk.turn_same {n : Nat} {H H' : Hp} {v : V} (h : RowOk (n + 1) H v) (s : SameT H H') : turnF H' v = turnF H v := by
  unfold turnF
  rw [h.z_same s]
  have e : elems H' ((rowZ H v).2.getD 2 .non) = elems H ((rowZ H v).2.getD 2 .non) := by
    cases e : isR ((rowZ H v).2.getD 2 .non) with
    | false => rw [elems_no e, elems_no e]
    | true =>
      refine (h.part_ok _ ?_ e).elems_same s
      rw [List.getD_eq_getElem?_getD] at e ⊢
      cases q : (rowZ H v).2[2]? with
      | none => rw [q] at e; cases e
      | some x => exact List.mem_of_getElem? q
  rw [e]
theorem rowLn_same {f g : V → Nat → List Ln} {n : Nat} {H H' : Hp} {y : V} (h : RowOk (n + 1) H y) (s : SameT H H') (d : Nat) (e : ∀ p, RowsOk n H p → ∀ d, f p d = g p d) : rowLn f H' y d = rowLn g H y d := by
  unfold rowLn rowWords
  rw [h.z_same s, h.turn_same s]
  congr 1
  exact lnsL_congr fun x hx hr => e x (h.part_ok x hx hr) _
theorem lines_sameT {H H' : Hp} (s : SameT H H') : ∀ {n : Nat} {v : V}, RowsOk n H v → ∀ d, linesF (n + 1) H' v d = linesF (n + 1) H v d := by
  intro n
  induction n with
  | zero =>
    intro v h d
    obtain ⟨b, ys, rfl, e2, e3⟩ := id h
    show (elems H' _).flatMap _ = (elems H _).flatMap _
    rw [h.elems_same s]
    exact flatMap_congr' fun y hy => by rw [elems_of e2] at hy; exact (e3 y hy).elim
  | succ n ih =>
    intro v h d
    obtain ⟨b, ys, rfl, e2, e3⟩ := id h
    show (elems H' _).flatMap _ = (elems H _).flatMap _
    rw [h.elems_same s]
    refine flatMap_congr' fun y hy => ?_
    rw [elems_of e2] at hy
    exact rowLn_same (e3 y hy) s d fun p hp d => ih hp d
theorem fldN_congr {num num' : V → Nat → Tr} {len len' : V → Nat} {tn : Nat} : ∀ {r : List V} {w : Bool} {c : Nat}, (∀ x ∈ r, isR x = true → len x = len' x ∧ ∀ k, num x k = num' x k) → fldN num len tn w c r = fldN num' len' tn w c r
  | [], _, _, _ => rfl
  | x :: r, w, c, h => by
    unfold fldN
    by_cases e : isR x = true
    · rw [if_pos e, if_pos e, (h x List.mem_cons_self e).1, (h x List.mem_cons_self e).2, fldN_congr fun y hy => h y (List.mem_cons_of_mem _ hy)]
    · rw [if_neg e, if_neg e, fldN_congr fun y hy => h y (List.mem_cons_of_mem _ hy)]
theorem numL_congr {f f' : V → Nat → Tr} {len len' : V → Nat} : ∀ {ys : List V} {k : Nat}, (∀ y ∈ ys, len y = len' y ∧ ∀ k, f y k = f' y k) → numL f len k ys = numL f' len' k ys
  | [], _, _ => rfl
  | y :: r, k, h => by
    unfold numL
    rw [(h y List.mem_cons_self).1, (h y List.mem_cons_self).2, numL_congr fun x hx => h x (List.mem_cons_of_mem _ hx)]
theorem rowN_same {num num' : V → Nat → Tr} {len len' : V → Nat} {n : Nat} {H H' : Hp} {y : V} (h : RowOk (n + 1) H y) (s : SameT H H') (k : Nat) (e : ∀ p, RowsOk n H p → len p = len' p ∧ ∀ k, num p k = num' p k) : rowN num len H' y k = rowN num' len' H y k := by
  unfold rowN
  rw [h.z_same s, h.turn_same s, fldN_congr fun x hx hr => e x (h.part_ok x hx hr)]
theorem num_sameT {H H' : Hp} (s : SameT H H') : ∀ {n : Nat} {v : V}, RowsOk n H v → ∀ k, numF (n + 1) H' v k = numF (n + 1) H v k := by
  intro n
  induction n with
  | zero =>
    intro v h k
    obtain ⟨b, ys, rfl, e2, e3⟩ := id h
    show Tr.t (numL _ _ k (elems H' _)) = Tr.t (numL _ _ k (elems H _))
    rw [h.elems_same s, numL_congr fun y hy => by rw [elems_of e2] at hy; exact (e3 y hy).elim]
  | succ n ih =>
    intro v h k
    obtain ⟨b, ys, rfl, e2, e3⟩ := id h
    show Tr.t (numL _ _ k (elems H' _)) = Tr.t (numL _ _ k (elems H _))
    rw [h.elems_same s, numL_congr fun y hy => ?_]
    rw [elems_of e2] at hy
    refine ⟨by rw [rowLn_same (g := linesF (n + 1) H) (e3 y hy) s 0 fun p hp d => lines_sameT s hp d], fun k => rowN_same (e3 y hy) s k fun p hp => ⟨by rw [lines_sameT s hp], fun k => ih hp k⟩⟩
def spHead : Sp := fun vs H Q _ => ∃ (v : V) (n : Nat), vs = [v] ∧ RowOk (n + 1) H v ∧ ∀ (l : Addr) (ws : List V) (H' : Hp), H l = none → H' l = some (.lst ws) → (∀ x ∈ ws, TV x) → ws.map txt = rowWords H v → ws.length ≤ 7 → Same H H' → Q (.ref l) H'
def spBegin : Sp := fun vs H Q _ => ∃ (p : Addr) (ln : Int) (a b c : Str) (l : Int), vs = [.ref p] ∧ H p = some (.tup [.str "begin", .int ln, .str a, .str b, .str c, .int l]) ∧ a.length ≤ 60 ∧ b.length ≤ 60 ∧ c.length ≤ 60 ∧ 0 ≤ l ∧ l < 10000000 ∧ ∀ (q : Addr) (ws : List V) (H' : Hp), H q = none → H' q = some (.lst ws) → (∀ x ∈ ws, TV x) → ws.map txt = wordsF "begin" [.str a, .str b, .str c, .int l] → ws.length ≤ 7 → Same H H' → Q (.ref q) H'
def spTurnW : Sp := fun vs H Q _ => ∃ (v : V) (n : Nat), vs = [v] ∧ RowOk (n + 1) H v ∧ twoW (rowZ H v).1 ∧ ∀ (l : Addr) (ws : List V) (H' : Hp), H l = none → H' l = some (.lst ws) → (∀ x ∈ ws, TV x) → turnF H v = (if ws = [] then [] else [ws.map txt]) → ws.length ≤ 2 → Same H H' → Q (.ref l) H'
def spWords : Sp := fun vs H Q _ => ∃ (v : V) (n : Nat), vs = [v] ∧ RowOk (n + 1) H v ∧ ∀ (l : Addr) (H' : Hp), H l = none → H' l = some (.lst ((rowWords H v).map V.str)) → Same H H' → Q (.ref l) H'
def spTurning : Sp := fun vs H Q _ => ∃ (v : V) (n : Nat) (t : List Str), vs = [v] ∧ RowOk (n + 1) H v ∧ twoW (rowZ H v).1 ∧ turnF H v = [t] ∧ ∀ (l : Addr) (H' : Hp), H l = none → H' l = some (.lst (t.map V.str)) → Same H H' → Q (.ref l) H'
theorem iteT {c A B : Prop} [Decidable c] (hc : c) (h : A) : if c then A else B := by rw [if_pos hc]; exact h
theorem iteF {c A B : Prop} [Decidable c] (hc : ¬ c) (h : B) : if c then A else B := by rw [if_neg hc]; exact h
structure RI (n : Nat) (H : Hp) (v : V) (a : Addr) (z : Str) (ln : Int) (r : List V) : Prop where
  e : v = .ref a
  h : H a = some (.tup (.str z :: .int ln :: r))
  zr : rowZ H v = (z, r)
  zl : z.length ≤ 10
  len : r.length ≤ 4
  each : ∀ x ∈ r, (isR x = true ∧ RowsOk n H x) ∨ TV x
  sh : PlnSh z r ∨ ∃ th fa bs, BlkSh z r th fa bs
theorem word_le {z : Str} (h : wordW z) : z.length ≤ 10 := by
  rcases h with rfl | rfl | rfl | rfl | rfl | rfl | rfl | rfl <;> decide +kernel
theorem RowOk.ri {n : Nat} {H : Hp} {v : V} (h : RowOk (n + 1) H v) : ∃ a z ln r, RI n H v a z ln r := by
  obtain ⟨a, z, r, rfl, e2, e3, e4, _⟩ := id h
  obtain ⟨ln, r', rfl, hS⟩ := e3
  have eZ := rowZ_of e2
  have ep : ∀ x ∈ r', isR x = true → RowsOk n H x := fun x hx hr => h.part_ok x (by rw [eZ]; exact hx) hr
  refine ⟨a, z, ln, r', rfl, e2, eZ, ?_, ?_, fun x hx => ?_, hS⟩
  · rcases hS with P | ⟨th, fa, bs, B⟩
    · exact P.l
    · exact word_le B.w
  · rcases hS with P | ⟨th, fa, bs, B⟩
    · exact P.rl
    · have := (made_shape (i := ln) B).2
      have hz : lenOf z ≤ 5 := by
        rcases B.w with rfl | rfl | rfl | rfl | rfl | rfl | rfl | rfl <;> decide +kernel
      rw [List.length_cons] at this
      omega
  · cases e : isR x with
    | true => exact .inl ⟨rfl, ep x hx e⟩
    | false =>
      refine .inr ?_
      rcases hS with P | ⟨th, fa, bs, B⟩
      · exact P.tv x hx
      · rw [B.e] at hx
        rcases List.mem_append.mp hx with hx | hx
        · exact B.tv x hx
        · by_cases ez : z = "try"
          · rw [if_pos ez] at hx
            obtain ⟨b0, b1, rfl⟩ := len2 (B.two (.inl ez))
            simp only [tryL, List.mem_cons, List.not_mem_nil, or_false] at hx
            rcases hx with rfl | rfl | rfl
            · cases e
            · exact (B.fv ez).tv
            · cases e
          · rw [if_neg ez] at hx
            obtain ⟨b, _, rfl⟩ := List.mem_map.mp hx
            cases e
theorem RI.ix {K : PySem.W.Frag} {n : Nat} {H G : Hp} {v : V} {a : Addr} {z : Str} {ln : Int} {r : List V} {R : VK} (I : RI n H v a z ln r) (j : Nat) (x : V) (hx : (V.str z :: .int ln :: r)[j]? = some x) (s : Same H G) (q : R x G) : rIxT K v (.int (j : Nat)) G R := by
  obtain rfl := I.e
  exact ⟨a, _, _, x, rfl, rfl, SqT.of (s _ _ I.h), atI_nat hx, q⟩
theorem RI.words {n : Nat} {H : Hp} {v : V} {a : Addr} {z : Str} {ln : Int} {r : List V} (I : RI n H v a z ln r) : rowWords H v = wordsF z r := by
  unfold rowWords
  rw [I.zr]
theorem slFrom2 {K : PySem.W.Frag} {G : Hp} {a : Addr} {x y : V} {r : List V} {R : VK} (h : G a = some (.tup (x :: y :: r))) (k : ∀ q G', G q = none → Same G G' → G' q = some (.tup r) → R (.ref q) G') : rSlTW K (.ref a) (some 2) none G R := by
  have e1 : HT.sIx (x :: y :: r).length 0 (some 2) = 2 := (HT.sIx_nat _ _ 2).trans (by rw [List.length_cons, List.length_cons]; omega)
  refine ⟨a, _, rfl, SqT.of h, fun hw => ?_, fun hw q hq => k q _ hq (Same.upd hq) ?_⟩
  · exfalso
    have := hw.1
    rw [e1] at this
    omega
  · rw [upd_same]
    unfold cutV
    have e2 : HT.sIx (x :: y :: r).length (x :: y :: r).length none = (x :: y :: r).length := rfl
    rw [e1, e2]
    congr 2
    show List.take ((r.length + 1 + 1) - 2) r = r
    rw [show r.length + 1 + 1 - 2 = r.length by omega, List.take_length]
theorem neNilT {K : PySem.W.Frag} {G : Hp} {b : Addr} {ys : List V} {R : VK} (h : G b = some (.tup ys)) (k : ∀ G', Same G G' → R (.bl (!decide (ys = []))) G') : 0 ≤ sizeLine ∧ ∀ p, G p = none → rEqT K true (.ref b) (.ref p) (upd G p (.tup [])) R := by
  refine ⟨by decide, fun p hp => ⟨b, p, ys, [], 0, fun _ => true, rfl, rfl, SqT.of ((Same.upd hp) _ _ h), SqT.of upd_same, by decide, (fun i x y _ hy => by cases hy), ?_⟩⟩
  have e : (true ^^ ((List.range (min ys.length ([] : List V).length)).all fun _ => true) && ys.length == ([] : List V).length) = !decide (ys = []) := by
    cases ys with
    | nil => rfl
    | cons z r => simp
  rw [e]
  exact k _ (Same.upd hp)
theorem neNilL {K : PySem.W.Frag} {G : Hp} {a : Addr} {xs : List V} {R : VK} (h : G a = some (.lst xs)) (k : ∀ G', Same G G' → R (.bl (!decide (xs = []))) G') : 0 ≤ sizeLine ∧ ∀ p, G p = none → rEqL K true (.ref a) (.ref p) (upd G p (.lst [])) R := by
  refine ⟨by decide, fun p hp => ⟨a, p, _, [], 0, fun _ => true, rfl, rfl, SqL.of ((Same.upd hp) _ _ h), SqL.of upd_same, by decide, (fun i x y _ hy => by cases hy), ?_⟩⟩
  have e : (true ^^ (decide (xs.length = ([] : List V).length) && (List.range xs.length).all fun _ => true)) = !decide (xs = []) := by
    cases xs with
    | nil => rfl
    | cons z r => simp
  rw [e]
  exact k _ (Same.upd hp)
theorem log_lt {n : Int} (h0 : 0 ≤ n) (h1 : n < 10000000) : n.natAbs.log2 < 1920 := by
  by_cases e : n.natAbs = 0
  · rw [e]; decide
  · refine (Nat.log2_lt e).mpr (Nat.lt_of_lt_of_le (show n.natAbs < 10000000 by omega) ?_)
    exact Nat.le_trans (show 10000000 ≤ 2 ^ 24 by decide) (Nat.pow_le_pow_right (show 0 < 2 by decide) (show 24 ≤ 1920 by decide))
theorem inV_strs (z : Str) (zs : List Str) : inV (.str z) (zs.map V.str) = decide (z ∈ zs) := by
  unfold inV
  rw [Bool.eq_iff_iff, List.any_eq_true, decide_eq_true_eq]
  constructor
  · rintro ⟨y, hy, q⟩
    obtain ⟨n, hn, rfl⟩ := List.mem_map.mp hy
    have : n = z := by simpa [eqV] using q
    subst this
    exact hn
  · intro h
    exact ⟨.str z, List.mem_map.mpr ⟨z, h, rfl⟩, by simp [eqV]⟩
theorem inL {K : PySem.W.Frag} {G : Hp} {p : Addr} {z : Str} {R : VK} (zs : List Str) (k : R (.bl (decide (z ∈ zs))) (upd G p (.lst (zs.map V.str)))) : rIn K false (.str z) (.ref p) (upd G p (.lst (zs.map V.str))) R := by
  refine ⟨p, _, rfl, .inl (SqL.of upd_same), rfl, flat_keys zs, ?_⟩
  rw [if_neg Bool.false_ne_true, inV_strs]
  exact k
theorem noR {z : Str} {r th : List V} {fa : V} {bs : List Addr} (B : BlkSh z r th fa bs) (hz : z ≠ "try") : r.filter (fun v => !isR v) = th := by
  rw [B.e, if_neg hz, List.filter_append]
  have f1 : (bs.map V.ref).filter (fun v => !isR v) = [] := List.filter_eq_nil_iff.mpr fun x hx => by
    obtain ⟨b, _, rfl⟩ := List.mem_map.mp hx
    exact Bool.false_ne_true
  rw [f1, List.append_nil]
  exact List.filter_eq_self.mpr fun x hx => by rw [(B.tv x hx).notR]; rfl
theorem words_blk {z : Str} {r th : List V} {fa : V} {bs : List Addr} (B : BlkSh z r th fa bs) (hz : z ≠ "try") : wordsF z r = z :: th.map txt := by
  unfold wordsF
  rw [if_neg (fun e => absurd B.w (by rw [e]; decide +kernel)), if_neg hz, noR B hz]
theorem words_pln {z : Str} {r : List V} (P : PlnSh z r) (hz : z ≠ "begin") : wordsF z r = z :: r.map txt := by
  unfold wordsF
  rw [if_neg hz, if_neg (fun e => absurd P.p (by rw [e]; decide +kernel)), List.filter_eq_self.mpr fun x hx => by rw [(P.tv x hx).notR]; rfl]
theorem TV.t {x : V} (h : TV x) {R : Str → Prop} (k : R (txt x)) : (∃ i : Int, x = .int i ∧ i.natAbs.log2 < 1920 ∧ R (Str.ofString (toString i))) ∨ ∃ z, x = .str z ∧ R z := by
  rcases h with ⟨n, rfl, h0, h1⟩ | ⟨z, rfl, _⟩
  · exact .inl ⟨n, rfl, log_lt h0 h1, k⟩
  · exact .inr ⟨z, rfl, k⟩
def But (d : Addr) (H H' : Hp) : Prop := ∀ c o, c ≠ d → H c = some o → H' c = some o
theorem But.refl (d : Addr) (H : Hp) : But d H H := fun _ _ _ h => h
theorem But.trans {d : Addr} {H H1 H2 : Hp} (a : But d H H1) (b : But d H1 H2) : But d H H2 := fun c o n h => b c o n (a c o n h)
theorem But.of {d : Addr} {H H' : Hp} (s : Same H H') : But d H H' := fun c o _ h => s c o h
theorem But.upd {d : Addr} {H : Hp} {u : HO} : But d H (L2.upd H d u) := fun c o n h => by rw [upd_ne n]; exact h
structure WAt (C : Addr) (H : Hp) (p L : Addr) (ts : List Str) : Prop where
  ob : ∃ dx, H p = some (.ins C dx [("lines", .ref L)])
  ls : H L = some (.lst (ts.map V.str))
theorem WAt.same {C : Addr} {H H' : Hp} {p L : Addr} {ts : List Str} (W : WAt C H p L ts) (s : Same H H') : WAt C H' p L ts := by
  obtain ⟨⟨dx, h⟩, e⟩ := W
  exact ⟨⟨dx, s _ _ h⟩, s _ _ e⟩
theorem WAt.but {C : Addr} {H H' : Hp} {p L : Addr} {ts ts' : List Str} (W : WAt C H p L ts) (b : But L H H') (e : H' L = some (.lst (ts'.map V.str))) : WAt C H' p L ts' := by
  obtain ⟨⟨dx, h⟩, e'⟩ := W
  exact ⟨⟨dx, b _ _ (ne_of h e' (fun z => nomatch z)) h⟩, e⟩
theorem But.sameT {L : Addr} {H H' : Hp} {xs : List V} (b : But L H H') (h : H L = some (.lst xs)) : SameT H H' := fun a ys e => b _ _ (ne_of e h (fun z => nomatch z)) e
theorem fl_at (L : Addr) : ([("lines", .ref L)] : List (Str × V)).lookup ("lines" : Str) = some (.ref L) := by
  show (putF "lines" (.ref L) []).lookup ("lines" : Str) = _
  rw [lookup_putF, if_pos rfl]
theorem fl_no (L : Addr) {m : Str} (h : ¬ m = "lines") : ([("lines", .ref L)] : List (Str × V)).lookup m = none := by
  show (putF "lines" (.ref L) []).lookup m = _
  rw [lookup_putF, if_neg h]
  rfl
def lineT (x : Ln) : Str := repS x.1 "  " ++ Txt.join " " x.2
def spInit (C : Addr) : Sp := fun vs H Q _ => ∃ (x dx : Addr), vs = [.ref x] ∧ H x = some (.ins C dx []) ∧ ∀ (L : Addr) (H' : Hp), H L = none → But x H H' → H' x = some (.ins C dx [("lines", .ref L)]) → H' L = some (.lst []) → Q .non H'
def spPutLine (C : Addr) : Sp := fun vs H Q _ => ∃ (p L : Addr) (ts : List Str) (l : Addr) (ws : List V) (d : Nat), vs = [.ref p, .ref l, .int d] ∧ WAt C H p L ts ∧ H l = some (.lst ws) ∧ (∀ x ∈ ws, TV x) ∧ ws.length ≤ 7 ∧ d ≤ 30 ∧ ts.length ≤ 60000 ∧ ∀ H', But L H H' → H' L = some (.lst ((ts ++ [lineT (d, ws.map txt)]).map V.str)) → Q (.int (ts.length + 1)) H'
def spPutTurn (C : Addr) : Sp := fun vs H Q _ => ∃ (p L : Addr) (ts : List Str) (v : V) (n d : Nat), vs = [.ref p, v, .int d] ∧ WAt C H p L ts ∧ RowOk (n + 1) H v ∧ twoW (rowZ H v).1 ∧ d ≤ 30 ∧ ts.length ≤ 60000 ∧ ∀ H', But L H H' → H' L = some (.lst ((ts ++ (turnF H v).map fun ws => lineT (d, ws)).map V.str)) → Q .non H'
theorem txt_le {v : V} (h : TV v) : (txt v).length ≤ 60 := by
  rcases h with ⟨n, rfl, h0, h1⟩ | ⟨z, rfl, h⟩
  · exact Nat.le_trans (PyProof.Rows.toString_length_le h0 (k := 7) (by decide) h1) (by decide)
  · exact h
theorem join_le (sep : Str) : ∀ zs : List Str, (Txt.join sep zs).length ≤ (zs.map (·.length)).sum + zs.length * sep.length := by
  intro zs
  show (Builtin.Str.glued _ _).length ≤ _
  rw [StrLaws.glued_eq_join]
  induction zs with
  | nil => exact Nat.zero_le _
  | cons c r ih =>
    cases r with
    | nil => show c.length ≤ _; simp
    | cons d r =>
      show (c ++ sep ++ Str.join sep (d :: r)).length ≤ _
      rw [app_len, app_len]
      rw [List.map_cons, List.sum_cons, List.length_cons, Nat.succ_mul]
      omega
theorem sum_le {zs : List Str} {b : Nat} (h : ∀ z ∈ zs, z.length ≤ b) : (zs.map (·.length)).sum ≤ zs.length * b := by
  induction zs with
  | nil => exact Nat.zero_le _
  | cons z r ih =>
    rw [List.map_cons, List.sum_cons, List.length_cons, Nat.succ_mul]
    have := h z List.mem_cons_self
    have := ih fun y hy => h y (List.mem_cons_of_mem _ hy)
    omega
theorem words_le {ws : List V} (h : ∀ x ∈ ws, TV x) (hl : ws.length ≤ 7) : ((ws.map txt).map (·.length)).sum + (ws.map txt).length * (" " : Str).length ≤ 427 := by
  have h1 := sum_le (zs := ws.map txt) (b := 60) fun z hz => by
    obtain ⟨v, hv, rfl⟩ := List.mem_map.mp hz
    exact txt_le (h v hv)
  rw [show (" " : Str).length = 1 by decide +kernel, List.length_map] at *
  omega
theorem rowLn_len (n : Nat) (H : Hp) (y : V) (d e : Nat) : (rowLn (linesF n H) H y d).length = (rowLn (linesF n H) H y e).length := by
  unfold rowLn
  have := lnsL_len (f := fun p => linesF n H p (d + 1)) (g := fun p => linesF n H p (e + 1)) (tn := (turnF H y).map fun ws => (d, ws)) (tn' := (turnF H y).map fun ws => (e, ws)) (en := [(d, ["end"])]) (en' := [(e, ["end"])]) (by rw [List.length_map, List.length_map]) rfl (r := (rowZ H y).2) (w := false) fun x _ _ => linesF_len n H x _ _
  rw [List.length_cons, List.length_cons, this]
theorem numL_len {f : V → Nat → Tr} {len : V → Nat} : ∀ {ys : List V} {k : Nat}, (numL f len k ys).length = ys.length
  | [], _ => rfl
  | _ :: r, _ => by unfold numL; rw [List.length_cons, List.length_cons, numL_len]
theorem numL_snoc {f : V → Nat → Tr} {len : V → Nat} {y : V} : ∀ {ys : List V} {k : Nat}, numL f len k (ys ++ [y]) = numL f len k ys ++ [f y (k + (ys.map len).sum)]
  | [], _ => rfl
  | x :: r, k => by
    show f x k :: numL f len (k + len x) (r ++ [y]) = f x k :: (numL f len (k + len x) r ++ _)
    rw [numL_snoc, List.map_cons, List.sum_cons, Nat.add_assoc]
def spPutRows (C : Addr) (n : Nat) : Sp := fun vs H Q _ => ∃ (p L : Addr) (ts : List Str) (v : V) (d : Nat), vs = [.ref p, v, .int d] ∧ WAt C H p L ts ∧ RowsOk n H v ∧ d + n ≤ 30 ∧ ts.length + (linesF (n + 1) H v d).length ≤ 60000 ∧
  ∀ (v' : V) (H' : Hp), But L H H' → H' L = some (.lst ((ts ++ (linesF (n + 1) H v d).map lineT).map V.str)) → RepT (2 * n + 2) H' v' (numF (n + 1) H v ts.length) → Q v' H'
def spPutRow (C : Addr) (m : Nat) : Sp := fun vs H Q _ => ∃ (p L : Addr) (ts : List Str) (v : V) (d : Nat), vs = [.ref p, v, .int d] ∧ WAt C H p L ts ∧ RowOk (m + 1) H v ∧ d + m + 1 ≤ 30 ∧ ts.length + (rowLn (linesF (m + 1) H) H v d).length ≤ 60000 ∧
  ∀ (v' : V) (H' : Hp), But L H H' → H' L = some (.lst ((ts ++ (rowLn (linesF (m + 1) H) H v d).map lineT).map V.str)) → RepT (2 * m + 3) H' v' (rowN (numF (m + 1) H) (fun p => (linesF (m + 1) H p 0).length) H v ts.length) → Q v' H'
def spPutRowD (C : Addr) : Nat → Sp
  | 0 => spNo
  | m + 1 => spPutRow C m
theorem len_flat {α β : Type} {f : α → List β} (h : ∀ x, 1 ≤ (f x).length) : ∀ xs : List α, xs.length ≤ (xs.flatMap f).length
  | [] => Nat.le_refl _
  | x :: r => by
    rw [List.flatMap_cons, List.length_append, List.length_cons]
    have := h x
    have := len_flat h r
    omega
theorem take_snoc' {α : Type} {xs : List α} {i : Nat} {x : α} (h : xs[i]? = some x) : xs.take (i + 1) = xs.take i ++ [x] := by
  rw [List.take_succ, h]; rfl
theorem turn_if {C : Addr} {w : Bool} {R : Hp → Prop} {E : XK} {p L a : Addr} {d m : Nat} {ts : List Str} {G : Hp} (W : WAt C G p L ts) (hv : RowOk (m + 1) G (.ref a)) (h2 : w = true → twoW (rowZ G (.ref a)).1) (hd : d ≤ 30) (htl : ts.length ≤ 60000)
    (k : ∀ G1, But L G G1 → G1 L = some (.lst ((ts ++ (if w then (turnF G (.ref a)).map (fun ws => lineT (d, ws)) else [])).map V.str)) → R G1) :
    if w = true then ∃ x x_1, G p = some (.ins C x x_1) ∧ List.lookup ("put_turn" : Str) x_1 = none ∧ spPutTurn C [.ref p, .ref a, .int d] G (fun _ H1 => R H1) E else R G := by
  cases w with
  | false => exact iteF (by decide) (k G (But.refl _ _) (by rw [if_neg (by decide), List.append_nil]; exact W.ls))
  | true =>
    obtain ⟨⟨dx, hp⟩, _⟩ := id W
    exact iteT rfl ⟨dx, _, hp, fl_no L (by decide +kernel), p, L, ts, .ref a, m, d, rfl, W, hv, h2 rfl, hd, htl, fun H' b h => k H' b h⟩
theorem end_if {C : Addr} {w : Bool} {R : Hp → Prop} {E : XK} {p L : Addr} {d : Nat} {ts : List Str} {G : Hp} (W : WAt C G p L ts) (hd : d ≤ 30) (htl : ts.length ≤ 60000)
    (k : ∀ G1, But L G G1 → G1 L = some (.lst ((ts ++ (if w then [lineT (d, ["end"])] else [])).map V.str)) → R G1) :
    if w = true then ∃ x x_1, G p = some (.ins C x x_1) ∧ List.lookup ("put_line" : Str) x_1 = none ∧ 1 ≤ sizeLine ∧ ∀ q : Addr, G q = none → spPutLine C [.ref p, .ref q, .int d] (upd G q (.lst [.str "end"])) (fun _ H1 => R H1) E else R G := by
  cases w with
  | false => exact iteF (by decide) (k G (But.refl _ _) (by rw [if_neg (by decide), List.append_nil]; exact W.ls))
  | true =>
    obtain ⟨⟨dx, hp⟩, _⟩ := id W
    refine iteT rfl ⟨dx, _, hp, fl_no L (by decide +kernel), by decide, fun q hq => ⟨p, L, ts, q, [.str "end"], d, rfl, W.same (Same.upd hq), upd_same, tv1 (.inr ⟨_, rfl, by decide +kernel⟩), (show 1 ≤ 7 by decide), hd, htl, fun H' b h => k H' ((But.of (Same.upd hq)).trans b) h⟩⟩
theorem RowOk.words {n : Nat} {H : Hp} {v : V} (h : RowOk (n + 1) H v) : ∃ ws : List V, (∀ x ∈ ws, TV x) ∧ ws.length ≤ 7 ∧ ws.map txt = rowWords H v := by
  obtain ⟨a, z, ln, r, I⟩ := h.ri
  rw [I.words]
  have st : ∀ {z : Str}, z.length ≤ 60 → TV (.str z) := fun h => .inr ⟨_, rfl, h⟩
  have hzl := I.zl
  by_cases hb : z = "begin"
  · rcases I.sh with P | ⟨th, fa, bs, B⟩
    · obtain ⟨x, y, w, l, rfl, hl0⟩ := P.b hb
      have e : wordsF z [.str x, .str y, .str w, .int l] = [("begin" : Str), x, y, "in", w] ++ (if l = 0 then [] else [("within" : Str), txt (.int l)]) := by
        unfold wordsF
        rw [if_pos hb]
      rw [e]
      have t1 := P.tv (.str x) (by simp)
      have t2 := P.tv (.str y) (by simp)
      have t3 := P.tv (.str w) (by simp)
      have t4 := P.tv (.int l) (by simp)
      have t5 : ∀ v ∈ [V.str "begin", .str x, .str y, .str "in", .str w], TV v := fun v hv => by
        simp only [List.mem_cons, List.not_mem_nil, or_false] at hv
        rcases hv with rfl | rfl | rfl | rfl | rfl
        · exact st (by decide +kernel)
        · exact t1
        · exact t2
        · exact st (by decide +kernel)
        · exact t3
      by_cases e0 : l = 0
      · rw [if_pos e0]
        exact ⟨_, t5, (show 5 ≤ 7 by decide), rfl⟩
      · rw [if_neg e0]
        refine ⟨[V.str "begin", .str x, .str y, .str "in", .str w] ++ [.str "within", .int l], fun v hv => ?_, by simp, rfl⟩
        rcases List.mem_append.mp hv with hv | hv
        · exact t5 v hv
        · exact tv2 (st (by decide +kernel)) t4 v hv
    · exact absurd B.w (by rw [hb]; decide +kernel)
  · by_cases ht : z = "try"
    · refine ⟨[.str "try"], tv1 (st (by decide +kernel)), (show 1 ≤ 7 by decide), ?_⟩
      unfold wordsF
      rw [if_neg hb, if_pos ht]
      rfl
    · have := List.length_filter_le (fun v => !isR v) r
      have := I.len
      refine ⟨.str z :: r.filter (fun v => !isR v), fun v hv => ?_, by rw [List.length_cons]; omega, ?_⟩
      · rcases List.mem_cons.mp hv with rfl | hv
        · exact st (by omega)
        · obtain ⟨h1, h2⟩ := List.mem_filter.mp hv
          rcases I.each v h1 with ⟨h, _⟩ | h
          · rw [h] at h2; cases h2
          · exact h
      · unfold wordsF
        rw [if_neg hb, if_neg ht]
        rfl
theorem line_of {ws : List V} {d : Nat} (h : ∀ x ∈ ws, TV x) (hl : ws.length ≤ 7) (hd : d ≤ 30) : (lineT (d, ws.map txt)).length ≤ 487 := by
  have h1 := words_le h hl
  have h2 := join_le " " (ws.map txt)
  show (repS d "  " ++ Txt.join " " (ws.map txt)).length ≤ 487
  rw [app_len, repS_len, show ("  " : Str).length = 2 by decide +kernel]
  omega
theorem RowOk.turns {n : Nat} {H : Hp} {v : V} (h : RowOk (n + 1) H v) : ∀ t ∈ turnF H v, ∃ ws : List V, (∀ x ∈ ws, TV x) ∧ ws.length ≤ 7 ∧ ws.map txt = t ∨ t = [("but" : Str), ""] := by
  intro t ht
  have st : ∀ {z : Str}, z.length ≤ 60 → TV (.str z) := fun h => .inr ⟨_, rfl, h⟩
  obtain ⟨a, z, ln, r, I⟩ := h.ri
  unfold turnF at ht
  rw [I.zr] at ht
  split at ht
  · rw [List.mem_singleton.mp ht]
    rw [List.getD_eq_getElem?_getD]
    cases q : r[1]? with
    | none => exact ⟨[], .inr rfl⟩
    | some x =>
      rcases I.each x (List.mem_of_getElem? q) with ⟨hr, b, _, rfl, _⟩ | hx
      · exact ⟨[], .inr rfl⟩
      · exact ⟨[.str "but", x], .inl ⟨tv2 (st (by decide +kernel)) hx, (show 2 ≤ 7 by decide), rfl⟩⟩
  · split at ht
    · rw [List.mem_singleton.mp ht]
      exact ⟨[.str "last"], .inl ⟨tv1 (st (by decide +kernel)), (show 1 ≤ 7 by decide), rfl⟩⟩
    · split at ht
      · cases ht
      · rw [List.mem_singleton.mp ht]
        exact ⟨[.str "late"], .inl ⟨tv1 (st (by decide +kernel)), (show 1 ≤ 7 by decide), rfl⟩⟩
theorem lnsL_all {p : Ln → Prop} {f : V → List Ln} {tn en : List Ln} (ht : ∀ x ∈ tn, p x) (he : ∀ x ∈ en, p x) : ∀ {r : List V} {w : Bool}, (∀ x ∈ r, isR x = true → ∀ y ∈ f x, p y) → ∀ y ∈ lnsL f tn en w r, p y
  | [], w, _, y, hy => by
    cases w with
    | false => cases hy
    | true => exact he y hy
  | x :: r, w, h, y, hy => by
    cases e : isR x with
    | false =>
      rw [lnsL_no e] at hy
      exact lnsL_all ht he (fun z hz => h z (List.mem_cons_of_mem _ hz)) y hy
    | true =>
      cases x with
      | ref a =>
        rw [lnsL_ref] at hy
        rcases List.mem_append.mp hy with hy | hy
        · cases w with
          | false => cases hy
          | true => exact ht y hy
        rcases List.mem_append.mp hy with hy | hy
        · exact h _ List.mem_cons_self rfl y hy
        · exact lnsL_all ht he (fun z hz => h z (List.mem_cons_of_mem _ hz)) y hy
      | _ => cases e
theorem line_le : ∀ {n : Nat} {H : Hp} {v : V} {d : Nat}, RowsOk n H v → d + n ≤ 30 → ∀ x ∈ linesF (n + 1) H v d, (lineT x).length ≤ 487 := by
  intro n
  induction n with
  | zero =>
    intro H v d h _ x hx
    obtain ⟨b, ys, rfl, e2, e3⟩ := id h
    obtain ⟨y, hy, _⟩ := List.mem_flatMap.mp (show x ∈ (elems H (.ref b)).flatMap _ from hx)
    rw [elems_of e2] at hy
    exact (e3 y hy).elim
  | succ n ih =>
    intro H v d h hd x hx
    obtain ⟨b, ys, rfl, e2, e3⟩ := id h
    obtain ⟨y, hy, hx⟩ := List.mem_flatMap.mp (show x ∈ (elems H (.ref b)).flatMap _ from hx)
    rw [elems_of e2] at hy
    have hr := e3 y hy
    rcases List.mem_cons.mp hx with rfl | hx
    · obtain ⟨ws, h1, h2, h3⟩ := hr.words
      rw [← h3]
      exact line_of h1 h2 (by omega)
    · refine lnsL_all (p := fun x => (lineT x).length ≤ 487) (fun x hx => ?_) (fun x hx => ?_) (fun p hp e z hz => ih (hr.part_ok p hp e) (by omega) z hz) x hx
      · obtain ⟨t, ht, rfl⟩ := List.mem_map.mp hx
        obtain ⟨ws, h | h⟩ := hr.turns t ht
        · rw [← h.2.2]
          exact line_of h.1 h.2.1 (by omega)
        · rw [h]
          exact line_of (ws := [.str "but", .str ""]) (tv2 (.inr ⟨_, rfl, by decide +kernel⟩) (.inr ⟨_, rfl, by decide +kernel⟩)) (show 2 ≤ 7 by decide) (by omega)
      · rw [List.mem_singleton.mp hx]
        exact line_of (ws := [.str "end"]) (tv1 (.inr ⟨_, rfl, by decide +kernel⟩)) (show 1 ≤ 7 by decide) (by omega)
def textF (ls : List Ln) : Str := Txt.join "" (ls.map fun x => lineT x ++ "\n")
def spWritten (C : Addr) : Sp := fun vs H Q _ => ∃ v : V, vs = [v] ∧ RowsOk 23 H v ∧ (linesF 24 H v 0).length ≤ 20000 ∧ ∀ H' : Hp, Same H H' → Q (.str (textF (linesF 24 H v 0))) H'
def spNumbered : Sp := fun vs H Q _ => ∃ v : V, vs = [v] ∧ RowsOk 23 H v ∧ (linesF 24 H v 0).length ≤ 20000 ∧ ∀ (v' : V) (H' : Hp), Same H H' → RepT 48 H' v' (numF 24 H v 0) → Q v' H'
theorem wNew {C : Addr} {H H2 : Hp} {x dx L : Addr} (hx : H x = none) (hdx : H dx = none) (ne : dx ≠ x) (hL : upd (upd H dx (.own x)) x (.ins C dx []) L = none) (b : But x (upd (upd H dx (.own x)) x (.ins C dx [])) H2) (h1 : H2 x = some (.ins C dx [("lines", .ref L)])) (h2 : H2 L = some (.lst [])) : Same H H2 ∧ WAt C H2 x L [] ∧ H L = none := by
  have up : ∀ c o, H c = some o → upd (upd H dx (.own x)) x (.ins C dx []) c = some o := fun c o h => by rw [upd_ne (ne_of_none h hx), upd_ne (ne_of_none h hdx)]; exact h
  refine ⟨fun c o h => b c o (ne_of_none h hx) (up c o h), ⟨⟨dx, h1⟩, h2⟩, ?_⟩
  cases e : H L with
  | none => rfl
  | some o => rw [up L o e] at hL; cases hL
theorem sumL {ls : List Ln} {b : Nat} (h : ∀ x ∈ ls, (lineT x).length ≤ b) : ((ls.map fun x => lineT x ++ "\n").map (·.length)).sum ≤ ls.length * (b + 1) := by
  have := sum_le (zs := ls.map fun x => lineT x ++ "\n") (b := b + 1) fun z hz => by
    obtain ⟨x, hx, rfl⟩ := List.mem_map.mp hz
    rw [app_len, show ("\n" : Str).length = 1 by decide +kernel]
    have := h x hx
    omega
  rwa [List.length_map] at this
def LnsAt (H : Hp) (ps : List Addr) (ls : List Ln) : Prop := ps.length = ls.length ∧ ∀ (i : Nat) (q : Addr) (x : Ln), ps[i]? = some q → ls[i]? = some x → x.2 ≠ [] ∧ ∃ w, H q = some (.tup [.int (x.1 : Nat), .ref w]) ∧ H w = some (.lst (x.2.map V.str))
theorem LnsAt.same {H H' : Hp} {ps : List Addr} {ls : List Ln} (h : LnsAt H ps ls) (s : Same H H') : LnsAt H' ps ls := ⟨h.1, fun i q x a b => by
  obtain ⟨e, w, h1, h2⟩ := h.2 i q x a b
  exact ⟨e, w, s _ _ h1, s _ _ h2⟩⟩
theorem LnsAt.updL {H : Hp} {ps qs : List Addr} {ls : List Ln} {lp : Addr} {o : HO} (h : LnsAt H ps ls) (hl : H lp = some (.lst (qs.map V.ref))) : LnsAt (upd H lp o) ps ls := ⟨h.1, fun i q x a b => by
  obtain ⟨e, w, h1, h2⟩ := h.2 i q x a b
  refine ⟨e, w, by rw [upd_ne (ne_of h1 hl (fun z => nomatch z))]; exact h1, ?_⟩
  rw [upd_ne (fun z => ?_)]
  · exact h2
  · rw [z, hl] at h2
    cases hx : x.2 with
    | nil => exact e hx
    | cons y r =>
      rw [hx] at h2
      cases qs with
      | nil => cases h2
      | cons q' qs => cases h2⟩
theorem LnsAt.snoc {H : Hp} {ps : List Addr} {ls : List Ln} {q w : Addr} {x : Ln} (h : LnsAt H ps ls) (e : x.2 ≠ []) (h1 : H q = some (.tup [.int (x.1 : Nat), .ref w])) (h2 : H w = some (.lst (x.2.map V.str))) : LnsAt H (ps ++ [q]) (ls ++ [x]) := by
  refine ⟨by rw [List.length_append, List.length_append, h.1]; rfl, fun i q' x' a b => ?_⟩
  by_cases hi : i < ps.length
  · rw [List.getElem?_append_left hi] at a
    rw [List.getElem?_append_left (by rw [← h.1]; exact hi)] at b
    exact h.2 i q' x' a b
  · rw [List.getElem?_append_right (by omega)] at a
    rw [List.getElem?_append_right (by rw [← h.1]; omega), ← h.1] at b
    have hi' := (List.getElem?_eq_some_iff.mp a).1
    rw [List.length_singleton] at hi'
    rw [show i - ps.length = 0 by omega] at a b
    cases a
    cases b
    exact ⟨e, w, h1, h2⟩
theorem LnsAt.app {H : Hp} {ps qs : List Addr} {ls ms : List Ln} (h : LnsAt H ps ls) (g : LnsAt H qs ms) : LnsAt H (ps ++ qs) (ls ++ ms) := by
  refine ⟨by rw [List.length_append, List.length_append, h.1, g.1], fun i q x a b => ?_⟩
  by_cases hi : i < ps.length
  · rw [List.getElem?_append_left hi] at a
    rw [List.getElem?_append_left (by rw [← h.1]; exact hi)] at b
    exact h.2 i q x a b
  · rw [List.getElem?_append_right (by omega)] at a
    rw [List.getElem?_append_right (by rw [← h.1]; omega), ← h.1] at b
    exact g.2 _ q x a b
theorem RowOk.words_ne {n : Nat} {H : Hp} {v : V} (h : RowOk (n + 1) H v) : rowWords H v ≠ [] := by
  obtain ⟨a, z, ln, r, I⟩ := h.ri
  rw [I.words]
  by_cases hb : z = "begin"
  · rcases I.sh with P | ⟨th, fa, bs, B⟩
    · obtain ⟨x, y, w, l, rfl, _⟩ := P.b hb
      unfold wordsF
      rw [if_pos hb]
      simp
    · exact absurd B.w (by rw [hb]; decide +kernel)
  · unfold wordsF
    rw [if_neg hb]
    split <;> simp
def spLines (n : Nat) : Sp := fun vs H Q _ => ∃ (v : V) (d : Nat), vs = [v, .int d] ∧ RowsOk n H v ∧ (linesF (n + 1) H v d).length ≤ 20000 ∧ ∀ (l : Addr) (ps : List Addr) (H' : Hp), H l = none → H' l = some (.lst (ps.map V.ref)) → LnsAt H' ps (linesF (n + 1) H v d) → Same H H' → Q (.ref l) H'
def spLinesD : Nat → Sp
  | 0 => spNo
  | n + 1 => spLines n
theorem addLn {H G1 : Hp} {lp w p : Addr} {ps : List Addr} {Ls : List Ln} {d : Nat} {t : List Str} {R : VK} (hlp : H lp = none) (hG : G1 lp = some (.lst (ps.map V.ref))) (hA : LnsAt G1 ps Ls) (s : Same H G1) (ht : t ≠ []) (hw : G1 w = some (.lst (t.map V.str))) (hp : G1 p = none) (hl : Ls.length ≤ 20000)
    (k : ∀ H3, H3 lp = some (.lst ((ps ++ [p]).map V.ref)) → LnsAt H3 (ps ++ [p]) (Ls ++ [(d, t)]) → Same H H3 → But lp G1 H3 → R .non H3) : rAppend (.ref lp) [.ref p] (upd G1 p (.tup [.int d, .ref w])) R := by
  have s1 := Same.upd (o := .tup [.int (d : Nat), .ref w]) hp
  have h1 := s1 _ _ hG
  have hz : sizeLine = 16777216 := by decide
  have hpl := hA.1
  have e : ps.map V.ref ++ [.ref p] = (ps ++ [p]).map V.ref := by rw [List.map_append]; rfl
  refine ⟨lp, _, _, rfl, rfl, h1, by rw [List.length_map]; omega, ?_⟩
  rw [e]
  refine k _ upd_same (((hA.same s1).snoc (x := (d, t)) ht upd_same (s1 _ _ hw)).updL h1) (fun c o h => by rw [upd_ne (ne_of_none h hlp)]; exact s1 _ _ (s _ _ h)) fun c o n h => by rw [upd_ne n]; exact s1 _ _ h
theorem addTurn {H G : Hp} {y : V} {m : Nat} {lp : Addr} {ps : List Addr} {Ls : List Ln} {d : Nat} {t : List Str} {R : VK} {E : XK} (hlp : H lp = none) (hG : G lp = some (.lst (ps.map V.ref))) (hA : LnsAt G ps Ls) (s : Same H G) (hy : RowOk (m + 1) H y) (h2 : twoW (rowZ H y).1) (hT : turnF H y = [t]) (ht : t ≠ []) (hl : Ls.length ≤ 20000)
    (k : ∀ H3 p, H3 lp = some (.lst ((ps ++ [p]).map V.ref)) → LnsAt H3 (ps ++ [p]) (Ls ++ [(d, t)]) → Same H H3 → But lp G H3 → R .non H3) : spTurning [y] G (fun x H1 => 2 ≤ sizeLine ∧ ∀ p : Addr, H1 p = none → rAppend (.ref lp) [.ref p] (upd H1 p (.tup [.int d, x])) R) E := by
  refine ⟨y, m, t, rfl, hy.same s, by rw [hy.z_same (sameT_of s)]; exact h2, by rw [hy.turn_same (sameT_of s)]; exact hT, fun wl G1 hwl h1 s1 => ⟨by decide, fun p hp => ?_⟩⟩
  exact addLn (d := d) hlp (s1 _ _ hG) (hA.same s1) (s.trans s1) ht h1 hp hl fun H3 e1 e2 e3 e4 => k H3 p e1 e2 e3 ((But.of s1).trans e4)
theorem fldN_th {num : V → Nat → Tr} {len : V → Nat} {tn : Nat} : ∀ {th rs : List V} {w : Bool} {c : Nat}, (∀ t ∈ th, isR t = false) → fldN num len tn w c (th ++ rs) = th.map trV ++ fldN num len tn w c rs
  | [], _, _, _, _ => rfl
  | x :: th, rs, w, c, h => by
    show (if isR x then _ else _) = _
    rw [if_neg (by rw [h x List.mem_cons_self]; exact Bool.false_ne_true), List.map_cons, List.cons_append]
    show trV x :: fldN num len tn w c (th ++ rs) = _
    rw [fldN_th fun t ht => h t (List.mem_cons_of_mem _ ht)]
theorem fldN_two {num : V → Nat → Tr} {len : V → Nat} {tn c : Nat} {b0 b1 : Addr} {fa : V} (h : isR fa = false) : ∃ t0 t1, fldN num len tn false c [.ref b0, fa, .ref b1] = [t0, trV fa, t1] ∧ fldN num len tn false c [.ref b0, .ref b1] = [t0, t1] := by
  refine ⟨_, _, ?_, rfl⟩
  show num (.ref b0) c :: (if isR fa then _ else _) = _
  rw [if_neg (by rw [h]; exact Bool.false_ne_true)]
  rfl
theorem fldN_len {num : V → Nat → Tr} {len : V → Nat} {tn : Nat} : ∀ {r : List V} {w : Bool} {c : Nat}, (fldN num len tn w c r).length = r.length
  | [], _, _ => rfl
  | x :: r, w, c => by
    unfold fldN
    split <;> rw [List.length_cons, List.length_cons, fldN_len]
def RepL (F : Nat) (H : Hp) (us : List V) (ts : List Tr) : Prop := us.length = ts.length ∧ ∀ (j : Nat) (u : V) (t : Tr), us[j]? = some u → ts[j]? = some t → RepT F H u t
theorem RepL.sameT {F : Nat} {H H' : Hp} {us : List V} {ts : List Tr} (h : RepL F H us ts) (s : SameT H H') : RepL F H' us ts := ⟨h.1, fun j u t a b => (h.2 j u t a b).sameT s⟩
theorem RepL.nil {F : Nat} {H : Hp} : RepL F H [] [] := ⟨rfl, fun _ _ _ h => nomatch h⟩
theorem RepL.cons {F : Nat} {H : Hp} {u : V} {us : List V} {t : Tr} {ts : List Tr} (h : RepT F H u t) (g : RepL F H us ts) : RepL F H (u :: us) (t :: ts) := by
  refine ⟨by rw [List.length_cons, List.length_cons, g.1], fun j x y a b => ?_⟩
  cases j with
  | zero => cases a; cases b; exact h
  | succ j => exact g.2 j x y a b
theorem RepL.app {F : Nat} {H : Hp} {us vs : List V} {ts xs : List Tr} (h : RepL F H us ts) (g : RepL F H vs xs) : RepL F H (us ++ vs) (ts ++ xs) := by
  refine ⟨by rw [List.length_append, List.length_append, h.1, g.1], fun j u t a b => ?_⟩
  by_cases hj : j < us.length
  · rw [List.getElem?_append_left hj] at a
    rw [List.getElem?_append_left (by rw [← h.1]; exact hj)] at b
    exact h.2 j u t a b
  · rw [List.getElem?_append_right (by omega)] at a
    rw [List.getElem?_append_right (by rw [← h.1]; omega), ← h.1] at b
    exact g.2 _ u t a b
theorem RepL.tv {F : Nat} {H : Hp} : ∀ {us : List V}, (∀ u ∈ us, TV u) → RepL F H us (us.map trV)
  | [], _ => RepL.nil
  | u :: us, h => RepL.cons (RepT.tv (h u List.mem_cons_self)) (RepL.tv fun x hx => h x (List.mem_cons_of_mem _ hx))
theorem RepL.t {F : Nat} {H : Hp} {a : Addr} {us : List V} {ts : List Tr} (h : RepL F H us ts) (ha : H a = some (.tup us)) (hl : us.length ≤ 100000) : RepT (F + 1) H (.ref a) (.t ts) := ⟨a, us, rfl, ha, h.1, by rw [← h.1]; exact hl, h.2⟩
theorem RepT.str {F : Nat} {H : Hp} {z : Str} : RepT F H (.str z) (.s z) := by cases F <;> rfl
theorem RepT.int {F : Nat} {H : Hp} {n : Int} : RepT F H (.int n) (.i n) := by cases F <;> rfl
def spSet : Sp := fun vs H Q _ => ∃ (v : V) (m k : Nat) (l : Addr) (us : List V) (num : V → Nat → Tr) (len : V → Nat), vs = [v, .int (k + 1 : Nat), .ref l] ∧ RowOk (m + 1) H v ∧ H l = some (.lst us) ∧ RepL (2 * m + 2) H us (fldN num len (turnF H v).length false (k + 1) (partsF H v)) ∧ ∀ (v' : V) (H' : Hp), Same H H' → RepT (2 * m + 3) H' v' (rowN num len H v k) → Q v' H'
theorem slMid {K : PySem.W.Frag} {G : Hp} {a : Addr} {x y : V} {th rs : List V} {j : Int} {R : VK} (h : G a = some (.tup (x :: y :: (th ++ rs)))) (hj : j = ((th.length + 2 : Nat) : Int)) (k : ∀ q G', Same G G' → G' q = some (.tup th) → R (.ref q) G') : rSlTW K (.ref a) (some 2) (some j) G R := by
  subst hj
  have e1 : HT.sIx (x :: y :: (th ++ rs)).length 0 (some 2) = 2 := (HT.sIx_nat _ _ 2).trans (by rw [List.length_cons, List.length_cons]; omega)
  have e2 : HT.sIx (x :: y :: (th ++ rs)).length (x :: y :: (th ++ rs)).length (some ((th.length + 2 : Nat) : Int)) = th.length + 2 := (HT.sIx_nat _ _ _).trans (by rw [List.length_cons, List.length_cons, List.length_append]; omega)
  refine ⟨a, _, rfl, SqT.of h, fun hw => ?_, fun hw q hq => k q _ (Same.upd hq) ?_⟩
  · exfalso
    have := hw.1
    rw [e1] at this
    omega
  · rw [upd_same]
    unfold cutV
    rw [e1, e2]
    congr 2
    show List.take (th.length + 2 - 2) (th ++ rs) = th
    rw [Nat.add_sub_cancel, List.take_left]
theorem eqNilL {K : PySem.W.Frag} {G : Hp} {a : Addr} {xs : List V} {R : VK} (h : G a = some (.lst xs)) (k : ∀ G', Same G G' → R (.bl (decide (xs = []))) G') : 0 ≤ sizeLine ∧ ∀ p, G p = none → rEqL K false (.ref a) (.ref p) (upd G p (.lst [])) R := by
  refine ⟨by decide, fun p hp => ⟨a, p, _, [], 0, fun _ => true, rfl, rfl, SqL.of ((Same.upd hp) _ _ h), SqL.of upd_same, by decide, (fun i x y _ hy => by cases hy), ?_⟩⟩
  have e : (false ^^ (decide (xs.length = ([] : List V).length) && (List.range xs.length).all fun _ => true)) = decide (xs = []) := by
    cases xs with
    | nil => rfl
    | cons z r => simp
  rw [e]
  exact k _ (Same.upd hp)
theorem catT0_any {K : PySem.W.Frag} {H : Hp} {a b : Addr} {xs ys : List V} {Q : VK} (ha : H a = some (.tup xs)) (hb : H b = some (.tup ys)) (hne : xs ≠ []) (hl : xs.length + ys.length ≤ sizeLine) (k : ∀ (p : Addr) (H' : Hp), H' p = some (.tup (xs ++ ys)) → Same H H' → Q (.ref p) H') : rCatT0 K (.ref a) (.ref b) H Q :=
  .inl ⟨a, b, xs, ys, rfl, rfl, SqT.of ha, SqT.of hb, hne, hl, fun e => k a H (by rw [e, List.append_nil]; exact ha) (Same.refl H), fun _ p hp => k p _ upd_same (Same.upd hp)⟩
def plcs (N : Nat) : List V := (List.range N).map fun i => V.int (i + 1 : Nat)
def spOn (n : Nat) : Sp := fun vs H Q _ => ∃ (v : V) (pl : Addr) (k N : Nat), vs = [v, .ref pl, .int k] ∧ RowsOk n H v ∧ H pl = some (.lst (plcs N)) ∧ k + (linesF (n + 1) H v 0).length ≤ N ∧ N ≤ 20000 ∧ ∀ (p : Addr) (v' : V) (H' : Hp), Same H H' → H' p = some (.tup [v', .int (k + (linesF (n + 1) H v 0).length : Nat)]) → RepT (2 * n + 2) H' v' (numF (n + 1) H v k) → Q (.ref p) H'
def spOnD : Nat → Sp
  | 0 => spNo
  | n + 1 => spOn n
theorem plcs_at {K : PySem.W.Frag} {G : Hp} {pl : Addr} {N k : Nat} {R : VK} (h : G pl = some (.lst (plcs N))) (hk : k < N) (q : R (.int (k + 1 : Nat)) G) : rIxL K (.ref pl) (.int k) G R :=
  ⟨pl, _, _, _, rfl, rfl, SqL.of h, atI_nat (by unfold plcs; rw [List.getElem?_map, List.getElem?_range hk]; rfl), q⟩
def spAlike (m : Nat) : Sp := fun vs H Q _ => ∃ (a b : V) (t : Tr), vs = [a, b] ∧ RepT m H a t ∧ RepT m H b t ∧ ∀ H' : Hp, Same H H' → Q (.bl true) H'
def spAlikeD : Nat → Sp
  | 0 => spNo
  | n + 1 => spAlike n
def spRight : Sp := fun vs H Q _ => ∃ v : V, vs = [v] ∧ RowsOk 23 H v ∧ (linesF 24 H v 0).length ≤ 20000 ∧ ∀ H' : Hp, Same H H' → Q (.bl true) H'
theorem join_fold (zs : List Str) : ∀ z : Str, Txt.join "" (zs ++ [z]) = Txt.join "" zs ++ z := by
  have e0 : ∀ x : Str, x ++ ("" : Str) = x := fun x => by
    have : (x ++ ("" : Str)).cps = x.cps := by
      show x.cps ++ (Str.ofString "").cps = x.cps
      rw [show (Str.ofString "").cps = #[] by decide +kernel, Array.append_empty]
    cases x
    exact congrArg Str.mk this
  intro z
  show Builtin.Str.glued _ _ = Builtin.Str.glued _ _ ++ z
  rw [StrLaws.glued_eq_join, StrLaws.glued_eq_join]
  induction zs with
  | nil =>
    show z = Str.empty ++ z
    have : (Str.empty ++ z).cps = z.cps := by
      show #[] ++ z.cps = z.cps
      rw [Array.empty_append]
    cases z
    exact (congrArg Str.mk this).symm
  | cons c r ih =>
    cases r with
    | nil =>
      show c ++ "" ++ z = c ++ z
      rw [e0]
    | cons d r =>
      show c ++ "" ++ Str.join "" (d :: r ++ [z]) = c ++ "" ++ Str.join "" (d :: r) ++ z
      rw [show d :: r ++ [z] = (d :: r) ++ [z] from rfl, ih, e0]
      show (⟨c.cps ++ (_ ++ _)⟩ : Str) = ⟨(c.cps ++ _) ++ _⟩
      rw [Array.append_assoc]
theorem textF_snoc (ls : List Ln) (x : Ln) : textF (ls ++ [x]) = textF ls ++ (lineT x ++ "\n") := by
  unfold textF
  rw [List.map_append]
  exact join_fold _ _
theorem textF_le {ls : List Ln} (h : ∀ x ∈ ls, (lineT x).length ≤ 487) : (textF ls).length ≤ ls.length * 488 := by
  have h1 := sumL h
  have h2 := join_le "" (ls.map fun x => lineT x ++ "\n")
  rw [show ("" : Str).length = 0 by decide +kernel, Nat.mul_zero, Nat.add_zero] at h2
  exact Nat.le_trans h2 h1
theorem str_assoc (a b c : Str) : a ++ b ++ c = a ++ (b ++ c) := by
  show (⟨(a.cps ++ b.cps) ++ c.cps⟩ : Str) = ⟨a.cps ++ (b.cps ++ c.cps)⟩
  rw [Array.append_assoc]
theorem join_len : ∀ zs : List Str, zs ≠ [] → (Txt.join " " zs).length + 1 = (zs.map (·.length)).sum + zs.length := by
  intro zs
  show _ → (Builtin.Str.glued _ _).length + 1 = _
  rw [StrLaws.glued_eq_join]
  induction zs with
  | nil => intro h; exact absurd rfl h
  | cons c r ih =>
    intro _
    cases r with
    | nil => show c.length + 1 = _; simp
    | cons d r =>
      have := ih (by simp)
      show (c ++ " " ++ Str.join " " (d :: r)).length + 1 = _
      rw [app_len, app_len, List.map_cons, List.sum_cons, List.length_cons, show (" " : Str).length = 1 by decide +kernel]
      omega
theorem turn_le (H : Hp) (v : V) : (turnF H v).length ≤ 1 := by
  unfold turnF
  split
  · exact Nat.le_refl _
  · split
    · exact Nat.le_refl _
    · split
      · exact Nat.zero_le _
      · exact Nat.le_refl _
theorem RowOk.parts_le {n : Nat} {H : Hp} {v : V} (h : RowOk (n + 1) H v) : (partsF H v).length ≤ 2 := by
  obtain ⟨a, z, ln, r, I⟩ := h.ri
  rw [h.parts_eq, I.zr]
  rcases I.sh with P | ⟨th, fa, bs, B⟩
  · rw [List.filter_eq_nil_iff.mpr fun x hx => by rw [(P.tv x hx).notR]; exact Bool.false_ne_true]
    exact Nat.zero_le _
  · show (r.filter isR).length ≤ 2
    rw [parts_isR B, List.length_map]
    by_cases h2 : twoW z
    · exact Nat.le_of_eq (B.two h2)
    · have := B.one h2
      omega
theorem lns_le {f : V → List Ln} {g : V → List V} {tn en : List Ln} (ht : tn.length ≤ 1) (he : en.length ≤ 1) : ∀ {ps : List V}, ps.length ≤ 2 → (∀ p ∈ ps, ∃ a, p = V.ref a) → (∀ p ∈ ps, (f p).length ≤ 3 * (g p).length) → (lnsL f tn en false ps).length ≤ 2 + 3 * (ps.flatMap g).length
  | [], _, _, _ => Nat.zero_le _
  | [p], _, hr, h => by
    obtain ⟨a, rfl⟩ := hr p List.mem_cons_self
    have h1 := h _ List.mem_cons_self
    show ((if false = true then tn else []) ++ (f (.ref a) ++ en)).length ≤ 2 + 3 * (g (.ref a) ++ []).length
    rw [if_neg (by decide), List.nil_append, List.length_append, List.append_nil]
    omega
  | [p, q], _, hr, h => by
    obtain ⟨a, rfl⟩ := hr p List.mem_cons_self
    obtain ⟨b, rfl⟩ := hr q (List.mem_cons_of_mem _ List.mem_cons_self)
    have h1 := h _ List.mem_cons_self
    have h2 := h _ (List.mem_cons_of_mem _ List.mem_cons_self)
    show ((if false = true then tn else []) ++ (f (.ref a) ++ (tn ++ (f (.ref b) ++ en)))).length ≤ 2 + 3 * (g (.ref a) ++ (g (.ref b) ++ [])).length
    rw [if_neg (by decide), List.nil_append, List.append_nil]
    simp only [List.length_append]
    omega
  | _ :: _ :: _ :: _, h, _, _ => by simp at h
theorem flat_le {α β γ : Type} {f : α → List β} {g : α → List γ} {c : Nat} : ∀ {xs : List α}, (∀ x ∈ xs, (f x).length ≤ c * (g x).length) → (xs.flatMap f).length ≤ c * (xs.flatMap g).length
  | [], _ => Nat.zero_le _
  | x :: r, h => by
    rw [List.flatMap_cons, List.flatMap_cons, List.length_append, List.length_append, Nat.mul_add]
    have := h x List.mem_cons_self
    have := flat_le (xs := r) fun y hy => h y (List.mem_cons_of_mem _ hy)
    omega
theorem lines_walk : ∀ {n : Nat} {H : Hp} {v : V} {d : Nat}, RowsOk n H v → (linesF (n + 1) H v d).length ≤ 3 * (walkF (n + 1) H v).length := by
  intro n
  induction n with
  | zero =>
    intro H v d h
    obtain ⟨b, ys, rfl, e2, e3⟩ := id h
    rw [walkF_of e2]
    show ((elems H _).flatMap _).length ≤ _
    rw [elems_of e2]
    exact flat_le fun y hy => (e3 y hy).elim
  | succ n ih =>
    intro H v d h
    obtain ⟨b, ys, rfl, e2, e3⟩ := id h
    rw [walkF_of e2]
    show ((elems H _).flatMap _).length ≤ _
    rw [elems_of e2]
    refine flat_le fun y hy => ?_
    have hr := e3 y hy
    have eRow : rowLn (linesF (n + 1) H) H y d = (d, rowWords H y) :: lnsL (fun p => linesF (n + 1) H p (d + 1)) ((turnF H y).map fun ws => (d, ws)) [(d, ["end"])] false (partsF H y) := by
      rw [hr.parts_eq, lnsL_filter]
      rfl
    have := lns_le (f := fun p => linesF (n + 1) H p (d + 1)) (g := walkF (n + 1) H) (tn := (turnF H y).map fun ws => (d, ws)) (en := [(d, ["end"])]) (by rw [List.length_map]; exact turn_le H y) (Nat.le_refl _) hr.parts_le hr.partsRef fun p hp => ih (hr.parts_ok p hp)
    rw [eRow, List.length_cons, List.length_cons]
    omega
theorem flat_sum {α β : Type} {g : α → List β} {c : Nat} : ∀ {xs : List α}, (∀ x ∈ xs, (g x).length ≤ c) → (xs.flatMap g).length ≤ xs.length * c
  | [], _ => Nat.zero_le _
  | x :: r, h => by
    rw [List.flatMap_cons, List.length_append, List.length_cons, Nat.succ_mul]
    have := h x List.mem_cons_self
    have := flat_sum (xs := r) fun y hy => h y (List.mem_cons_of_mem _ hy)
    omega
theorem prog_ok {H : Hp} {p : Addr} {es : List V} (h : H p = some (.tup es)) (he : ∀ e ∈ es, ErrAt 22 100 H e) (hl : es.length ≤ 64) : RowsOk 23 H (.ref p) ∧ (linesF 24 H (.ref p) 0).length ≤ 20000 := by
  have hv : RowsOk 23 H (.ref p) := ⟨p, es, rfl, h, fun y hy => (he y hy).1⟩
  refine ⟨hv, ?_⟩
  have h1 := lines_walk (d := 0) hv
  rw [walkF_of h] at h1
  have h2 := flat_sum (g := fun y => y :: (partsF H y).flatMap (walkF 23 H)) (c := 101) (xs := es) fun y hy => (he y hy).2
  have h3 : es.length * 101 ≤ 64 * 101 := Nat.mul_le_mul_right _ hl
  exact Nat.le_trans h1 (by omega)


theorem sc_l_parts : FnScope ["_law_row"] ["_law_row"] (defScope (top 21)) := ⟨rfl, rfl, rfl, by decide +kernel, rfl, by decide +kernel, by decide +kernel⟩
theorem ok_l_parts (T : Tx P w K mg) : FnOk P w K mg base CX0 1 T.d_l_parts.f T.d_l_parts.fd ["_law_row"] (spLParts) := by
  refine T.d_l_parts.F.ok sc_l_parts (fun vs H Q E h => ?_) (fun cdv A outer s H vs Q E hr h => ?_)
  · obtain ⟨v, n, rfl, _⟩ := h
    rfl
  · obtain ⟨v, n, rfl, hv, k⟩ := h
    refine ⟨_, (pss_cons (ps_if (pt_cmpR op_in_seq (pe_ix ix_tup (pv 0) pe_int (fun _ _ => rfl)) (pe_lst (pa_cons pe_str pa_nil)) (by with_unfolding_all rfl))
    (pss_one (ps_ret (pe_lst (pa_cons (pe_ix ix_tup (pv 0) pe_int (fun _ _ => rfl)) (pa_cons (pe_ix ix_tup (pv 0) pe_int (fun _ _ => rfl)) pa_nil)))))
    pss_nil)
    (pss_cons (ps_if (pt_cmpR op_eq (pe_ix ix_tup (pv 0) pe_int (fun _ _ => rfl)) pe_str (nomark _))
    (pss_one (ps_ret (pe_lst (pa_cons (pe_ix ix_tup (pv 0) pe_int (fun _ _ => rfl)) (pa_cons (pe_ix ix_tup (pv 0) pe_int (fun _ _ => rfl)) pa_nil)))))
    pss_nil)
    (pss_cons (ps_if (pt_cmpR op_eq (pe_ix ix_tup (pv 0) pe_int (fun _ _ => rfl)) pe_str (nomark _))
    (pss_one (ps_ret (pe_lst (pa_cons (pe_ix ix_tup (pv 0) pe_int (fun _ _ => rfl)) (pa_cons (pe_ix ix_tup (pv 0) pe_int (fun _ _ => rfl)) pa_nil)))))
    pss_nil)
    (pss_cons (ps_if (pt_cmpR op_in_seq (pe_ix ix_tup (pv 0) pe_int (fun _ _ => rfl)) (pe_lst (pa_strs (zs := ["errand", "group", "keep", "when", "repeat"]) (by decide +kernel))) (by with_unfolding_all rfl))
    (pss_one (ps_ret (pe_lst (pa_cons (pe_ix ix_tup (pv 0) (pe_un un_neg pe_int) (fun _ _ => rfl)) pa_nil))))
    pss_nil)
    (pss_one (ps_ret (pe_lst pa_nil))))))), ?_⟩
    (simp only [tLst, tTup, tDNewK, tLc, iList, iStr, iTup, _root_.L2.start, cxOf_K, cxComp_K, tSeq, tAsg, gName, tRet, tRetN, tDrop, tIfS, tTest, tB, tNot, tAnd, tOr, tAndV, tOrV, tNotV, tOp, tUn, tVar, tC, tCons, tNil, tStrs, tCB, tCall, tChain, tBM, tBM0, tPart, tNoPart, tSl, tIf, tNext, tTrue, selS, Option.bind_none, Option.bind_some, Option.join_some, if_true, rI, rI0, rU, rEq, rNe, rStarts, rSlS, lenV_str, tyV, List.map_cons, List.map_nil, List.length_cons, List.length_nil, List.replicate, List.cons_append, List.nil_append, List.append_nil, Nat.reduceAdd, Nat.reduceSub, Nat.zero_add, Nat.add_zero, Nat.sub_self, List.getElem?_cons_zero, List.getElem?_cons_succ, List.set_cons_zero, List.set_cons_succ, Option.some.injEq, V.int.injEq, V.str.injEq, V.ref.injEq, V.bl.injEq, V.ty.injEq, List.cons.injEq, exists_eq_left, exists_eq_left', exists_eq_right, exists_and_left, exists_eq, and_true, true_and, and_self, and_assoc, tFld, sFld, tMeth, tMake])
    cases n with
    | zero => exact hv.elim
    | succ n =>
    obtain ⟨a, z, r, rfl, ha, hne, hlen, hps⟩ := hv
    have eP := partsF_of ha
    rw [eP] at k
    have at0 : ∀ {G : Hp} {R : VK}, Same H G → R (.str z) G → rIxT K (.ref a) (.int 0) G R := fun {G R} s' q => ⟨a, _, 0, .str z, rfl, rfl, SqT.of (s' a _ ha), atI_nat (j := 0) rfl, q⟩
    have atj : ∀ {G : Hp} {R : VK} (j : Nat) (i : Int) (x : V), i = (j : Nat) → (V.str z :: r)[j]? = some x → Same H G → R x G → rIxT K (.ref a) (.int i) G R := fun {G R} j i x hi hx s' q => by
      subst hi
      exact ⟨a, _, _, x, rfl, rfl, SqT.of (s' a _ ha), atI_nat hx, q⟩
    have get : ∀ j, j < r.length + 1 → ∃ x, (V.str z :: r)[j]? = some x := fun j hj => ⟨_, List.getElem?_eq_getElem (by simpa using hj)⟩
    refine at0 (Same.refl H) ⟨by decide, fun p hp => ?_⟩
    have s1 : Same H (upd H p (HO.lst [V.str "try"])) := Same.upd hp
    refine ⟨p, _, rfl, .inl (SqL.of upd_same), rfl, rfl, _, rfl, ?_⟩
    have inT : ∀ y : Str, inV (V.str z) [V.str y] = decide (z = y) := fun y => by
      show (eqV (.str y) (.str z) || false) = _
      rw [Bool.or_false]
      show (y == z) = _
      by_cases e : z = y
      · subst e; simp
      · rw [decide_eq_false e]; simp [Ne.symm e]
    show if (inV (V.str z) [V.str "try"]) = true then _ else _
    rw [inT]
    have two : ∀ {G : Hp} (x y : V), Same H G → rowParts (.str z :: r) = [x, y] → 2 ≤ sizeLine ∧ ∀ p : Addr, G p = none → Q (.ref p) (upd G p (.lst [x, y])) := fun {G} x y s' e =>
      ⟨by decide, fun q hq => k q _ (s'.free hq) (by rw [upd_same, e]) (s'.trans (Same.upd hq))⟩
    have two' : ∀ {G : Hp} (i j : Nat) (i' j' : Int), i' = (i : Nat) → j' = (j : Nat) → places z = [i, j] → Same H G → rIxT K (.ref a) (.int i') G fun x G1 => rIxT K (.ref a) (.int j') G1 fun y G2 => 2 ≤ sizeLine ∧ ∀ p : Addr, G2 p = none → Q (.ref p) (upd G2 p (.lst [x, y])) := fun {G} i j i' j' hi hj ep s' => by
      have b1 := places_in hlen i (by rw [ep]; simp)
      have b2 := places_in hlen j (by rw [ep]; simp)
      have g1 : (V.str z :: r)[i]? = some (V.str z :: r)[i] := List.getElem?_eq_getElem b1
      have g2 : (V.str z :: r)[j]? = some (V.str z :: r)[j] := List.getElem?_eq_getElem b2
      refine atj i _ _ hi g1 s' (atj j _ _ hj g2 s' (two _ _ s' ?_))
      rw [rowParts_str, ep]
      simp only [List.filterMap_cons, g1, g2, List.filterMap_nil]
    have nD : ∀ {y : Str}, z = y → ∀ {y' : Str}, (decide (y = y')) = false → ¬ z = y' := fun e y' h => by rw [e]; exact of_decide_eq_false h
    by_cases hT : z = "try"
    · refine ifT hT (two' 2 4 2 4 rfl rfl ?_ s1)
      rw [hT]; decide +kernel
    refine ifF hT (at0 s1 ⟨rfl, ?_⟩)
    have eqS : ∀ y : Str, decide (V.str z = V.str y) = decide (z = y) := fun y => by
      by_cases e : z = y
      · subst e; simp
      · rw [decide_eq_false e, decide_eq_false (fun q => e (V.str.inj q))]
    rw [eqS]
    by_cases hL : z = "limit"
    · refine ifT hL (two' 3 4 3 4 rfl rfl ?_ s1)
      rw [hL]; decide +kernel
    refine ifF hL (at0 s1 ⟨rfl, ?_⟩)
    rw [eqS]
    by_cases hD : z = "do"
    · refine ifT hD (two' 2 3 2 3 rfl rfl ?_ s1)
      rw [hD]; decide +kernel
    refine ifF hD (at0 s1 ⟨by decide, fun q hq => ?_⟩)
    have s2 := s1.trans (Same.upd hq (o := .lst [V.str "errand", V.str "group", V.str "keep", V.str "when", V.str "repeat"]))
    refine ⟨q, _, rfl, .inl (SqL.of upd_same), rfl, rfl, _, rfl, ?_⟩
    have inF : inV (V.str z) [V.str "errand", V.str "group", V.str "keep", V.str "when", V.str "repeat"] = decide (places z ≠ []) := by
      have e1 : inV (V.str z) [V.str "errand", V.str "group", V.str "keep", V.str "when", V.str "repeat"] = (decide (z = "errand") || (decide (z = "group") || (decide (z = "keep") || (decide (z = "when") || decide (z = "repeat"))))) := by
        have b : ∀ y : Str, eqV (.str y) (.str z) = decide (z = y) := fun y => by
          show (y == z) = _
          by_cases e : z = y
          · subst e; simp
          · rw [decide_eq_false e]; simp [Ne.symm e]
        show (eqV _ _ || (eqV _ _ || (eqV _ _ || (eqV _ _ || (eqV _ _ || false))))) = _
        rw [b, b, b, b, b, Bool.or_false]
      rw [e1]
      rcases places_cases z with ⟨ez, ep, el⟩ | ⟨ez, ep, el⟩ | ⟨ez, ep, el⟩ | ⟨ez, ep, el⟩ | ⟨ez, ep, el⟩ | ⟨ez, ep, el⟩ | ⟨ez, ep, el⟩ | ⟨ez, ep, el⟩ | ⟨ep, n1, n2, n3, n4, n5, n6, n7, n8⟩
      · rw [ep, ez]; decide +kernel
      · exact absurd ez hL
      · rw [ep, ez]; decide +kernel
      · exact absurd ez hT
      · exact absurd ez hD
      · rw [ep, ez]; decide +kernel
      · rw [ep, ez]; decide +kernel
      · rw [ep, ez]; decide +kernel
      · rw [ep, decide_eq_false n8, decide_eq_false n1, decide_eq_false n3, decide_eq_false n6, decide_eq_false n7]; rfl
    show if (inV (V.str z) [V.str "errand", V.str "group", V.str "keep", V.str "when", V.str "repeat"]) = true then _ else _
    rw [inF]
    by_cases hp0 : places z ≠ []
    · refine ifT hp0 ?_
      have hl := hlen hp0
      obtain ⟨x, hx, ex⟩ : ∃ x, (V.str z :: r)[r.length]? = some x ∧ rowParts (.str z :: r) = [x] := by
        have g : (V.str z :: r)[r.length]? = some ((V.str z :: r)[r.length]'(by simp)) := List.getElem?_eq_getElem (by simp)
        refine ⟨_, g, ?_⟩
        rw [rowParts_str]
        rcases places_cases z with ⟨ez, ep, el⟩ | ⟨ez, ep, el⟩ | ⟨ez, ep, el⟩ | ⟨ez, ep, el⟩ | ⟨ez, ep, el⟩ | ⟨ez, ep, el⟩ | ⟨ez, ep, el⟩ | ⟨ez, ep, el⟩ | ⟨ep, n1, n2, n3, n4, n5, n6, n7, n8⟩
        · rw [ep]; rw [el] at hl; have e : r.length = 3 := by omega
          simp only [e] at g ⊢
          simp only [List.filterMap_cons, g, List.filterMap_nil]
        · exact absurd ez hL
        · rw [ep]; rw [el] at hl; have e : r.length = 2 := by omega
          simp only [e] at g ⊢
          simp only [List.filterMap_cons, g, List.filterMap_nil]
        · exact absurd ez hT
        · exact absurd ez hD
        · rw [ep]; rw [el] at hl; have e : r.length = 4 := by omega
          simp only [e] at g ⊢
          simp only [List.filterMap_cons, g, List.filterMap_nil]
        · rw [ep]; rw [el] at hl; have e : r.length = 3 := by omega
          simp only [e] at g ⊢
          simp only [List.filterMap_cons, g, List.filterMap_nil]
        · rw [ep]; rw [el] at hl; have e : r.length = 3 := by omega
          simp only [e] at g ⊢
          simp only [List.filterMap_cons, g, List.filterMap_nil]
        · exact absurd ep hp0
      refine ⟨a, _, _, x, rfl, rfl, SqT.of (s2 a _ ha), ?_, (show 1 ≤ sizeLine by decide), fun l hl2 => k l _ (s2.free hl2) (by rw [upd_same, ex]) (s2.trans (Same.upd hl2))⟩
      unfold atI ixN
      rw [if_neg (by decide), if_pos (by simp; omega)]
      simp only [Option.bind_some]
      rw [show ((-1 : Int) + ((V.str z :: r).length : Nat)).toNat = r.length by simp; omega]
      exact hx
    · refine ifF hp0 ⟨by decide, fun l hl2 => k l _ (s2.free hl2) ?_ (s2.trans (Same.upd hl2))⟩
      have ep : places z = [] := by
        by_cases e : places z = []
        · exact e
        · exact absurd e hp0
      rw [upd_same, rowParts_str, ep]
      rfl
theorem sc_l_cell_at : FnScope ["_law_script", "_law_k"] ["_law_script", "_law_k"] (defScope (top 9)) := ⟨rfl, rfl, rfl, by decide +kernel, rfl, by decide +kernel, by decide +kernel⟩
theorem ok_l_cell_at (T : Tx P w K mg) : FnOk P w K mg base CX0 1 T.d_l_cell_at.f T.d_l_cell_at.fd ["_law_script", "_law_k"] (spCell K) := by
  refine T.d_l_cell_at.F.ok sc_l_cell_at (fun vs H Q E h => ?_) (fun cdv A outer s H vs Q E hr h => ?_)
  · obtain ⟨a, ns, k, rfl, _⟩ := h
    rfl
  · obtain ⟨a, ns, i, rfl, hS, hl, h0, k⟩ := h
    refine ⟨_, (pss_cons (ps_if (pt_cmpR op_lt (pv 1) (pe_callB call_len (by rfl) T.n_len bt_len (pa_cons (pv 0) pa_nil)) (nomark _))
    (pss_one (ps_ret (pe_ix ix_list (pv 0) (pv 1) (fun _ _ => rfl))))
    pss_nil)
    (pss_one (ps_ret pe_int))), ?_⟩
    (simp only [_root_.L2.start, cxOf_K, cxComp_K, tSeq, tAsg, gName, tRet, tRetN, tDrop, tIfS, tTest, tB, tNot, tAnd, tOr, tAndV, tOrV, tNotV, tOp, tUn, tVar, tC, tCons, tNil, tStrs, tCB, tCall, tChain, tBM, tBM0, tPart, tNoPart, tSl, tIf, tNext, tTrue, selS, Option.bind_none, Option.bind_some, Option.join_some, if_true, rI, rI0, rU, rEq, rNe, rStarts, rSlS, lenV_str, tyV, List.map_cons, List.map_nil, List.length_cons, List.length_nil, List.replicate, List.cons_append, List.nil_append, List.append_nil, Nat.reduceAdd, Nat.reduceSub, Nat.zero_add, Nat.add_zero, Nat.sub_self, List.getElem?_cons_zero, List.getElem?_cons_succ, List.set_cons_zero, List.set_cons_succ, Option.some.injEq, V.int.injEq, V.str.injEq, V.ref.injEq, V.bl.injEq, V.ty.injEq, List.cons.injEq, exists_eq_left, exists_eq_left', exists_eq_right, exists_and_left, exists_eq, and_true, true_and, and_self, and_assoc, tFld, sFld, tMeth, tMake])
    refine ⟨_, .inl ⟨_, hS, rfl⟩, ?_⟩
    rw [List.length_map]
    by_cases hi : i < (ns.length : Int)
    · refine ifT hi ?_
      have hi2 : i.toNat < ns.length := by omega
      refine ⟨a, _, i, .int ns[i.toNat], rfl, rfl, hS, ?_, k _⟩
      have := atI_nat (xs := ns.map V.int) (j := i.toNat) (v := .int ns[i.toNat]) (by rw [List.getElem?_map]; simp [hi2])
      rwa [show ((i.toNat : Nat) : Int) = i by omega] at this
    · exact ifF hi (k _)
theorem sc_l_mixed : FnScope ["_law_x", "_law_number"] ["_law_x"] (defScope (top 10)) := ⟨rfl, rfl, rfl, by decide +kernel, rfl, by decide +kernel, by decide +kernel⟩
theorem ok_l_mixed (T : Tx P w K mg) : FnOk P w K mg base CX0 1 T.d_l_mixed.f T.d_l_mixed.fd ["_law_x"] (spMixed) := by
  refine T.d_l_mixed.F.ok sc_l_mixed (fun vs H Q E h => ?_) (fun cdv A outer s H vs Q E hr h => ?_)
  · obtain ⟨x, rfl, _⟩ := h
    rfl
  · obtain ⟨x, rfl, k⟩ := h
    refine ⟨_, (pss_cons (ps_set (i := 1) sc_l_mixed.nd rfl (Or.inl rfl) (pe_op op_mod (pe_op op_mul (pe_op op_add (pv 0) pe_int) pe_int) pe_int))
    (pss_cons (ps_set (i := 1) sc_l_mixed.nd rfl (Or.inl rfl) (pe_op op_mod (pe_op op_add (pe_op op_mul (pv 1) (pe_op op_add (pe_op op_mod (pv 1) pe_int) pe_int)) pe_int) pe_int))
    (pss_one (ps_ret (pe_op op_mod (pe_op op_mul (pv 1) (pe_op op_add (pe_op op_mod (pv 1) pe_int) pe_int)) pe_int))))), ?_⟩
    (simp only [_root_.L2.start, cxOf_K, cxComp_K, tSeq, tAsg, gName, tRet, tRetN, tDrop, tIfS, tTest, tB, tNot, tAnd, tOr, tAndV, tOrV, tNotV, tOp, tUn, tVar, tC, tCons, tNil, tStrs, tCB, tCall, tChain, tBM, tBM0, tPart, tNoPart, tSl, tIf, tNext, tTrue, selS, Option.bind_none, Option.bind_some, Option.join_some, if_true, rI, rI0, rU, rEq, rNe, rStarts, rSlS, lenV_str, tyV, List.map_cons, List.map_nil, List.length_cons, List.length_nil, List.replicate, List.cons_append, List.nil_append, List.append_nil, Nat.reduceAdd, Nat.reduceSub, Nat.zero_add, Nat.add_zero, Nat.sub_self, List.getElem?_cons_zero, List.getElem?_cons_succ, List.set_cons_zero, List.set_cons_succ, Option.some.injEq, V.int.injEq, V.str.injEq, V.ref.injEq, V.bl.injEq, V.ty.injEq, List.cons.injEq, exists_eq_left, exists_eq_left', exists_eq_right, exists_and_left, exists_eq, and_true, true_and, and_self, and_assoc, tFld, sFld, tMeth, tMake])
    have md : ∀ y : Int, 0 ≤ y % 2147483647 ∧ y % 2147483647 < 2147483647 := fun y => ⟨Int.emod_nonneg _ (by decide), Int.emod_lt_of_pos _ (by decide)⟩
    have big : ∀ y : Int, 0 ≤ y ∧ y < 2147483647 → -(2 ^ 64) < y ∧ y < 2 ^ 64 := fun y h => by
      have : (2 : Int) ^ 64 = 18446744073709551616 := by decide
      omega
    refine ⟨.inr (by decide), by decide, by decide, .inl (big _ (md _)), by decide, by decide, .inl (big _ (md _)), by decide, k _ (md _).1 (md _).2⟩
theorem sc_l_stream : FnScope ["_law_cell", "_law_many", "_law_found", "_law_number", "_law_k"] ["_law_cell", "_law_many"] (defScope (top 11)) := ⟨rfl, rfl, rfl, by decide +kernel, rfl, by decide +kernel, by decide +kernel⟩
theorem ok_l_stream (T : Tx P w K mg)
    (G_l_mixed : FnOk P w K mg base CX0 1 T.d_l_mixed.f T.d_l_mixed.fd ["_law_x"] (spMixed)) : FnOk P w K mg base CX0 2 T.d_l_stream.f T.d_l_stream.fd ["_law_cell", "_law_many"] (spStream) := by
  refine T.d_l_stream.F.ok sc_l_stream (fun vs H Q E h => ?_) (fun cdv A outer s H vs Q E hr h => ?_)
  · obtain ⟨c, m, rfl, _⟩ := h
    rfl
  · obtain ⟨c, m, rfl, h0, h1, k⟩ := h
    refine ⟨_, (pss_cons (ps_set (i := 2) sc_l_stream.nd rfl (Or.inl rfl) (pe_lst pa_nil))
    (pss_cons (ps_set (i := 3) sc_l_stream.nd rfl (Or.inl rfl) (pe_op op_mod (pv 0) pe_int))
    (pss_cons (ps_for PassesOwn.never rfl (pi_range1 rfl T.n_range (pa_cons (pv 1) pa_nil)) (pg_name (i := 4) sc_l_stream.nd rfl (Or.inl rfl))
    (pss_cons (ps_set (i := 3) sc_l_stream.nd rfl (Or.inl rfl) (pe_call G_l_mixed (hr.mono (by omega)) rfl T.d_l_mixed.hm T.d_l_mixed.F.kp T.d_l_mixed.b .nil pass0 (pa_cons (pe_op op_add (pv 3) (pe_op op_mul pe_int (pv 4))) pa_nil)))
    (pss_one (ps_expr (pe_bm PySem.F.plainAttrs_list PySem.F.slot_list_append PySem.F.type_list_append mt_append (pv 2) (pa_cons (pv 3) pa_nil))))))
    (pss_one (ps_ret (pv 2)))))), ?_⟩
    (simp only [_root_.L2.start, cxOf_K, cxComp_K, tSeq, tAsg, gName, tRet, tRetN, tDrop, tIfS, tTest, tB, tNot, tAnd, tOr, tAndV, tOrV, tNotV, tOp, tUn, tVar, tC, tCons, tNil, tStrs, tCB, tCall, tChain, tBM, tBM0, tPart, tNoPart, tSl, tIf, tNext, tTrue, selS, Option.bind_none, Option.bind_some, Option.join_some, if_true, rI, rI0, rU, rEq, rNe, rStarts, rSlS, lenV_str, tyV, List.map_cons, List.map_nil, List.length_cons, List.length_nil, List.replicate, List.cons_append, List.nil_append, List.append_nil, Nat.reduceAdd, Nat.reduceSub, Nat.zero_add, Nat.add_zero, Nat.sub_self, List.getElem?_cons_zero, List.getElem?_cons_succ, List.set_cons_zero, List.set_cons_succ, Option.some.injEq, V.int.injEq, V.str.injEq, V.ref.injEq, V.bl.injEq, V.ty.injEq, List.cons.injEq, exists_eq_left, exists_eq_left', exists_eq_right, exists_and_left, exists_eq, and_true, true_and, and_self, and_assoc, tFld, sFld, tMeth, tMake])
    refine ⟨by decide, fun l hl => ⟨by decide, ?_⟩⟩
    have b62 : (2 : Int) ^ 62 = 4611686018427387904 := by decide
    have b64 : (2 : Int) ^ 64 = 18446744073709551616 := by decide
    refine ⟨_, rfl, m, rfl, by omega, by omega, ?_⟩
    refine for_range (fun i σ H2 => ∃ (ns : List Int) (num : Int) (kk : Option V), σ = [some (.int c), some (.int m), some (.ref l), some (.int num), kk] ∧ ns.length = i ∧ (∀ n ∈ ns, 0 ≤ n ∧ n < 2147483647) ∧ H2 l = some (.lst (ns.map V.int)) ∧ Same H H2)
      ⟨[], _, none, rfl, rfl, (fun _ h => nomatch h), upd_same, Same.upd hl⟩ ?_ ?_
    · rintro i σ H2 hi ⟨ns, num, kk, rfl, hlen, hns, hl2, hs2⟩
      (simp only [_root_.L2.start, cxOf_K, cxComp_K, tSeq, tAsg, gName, tRet, tRetN, tDrop, tIfS, tTest, tB, tNot, tAnd, tOr, tAndV, tOrV, tNotV, tOp, tUn, tVar, tC, tCons, tNil, tStrs, tCB, tCall, tChain, tBM, tBM0, tPart, tNoPart, tSl, tIf, tNext, tTrue, selS, Option.bind_none, Option.bind_some, Option.join_some, if_true, rI, rI0, rU, rEq, rNe, rStarts, rSlS, lenV_str, tyV, List.map_cons, List.map_nil, List.length_cons, List.length_nil, List.replicate, List.cons_append, List.nil_append, List.append_nil, Nat.reduceAdd, Nat.reduceSub, Nat.zero_add, Nat.add_zero, Nat.sub_self, List.getElem?_cons_zero, List.getElem?_cons_succ, List.set_cons_zero, List.set_cons_succ, Option.some.injEq, V.int.injEq, V.str.injEq, V.ref.injEq, V.bl.injEq, V.ty.injEq, List.cons.injEq, exists_eq_left, exists_eq_left', exists_eq_right, exists_and_left, exists_eq, and_true, true_and, and_self, and_assoc, tFld, sFld, tMeth, tMake])
      refine ⟨.inl ⟨by omega, by omega⟩, _, rfl, fun r r0 r1 => ?_⟩
      refine ⟨.inl ⟨_, SqL.of hl2⟩, ?_⟩
      refine ⟨l, _, _, rfl, rfl, hl2, ?_, ?_⟩
      · rw [List.length_map, hlen]
        exact Nat.lt_of_lt_of_le (show i < 1000 by omega) (by decide)
      · refine ⟨ns ++ [r], r, rfl, ?_, ?_, ?_, ?_⟩
        · rw [List.length_append, hlen]; rfl
        · intro n hn
          rcases List.mem_append.mp hn with hn | hn
          · exact hns n hn
          · rw [List.mem_singleton.mp hn]; exact ⟨r0, r1⟩
        · rw [upd_same, List.map_append]; rfl
        · intro b o e
          rw [upd_ne (ne_of_none e hl)]
          exact hs2 b o e
    · rintro σ H2 ⟨ns, num, kk, rfl, hlen, hns, hl2, hs2⟩
      exact ⟨_, rfl, k l ns H2 hl (by omega) hns hl2 hs2⟩
theorem sc_l_name_by : FnScope ["_law_x", "_law_some", "_law_way", "_law_size", "_law_name", "_law_keys"] ["_law_x"] (defScope (top 12)) := ⟨rfl, rfl, rfl, by decide +kernel, rfl, by decide +kernel, by decide +kernel⟩
theorem ok_l_name_by (T : Tx P w K mg)
    (G_l_stream : FnOk P w K mg base CX0 2 T.d_l_stream.f T.d_l_stream.fd ["_law_cell", "_law_many"] (spStream)) : FnOk P w K mg base CX0 3 T.d_l_name_by.f T.d_l_name_by.fd ["_law_x"] (spNameBy) := by
  refine T.d_l_name_by.F.ok sc_l_name_by (fun vs H Q E h => ?_) (fun cdv A outer s H vs Q E hr h => ?_)
  · obtain ⟨x, rfl, _⟩ := h
    rfl
  · obtain ⟨x, rfl, hx, k⟩ := h
    refine ⟨_, (pss_cons (ps_set (i := 1) sc_l_name_by.nd rfl (Or.inr rfl) pe_str)
    (pss_cons (ps_set (i := 2) sc_l_name_by.nd rfl (Or.inl rfl) (pe_op op_mod (pv 0) pe_int))
    (pss_cons (ps_if (pt_cmpR op_lt (pv 2) pe_int (nomark _))
    (pss_one (ps_ret (pe_ix ix_list (pe_lst (pa_strs (zs := ["a", "b", "ab", "ba", "aa", "c", "ends", "inn"]) (by decide +kernel))) (pe_op op_mod (pe_op op_fdiv (pv 0) pe_int) pe_int) (fun _ _ => rfl))))
    pss_nil)
    (pss_cons (ps_set (i := 3) sc_l_name_by.nd rfl (Or.inl rfl) (pe_ix ix_list (pe_lst (pa_cons (pe_op op_add pe_int (pe_op op_mod (pe_op op_fdiv (pv 0) pe_int) pe_int)) (pa_cons pe_int (pa_cons (pe_op op_add pe_int (pe_op op_mod (pe_op op_fdiv (pv 0) pe_int) pe_int)) pa_nil)))) (pe_op op_sub (pv 2) pe_int) (fun _ _ => rfl)))
    (pss_cons (ps_set (i := 4) sc_l_name_by.nd rfl (Or.inl rfl) (pe_bm PySem.F.plainAttrs_str PySem.F.slot_str_join PySem.F.type_str_join mt_join pe_str (pa_cons (pe_lc (N' := ["_law_y", "_law_some"]) (sel := [none, some 1]) rfl rfl rfl (pi_list (pe_call G_l_stream (hr.mono (by omega)) rfl T.d_l_stream.hm T.d_l_stream.F.kp T.d_l_stream.b .nil pass0 (pa_cons (pe_op op_fdiv (pv 0) pe_int) (pa_cons (pv 3) pa_nil)))) (gk_name rfl) (fun _ _ _ _ _ => ⟨(pg_name (i := 0) (show (["_law_y", "_law_some"] : List Str).Nodup by decide +kernel) rfl (Or.inl rfl)), pts_nil, (pe_ix ix_str (pv 1) (pe_op op_mod (pv 0) pe_int) (fun _ _ => rfl))⟩)) pa_nil)))
    (pss_cons (ps_set (i := 5) sc_l_name_by.nd rfl (Or.inl rfl) (pe_lst (pa_strs (zs := ["any", "ask", "begin", "but", "do", "end", "errand", "give", "group", "hear", "in", "keep"]) (by decide +kernel))))
    (pss_cons (ps_set (i := 5) sc_l_name_by.nd rfl (Or.inl rfl) (pe_op op_cat (pv 5) (pe_lst (pa_strs (zs := ["last", "late", "let", "limit", "off", "raise", "repeat", "ring", "send", "take", "try"]) (by decide +kernel)))))
    (pss_cons (ps_if (pt_cmpR op_in_seq (pv 4) (pe_op op_cat (pv 5) (pe_lst (pa_strs (zs := ["wait", "when", "within"]) (by decide +kernel)))) (by with_unfolding_all rfl))
    (pss_one (ps_ret (pe_op op_add_str pe_str (pv 4))))
    pss_nil)
    (pss_one (ps_ret (pv 4))))))))))), ?_⟩
    (simp only [tLst, tTup, tDNewK, tLc, iList, iStr, iTup, _root_.L2.start, cxOf_K, cxComp_K, tSeq, tAsg, gName, tRet, tRetN, tDrop, tIfS, tTest, tB, tNot, tAnd, tOr, tAndV, tOrV, tNotV, tOp, tUn, tVar, tC, tCons, tNil, tStrs, tCB, tCall, tChain, tBM, tBM0, tPart, tNoPart, tSl, tIf, tNext, tTrue, selS, Option.bind_none, Option.bind_some, Option.join_some, if_true, rI, rI0, rU, rEq, rNe, rStarts, rSlS, lenV_str, tyV, List.map_cons, List.map_nil, List.length_cons, List.length_nil, List.replicate, List.cons_append, List.nil_append, List.append_nil, Nat.reduceAdd, Nat.reduceSub, Nat.zero_add, Nat.add_zero, Nat.sub_self, List.getElem?_cons_zero, List.getElem?_cons_succ, List.set_cons_zero, List.set_cons_succ, Option.some.injEq, V.int.injEq, V.str.injEq, V.ref.injEq, V.bl.injEq, V.ty.injEq, List.cons.injEq, exists_eq_left, exists_eq_left', exists_eq_right, exists_and_left, exists_eq, and_true, true_and, and_self, and_assoc, tFld, sFld, tMeth, tMake])
    refine ⟨by decide, ?_⟩
    by_cases hw : x % 5 < 2
    · refine ifT hw ⟨by decide, fun p hp => ⟨⟨by decide, by decide⟩, by decide, ?_⟩⟩
      obtain ⟨z, hz, hzl⟩ := pickS (xs := [V.str "a", V.str "b", V.str "ab", V.str "ba", V.str "aa", V.str "c", V.str "ends", V.str "inn"]) (m := x / 5 % 8) (shortS_all (by decide +kernel)) (by omega) (by simp only [List.length_cons, List.length_nil]; omega)
      exact ⟨p, _, _, _, rfl, rfl, SqL.of upd_same, hz, k z _ hzl (Same.upd hp)⟩
    refine ifF hw ⟨⟨by decide, by decide⟩, by decide, ⟨by decide, by decide⟩, by decide, by decide, fun p hp => ?_⟩
    obtain ⟨m, hm, hm0, hm1⟩ : ∃ m : Int, atI [V.int (1 + x / 5 % 8), V.int 8, V.int (1 + x / 5 % 3)] (x % 5 - 2) = some (.int m) ∧ 0 ≤ m ∧ m ≤ 8 := by
      have h3 : x % 5 - 2 = 0 ∨ x % 5 - 2 = 1 ∨ x % 5 - 2 = 2 := by omega
      rcases h3 with h3 | h3 | h3 <;> rw [h3]
      · exact ⟨_, rfl, by omega, by omega⟩
      · exact ⟨_, rfl, by omega, by omega⟩
      · exact ⟨_, rfl, by omega, by omega⟩
    refine ⟨p, _, _, _, rfl, rfl, SqL.of upd_same, hm, ⟨by decide, by decide⟩, _, m, rfl, hm0, by omega, fun l ms H' hl0 hml hms hl' s' => ⟨l, rfl, ⟨_, SqL.of hl'⟩, ?_⟩⟩
    have hml2 : ms.length ≤ 8 := by omega
    refine lc_list (K := K) (a := l) (xs := ms.map V.int) (fun i ys H2 => H2 = H' ∧ ∃ cs : List Nat, cs.length = i ∧ ys = cs.map fun c => V.str ⟨#[c]⟩) ⟨rfl, [], rfl, rfl⟩ ?_ ?_ ?_ ?_
    · rintro i ys H2 hi ⟨rfl, cs, hc, rfl⟩
      exact ⟨SqL.of hl', by rw [List.length_map, hc]; exact Nat.le_refl _⟩
    · rw [List.length_map]; exact Nat.le_trans hml2 (by decide)
    · rintro i x ys H2 hx ⟨rfl, cs, hc, rfl⟩
      obtain ⟨n, rfl, hn'⟩ := in_int hx
      (simp only [_root_.L2.start, cxOf_K, cxComp_K, tSeq, tAsg, gName, tRet, tRetN, tDrop, tIfS, tTest, tB, tNot, tAnd, tOr, tAndV, tOrV, tNotV, tOp, tUn, tVar, tC, tCons, tNil, tStrs, tCB, tCall, tChain, tBM, tBM0, tPart, tNoPart, tSl, tIf, tNext, tTrue, selS, Option.bind_none, Option.bind_some, Option.join_some, if_true, rI, rI0, rU, rEq, rNe, rStarts, rSlS, lenV_str, tyV, List.map_cons, List.map_nil, List.length_cons, List.length_nil, List.replicate, List.cons_append, List.nil_append, List.append_nil, Nat.reduceAdd, Nat.reduceSub, Nat.zero_add, Nat.add_zero, Nat.sub_self, List.getElem?_cons_zero, List.getElem?_cons_succ, List.set_cons_zero, List.set_cons_succ, Option.some.injEq, V.int.injEq, V.str.injEq, V.ref.injEq, V.bl.injEq, V.ty.injEq, List.cons.injEq, exists_eq_left, exists_eq_left', exists_eq_right, exists_and_left, exists_eq, and_true, true_and, and_self, and_assoc, tFld, sFld, tMeth, tMake])
      have hlt : (n % 26).toNat < ("abcdefghijklmnopqrstuvwxyz" : Str).cps.toList.length := by
        rw [show ("abcdefghijklmnopqrstuvwxyz" : Str).cps.toList.length = 26 by decide +kernel]
        omega
      have hat := atI_nat (xs := ("abcdefghijklmnopqrstuvwxyz" : Str).cps.toList) (j := (n % 26).toNat) (v := ("abcdefghijklmnopqrstuvwxyz" : Str).cps.toList[(n % 26).toNat]) (by simp [hlt])
      rw [show (((n % 26).toNat : Nat) : Int) = n % 26 by omega] at hat
      refine ⟨by decide, _, _, _, rfl, rfl, by decide +kernel, hat, rfl, cs ++ [_], by rw [List.length_append, hc]; rfl, by rw [List.map_append]; rfl⟩
    · rintro ys H2 ⟨rfl, cs, hc, rfl⟩ D hD
      rw [List.length_map] at hc
      refine ⟨_, D, cs.map fun c => (⟨#[c]⟩ : Str), rfl, rfl, SqL.of (by rw [upd_same, List.map_map]; rfl), ?_, ?_⟩
      · rw [List.map_map, List.length_map, sum1, show (Str.ofString "").length = 0 by decide +kernel]
        omega
      · have ht0 : (Txt.join "" (cs.map fun c => (⟨#[c]⟩ : Str))).length ≤ 8 := by
          rw [join1]
          omega
        generalize Txt.join "" (cs.map fun c => (⟨#[c]⟩ : Str)) = t0 at ht0 ⊢
        generalize hG2 : upd H2 D _ = G2
        have sG2 : Same H G2 := by rw [← hG2]; exact ((Same.upd hp).trans s').trans (Same.upd hD)
        clear hG2
        refine ⟨by decide, fun p hp => ⟨by decide, fun q hq => ?_⟩⟩
        have n1 : p ≠ q := ne_of_none upd_same hq
        refine ⟨p, q, _, _, rfl, rfl, (by rw [upd_ne n1]; exact upd_same), upd_same, by decide, fun r hr' => ⟨by decide, fun t ht => ?_⟩⟩
        have n2 : r ≠ t := ne_of_none upd_same ht
        refine ⟨r, t, _, _, rfl, rfl, (by rw [upd_ne n2]; exact upd_same), upd_same, by decide, fun y hy => ?_⟩
        have sG := fun o => sG2.trans ((((Same.upd hp).trans (Same.upd hq)).trans (Same.upd hr')).trans (Same.upd ht) |>.trans (Same.upd (o := o) hy))
        refine ⟨y, _, rfl, .inl (SqL.of upd_same), rfl, rfl, _, rfl, ?_⟩
        have e1 : ("z" : Str).length = 1 := by decide +kernel
        have b20 : (20 : Nat) ≤ sizeLine := by decide
        refine ifB ?_ (k _ _ (by omega) (sG _))
        exact ⟨t0, rfl, by omega, k _ _ (by rw [app_len]; omega) (sG _)⟩
theorem sc_l_names : FnScope ["_law_x", "_law_names_here", "_law_y", "_law_name", "_law_last"] ["_law_x"] (defScope (top 13)) := ⟨rfl, rfl, rfl, by decide +kernel, rfl, by decide +kernel, by decide +kernel⟩
theorem ok_l_names (T : Tx P w K mg)
    (G_l_stream : FnOk P w K mg base CX0 2 T.d_l_stream.f T.d_l_stream.fd ["_law_cell", "_law_many"] (spStream))
    (G_l_name_by : FnOk P w K mg base CX0 3 T.d_l_name_by.f T.d_l_name_by.fd ["_law_x"] (spNameBy)) : FnOk P w K mg base CX0 4 T.d_l_names.f T.d_l_names.fd ["_law_x"] (spNames) := by
  refine T.d_l_names.F.ok sc_l_names (fun vs H Q E h => ?_) (fun cdv A outer s H vs Q E hr h => ?_)
  · obtain ⟨x, rfl, _⟩ := h
    rfl
  · obtain ⟨x, rfl, k⟩ := h
    have hu := hu100 hr
    refine ⟨_, (pss_cons (ps_set (i := 1) sc_l_names.nd rfl (Or.inl rfl) (pe_lst pa_nil))
    (pss_cons (ps_for PassesOwn.never rfl (pi_list (pe_call G_l_stream (hr.mono (by omega)) rfl T.d_l_stream.hm T.d_l_stream.F.kp T.d_l_stream.b .nil pass0 (pa_cons (pv 0) (pa_cons pe_int pa_nil)))) (pg_name (i := 2) sc_l_names.nd rfl (Or.inl rfl))
    (pss_cons (ps_set (i := 3) sc_l_names.nd rfl (Or.inl rfl) (pe_call G_l_name_by (hr.mono (by omega)) rfl T.d_l_name_by.hm T.d_l_name_by.F.kp T.d_l_name_by.b .nil pass0 (pa_cons (pv 2) pa_nil)))
    (pss_mid (ps_if (PW.pt (pw_and (pt_cmpR (op_neL hu) (pv 1) (pe_lst pa_nil) (nomark _)) (pw_and1 (pt_cmpR op_eq (pe_op op_mod (pe_op op_fdiv (pv 2) pe_int) pe_int) pe_int (nomark _)))))
    (pss_cons (ps_set (i := 4) sc_l_names.nd rfl (Or.inl rfl) (pe_ix ix_list (pv 1) (pe_un un_neg pe_int) (fun _ _ => rfl)))
    (pss_one (ps_set (i := 3) sc_l_names.nd rfl (Or.inl rfl) (pe_ix ix_list (pe_lst (pa_cons (pe_op op_add_str (pe_slice sl_str (pv 4) po_none (po_some (pe_un un_neg pe_int))) pe_str) (pa_cons (pe_op op_add_str pe_str (pe_slice sl_str (pv 4) (po_some pe_int) po_none)) (pa_cons (pe_op op_add_str (pe_slice sl_str (pv 4) po_none (po_some pe_int)) pe_str) pa_nil)))) (pe_op op_mod (pe_op op_fdiv (pv 2) pe_int) pe_int) (fun _ _ => rfl)))))
    pss_nil)
    (pss_one (ps_if (pt_cmpR op_notIn_seq (pv 3) (pv 1) (by with_unfolding_all rfl))
    (pss_one (ps_expr (pe_bm PySem.F.plainAttrs_list PySem.F.slot_list_append PySem.F.type_list_append mt_append (pv 1) (pa_cons (pv 3) pa_nil))))
    pss_nil)))))
    (pss_one (ps_ret (pv 1))))), ?_⟩
    (simp only [_root_.L2.start, cxOf_K, cxComp_K, tSeq, tAsg, gName, tRet, tRetN, tDrop, tIfS, tTest, tB, tNot, tAnd, tOr, tAndV, tOrV, tNotV, tOp, tUn, tVar, tC, tCons, tNil, tStrs, tCB, tCall, tChain, tBM, tBM0, tPart, tNoPart, tSl, tIf, tNext, tTrue, selS, Option.bind_none, Option.bind_some, Option.join_some, if_true, rI, rI0, rU, rEq, rNe, rStarts, rSlS, lenV_str, tyV, List.map_cons, List.map_nil, List.length_cons, List.length_nil, List.replicate, List.cons_append, List.nil_append, List.append_nil, Nat.reduceAdd, Nat.reduceSub, Nat.zero_add, Nat.add_zero, Nat.sub_self, List.getElem?_cons_zero, List.getElem?_cons_succ, List.set_cons_zero, List.set_cons_succ, Option.some.injEq, V.int.injEq, V.str.injEq, V.ref.injEq, V.bl.injEq, V.ty.injEq, List.cons.injEq, exists_eq_left, exists_eq_left', exists_eq_right, exists_and_left, exists_eq, and_true, true_and, and_self, and_assoc, tFld, sFld, tMeth, tMake])
    refine ⟨by decide, fun l hl => ?_⟩
    refine ⟨_, rfl, _, _, rfl, by decide, by decide, fun l0 ns H0 hl0 hnl hns hH0 s0 => ⟨l0, rfl, ⟨_, SqL.of hH0⟩, ?_⟩⟩
    have hnl9 : ns.length = 9 := by omega
    have hll : l0 ≠ l := fun e => by rw [e, upd_same] at hl0; cases hl0
    have b60 : (60 : Nat) ≤ sizeLine := by decide
    refine for_list (K := K) (a := l0) (xs := ns.map V.int) (fun i σ H2 => ∃ (o1 o2 o3 : Option V) (zs : List Str), σ = [some (.int x), some (.ref l), o1, o2, o3] ∧ H2 l = some (.lst (zs.map V.str)) ∧ zs.length ≤ i ∧ (0 < i → 1 ≤ zs.length) ∧ (∀ z ∈ zs, z.length ≤ 20 + i) ∧ Same H H2 ∧ H2 l0 = some (.lst (ns.map V.int)))
      ⟨none, none, none, [], rfl, s0 l _ upd_same, Nat.le_refl _, (fun h => absurd h (by decide)), (fun _ h => nomatch h), (Same.upd hl).trans s0, hH0⟩ (fun i σ H2 _ ⟨_, _, _, _, _, _, _, _, _, _, h⟩ => SqL.of h) ?_ ?_
    · rintro i y σ H2 hi ⟨o1, o2, o3, zs, rfl, hl2, hz1, hz2, hz3, s2, h02⟩
      obtain ⟨n, rfl, hn⟩ := in_int hi
      have hi9 : i < 9 := by
        have := (List.getElem?_eq_some_iff.mp hn).1
        omega
      have hn0 := hns n (List.mem_of_getElem? hn)
      (simp only [_root_.L2.start, cxOf_K, cxComp_K, tSeq, tAsg, gName, tRet, tRetN, tDrop, tIfS, tTest, tB, tNot, tAnd, tOr, tAndV, tOrV, tNotV, tOp, tUn, tVar, tC, tCons, tNil, tStrs, tCB, tCall, tChain, tBM, tBM0, tPart, tNoPart, tSl, tIf, tNext, tTrue, selS, Option.bind_none, Option.bind_some, Option.join_some, if_true, rI, rI0, rU, rEq, rNe, rStarts, rSlS, lenV_str, tyV, List.map_cons, List.map_nil, List.length_cons, List.length_nil, List.replicate, List.cons_append, List.nil_append, List.append_nil, Nat.reduceAdd, Nat.reduceSub, Nat.zero_add, Nat.add_zero, Nat.sub_self, List.getElem?_cons_zero, List.getElem?_cons_succ, List.set_cons_zero, List.set_cons_succ, Option.some.injEq, V.int.injEq, V.str.injEq, V.ref.injEq, V.bl.injEq, V.ty.injEq, List.cons.injEq, exists_eq_left, exists_eq_left', exists_eq_right, exists_and_left, exists_eq, and_true, true_and, and_self, and_assoc, tFld, sFld, tMeth, tMake])
      refine ⟨n, rfl, hn0.1, fun nm H3 hnm s3 => ?_⟩
      have hl3 := s3 l _ hl2
      refine ⟨fun σ' H' => ∃ (o3 : Option V) (nm : Str), σ' = [some (.int x), some (.ref l), some (.int n), some (.str nm), o3] ∧ nm.length ≤ 21 + i ∧ Same H3 H', ?_, ?_⟩
      · (simp only [tLst, tTup, tDNewK, _root_.L2.start, cxOf_K, cxComp_K, tSeq, tAsg, gName, tRet, tRetN, tDrop, tIfS, tTest, tB, tNot, tAnd, tOr, tAndV, tOrV, tNotV, tOp, tUn, tVar, tC, tCons, tNil, tStrs, tCB, tCall, tChain, tBM, tBM0, tPart, tNoPart, tSl, tIf, tNext, tTrue, selS, Option.bind_none, Option.bind_some, Option.join_some, if_true, rI, rI0, rU, rEq, rNe, rStarts, rSlS, lenV_str, tyV, List.map_cons, List.map_nil, List.length_cons, List.length_nil, List.replicate, List.cons_append, List.nil_append, List.append_nil, Nat.reduceAdd, Nat.reduceSub, Nat.zero_add, Nat.add_zero, Nat.sub_self, List.getElem?_cons_zero, List.getElem?_cons_succ, List.set_cons_zero, List.set_cons_succ, Option.some.injEq, V.int.injEq, V.str.injEq, V.ref.injEq, V.bl.injEq, V.ty.injEq, List.cons.injEq, exists_eq_left, exists_eq_left', exists_eq_right, exists_and_left, exists_eq, and_true, true_and, and_self, and_assoc, tFld, sFld, tMeth, tMake])
        refine ⟨by decide, fun p hp => ?_⟩
        have hpl : l ≠ p := ne_of_none hl3 hp
        refine ⟨l, p, _, _, 0, fun _ => true, rfl, rfl, SqL.of (by rw [upd_ne hpl]; exact hl3), SqL.of upd_same, by decide, (fun j x y hx hy => nomatch hy), ?_⟩
        have s3p : Same H3 (upd H3 p (.lst [])) := Same.upd hp
        by_cases hz0 : zs.length = 0
        · refine ⟨false, ?_, ?_⟩
          · rw [List.length_map, List.length_nil, hz0]; rfl
          · exact ⟨by omega, s3p⟩
        · refine ⟨true, ?_, ?_⟩
          · rw [List.length_map, List.length_nil, decide_eq_false hz0]; rfl
          · refine ⟨⟨by decide, by decide⟩, by decide, rfl, ?_⟩
            refine ifB ?_ ⟨by omega, s3p⟩
            obtain ⟨v, hv, hvm, _⟩ := pickLast (xs := zs.map V.str) (by rw [List.length_map]; omega)
            obtain ⟨z, hz, rfl⟩ := List.mem_map.mp hvm
            have hzl := hz3 z hz
            have c1 := cut_le z none (some (-1))
            have c2 := cut_le z (some 1) none
            have c3 := cut_le z none (some 7)
            have q1 : ("q" : Str).length = 1 := by decide +kernel
            refine ⟨l, _, _, _, rfl, rfl, SqL.of (s3p l _ hl3), hv, z, rfl, by omega, by omega, z, rfl, by omega, by omega, z, rfl, by omega, by omega, by decide, fun p2 hp2 => ⟨⟨by decide, by decide⟩, by decide, ?_⟩⟩
            obtain ⟨z4, hz4, hz4l⟩ : ∃ z4 : Str, atI [V.str (cutS z none (some (-1)) ++ "q"), V.str ("q" ++ cutS z (some 1) none), V.str (cutS z none (some 7) ++ "q")] (n / 28 % 3) = some (.str z4) ∧ z4.length ≤ 21 + i := by
              have h3 : n / 28 % 3 = 0 ∨ n / 28 % 3 = 1 ∨ n / 28 % 3 = 2 := by omega
              rcases h3 with h3 | h3 | h3 <;> rw [h3]
              · exact ⟨_, rfl, by rw [app_len]; omega⟩
              · exact ⟨_, rfl, by rw [app_len]; omega⟩
              · exact ⟨_, rfl, by rw [app_len]; omega⟩
            exact ⟨p2, _, _, _, rfl, rfl, SqL.of upd_same, hz4, _, z4, rfl, rfl, hz4l, s3p.trans (Same.upd hp2)⟩
      · rintro σ' H4 ⟨o4, nm, rfl, hnm, s4⟩
        (simp only [_root_.L2.start, cxOf_K, cxComp_K, tSeq, tAsg, gName, tRet, tRetN, tDrop, tIfS, tTest, tB, tNot, tAnd, tOr, tAndV, tOrV, tNotV, tOp, tUn, tVar, tC, tCons, tNil, tStrs, tCB, tCall, tChain, tBM, tBM0, tPart, tNoPart, tSl, tIf, tNext, tTrue, selS, Option.bind_none, Option.bind_some, Option.join_some, if_true, rI, rI0, rU, rEq, rNe, rStarts, rSlS, lenV_str, tyV, List.map_cons, List.map_nil, List.length_cons, List.length_nil, List.replicate, List.cons_append, List.nil_append, List.append_nil, Nat.reduceAdd, Nat.reduceSub, Nat.zero_add, Nat.add_zero, Nat.sub_self, List.getElem?_cons_zero, List.getElem?_cons_succ, List.set_cons_zero, List.set_cons_succ, Option.some.injEq, V.int.injEq, V.str.injEq, V.ref.injEq, V.bl.injEq, V.ty.injEq, List.cons.injEq, exists_eq_left, exists_eq_left', exists_eq_right, exists_and_left, exists_eq, and_true, true_and, and_self, and_assoc, tFld, sFld, tMeth, tMake])
        have hl4 := s4 l _ hl3
        have h04 := s4 l0 _ (s3 l0 _ h02)
        have sa := (s2.trans s3).trans s4
        refine ⟨l, _, rfl, .inl (SqL.of hl4), rfl, flat_keys zs, _, rfl, ?_⟩
        have here : ∃ zs : List Str, H4 l = some (.lst (zs.map V.str)) ∧ zs.length ≤ i ∧ (0 < i → 1 ≤ zs.length) ∧ (∀ z ∈ zs, z.length ≤ 20 + i) := ⟨zs, hl4, hz1, hz2, hz3⟩
        have add : ∃ zs' : List Str, upd H4 l (.lst (zs.map V.str ++ [V.str nm])) l = some (.lst (zs'.map V.str)) ∧ zs'.length ≤ i + 1 ∧ (0 < i + 1 → 1 ≤ zs'.length) ∧ (∀ z ∈ zs', z.length ≤ 20 + (i + 1)) ∧ Same H (upd H4 l (.lst (zs.map V.str ++ [V.str nm]))) ∧ upd H4 l (.lst (zs.map V.str ++ [V.str nm])) l0 = some (.lst (ns.map V.int)) := by
          refine ⟨zs ++ [nm], ?_, ?_, ?_, ?_, same_set sa hl, ?_⟩
          · rw [upd_same, List.map_append]; rfl
          · rw [List.length_append]; simp only [List.length_cons, List.length_nil]; omega
          · intro _; rw [List.length_append]; simp only [List.length_cons, List.length_nil]; omega
          · intro z hz
            rcases List.mem_append.mp hz with hz | hz
            · have := hz3 z hz; omega
            · rw [List.mem_singleton.mp hz]; omega
          · rw [upd_ne hll]; exact h04
        by_cases hz0 : zs.length = 0
        · have e : zs = [] := List.length_eq_zero_iff.mp hz0
          subst e
          exact ⟨.inl ⟨_, SqL.of hl4⟩, l, _, _, rfl, rfl, hl4, by decide, add⟩
        · refine ifB ⟨.inl ⟨_, SqL.of hl4⟩, l, _, _, rfl, rfl, hl4, ?_, add⟩ ⟨zs, hl4, by omega, fun _ => by omega, fun z hz => Nat.le_trans (hz3 z hz) (by omega), sa, h04⟩
          rw [List.length_map]; omega
    · rintro σ H2 ⟨o1, o2, o3, zs, rfl, hl2, hz1, hz2, hz3, s2, h02⟩
      rw [List.length_map, hnl9] at hz1 hz2 hz3
      exact ⟨_, rfl, k l H2 hl ⟨zs, hl2, hz2 (by decide), hz1, fun z hz => Nat.le_trans (hz3 z hz) (by decide)⟩ s2⟩
theorem sc_l_value_by : FnScope ["_law_x", "_law_names_here", "_law_way"] ["_law_x", "_law_names_here"] (defScope (top 14)) := ⟨rfl, rfl, rfl, by decide +kernel, rfl, by decide +kernel, by decide +kernel⟩
theorem ok_l_value_by (T : Tx P w K mg) : FnOk P w K mg base CX0 1 T.d_l_value_by.f T.d_l_value_by.fd ["_law_x", "_law_names_here"] (spValueBy) := by
  refine T.d_l_value_by.F.ok sc_l_value_by (fun vs H Q E h => ?_) (fun cdv A outer s H vs Q E hr h => ?_)
  · obtain ⟨x, l, rfl, _⟩ := h
    rfl
  · obtain ⟨x, l, rfl, hx, ⟨zs, hl, hz1, hz2, hz3⟩, k⟩ := h
    refine ⟨_, (pss_cons (ps_set (i := 2) sc_l_value_by.nd rfl (Or.inl rfl) (pe_op op_mod (pv 0) pe_int))
    (pss_cons (ps_if (pt_cmpR op_lt (pv 2) pe_int (nomark _))
    (pss_one (ps_ret (pe_op op_mod (pe_op op_fdiv (pv 0) pe_int) pe_int)))
    pss_nil)
    (pss_cons (ps_if (pt_cmpR op_eq (pv 2) pe_int (nomark _))
    (pss_one (ps_ret (pe_ix ix_list (pe_lst (pa_cons pe_int (pa_cons pe_int (pa_cons pe_int (pa_cons pe_int (pa_cons pe_int (pa_cons (pe_op op_mod (pe_op op_fdiv (pv 0) pe_int) pe_int) pa_nil))))))) (pe_op op_mod (pe_op op_fdiv (pv 0) pe_int) pe_int) (fun _ _ => rfl))))
    pss_nil)
    (pss_cons (ps_if (pt_cmpR op_lt (pv 2) pe_int (nomark _))
    (pss_one (ps_ret (pe_ix ix_list (pv 1) (pe_op op_mod (pe_op op_fdiv (pv 0) pe_int) (pe_callB call_len (by rfl) T.n_len bt_len (pa_cons (pv 1) pa_nil))) (fun _ _ => rfl))))
    pss_nil)
    (pss_one (ps_ret (pe_ix ix_list (pe_lst (pa_strs (zs := [":late", ":off", ":nobody", ":a", ":abcdefgh", ":end"]) (by decide +kernel))) (pe_op op_mod (pe_op op_fdiv (pv 0) pe_int) pe_int) (fun _ _ => rfl)))))))), ?_⟩
    (simp only [tLst, tTup, tDNewK, _root_.L2.start, cxOf_K, cxComp_K, tSeq, tAsg, gName, tRet, tRetN, tDrop, tIfS, tTest, tB, tNot, tAnd, tOr, tAndV, tOrV, tNotV, tOp, tUn, tVar, tC, tCons, tNil, tStrs, tCB, tCall, tChain, tBM, tBM0, tPart, tNoPart, tSl, tIf, tNext, tTrue, selS, Option.bind_none, Option.bind_some, Option.join_some, if_true, rI, rI0, rU, rEq, rNe, rStarts, rSlS, lenV_str, tyV, List.map_cons, List.map_nil, List.length_cons, List.length_nil, List.replicate, List.cons_append, List.nil_append, List.append_nil, Nat.reduceAdd, Nat.reduceSub, Nat.zero_add, Nat.add_zero, Nat.sub_self, List.getElem?_cons_zero, List.getElem?_cons_succ, List.set_cons_zero, List.set_cons_succ, Option.some.injEq, V.int.injEq, V.str.injEq, V.ref.injEq, V.bl.injEq, V.ty.injEq, List.cons.injEq, exists_eq_left, exists_eq_left', exists_eq_right, exists_and_left, exists_eq, and_true, true_and, and_self, and_assoc, tFld, sFld, tMeth, tMake])
    have len : LenV K (.ref l) H zs.length := lenV_ref.mpr (.inl ⟨_, SqL.of hl, by rw [List.length_map]⟩)
    refine ⟨by decide, ?_⟩
    refine ifB ⟨⟨by decide, by decide⟩, by decide, k _ _ (TV.int (by omega) (by omega)) (Same.refl H)⟩ ⟨rfl, ?_⟩
    refine ifB ?_ (ifB ?_ ?_)
    · refine ⟨⟨by decide, by decide⟩, by decide, by decide, fun p hp => ⟨⟨by decide, by decide⟩, by decide, ?_⟩⟩
      refine ixAny (SqL.of upd_same) (by omega) (by simp only [List.length_cons, List.length_nil]; omega) fun v hv => k v _ ?_ (Same.upd hp)
      simp only [List.mem_cons, List.not_mem_nil, or_false] at hv
      rcases hv with rfl | rfl | rfl | rfl | rfl | rfl <;> exact TV.int (by omega) (by omega)
    · have hm := mod_lt (x := x / 6) hz1
      exact ⟨⟨by decide, by decide⟩, zs.length, len, by omega, ixAny (SqL.of hl) hm.1 (by rw [List.length_map]; exact hm.2) fun v hv => k v _ (names_tv hz3 hv) (Same.refl H)⟩
    · refine ⟨by decide, fun p hp => ⟨⟨by decide, by decide⟩, by decide, ?_⟩⟩
      refine ixAny (SqL.of upd_same) (by omega) (by simp only [List.length_cons, List.length_nil]; omega) fun v hv => k v _ ?_ (Same.upd hp)
      obtain ⟨z, rfl, hz⟩ := shortS_all (show [V.str ":late", V.str ":off", V.str ":nobody", V.str ":a", V.str ":abcdefgh", V.str ":end"].all shortS = true by decide +kernel) v hv
      exact .inr ⟨z, rfl, by omega⟩
theorem sc_l_plain : FnScope ["_law_x", "_law_names_here", "_law_some", "_law_value", "_law_way", "_law_line", "_law_limit"] ["_law_x", "_law_names_here"] (defScope (top 15)) := ⟨rfl, rfl, rfl, by decide +kernel, rfl, by decide +kernel, by decide +kernel⟩
theorem ok_l_plain (T : Tx P w K mg)
    (G_l_stream : FnOk P w K mg base CX0 2 T.d_l_stream.f T.d_l_stream.fd ["_law_cell", "_law_many"] (spStream))
    (G_l_value_by : FnOk P w K mg base CX0 1 T.d_l_value_by.f T.d_l_value_by.fd ["_law_x", "_law_names_here"] (spValueBy)) : FnOk P w K mg base CX0 3 T.d_l_plain.f T.d_l_plain.fd ["_law_x", "_law_names_here"] (spPlain) := by
  refine T.d_l_plain.F.ok sc_l_plain (fun vs H Q E h => ?_) (fun cdv A outer s H vs Q E hr h => ?_)
  · obtain ⟨x, l, rfl, _⟩ := h
    rfl
  · obtain ⟨x, l, rfl, hx, hN, k⟩ := h
    obtain ⟨zs, hl, hz1, hz2, hz3⟩ := id hN
    refine ⟨_, (pss_cons (ps_setLc (i := 2) sc_l_plain.nd rfl (Or.inl rfl) (N' := ["_law_y", "_law_names_here"]) (sel := [none, some 1]) rfl rfl rfl (pi_list (pe_call G_l_stream (hr.mono (by omega)) rfl T.d_l_stream.hm T.d_l_stream.F.kp T.d_l_stream.b .nil pass0 (pa_cons (pv 0) (pa_cons pe_int pa_nil)))) (gk_name rfl) (fun _ _ _ _ _ => ⟨(pg_name (i := 0) (show (["_law_y", "_law_names_here"] : List Str).Nodup by decide +kernel) rfl (Or.inl rfl)), pts_nil, (pe_ix (ix_listK (K := K) rfl) (pv 1) (pe_op op_mod (pv 0) (pe_callB (call_lenK (K := K) rfl) (by rfl) T.n_len bt_len (pa_cons (pv 1) pa_nil))) (fun _ _ => rfl))⟩) rfl)
    (pss_cons (ps_set (i := 3) sc_l_plain.nd rfl (Or.inl rfl) (pe_call G_l_value_by (hr.mono (by omega)) rfl T.d_l_value_by.hm T.d_l_value_by.F.kp T.d_l_value_by.b .nil pass0 (pa_cons (pe_op op_fdiv (pv 0) pe_int) (pa_cons (pv 1) pa_nil))))
    (pss_cons (ps_set (i := 4) sc_l_plain.nd rfl (Or.inl rfl) (pe_op op_mod (pv 0) pe_int))
    (pss_cons (ps_set (i := 5) sc_l_plain.nd rfl (Or.inl rfl) (pe_op op_add pe_int (pe_op op_mod (pe_op op_fdiv (pv 0) pe_int) pe_int)))
    (pss_cons (ps_if (pt_cmpR op_eq (pv 4) pe_int (nomark _))
    (pss_one (ps_ret (pe_tup (pa_cons pe_str (pa_cons (pv 5) (pa_cons (pe_op op_add pe_int (pe_op op_mod (pe_op op_fdiv (pv 0) pe_int) pe_int)) pa_nil))))))
    pss_nil)
    (pss_cons (ps_if (pt_cmpR op_lt (pv 4) pe_int (nomark _))
    (pss_one (ps_ret (pe_tup (pa_cons (pe_ix ix_list (pe_lst (pa_cons pe_str (pa_cons pe_str pa_nil))) (pe_op op_sub (pv 4) pe_int) (fun _ _ => rfl)) (pa_cons (pv 5) (pa_cons (pe_ix ix_list (pv 2) pe_int (fun _ _ => rfl)) pa_nil))))))
    pss_nil)
    (pss_cons (ps_if (pt_cmpR op_lt (pv 4) pe_int (nomark _))
    (pss_one (ps_ret (pe_tup (pa_cons (pe_ix ix_list (pe_lst (pa_cons pe_str (pa_cons pe_str pa_nil))) (pe_op op_sub (pv 4) pe_int) (fun _ _ => rfl)) (pa_cons (pv 5) (pa_cons (pe_ix ix_list (pv 2) pe_int (fun _ _ => rfl)) (pa_cons (pv 3) pa_nil)))))))
    pss_nil)
    (pss_cons (ps_if (pt_cmpR op_lt (pv 4) pe_int (nomark _))
    (pss_one (ps_ret (pe_tup (pa_cons (pe_ix ix_list (pe_lst (pa_cons pe_str (pa_cons pe_str pa_nil))) (pe_op op_sub (pv 4) pe_int) (fun _ _ => rfl)) (pa_cons (pv 5) (pa_cons (pe_ix ix_list (pv 2) pe_int (fun _ _ => rfl)) (pa_cons (pe_ix ix_list (pv 2) pe_int (fun _ _ => rfl)) pa_nil)))))))
    pss_nil)
    (pss_cons (ps_if (pt_cmpR op_eq (pv 4) pe_int (nomark _))
    (pss_one (ps_ret (pe_tup (pa_cons (pe_ix ix_list (pe_lst (pa_cons pe_str (pa_cons pe_str pa_nil))) (pe_op op_mod (pe_op op_fdiv (pv 0) pe_int) pe_int) (fun _ _ => rfl)) (pa_cons (pv 5) (pa_cons (pe_ix ix_list (pv 2) pe_int (fun _ _ => rfl)) pa_nil))))))
    pss_nil)
    (pss_cons (ps_if (pt_cmpR op_eq (pv 4) pe_int (nomark _))
    (pss_cons (ps_set (i := 6) sc_l_plain.nd rfl (Or.inl rfl) (pe_ix ix_list (pe_lst (pa_cons pe_int (pa_cons (pe_op op_add pe_int (pe_op op_mod (pe_op op_fdiv (pv 0) pe_int) pe_int)) pa_nil))) (pe_op op_mod (pe_op op_fdiv (pv 0) pe_int) pe_int) (fun _ _ => rfl)))
    (pss_one (ps_ret (pe_tup (pa_cons pe_str (pa_cons (pv 5) (pa_cons (pe_ix ix_list (pv 2) pe_int (fun _ _ => rfl)) (pa_cons (pe_ix ix_list (pv 2) pe_int (fun _ _ => rfl)) (pa_cons (pe_ix ix_list (pv 2) pe_int (fun _ _ => rfl)) (pa_cons (pv 6) pa_nil))))))))))
    pss_nil)
    (pss_cons (ps_if (pt_cmpR op_eq (pv 4) pe_int (nomark _))
    (pss_one (ps_ret (pe_tup (pa_cons pe_str (pa_cons (pv 5) (pa_cons (pv 3) pa_nil))))))
    pss_nil)
    (pss_one (ps_ret (pe_tup (pa_cons pe_str (pa_cons (pv 5) (pa_cons (pe_ix ix_list (pv 2) pe_int (fun _ _ => rfl)) pa_nil))))))))))))))))), ?_⟩
    (simp only [tLst, tTup, tDNewK, tLc, iList, iStr, iTup, _root_.L2.start, cxOf_K, cxComp_K, tSeq, tAsg, gName, tRet, tRetN, tDrop, tIfS, tTest, tB, tNot, tAnd, tOr, tAndV, tOrV, tNotV, tOp, tUn, tVar, tC, tCons, tNil, tStrs, tCB, tCall, tChain, tBM, tBM0, tPart, tNoPart, tSl, tIf, tNext, tTrue, selS, Option.bind_none, Option.bind_some, Option.join_some, if_true, rI, rI0, rU, rEq, rNe, rStarts, rSlS, lenV_str, tyV, List.map_cons, List.map_nil, List.length_cons, List.length_nil, List.replicate, List.cons_append, List.nil_append, List.append_nil, Nat.reduceAdd, Nat.reduceSub, Nat.zero_add, Nat.add_zero, Nat.sub_self, List.getElem?_cons_zero, List.getElem?_cons_succ, List.set_cons_zero, List.set_cons_succ, Option.some.injEq, V.int.injEq, V.str.injEq, V.ref.injEq, V.bl.injEq, V.ty.injEq, List.cons.injEq, exists_eq_left, exists_eq_left', exists_eq_right, exists_and_left, exists_eq, and_true, true_and, and_self, and_assoc, tFld, sFld, tMeth, tMake])
    refine ⟨_, rfl, _, _, rfl, by decide, by decide, fun l0 ns H0 hl0 hnl hns hH0 s0 => ⟨l0, rfl, ⟨_, SqL.of hH0⟩, ?_⟩⟩
    have hnl4 : ns.length = 4 := by omega
    refine lc_list (K := K) (a := l0) (xs := ns.map V.int) (fun i ys H2 => H2 = H0 ∧ ∃ cs : List Str, cs.length = i ∧ (∀ c ∈ cs, c.length ≤ 40) ∧ ys = cs.map V.str) ⟨rfl, [], rfl, (fun _ h => nomatch h), rfl⟩ ?_ ?_ ?_ ?_
    · rintro i ys H2 hi ⟨rfl, cs, hc, _, rfl⟩
      exact ⟨SqL.of hH0, by rw [List.length_map, hc]; exact Nat.le_refl _⟩
    · rw [List.length_map, hnl4]; decide
    · rintro i x ys H2 hx ⟨rfl, cs, hc, hcl, rfl⟩
      obtain ⟨n, rfl, hn'⟩ := in_int hx
      (simp only [_root_.L2.start, cxOf_K, cxComp_K, tSeq, tAsg, gName, tRet, tRetN, tDrop, tIfS, tTest, tB, tNot, tAnd, tOr, tAndV, tOrV, tNotV, tOp, tUn, tVar, tC, tCons, tNil, tStrs, tCB, tCall, tChain, tBM, tBM0, tPart, tNoPart, tSl, tIf, tNext, tTrue, selS, Option.bind_none, Option.bind_some, Option.join_some, if_true, rI, rI0, rU, rEq, rNe, rStarts, rSlS, lenV_str, tyV, List.map_cons, List.map_nil, List.length_cons, List.length_nil, List.replicate, List.cons_append, List.nil_append, List.append_nil, Nat.reduceAdd, Nat.reduceSub, Nat.zero_add, Nat.add_zero, Nat.sub_self, List.getElem?_cons_zero, List.getElem?_cons_succ, List.set_cons_zero, List.set_cons_succ, Option.some.injEq, V.int.injEq, V.str.injEq, V.ref.injEq, V.bl.injEq, V.ty.injEq, List.cons.injEq, exists_eq_left, exists_eq_left', exists_eq_right, exists_and_left, exists_eq, and_true, true_and, and_self, and_assoc, tFld, sFld, tMeth, tMake])
      have hm := mod_lt (x := n) hz1
      refine ⟨zs.length, lenV_ref.mpr (.inl ⟨_, SqL.of (s0 l _ hl), by rw [List.length_map]⟩), by omega, ixAny (SqL.of (s0 l _ hl)) hm.1 (by rw [List.length_map]; exact hm.2) fun v hv => ?_⟩
      obtain ⟨z, hzm, rfl⟩ := List.mem_map.mp hv
      refine ⟨rfl, cs ++ [z], by rw [List.length_append, hc]; rfl, fun c hcm => ?_, by rw [List.map_append]; rfl⟩
      rcases List.mem_append.mp hcm with q | q
      · exact hcl c q
      · rw [List.mem_singleton.mp q]; exact hz3 z hzm
    · rintro ys H2 ⟨rfl, cs, hc, hcl, rfl⟩ D hD
      rw [List.length_map, hnl4] at hc
      obtain ⟨c0, c1, c2, c3, rfl⟩ : ∃ c0 c1 c2 c3 : Str, cs = [c0, c1, c2, c3] := by
        match cs, hc with
        | [c0, c1, c2, c3], _ => exact ⟨_, _, _, _, rfl⟩
      have sG : Same H (upd H2 D (.lst ([c0, c1, c2, c3].map V.str))) := s0.trans (Same.upd hD)
      generalize hG : upd H2 D (.lst ([c0, c1, c2, c3].map V.str)) = G at sG
      have hDG : G D = some (.lst [V.str c0, V.str c1, V.str c2, V.str c3]) := by rw [← hG]; exact upd_same
      clear hG
      (simp only [tLst, tTup, tDNewK, _root_.L2.start, cxOf_K, cxComp_K, tSeq, tAsg, gName, tRet, tRetN, tDrop, tIfS, tTest, tB, tNot, tAnd, tOr, tAndV, tOrV, tNotV, tOp, tUn, tVar, tC, tCons, tNil, tStrs, tCB, tCall, tChain, tBM, tBM0, tPart, tNoPart, tSl, tIf, tNext, tTrue, selS, Option.bind_none, Option.bind_some, Option.join_some, if_true, rI, rI0, rU, rEq, rNe, rStarts, rSlS, lenV_str, tyV, List.map_cons, List.map_nil, List.length_cons, List.length_nil, List.replicate, List.cons_append, List.nil_append, List.append_nil, Nat.reduceAdd, Nat.reduceSub, Nat.zero_add, Nat.add_zero, Nat.sub_self, List.getElem?_cons_zero, List.getElem?_cons_succ, List.set_cons_zero, List.set_cons_succ, Option.some.injEq, V.int.injEq, V.str.injEq, V.ref.injEq, V.bl.injEq, V.ty.injEq, List.cons.injEq, exists_eq_left, exists_eq_left', exists_eq_right, exists_and_left, exists_eq, and_true, true_and, and_self, and_assoc, tFld, sFld, tMeth, tMake])
      have fin : ∀ {G' : Hp} {m : Nat} (z : Str) (r : List V), Same H G' → m ≤ sizeLine → RowSh z r → places z = [] → m ≤ sizeLine ∧ ∀ p : Addr, G' p = none → Q (.ref p) (upd G' p (.tup (.str z :: r))) := fun {G' m} z r s' hm e1 e2 =>
        ⟨hm, fun p hp => k p z r _ (s'.free hp) upd_same e1 e2 (s'.trans (Same.upd hp))⟩
      have at_ : ∀ {G' : Hp} {R : VK} (j : Int), Same G G' → 0 ≤ j → j < 4 → (∀ z : Str, z.length ≤ 60 → R (.str z) G') → rIxL K (.ref D) (.int j) G' R := fun {G' R} j s' h0 h1 f =>
        ixAny (SqL.of (s' D _ hDG)) h0 h1 fun v hv => by
          obtain ⟨z, hz, rfl⟩ := List.mem_map.mp (show v ∈ [c0, c1, c2, c3].map V.str from hv)
          exact f z (Nat.le_trans (hcl z hz) (by decide))
      have two : ∀ {G' : Hp} {R : VK} (a b : Str) (j : Int), Same G G' → 0 ≤ j → j < 2 → (∀ z G2, (z = a ∨ z = b) → Same G G2 → R (.str z) G2) → 2 ≤ sizeLine ∧ ∀ p : Addr, G' p = none → rIxL K (.ref p) (.int j) (upd G' p (.lst [V.str a, V.str b])) R := fun {G' R} a b j s' h0 h1 f =>
        ⟨by decide, fun p hp => ixAny (SqL.of upd_same) h0 h1 fun v hv => by
          rcases List.mem_cons.mp hv with rfl | hv
          · exact f a _ (.inl rfl) (s'.trans (Same.upd hp))
          · rw [List.mem_singleton.mp hv]; exact f b _ (.inr rfl) (s'.trans (Same.upd hp))⟩
      refine ⟨⟨by decide, by decide⟩, _, _, rfl, by omega, ⟨zs, sG l _ hl, hz1, hz2, hz3⟩, fun vv G1 hvv s1 => ?_⟩
      have sH : ∀ {G2 : Hp}, Same G G2 → Same H G2 := fun s => sG.trans s
      refine ⟨by decide, ⟨by decide, by decide⟩, by decide, rfl, ?_⟩
      have st : ∀ {z : Str}, z.length ≤ 60 → TV (.str z) := fun h => .inr ⟨_, rfl, h⟩
      have pw : ∀ {z a b : Str}, (z = a ∨ z = b) → plW a → plW b → plW z := fun h ha hb => by
        rcases h with rfl | rfl
        · exact ha
        · exact hb
      by_cases w0 : x % 11 = 0
      · exact ifT w0 ⟨⟨by decide, by decide⟩, by decide, fin _ _ (sH s1) (by decide) (pln (by decide +kernel) (by decide +kernel) (by decide +kernel) (tv1 (TV.int (by omega) (by omega))) (show 1 ≤ 4 by decide)) (by decide +kernel)⟩
      refine ifF w0 ?_
      by_cases w3 : x % 11 < 3
      · refine ifT w3 (two _ _ _ s1 (by omega) (by omega) fun z G2 hz s2 => at_ 0 s2 (by decide) (by decide) fun v hv => ?_)
        have p := pw hz (by decide +kernel) (by decide +kernel)
        exact fin z _ (sH s2) (by decide) (pln p.1 p.2.1 p.2.2 (tv1 (st hv)) (show 1 ≤ 4 by decide)) p.1
      refine ifF w3 ?_
      by_cases w5 : x % 11 < 5
      · refine ifT w5 (two _ _ _ s1 (by omega) (by omega) fun z G2 hz s2 => at_ 0 s2 (by decide) (by decide) fun v hv => ?_)
        have p := pw hz (by decide +kernel) (by decide +kernel)
        exact fin z _ (sH s2) (by decide) (pln p.1 p.2.1 p.2.2 (tv2 (st hv) hvv) (show 2 ≤ 4 by decide)) p.1
      refine ifF w5 ?_
      by_cases w7 : x % 11 < 7
      · refine ifT w7 (two _ _ _ s1 (by omega) (by omega) fun z G2 hz s2 => at_ 0 s2 (by decide) (by decide) fun v hv => at_ 1 s2 (by decide) (by decide) fun v2 hv2 => ?_)
        have p := pw hz (by decide +kernel) (by decide +kernel)
        exact fin z _ (sH s2) (by decide) (pln p.1 p.2.1 p.2.2 (tv2 (st hv) (st hv2)) (show 2 ≤ 4 by decide)) p.1
      refine ifF w7 ⟨rfl, ?_⟩
      by_cases w8 : x % 11 = 7
      · refine ifT w8 ⟨by decide, fun p hp => ⟨⟨by decide, by decide⟩, by decide, ?_⟩⟩
        refine (two _ _ _ s1 (by omega) (by omega) fun z G2 hz s2 => at_ 0 s2 (by decide) (by decide) fun v hv => ?_).2 p hp
        have p := pw hz (by decide +kernel) (by decide +kernel)
        exact fin z _ (sH s2) (by decide) (pln p.1 p.2.1 p.2.2 (tv1 (st hv)) (show 1 ≤ 4 by decide)) p.1
      refine ifF w8 ⟨rfl, ?_⟩
      refine ifB ?_ ⟨rfl, ifB ?_ ?_⟩
      · refine ⟨⟨by decide, by decide⟩, by decide, by decide, fun p hp => ⟨⟨by decide, by decide⟩, by decide, ?_⟩⟩
        have s2 := s1.trans (Same.upd (o := .lst [V.int 0, V.int (1 + x / 22 % 99)]) hp)
        refine ixAny (SqL.of upd_same) (by omega) (by simp only [List.length_cons, List.length_nil]; omega) fun v hv => at_ 0 s2 (by decide) (by decide) fun v2 h2 => at_ 1 s2 (by decide) (by decide) fun v3 h3 => at_ 2 s2 (by decide) (by decide) fun v4 h4 => ?_
        obtain ⟨l, rfl, hl0, hl1⟩ : ∃ l : Int, v = .int l ∧ 0 ≤ l ∧ l < 10000000 := by
          rcases List.mem_cons.mp hv with rfl | hv
          · exact ⟨_, rfl, by decide, by decide⟩
          · rw [List.mem_singleton.mp hv]; exact ⟨_, rfl, by omega, by omega⟩
        refine fin _ _ (sH s2) (by decide) ⟨_, _, rfl, .inl ⟨by decide +kernel, by decide +kernel, fun t ht => ?_, (show 4 ≤ 4 by decide), fun _ => ⟨v2, v3, v4, l, rfl, hl0⟩⟩⟩ (by decide +kernel)
        simp only [List.mem_cons, List.not_mem_nil, or_false] at ht
        rcases ht with rfl | rfl | rfl | rfl
        · exact st h2
        · exact st h3
        · exact st h4
        · exact TV.int hl0 hl1
      · exact fin _ _ (sH s1) (by decide) (pln (by decide +kernel) (by decide +kernel) (by decide +kernel) (tv1 hvv) (show 1 ≤ 4 by decide)) (by decide +kernel)
      · exact at_ 3 s1 (by decide) (by decide) fun v hv => fin _ _ (sH s1) (by decide) (pln (by decide +kernel) (by decide +kernel) (by decide +kernel) (tv1 (st hv)) (show 1 ≤ 4 by decide)) (by decide +kernel)
theorem sc_l_opened : FnScope ["_law_x", "_law_names_here", "_law_name", "_law_way"] ["_law_x", "_law_names_here"] (defScope (top 16)) := ⟨rfl, rfl, rfl, by decide +kernel, rfl, by decide +kernel, by decide +kernel⟩
theorem ok_l_opened (T : Tx P w K mg)
    (G_l_value_by : FnOk P w K mg base CX0 1 T.d_l_value_by.f T.d_l_value_by.fd ["_law_x", "_law_names_here"] (spValueBy)) : FnOk P w K mg base CX0 2 T.d_l_opened.f T.d_l_opened.fd ["_law_x", "_law_names_here"] (spOpened) := by
  refine T.d_l_opened.F.ok sc_l_opened (fun vs H Q E h => ?_) (fun cdv A outer s H vs Q E hr h => ?_)
  · obtain ⟨x, l, rfl, _⟩ := h
    rfl
  · obtain ⟨x, l, rfl, hx, hN, k⟩ := h
    obtain ⟨zs, hl, hz1, hz2, hz3⟩ := id hN
    refine ⟨_, (pss_cons (ps_set (i := 2) sc_l_opened.nd rfl (Or.inl rfl) (pe_ix ix_list (pv 1) (pe_op op_mod (pe_op op_fdiv (pv 0) pe_int) (pe_callB call_len (by rfl) T.n_len bt_len (pa_cons (pv 1) pa_nil))) (fun _ _ => rfl)))
    (pss_cons (ps_set (i := 3) sc_l_opened.nd rfl (Or.inl rfl) (pe_op op_mod (pv 0) pe_int))
    (pss_cons (ps_if (pt_cmpR op_eq (pv 3) pe_int (nomark _))
    (pss_one (ps_ret (pe_lst (pa_cons pe_str (pa_cons (pe_tup (pa_cons (pv 2) pa_nil)) (pa_cons (pe_lst (pa_cons (pe_lst pa_nil) pa_nil)) (pa_cons pe_non pa_nil)))))))
    pss_nil)
    (pss_cons (ps_if (pt_cmpR op_eq (pv 3) pe_int (nomark _))
    (pss_one (ps_ret (pe_lst (pa_cons pe_str (pa_cons (pe_tup (pa_cons (pe_op op_add pe_int (pe_op op_mod (pe_op op_fdiv (pv 0) pe_int) pe_int)) pa_nil)) (pa_cons (pe_lst (pa_cons (pe_lst pa_nil) pa_nil)) (pa_cons pe_non pa_nil)))))))
    pss_nil)
    (pss_cons (ps_if (pt_cmpR op_eq (pv 3) pe_int (nomark _))
    (pss_one (ps_ret (pe_lst (pa_cons pe_str (pa_cons (pe_tup pa_nil) (pa_cons (pe_lst (pa_cons (pe_lst pa_nil) pa_nil)) (pa_cons pe_non pa_nil)))))))
    pss_nil)
    (pss_cons (ps_if (pt_cmpR op_eq (pv 3) pe_int (nomark _))
    (pss_one (ps_ret (pe_lst (pa_cons pe_str (pa_cons (pe_tup pa_nil) (pa_cons (pe_lst (pa_cons (pe_lst pa_nil) pa_nil)) (pa_cons (pe_ix ix_list (pe_lst (pa_cons (pv 2) (pa_cons pe_str pa_nil))) (pe_op op_mod (pe_op op_fdiv (pv 0) pe_int) pe_int) (fun _ _ => rfl)) pa_nil)))))))
    pss_nil)
    (pss_cons (ps_if (pt_cmpR op_eq (pv 3) pe_int (nomark _))
    (pss_one (ps_ret (pe_lst (pa_cons pe_str (pa_cons (pe_tup pa_nil) (pa_cons (pe_lst (pa_cons (pe_lst pa_nil) pa_nil)) (pa_cons pe_non pa_nil)))))))
    pss_nil)
    (pss_cons (ps_if (pt_cmpR op_eq (pv 3) pe_int (nomark _))
    (pss_one (ps_ret (pe_lst (pa_cons pe_str (pa_cons (pe_tup (pa_cons (pv 2) (pa_cons (pe_call G_l_value_by (hr.mono (by omega)) rfl T.d_l_value_by.hm T.d_l_value_by.F.kp T.d_l_value_by.b .nil pass0 (pa_cons (pe_op op_fdiv (pv 0) pe_int) (pa_cons (pv 1) pa_nil))) pa_nil))) (pa_cons (pe_lst (pa_cons (pe_lst pa_nil) pa_nil)) (pa_cons pe_non pa_nil)))))))
    pss_nil)
    (pss_one (ps_ret (pe_lst (pa_cons pe_str (pa_cons (pe_tup (pa_cons (pe_op op_add pe_int (pe_op op_mod (pe_op op_fdiv (pv 0) pe_int) pe_int)) pa_nil)) (pa_cons (pe_lst (pa_cons (pe_lst pa_nil) pa_nil)) (pa_cons pe_non pa_nil))))))))))))))), ?_⟩
    (simp only [tLst, tTup, tDNewK, _root_.L2.start, cxOf_K, cxComp_K, tSeq, tAsg, gName, tRet, tRetN, tDrop, tIfS, tTest, tB, tNot, tAnd, tOr, tAndV, tOrV, tNotV, tOp, tUn, tVar, tC, tCons, tNil, tStrs, tCB, tCall, tChain, tBM, tBM0, tPart, tNoPart, tSl, tIf, tNext, tTrue, selS, Option.bind_none, Option.bind_some, Option.join_some, if_true, rI, rI0, rU, rEq, rNe, rStarts, rSlS, lenV_str, tyV, List.map_cons, List.map_nil, List.length_cons, List.length_nil, List.replicate, List.cons_append, List.nil_append, List.append_nil, Nat.reduceAdd, Nat.reduceSub, Nat.zero_add, Nat.add_zero, Nat.sub_self, List.getElem?_cons_zero, List.getElem?_cons_succ, List.set_cons_zero, List.set_cons_succ, Option.some.injEq, V.int.injEq, V.str.injEq, V.ref.injEq, V.bl.injEq, V.ty.injEq, List.cons.injEq, exists_eq_left, exists_eq_left', exists_eq_right, exists_and_left, exists_eq, and_true, true_and, and_self, and_assoc, tFld, sFld, tMeth, tMake])
    have len : LenV K (.ref l) H zs.length := lenV_ref.mpr (.inl ⟨_, SqL.of hl, by rw [List.length_map]⟩)
    have hm := mod_lt (x := x / 7) hz1
    refine ⟨⟨by decide, by decide⟩, zs.length, len, by omega, ixAny (SqL.of hl) hm.1 (by rw [List.length_map]; exact hm.2) fun v hv => ?_⟩
    have hv1 := names_st hz3 hv
    have two2 : ∀ {a v2 : V}, StV a → v2 ∈ [a, V.str "any"] → StV v2 := fun ha h => by
      rcases List.mem_cons.mp h with rfl | h
      · exact ha
      · rw [List.mem_singleton.mp h]; exact ⟨_, rfl, by decide +kernel⟩
    have mk : ∀ {G : Hp} {m : Nat} (z : Str) (th : List V) (hw : wordW z) (hz : z ≠ "errand") (hth : ThOk z th .non), Same H G → m ≤ sizeLine → m ≤ sizeLine ∧ ∀ p : Addr, G p = none → 0 ≤ sizeLine ∧ ∀ p1 : Addr, upd G p (.tup th) p1 = none → 1 ≤ sizeLine ∧ ∀ p2 : Addr, upd (upd G p (.tup th)) p1 (.lst []) p2 = none → 4 ≤ sizeLine ∧ ∀ p3 : Addr, upd (upd (upd G p (.tup th)) p1 (.lst [])) p2 (.lst [.ref p1]) p3 = none → Q (.ref p3) (upd (upd (upd (upd G p (.tup th)) p1 (.lst [])) p2 (.lst [.ref p1])) p3 (.lst [.str z, .ref p, .ref p2, .non])) :=
      fun {G m} z th hw hz hth s hm => ⟨hm, fun p hp => ⟨by decide, fun p1 hp1 => ⟨by decide, fun p2 hp2 => ⟨by decide, fun p3 hp3 => k _ _ (new_fr (s.trans (Same.upd hp)) upd_same hp1 hp2 (Same.refl _) hp3 hw hth) hz⟩⟩⟩⟩
    have sR := Same.refl H
    refine ⟨by decide, rfl, ifB (mk _ _ (by decide +kernel) (by decide +kernel) (thok1 (by decide +kernel) (by decide +kernel) (by decide +kernel) hv1.tv) sR (by decide)) ⟨rfl, ?_⟩⟩
    refine ifB ⟨⟨by decide, by decide⟩, by decide, mk _ _ (by decide +kernel) (by decide +kernel) (thok1 (by decide +kernel) (by decide +kernel) (by decide +kernel) (TV.int (by omega) (by omega))) sR (by decide)⟩ ⟨rfl, ?_⟩
    refine ifB (mk _ _ (by decide +kernel) (by decide +kernel) (thok0 (by decide +kernel) (fun e => absurd e (by decide +kernel))) sR (by decide)) ⟨rfl, ?_⟩
    refine ifB ⟨by decide, fun p hp => ⟨by decide, fun p1 hp1 => ⟨by decide, fun p2 hp2 => ⟨by decide, fun p3 hp3 => ⟨⟨by decide, by decide⟩, by decide, ?_⟩⟩⟩⟩⟩ ⟨rfl, ?_⟩
    · exact ixAny (SqL.of upd_same) (by omega) (by simp only [List.length_cons, List.length_nil]; omega) fun v2 hv2 => ⟨by decide, fun p4 hp4 => k _ _ (new_fr (Same.upd hp) upd_same hp1 hp2 (Same.upd hp3) hp4 (by decide +kernel) (thok0 (by decide +kernel) fun _ => two2 hv1 hv2)) (show ("try" : Str) ≠ "errand" by decide +kernel)⟩
    refine ifB (mk _ _ (by decide +kernel) (by decide +kernel) (thok0 (by decide +kernel) (fun e => absurd e (by decide +kernel))) sR (by decide)) ⟨rfl, ?_⟩
    refine ifB ⟨⟨by decide, by decide⟩, _, _, rfl, by omega, hN, fun v2 H2 hv2 s2 => mk _ _ (by decide +kernel) (by decide +kernel) ⟨(show (2 : Nat) = thLen "when" by decide +kernel), tv2 hv1.tv hv2, (fun _ t ht => by cases ht; exact hv1), fun e => absurd e (by decide +kernel)⟩ s2 (by decide)⟩ ?_
    exact ⟨⟨by decide, by decide⟩, by decide, mk _ _ (by decide +kernel) (by decide +kernel) (thok1 (by decide +kernel) (by decide +kernel) (by decide +kernel) (TV.int (by omega) (by omega))) sR (by decide)⟩
theorem sc_l_closed : FnScope ["_law_frame", "_law_word", "_law_things", "_law_lists", "_law_fault", "_law_head", "_law_rows"] ["_law_frame"] (defScope (top 17)) := ⟨rfl, rfl, rfl, by decide +kernel, rfl, by decide +kernel, by decide +kernel⟩
theorem ok_l_closed (T : Tx P w K mg) : FnOk P w K mg base CX0 1 T.d_l_closed.f T.d_l_closed.fd ["_law_frame"] (spClosed) := by
  refine T.d_l_closed.F.ok sc_l_closed (fun vs H Q E h => ?_) (fun cdv A outer s H vs Q E hr h => ?_)
  · obtain ⟨F, n, rfl, _⟩ := h
    rfl
  · obtain ⟨F, n, rfl, hF, hc, k⟩ := h
    refine ⟨_, (pss_cons (ps_asg (pv 0) (pg_lst (n := 4) rfl (pgs_cons (pg_name (i := 1) sc_l_closed.nd rfl (Or.inl rfl)) (pgs_cons (pg_name (i := 2) sc_l_closed.nd rfl (Or.inl rfl)) (pgs_cons (pg_name (i := 3) sc_l_closed.nd rfl (Or.inl rfl)) (pgs_cons (pg_name (i := 4) sc_l_closed.nd rfl (Or.inl rfl)) pgs_nil))))))
    (pss_cons (ps_set (i := 5) sc_l_closed.nd rfl (Or.inl rfl) (pe_op op_catT0 (pe_tup (pa_cons (pv 1) (pa_cons (pe_op op_add pe_int (pe_callB call_len (by rfl) T.n_len bt_len (pa_cons (pe_ix ix_list (pv 3) pe_int (fun _ _ => rfl)) pa_nil))) pa_nil))) (pv 2)))
    (pss_mid (ps_if (PW.pt (pw_and (pt_cmpR op_in_seq (pv 1) (pe_lst (pa_strs (zs := ["try", "do", "limit"]) (by decide +kernel))) (by with_unfolding_all rfl)) (pw_and1 (pt_cmpR op_eq (pe_callB call_len (by rfl) T.n_len bt_len (pa_cons (pv 3) pa_nil)) pe_int (nomark _)))))
    (pss_one (ps_set (i := 3) sc_l_closed.nd rfl (Or.inl rfl) (pe_op op_cat (pv 3) (pe_lst (pa_cons (pe_lst pa_nil) pa_nil)))))
    pss_nil)
    (pss_cons (ps_setLc (i := 6) sc_l_closed.nd rfl (Or.inl rfl) (N' := ["_law_part"]) (sel := [none]) rfl rfl rfl (pi_list (pv 3)) (gk_name rfl) (fun _ _ _ _ _ => ⟨(pg_name (i := 0) (show (["_law_part"] : List Str).Nodup by decide +kernel) rfl (Or.inl rfl)), pts_nil, (pe_callTy (call_tuple_ofK (K := K) rfl) (by rfl) T.n_tuple bt_tuple (pa_cons (pv 0) pa_nil))⟩) rfl)
    (pss_mid (ps_if (pt_cmpR op_eq (pv 1) pe_str (nomark _))
    (pss_one (ps_ret (pe_op op_catT0 (pv 5) (pe_tup (pa_cons (pe_ix ix_list (pv 6) pe_int (fun _ _ => rfl)) (pa_cons (pv 4) (pa_cons (pe_ix ix_list (pv 6) pe_int (fun _ _ => rfl)) pa_nil)))))))
    pss_nil)
    (pss_one (ps_ret (pe_op op_catT0 (pv 5) (pe_callTy call_tuple_of (by rfl) T.n_tuple bt_tuple (pa_cons (pv 6) pa_nil)))))))))), ?_⟩
    (simp only [tLst, tTup, tDNewK, _root_.L2.start, cxOf_K, cxComp_K, tSeq, tAsg, gName, tRet, tRetN, tDrop, tIfS, tTest, tB, tNot, tAnd, tOr, tAndV, tOrV, tNotV, tOp, tUn, tVar, tC, tCons, tNil, tStrs, tCB, tCall, tChain, tBM, tBM0, tPart, tNoPart, tSl, tIf, tNext, tTrue, selS, Option.bind_none, Option.bind_some, Option.join_some, if_true, rI, rI0, rU, rEq, rNe, rStarts, rSlS, lenV_str, tyV, List.map_cons, List.map_nil, List.length_cons, List.length_nil, List.replicate, List.cons_append, List.nil_append, List.append_nil, Nat.reduceAdd, Nat.reduceSub, Nat.zero_add, Nat.add_zero, Nat.sub_self, List.getElem?_cons_zero, List.getElem?_cons_succ, List.set_cons_zero, List.set_cons_succ, Option.some.injEq, V.int.injEq, V.str.injEq, V.ref.injEq, V.bl.injEq, V.ty.injEq, List.cons.injEq, exists_eq_left, exists_eq_left', exists_eq_right, exists_and_left, exists_eq, and_true, true_and, and_self, and_assoc, tFld, sFld, tMeth, tMake])
    refine ⟨F.f, _, rfl, SqL.of hF.hf, rfl, ?_⟩
    simp only [gCons, gNil]
    (simp only [tLst, tTup, tDNewK, _root_.L2.start, cxOf_K, cxComp_K, tSeq, tAsg, gName, tRet, tRetN, tDrop, tIfS, tTest, tB, tNot, tAnd, tOr, tAndV, tOrV, tNotV, tOp, tUn, tVar, tC, tCons, tNil, tStrs, tCB, tCall, tChain, tBM, tBM0, tPart, tNoPart, tSl, tIf, tNext, tTrue, selS, Option.bind_none, Option.bind_some, Option.join_some, if_true, rI, rI0, rU, rEq, rNe, rStarts, rSlS, lenV_str, tyV, List.map_cons, List.map_nil, List.length_cons, List.length_nil, List.replicate, List.cons_append, List.nil_append, List.append_nil, Nat.reduceAdd, Nat.reduceSub, Nat.zero_add, Nat.add_zero, Nat.sub_self, List.getElem?_cons_zero, List.getElem?_cons_succ, List.set_cons_zero, List.set_cons_succ, Option.some.injEq, V.int.injEq, V.str.injEq, V.ref.injEq, V.bl.injEq, V.ty.injEq, List.cons.injEq, exists_eq_left, exists_eq_left', exists_eq_right, exists_and_left, exists_eq, and_true, true_and, and_self, and_assoc, tFld, sFld, tMeth, tMake])
    have ps1 : 0 < F.ps.length := by rcases hF.one with e | ⟨e, _⟩ <;> omega
    have hr0 : F.rss[0]? = some (F.rss[0]'(by have := hF.len; omega)) := List.getElem?_eq_getElem _
    have hp0 : F.ps[0]? = some F.ps[0] := List.getElem?_eq_getElem ps1
    have hth2 : F.th.length ≤ 2 := by
      rw [hF.things]
      rcases hF.word with e | e | e | e | e | e | e | e <;> rw [e] <;> decide +kernel
    have b10 : (2010 : Nat) ≤ sizeLine := by decide
    refine ⟨F.L, _, _, .ref F.ps[0], rfl, rfl, SqL.of hF.hL, atI_nat (j := 0) (by rw [List.getElem?_map, hp0]; rfl), _, lenV_ref.mpr (.inl ⟨_, SqL.of (hF.hp 0 _ _ hp0 hr0), rfl⟩), by decide, fun p hp => ?_⟩
    refine catT0_any upd_same ((Same.upd hp) _ _ hF.ht) (by simp) (by simp only [List.length_cons, List.length_nil]; omega) fun hd G hG sG0 => ?_
    have sG : Same H G := (Same.upd hp).trans sG0
    have hFG := hF.same sG
    generalize (1 + ((F.rss[0]'(by have := hF.len; omega)).length : Int)) = li at hG
    clear hp sG0
    refine ⟨fun σ' G' => ∃ (L' : Addr) (ps' : List Addr) (rss' : List (List V)), σ' = [some (.ref F.f), some (.str F.z), some (.ref F.t), some (.ref L'), some F.fa, some (.ref hd), none] ∧ G' L' = some (.lst (ps'.map V.ref)) ∧ ps'.length = rss'.length ∧ (∀ (i : Nat) (p : Addr) (rs : List V), ps'[i]? = some p → rss'[i]? = some rs → G' p = some (.lst rs)) ∧ (twoW F.z → ps'.length = 2) ∧ (¬ twoW F.z → ps'.length = 1) ∧ (∀ rs ∈ rss', ∀ r ∈ rs, RowOk n H r) ∧ (rss'.flatMap fun rs => rs.flatMap (rowF n H)).length ≤ F.c ∧ Same G G', ?_, ?_⟩
    · (simp only [tLst, tTup, tDNewK, _root_.L2.start, cxOf_K, cxComp_K, tSeq, tAsg, gName, tRet, tRetN, tDrop, tIfS, tTest, tB, tNot, tAnd, tOr, tAndV, tOrV, tNotV, tOp, tUn, tVar, tC, tCons, tNil, tStrs, tCB, tCall, tChain, tBM, tBM0, tPart, tNoPart, tSl, tIf, tNext, tTrue, selS, Option.bind_none, Option.bind_some, Option.join_some, if_true, rI, rI0, rU, rEq, rNe, rStarts, rSlS, lenV_str, tyV, List.map_cons, List.map_nil, List.length_cons, List.length_nil, List.replicate, List.cons_append, List.nil_append, List.append_nil, Nat.reduceAdd, Nat.reduceSub, Nat.zero_add, Nat.add_zero, Nat.sub_self, List.getElem?_cons_zero, List.getElem?_cons_succ, List.set_cons_zero, List.set_cons_succ, Option.some.injEq, V.int.injEq, V.str.injEq, V.ref.injEq, V.bl.injEq, V.ty.injEq, List.cons.injEq, exists_eq_left, exists_eq_left', exists_eq_right, exists_and_left, exists_eq, and_true, true_and, and_self, and_assoc, tFld, sFld, tMeth, tMake])
      refine ⟨by decide, fun q hq => ⟨q, _, rfl, .inl (SqL.of upd_same), rfl, rfl, decide (twoW F.z), congrArg V.bl (inTwo F.z), ?_⟩⟩
      have s1 : Same G (upd G q (.lst [V.str "try", V.str "do", V.str "limit"])) := Same.upd hq
      generalize upd G q (.lst [V.str "try", V.str "do", V.str "limit"]) = G1 at s1 ⊢
      have hF1 := hFG.same s1
      have keep : (twoW F.z → F.ps.length = 2) → (¬ twoW F.z → F.ps.length = 1) → ∃ x, G1 F.L = some (HO.lst (List.map V.ref x)) ∧ ∃ x_1, x.length = x_1.length ∧ (∀ (i : Nat) (p : Addr) (rs : List V), x[i]? = some p → x_1[i]? = some rs → G1 p = some (HO.lst rs)) ∧ (twoW F.z → x.length = 2) ∧ (¬twoW F.z → x.length = 1) ∧ (∀ (rs : List V), rs ∈ x_1 → ∀ (r : V), r ∈ rs → RowOk n H r) ∧ (List.flatMap (fun rs => List.flatMap (rowF n H) rs) x_1).length ≤ F.c ∧ Same G G1 :=
        fun a b => ⟨F.ps, hF1.hL, F.rss, hF1.len, hF1.hp, a, b, hF.rows, hF.wt, s1⟩
      by_cases hT : twoW F.z
      · refine ifT hT ⟨_, lenV_ref.mpr (.inl ⟨_, SqL.of hF1.hL, rfl⟩), rfl, ?_⟩
        rw [List.length_map]
        by_cases h1 : F.ps.length = 1
        · refine ifT (by omega) ⟨by decide, fun q1 hq1 => ⟨by decide, fun q2 hq2 => ?_⟩⟩
          have s2 := Same.upd (o := .lst []) hq1
          have s3 := Same.upd (o := .lst [.ref q1]) hq2
          refine ⟨F.L, q2, _, _, rfl, rfl, (s2.trans s3) _ _ hF1.hL, upd_same, by rw [List.length_map, h1]; show 2 ≤ sizeLine; decide, fun q3 hq3 => ⟨q3, rfl, F.ps ++ [q1], by rw [upd_same, List.map_append]; rfl, F.rss ++ [[]], ?_, ?_, fun _ => ?_, fun h => absurd hT h, ?_, ?_, ((s1.trans s2).trans s3).trans (Same.upd hq3)⟩⟩
          · rw [List.length_append, List.length_append, hF.len]; rfl
          · have s4 := Same.upd (o := .lst (F.ps.map V.ref ++ [.ref q1])) hq3
            intro i p rs hpi hri
            by_cases hi : i < F.ps.length
            · rw [List.getElem?_append_left hi] at hpi
              rw [List.getElem?_append_left (by have := hF.len; omega)] at hri
              exact ((s2.trans s3).trans s4) _ _ (hF1.hp i p rs hpi hri)
            · rw [List.getElem?_append_right (by omega)] at hpi
              rw [List.getElem?_append_right (by have := hF.len; omega)] at hri
              have e1 := (List.getElem?_eq_some_iff.mp hpi).1
              have e2 : i - F.ps.length = 0 := by simp only [List.length_cons, List.length_nil] at e1; omega
              rw [e2] at hpi
              rw [← hF.len, e2] at hri
              cases hpi
              cases hri
              exact (s3.trans s4) _ _ upd_same
          · rw [List.length_append, h1]; rfl
          · intro rs hrs r hr
            rcases List.mem_append.mp hrs with hrs | hrs
            · exact hF.rows rs hrs r hr
            · rw [List.mem_singleton.mp hrs] at hr; cases hr
          · rw [List.flatMap_append, List.length_append]
            have := hF.wt
            simp only [List.flatMap_cons, List.flatMap_nil, List.length_nil, List.append_nil]
            omega
        · refine ifF (by omega) (keep (fun _ => ?_) fun h => absurd hT h)
          rcases hF.one with e | ⟨e, _⟩
          · exact absurd e h1
          · exact e
      · refine ifF hT (keep (fun h => absurd h hT) fun _ => ?_)
        rcases hF.one with e | ⟨_, e⟩
        · exact e
        · exact absurd e hT
    · rintro σ' G' ⟨L', ps', rss', rfl, hL', hlen', hp', h2, h1, hrows, hwt, sG'⟩
      have l2 : ps'.length ≤ 2 := by
        by_cases e : twoW F.z
        · rw [h2 e]; exact Nat.le_refl _
        · rw [h1 e]; decide
      refine ⟨_, rfl, L', rfl, ⟨_, SqL.of hL'⟩, ?_⟩
      refine lc_list (K := K) (a := L') (xs := ps'.map V.ref) (fun i ys H2 => ∃ bs : List Addr, ys = bs.map V.ref ∧ bs.length = i ∧ (∀ (j : Nat) (b : Addr) (rs : List V), bs[j]? = some b → rss'[j]? = some rs → H2 b = some (.tup rs)) ∧ Same G' H2) ⟨[], rfl, rfl, (fun j b rs h => nomatch h), Same.refl _⟩ ?_ ?_ ?_ ?_
      · rintro i ys H2 hi ⟨bs, rfl, hbl, hbs, s2⟩
        exact ⟨SqL.of (s2 _ _ hL'), by rw [List.length_map, hbl]; exact Nat.le_refl _⟩
      · rw [List.length_map]; omega
      · rintro i x ys H2 hx ⟨bs, rfl, hbl, hbs, s2⟩
        rw [List.getElem?_map] at hx
        cases e : ps'[i]? with
        | none => rw [e] at hx; cases hx
        | some p =>
          rw [e] at hx
          cases hx
          have hlt := (List.getElem?_eq_some_iff.mp e).1
          have hri : rss'[i]? = some (rss'[i]'(by omega)) := List.getElem?_eq_getElem _
          have hpr := hp' i p _ e hri
          (simp only [_root_.L2.start, cxOf_K, cxComp_K, tSeq, tAsg, gName, tRet, tRetN, tDrop, tIfS, tTest, tB, tNot, tAnd, tOr, tAndV, tOrV, tNotV, tOp, tUn, tVar, tC, tCons, tNil, tStrs, tCB, tCall, tChain, tBM, tBM0, tPart, tNoPart, tSl, tIf, tNext, tTrue, selS, Option.bind_none, Option.bind_some, Option.join_some, if_true, rI, rI0, rU, rEq, rNe, rStarts, rSlS, lenV_str, tyV, List.map_cons, List.map_nil, List.length_cons, List.length_nil, List.replicate, List.cons_append, List.nil_append, List.append_nil, Nat.reduceAdd, Nat.reduceSub, Nat.zero_add, Nat.add_zero, Nat.sub_self, List.getElem?_cons_zero, List.getElem?_cons_succ, List.set_cons_zero, List.set_cons_succ, Option.some.injEq, V.int.injEq, V.str.injEq, V.ref.injEq, V.bl.injEq, V.ty.injEq, List.cons.injEq, exists_eq_left, exists_eq_left', exists_eq_right, exists_and_left, exists_eq, and_true, true_and, and_self, and_assoc, tFld, sFld, tMeth, tMake])
          refine ⟨_, .inl ⟨SqL.of (s2 _ _ hpr), fun b hb => ⟨bs ++ [b], by rw [List.map_append]; rfl, by rw [List.length_append, hbl]; rfl, ?_, s2.trans (Same.upd hb)⟩⟩⟩
          intro j b' rs hj hrj
          by_cases hjl : j < bs.length
          · rw [List.getElem?_append_left hjl] at hj
            exact (Same.upd hb) _ _ (hbs j b' rs hj hrj)
          · rw [List.getElem?_append_right (by omega)] at hj
            have e1 := (List.getElem?_eq_some_iff.mp hj).1
            have e2 : j - bs.length = 0 := by simp only [List.length_cons, List.length_nil] at e1; omega
            rw [e2] at hj
            cases hj
            rw [show j = i by omega, hri] at hrj
            cases hrj
            exact upd_same
      · rintro ys H2 ⟨bs, rfl, hbl, hbs, s2⟩ D hD
        rw [List.length_map] at hbl
        have sD := Same.upd (o := .lst (bs.map V.ref)) hD
        have sA : Same H (upd H2 D (.lst (bs.map V.ref))) := ((sG.trans sG').trans s2).trans sD
        have hDD : upd H2 D (.lst (bs.map V.ref)) D = some (.lst (bs.map V.ref)) := upd_same
        have hbD : ∀ (j : Nat) (b : Addr) (rs : List V), bs[j]? = some b → rss'[j]? = some rs → upd H2 D (.lst (bs.map V.ref)) b = some (.tup rs) := fun j b rs a c => sD _ _ (hbs j b rs a c)
        have hhd : upd H2 D (.lst (bs.map V.ref)) hd = some (.tup ([V.str F.z, V.int li] ++ F.th)) := ((sG'.trans s2).trans sD) _ _ hG
        generalize upd H2 D (.lst (bs.map V.ref)) = G3 at sA hDD hbD hhd ⊢
        have done : ∀ (a : Addr) (G4 : Hp), G4 a = some (.tup ([V.str F.z, V.int li] ++ F.th ++ (if F.z = "try" then tryL bs F.fa else bs.map V.ref))) → Same G3 G4 → Q (.ref a) G4 := fun a G4 ha s4 =>
          k (.ref a) G4 (made_of (rss := rss') (th := F.th) (i := li) (fa := F.fa) ⟨hF.word, rfl, hF.tv, hF.sv, hF.things, hF.fv, fun e => by rw [hbl]; exact h2 e, fun e => by rw [hbl]; exact h1 e⟩ (by omega) (fun j b rs a c => s4 _ _ (hbD j b rs a c)) (fun rs hrs r hr => (hrows rs hrs r hr).same (sA.trans s4))
            (by
              have e : (rss'.flatMap fun rs => rs.flatMap (rowF n G4)) = rss'.flatMap fun rs => rs.flatMap (rowF n H) := flatMap_congr' fun rs hrs => flatMap_congr' fun r hr => rowF_sameT (sameT_of (sA.trans s4)) (hrows rs hrs r hr)
              rw [e]; exact hwt) ha) (sA.trans s4)
        refine ⟨fun σ' H' => F.z ≠ "try" ∧ σ' = [some (.ref F.f), some (.str F.z), some (.ref F.t), some (.ref L'), some F.fa, some (.ref hd), some (.ref D)] ∧ H' = G3, ?_, ?_⟩
        · (simp only [tLst, tTup, tDNewK, _root_.L2.start, cxOf_K, cxComp_K, tSeq, tAsg, gName, tRet, tRetN, tDrop, tIfS, tTest, tB, tNot, tAnd, tOr, tAndV, tOrV, tNotV, tOp, tUn, tVar, tC, tCons, tNil, tStrs, tCB, tCall, tChain, tBM, tBM0, tPart, tNoPart, tSl, tIf, tNext, tTrue, selS, Option.bind_none, Option.bind_some, Option.join_some, if_true, rI, rI0, rU, rEq, rNe, rStarts, rSlS, lenV_str, tyV, List.map_cons, List.map_nil, List.length_cons, List.length_nil, List.replicate, List.cons_append, List.nil_append, List.append_nil, Nat.reduceAdd, Nat.reduceSub, Nat.zero_add, Nat.add_zero, Nat.sub_self, List.getElem?_cons_zero, List.getElem?_cons_succ, List.set_cons_zero, List.set_cons_succ, Option.some.injEq, V.int.injEq, V.str.injEq, V.ref.injEq, V.bl.injEq, V.ty.injEq, List.cons.injEq, exists_eq_left, exists_eq_left', exists_eq_right, exists_and_left, exists_eq, and_true, true_and, and_self, and_assoc, tFld, sFld, tMeth, tMake])
          refine ⟨rfl, ?_⟩
          by_cases hz : F.z = "try"
          · have b2 : bs.length = 2 := by rw [hbl]; exact h2 (.inl hz)
            obtain ⟨b0, b1, rfl⟩ := len2 b2
            refine ifT hz ⟨D, _, _, .ref b0, rfl, rfl, SqL.of hDD, atI_nat (j := 0) rfl, D, _, _, .ref b1, rfl, rfl, SqL.of hDD, atI_nat (j := 1) rfl, by decide, fun p hp => ?_⟩
            refine catT0_any ((Same.upd hp) _ _ hhd) upd_same (by simp) (by simp only [List.length_append, List.length_cons, List.length_nil]; omega) fun a G4 ha s4 => done a G4 ?_ ((Same.upd hp).trans s4)
            rw [ha, if_pos hz]
            rfl
          · exact ifF hz hz
        · rintro σ' H' ⟨hz, rfl, rfl⟩
          (simp only [tLst, tTup, tDNewK, _root_.L2.start, cxOf_K, cxComp_K, tSeq, tAsg, gName, tRet, tRetN, tDrop, tIfS, tTest, tB, tNot, tAnd, tOr, tAndV, tOrV, tNotV, tOp, tUn, tVar, tC, tCons, tNil, tStrs, tCB, tCall, tChain, tBM, tBM0, tPart, tNoPart, tSl, tIf, tNext, tTrue, selS, Option.bind_none, Option.bind_some, Option.join_some, if_true, rI, rI0, rU, rEq, rNe, rStarts, rSlS, lenV_str, tyV, List.map_cons, List.map_nil, List.length_cons, List.length_nil, List.replicate, List.cons_append, List.nil_append, List.append_nil, Nat.reduceAdd, Nat.reduceSub, Nat.zero_add, Nat.add_zero, Nat.sub_self, List.getElem?_cons_zero, List.getElem?_cons_succ, List.set_cons_zero, List.set_cons_succ, Option.some.injEq, V.int.injEq, V.str.injEq, V.ref.injEq, V.bl.injEq, V.ty.injEq, List.cons.injEq, exists_eq_left, exists_eq_left', exists_eq_right, exists_and_left, exists_eq, and_true, true_and, and_self, and_assoc, tFld, sFld, tMeth, tMake])
          refine ⟨_, .inl ⟨SqL.of hDD, fun p hp => ?_⟩⟩
          refine catT0_any ((Same.upd hp) _ _ hhd) upd_same (by simp) (by simp only [List.length_append, List.length_cons, List.length_nil, List.length_map]; omega) fun a G4 ha s4 => done a G4 ?_ ((Same.upd hp).trans s4)
          rw [ha, if_neg hz]
theorem sc_l_put : FnScope ["_law_errands", "_law_stack", "_law_x", "_law_names_here", "_law_deep", "_law_way", "_law_more", "_law_made"] ["_law_errands", "_law_stack", "_law_x", "_law_names_here", "_law_deep"] (defScope (top 18)) := ⟨rfl, rfl, rfl, by decide +kernel, rfl, by decide +kernel, by decide +kernel⟩
theorem ok_l_put (T : Tx P w K mg)
    (G_l_opened : FnOk P w K mg base CX0 2 T.d_l_opened.f T.d_l_opened.fd ["_law_x", "_law_names_here"] (spOpened))
    (G_l_closed : FnOk P w K mg base CX0 1 T.d_l_closed.f T.d_l_closed.fd ["_law_frame"] (spClosed))
    (G_l_plain : FnOk P w K mg base CX0 3 T.d_l_plain.f T.d_l_plain.fd ["_law_x", "_law_names_here"] (spPlain)) : FnOk P w K mg base CX0 4 T.d_l_put.f T.d_l_put.fd ["_law_errands", "_law_stack", "_law_x", "_law_names_here", "_law_deep"] (spPut) := by
  refine T.d_l_put.F.ok sc_l_put (fun vs H Q E h => ?_) (fun cdv A outer s H vs Q E hr h => ?_)
  · obtain ⟨ea, sa, na, x, d, H0, Fs, c, t, rfl, _⟩ := h
    rfl
  · obtain ⟨ea, sa, na, x, d, H0, Fs, c, t, rfl, hx, hN, hne, hS, hc, ht, k⟩ := h
    refine ⟨_, (pss_cons (ps_set (i := 5) sc_l_put.nd rfl (Or.inl rfl) (pe_op op_mod (pv 2) pe_int))
    (pss_cons (ps_set (i := 6) sc_l_put.nd rfl (Or.inl rfl) (pe_op op_fdiv (pv 2) pe_int))
    (pss_one (ps_ifM (PW.pt (pw_and (pt_cmpR op_lt (pv 5) (pe_op op_add pe_int (pe_op op_mul pe_int (pe_callTy call_int1 (by rfl) T.n_int bt_int (pa_cons (pv 4) pa_nil)))) (nomark _)) (pw_and1 (pt_cmpR op_lt (pe_callB call_len (by rfl) T.n_len bt_len (pa_cons (pv 1) pa_nil)) pe_int (nomark _)))))
    (pss_one (ps_expr (pe_bm PySem.F.plainAttrs_list PySem.F.slot_list_append PySem.F.type_list_append mt_append (pv 1) (pa_cons (pe_call G_l_opened (hr.mono (by omega)) rfl T.d_l_opened.hm T.d_l_opened.F.kp T.d_l_opened.b .nil pass0 (pa_cons (pv 6) (pa_cons (pv 3) pa_nil))) pa_nil))))
    (pss_one (ps_ifM (PW.pt (pw_and (pt_cmpR op_eq (pv 5) pe_int (nomark _)) (pw_and (pt_cmpR op_in_seq (pe_ix ix_list (pe_ix ix_list (pv 1) (pe_un un_neg pe_int) (fun _ _ => rfl)) pe_int (fun _ _ => rfl)) (pe_lst (pa_strs (zs := ["try", "do", "limit"]) (by decide +kernel))) (by with_unfolding_all rfl)) (pw_and1 (pt_cmpR op_eq (pe_callB call_len (by rfl) T.n_len bt_len (pa_cons (pe_ix ix_list (pe_ix ix_list (pv 1) (pe_un un_neg pe_int) (fun _ _ => rfl)) pe_int (fun _ _ => rfl)) pa_nil)) pe_int (nomark _))))))
    (pss_one (ps_expr (pe_bm PySem.F.plainAttrs_list PySem.F.slot_list_append PySem.F.type_list_append mt_append (pe_ix ix_list (pe_ix ix_list (pv 1) (pe_un un_neg pe_int) (fun _ _ => rfl)) pe_int (fun _ _ => rfl)) (pa_cons (pe_lst pa_nil) pa_nil))))
    (pss_one (ps_ifM (PW.pt (pw_and (pt_cmpR op_gt (pv 5) pe_int (nomark _)) (pw_and (pt_cmpR op_gt (pe_callB call_len (by rfl) T.n_len bt_len (pa_cons (pv 1) pa_nil)) pe_int (nomark _)) (pw_and1 (pt_not (PW.pt (pw_and (pt_val (pv 4)) (pw_and1 (pt_cmpR op_lt (pe_callB call_len (by rfl) T.n_len bt_len (pa_cons (pv 1) pa_nil)) pe_int (nomark _))))))))))
    (pss_cons (ps_set (i := 7) sc_l_put.nd rfl (Or.inl rfl) (pe_call G_l_closed (hr.mono (by omega)) rfl T.d_l_closed.hm T.d_l_closed.F.kp T.d_l_closed.b .nil pass0 (pa_cons (pe_bm0 PySem.F.plainAttrs_list PySem.F.slot_list_pop PySem.F.type_list_pop mt_pop (pv 1)) pa_nil)))
    (pss_one (ps_expr (pe_bm PySem.F.plainAttrs_list PySem.F.slot_list_append PySem.F.type_list_append mt_append (pe_ix ix_list (pe_ix ix_list (pe_ix ix_list (pv 1) (pe_un un_neg pe_int) (fun _ _ => rfl)) pe_int (fun _ _ => rfl)) (pe_un un_neg pe_int) (fun _ _ => rfl)) (pa_cons (pv 7) pa_nil)))))
    (pss_one (ps_ifM (PW.pt (pw_and (pt_cmpR op_eq (pv 5) pe_int (nomark _)) (pw_and1 (pt_cmpR op_eq (pe_callB call_len (by rfl) T.n_len bt_len (pa_cons (pv 1) pa_nil)) pe_int (nomark _)))))
    (pss_cons (ps_expr (pe_bm PySem.F.plainAttrs_list PySem.F.slot_list_append PySem.F.type_list_append mt_append (pv 0) (pa_cons (pe_call G_l_closed (hr.mono (by omega)) rfl T.d_l_closed.hm T.d_l_closed.F.kp T.d_l_closed.b .nil pass0 (pa_cons (pe_bm0 PySem.F.plainAttrs_list PySem.F.slot_list_pop PySem.F.type_list_pop mt_pop (pv 1)) pa_nil)) pa_nil)))
    (pss_one (ps_expr (pe_bm PySem.F.plainAttrs_list PySem.F.slot_list_append PySem.F.type_list_append mt_append (pv 1) (pa_cons (pe_lst (pa_cons pe_str (pa_cons (pe_tup (pa_cons (pe_ix ix_list (pv 3) (pe_op op_mod (pv 6) (pe_callB call_len (by rfl) T.n_len bt_len (pa_cons (pv 3) pa_nil))) (fun _ _ => rfl)) pa_nil)) (pa_cons (pe_lst (pa_cons (pe_lst pa_nil) pa_nil)) (pa_cons pe_non pa_nil))))) pa_nil)))))
    (pss_one (ps_expr (pe_bm PySem.F.plainAttrs_list PySem.F.slot_list_append PySem.F.type_list_append mt_append (pe_ix ix_list (pe_ix ix_list (pe_ix ix_list (pv 1) (pe_un un_neg pe_int) (fun _ _ => rfl)) pe_int (fun _ _ => rfl)) (pe_un un_neg pe_int) (fun _ _ => rfl)) (pa_cons (pe_call G_l_plain (hr.mono (by omega)) rfl T.d_l_plain.hm T.d_l_plain.F.kp T.d_l_plain.b .nil pass0 (pa_cons (pv 6) (pa_cons (pv 3) pa_nil))) pa_nil)))))))))))))), ?_⟩
    (simp only [tLst, tTup, tDNewK, _root_.L2.start, cxOf_K, cxComp_K, tSeq, tAsg, gName, tRet, tRetN, tDrop, tIfS, tTest, tB, tNot, tAnd, tOr, tAndV, tOrV, tNotV, tOp, tUn, tVar, tC, tCons, tNil, tStrs, tCB, tCall, tChain, tBM, tBM0, tPart, tNoPart, tSl, tIf, tNext, tTrue, selS, Option.bind_none, Option.bind_some, Option.join_some, if_true, rI, rI0, rU, rEq, rNe, rStarts, rSlS, lenV_str, tyV, List.map_cons, List.map_nil, List.length_cons, List.length_nil, List.replicate, List.cons_append, List.nil_append, List.append_nil, Nat.reduceAdd, Nat.reduceSub, Nat.zero_add, Nat.add_zero, Nat.sub_self, List.getElem?_cons_zero, List.getElem?_cons_succ, List.set_cons_zero, List.set_cons_succ, Option.some.injEq, V.int.injEq, V.str.injEq, V.ref.injEq, V.bl.injEq, V.ty.injEq, List.cons.injEq, exists_eq_left, exists_eq_left', exists_eq_right, exists_and_left, exists_eq, and_true, true_and, and_self, and_assoc, tFld, sFld, tMeth, tMake])
    obtain ⟨Gs, F, rfl⟩ := snoc_of hne
    have hlen : (Gs ++ [F]).length = Gs.length + 1 := by rw [List.length_append]; rfl
    have hle := hS.le
    rw [hlen] at hle
    have lenS : ∀ {G : Hp}, SA H0 G sa ea (Gs ++ [F]) c t → LenV K (.ref sa) G (Gs.length + 1) := fun h => lenV_ref.mpr (.inl ⟨_, SqL.of h.hs, by rw [List.length_map, hlen]⟩)
    have names : ∀ {G : Hp}, SA H0 G sa ea (Gs ++ [F]) c t → NamesAt G na := fun h => by
      obtain ⟨zs, a, b⟩ := hN
      exact ⟨zs, h.out _ _ a, b⟩
    refine ⟨by decide, ⟨by decide, by decide⟩, ?_⟩
    refine ⟨fun H1 => H1 = H ∧ Gs.length + 1 < 21, fun H1 => H1 = H, ?_, ?_, ?_⟩
    · (simp only [tLst, tTup, tDNewK, _root_.L2.start, cxOf_K, cxComp_K, tSeq, tAsg, gName, tRet, tRetN, tDrop, tIfS, tTest, tB, tNot, tAnd, tOr, tAndV, tOrV, tNotV, tOp, tUn, tVar, tC, tCons, tNil, tStrs, tCB, tCall, tChain, tBM, tBM0, tPart, tNoPart, tSl, tIf, tNext, tTrue, selS, Option.bind_none, Option.bind_some, Option.join_some, if_true, rI, rI0, rU, rEq, rNe, rStarts, rSlS, lenV_str, tyV, List.map_cons, List.map_nil, List.length_cons, List.length_nil, List.replicate, List.cons_append, List.nil_append, List.append_nil, Nat.reduceAdd, Nat.reduceSub, Nat.zero_add, Nat.add_zero, Nat.sub_self, List.getElem?_cons_zero, List.getElem?_cons_succ, List.set_cons_zero, List.set_cons_succ, Option.some.injEq, V.int.injEq, V.str.injEq, V.ref.injEq, V.bl.injEq, V.ty.injEq, List.cons.injEq, exists_eq_left, exists_eq_left', exists_eq_right, exists_and_left, exists_eq, and_true, true_and, and_self, and_assoc, tFld, sFld, tMeth, tMake])
      refine .inr ⟨.inl ⟨by decide, by decide⟩, ?_⟩
      refine ifB ⟨_, lenS hS, ?_⟩ trivial
      by_cases hlt : Gs.length + 1 < 21
      · exact ifT (by omega) hlt
      · exact ifF (by omega) trivial
    · rintro H1 ⟨rfl, hlt⟩
      (simp only [tLst, tTup, tDNewK, _root_.L2.start, cxOf_K, cxComp_K, tSeq, tAsg, gName, tRet, tRetN, tDrop, tIfS, tTest, tB, tNot, tAnd, tOr, tAndV, tOrV, tNotV, tOp, tUn, tVar, tC, tCons, tNil, tStrs, tCB, tCall, tChain, tBM, tBM0, tPart, tNoPart, tSl, tIf, tNext, tTrue, selS, Option.bind_none, Option.bind_some, Option.join_some, if_true, rI, rI0, rU, rEq, rNe, rStarts, rSlS, lenV_str, tyV, List.map_cons, List.map_nil, List.length_cons, List.length_nil, List.replicate, List.cons_append, List.nil_append, List.append_nil, Nat.reduceAdd, Nat.reduceSub, Nat.zero_add, Nat.add_zero, Nat.sub_self, List.getElem?_cons_zero, List.getElem?_cons_succ, List.set_cons_zero, List.set_cons_succ, Option.some.injEq, V.int.injEq, V.str.injEq, V.ref.injEq, V.bl.injEq, V.ty.injEq, List.cons.injEq, exists_eq_left, exists_eq_left', exists_eq_right, exists_and_left, exists_eq, and_true, true_and, and_self, and_assoc, tFld, sFld, tMeth, tMake])
      refine ⟨.inl ⟨_, SqL.of hS.hs⟩, _, _, rfl, by omega, names hS, fun F' G hn hz => ?_⟩
      refine ⟨sa, _, _, rfl, rfl, hn.2.2.2.2 _ _ hS.hs, ?_, k _ _ ?_ ((hS.push hn (by rw [hlen]; exact hlt) ⟨fun e => absurd e hz, fun e => by rw [hlen] at e; cases e⟩).mono (by omega) (by omega))⟩
      · rw [List.length_map, hlen]; exact Nat.lt_of_le_of_lt hle (by decide)
      · rw [List.length_append]; simp only [List.length_cons, List.length_nil]; omega
    rintro H1 rfl
    refine ⟨fun G => Same H1 G ∧ twoW F.z ∧ F.ps.length = 1, fun G => Same H1 G, ?_, ?_, ?_⟩
    · (simp only [tLst, tTup, tDNewK, _root_.L2.start, cxOf_K, cxComp_K, tSeq, tAsg, gName, tRet, tRetN, tDrop, tIfS, tTest, tB, tNot, tAnd, tOr, tAndV, tOrV, tNotV, tOp, tUn, tVar, tC, tCons, tNil, tStrs, tCB, tCall, tChain, tBM, tBM0, tPart, tNoPart, tSl, tIf, tNext, tTrue, selS, Option.bind_none, Option.bind_some, Option.join_some, if_true, rI, rI0, rU, rEq, rNe, rStarts, rSlS, lenV_str, tyV, List.map_cons, List.map_nil, List.length_cons, List.length_nil, List.replicate, List.cons_append, List.nil_append, List.append_nil, Nat.reduceAdd, Nat.reduceSub, Nat.zero_add, Nat.add_zero, Nat.sub_self, List.getElem?_cons_zero, List.getElem?_cons_succ, List.set_cons_zero, List.set_cons_succ, Option.some.injEq, V.int.injEq, V.str.injEq, V.ref.injEq, V.bl.injEq, V.ty.injEq, List.cons.injEq, exists_eq_left, exists_eq_left', exists_eq_right, exists_and_left, exists_eq, and_true, true_and, and_self, and_assoc, tFld, sFld, tMeth, tMake])
      refine ⟨rfl, ifB ?_ (Same.refl _)⟩
      refine hS.readTop (hS.top.readZ ⟨by decide, fun p hp => ⟨p, _, rfl, .inl (SqL.of upd_same), rfl, rfl, decide (twoW F.z), congrArg V.bl (inTwo F.z), ?_⟩⟩)
      have s1 := Same.upd (o := .lst [V.str "try", V.str "do", V.str "limit"]) hp
      have hS1 := hS.same s1
      by_cases h2 : twoW F.z
      · refine ifT h2 (hS1.readTop (hS1.top.readL ⟨_, lenV_ref.mpr (.inl ⟨_, SqL.of hS1.top.hL, rfl⟩), rfl, ?_⟩))
        rw [List.length_map]
        by_cases h1 : F.ps.length = 1
        · exact ifT (by omega) ⟨s1, h2, h1⟩
        · exact ifF (by omega) s1
      · exact ifF h2 s1
    · rintro G ⟨sG, h2, h1⟩
      have hG := hS.same sG
      (simp only [tLst, tTup, tDNewK, _root_.L2.start, cxOf_K, cxComp_K, tSeq, tAsg, gName, tRet, tRetN, tDrop, tIfS, tTest, tB, tNot, tAnd, tOr, tAndV, tOrV, tNotV, tOp, tUn, tVar, tC, tCons, tNil, tStrs, tCB, tCall, tChain, tBM, tBM0, tPart, tNoPart, tSl, tIf, tNext, tTrue, selS, Option.bind_none, Option.bind_some, Option.join_some, if_true, rI, rI0, rU, rEq, rNe, rStarts, rSlS, lenV_str, tyV, List.map_cons, List.map_nil, List.length_cons, List.length_nil, List.replicate, List.cons_append, List.nil_append, List.append_nil, Nat.reduceAdd, Nat.reduceSub, Nat.zero_add, Nat.add_zero, Nat.sub_self, List.getElem?_cons_zero, List.getElem?_cons_succ, List.set_cons_zero, List.set_cons_succ, Option.some.injEq, V.int.injEq, V.str.injEq, V.ref.injEq, V.bl.injEq, V.ty.injEq, List.cons.injEq, exists_eq_left, exists_eq_left', exists_eq_right, exists_and_left, exists_eq, and_true, true_and, and_self, and_assoc, tFld, sFld, tMeth, tMake])
      refine hG.readTop (hG.top.readL ⟨.inl ⟨_, SqL.of hG.top.hL⟩, by decide, fun q hq => ?_⟩)
      obtain ⟨F', hS'⟩ := hG.addPart hq h1 h2
      refine ⟨F.L, _, _, rfl, rfl, (Same.upd hq) _ _ hG.top.hL, ?_, k _ _ ?_ (hS'.mono (by omega) (by omega))⟩
      · rw [List.length_map, h1]; decide
      · rw [List.length_append]; simp only [List.length_cons, List.length_nil]; omega
    intro G sG
    have hG := hS.same sG
    refine ⟨fun G1 => G1 = G ∧ 0 < Gs.length, fun G1 => G1 = G, ?_, ?_, ?_⟩
    · (simp only [tLst, tTup, tDNewK, _root_.L2.start, cxOf_K, cxComp_K, tSeq, tAsg, gName, tRet, tRetN, tDrop, tIfS, tTest, tB, tNot, tAnd, tOr, tAndV, tOrV, tNotV, tOp, tUn, tVar, tC, tCons, tNil, tStrs, tCB, tCall, tChain, tBM, tBM0, tPart, tNoPart, tSl, tIf, tNext, tTrue, selS, Option.bind_none, Option.bind_some, Option.join_some, if_true, rI, rI0, rU, rEq, rNe, rStarts, rSlS, lenV_str, tyV, List.map_cons, List.map_nil, List.length_cons, List.length_nil, List.replicate, List.cons_append, List.nil_append, List.append_nil, Nat.reduceAdd, Nat.reduceSub, Nat.zero_add, Nat.add_zero, Nat.sub_self, List.getElem?_cons_zero, List.getElem?_cons_succ, List.set_cons_zero, List.set_cons_succ, Option.some.injEq, V.int.injEq, V.str.injEq, V.ref.injEq, V.bl.injEq, V.ty.injEq, List.cons.injEq, exists_eq_left, exists_eq_left', exists_eq_right, exists_and_left, exists_eq, and_true, true_and, and_self, and_assoc, tFld, sFld, tMeth, tMake])
      refine ifB ⟨_, lenS hG, ?_⟩ trivial
      by_cases hlt : 0 < Gs.length
      · refine ifT (by omega) (ifB ⟨_, lenS hG, ifB hlt trivial⟩ hlt)
      · exact ifF (by omega) trivial
    · rintro G1 ⟨rfl, hlt⟩
      (simp only [tLst, tTup, tDNewK, _root_.L2.start, cxOf_K, cxComp_K, tSeq, tAsg, gName, tRet, tRetN, tDrop, tIfS, tTest, tB, tNot, tAnd, tOr, tAndV, tOrV, tNotV, tOp, tUn, tVar, tC, tCons, tNil, tStrs, tCB, tCall, tChain, tBM, tBM0, tPart, tNoPart, tSl, tIf, tNext, tTrue, selS, Option.bind_none, Option.bind_some, Option.join_some, if_true, rI, rI0, rU, rEq, rNe, rStarts, rSlS, lenV_str, tyV, List.map_cons, List.map_nil, List.length_cons, List.length_nil, List.replicate, List.cons_append, List.nil_append, List.append_nil, Nat.reduceAdd, Nat.reduceSub, Nat.zero_add, Nat.add_zero, Nat.sub_self, List.getElem?_cons_zero, List.getElem?_cons_succ, List.set_cons_zero, List.set_cons_succ, Option.some.injEq, V.int.injEq, V.str.injEq, V.ref.injEq, V.bl.injEq, V.ty.injEq, List.cons.injEq, exists_eq_left, exists_eq_left', exists_eq_right, exists_and_left, exists_eq, and_true, true_and, and_self, and_assoc, tFld, sFld, tMeth, tMake])
      refine ⟨.inl ⟨_, SqL.of hG.hs⟩, hG.closeIn hlt (by omega) (fun p xs H1 h => .inl ⟨_, h⟩) fun H' Gs' hl' hS' => k _ _ (by omega) (hS'.mono (Nat.le_refl _) (by omega))⟩
    rintro G1 rfl
    refine ⟨fun G2 => G2 = G1 ∧ Gs.length = 0, fun G2 => G2 = G1, ?_, ?_, ?_⟩
    · (simp only [tLst, tTup, tDNewK, _root_.L2.start, cxOf_K, cxComp_K, tSeq, tAsg, gName, tRet, tRetN, tDrop, tIfS, tTest, tB, tNot, tAnd, tOr, tAndV, tOrV, tNotV, tOp, tUn, tVar, tC, tCons, tNil, tStrs, tCB, tCall, tChain, tBM, tBM0, tPart, tNoPart, tSl, tIf, tNext, tTrue, selS, Option.bind_none, Option.bind_some, Option.join_some, if_true, rI, rI0, rU, rEq, rNe, rStarts, rSlS, lenV_str, tyV, List.map_cons, List.map_nil, List.length_cons, List.length_nil, List.replicate, List.cons_append, List.nil_append, List.append_nil, Nat.reduceAdd, Nat.reduceSub, Nat.zero_add, Nat.add_zero, Nat.sub_self, List.getElem?_cons_zero, List.getElem?_cons_succ, List.set_cons_zero, List.set_cons_succ, Option.some.injEq, V.int.injEq, V.str.injEq, V.ref.injEq, V.bl.injEq, V.ty.injEq, List.cons.injEq, exists_eq_left, exists_eq_left', exists_eq_right, exists_and_left, exists_eq, and_true, true_and, and_self, and_assoc, tFld, sFld, tMeth, tMake])
      refine ⟨rfl, ifB ⟨_, lenS hG, rfl, ?_⟩ trivial⟩
      by_cases hl0 : Gs.length = 0
      · exact ifT (by omega) hl0
      · exact ifF (by omega) trivial
    · rintro G2 ⟨rfl, hl0⟩
      (simp only [tLst, tTup, tDNewK, _root_.L2.start, cxOf_K, cxComp_K, tSeq, tAsg, gName, tRet, tRetN, tDrop, tIfS, tTest, tB, tNot, tAnd, tOr, tAndV, tOrV, tNotV, tOp, tUn, tVar, tC, tCons, tNil, tStrs, tCB, tCall, tChain, tBM, tBM0, tPart, tNoPart, tSl, tIf, tNext, tTrue, selS, Option.bind_none, Option.bind_some, Option.join_some, if_true, rI, rI0, rU, rEq, rNe, rStarts, rSlS, lenV_str, tyV, List.map_cons, List.map_nil, List.length_cons, List.length_nil, List.replicate, List.cons_append, List.nil_append, List.append_nil, Nat.reduceAdd, Nat.reduceSub, Nat.zero_add, Nat.add_zero, Nat.sub_self, List.getElem?_cons_zero, List.getElem?_cons_succ, List.set_cons_zero, List.set_cons_succ, Option.some.injEq, V.int.injEq, V.str.injEq, V.ref.injEq, V.bl.injEq, V.ty.injEq, List.cons.injEq, exists_eq_left, exists_eq_left', exists_eq_right, exists_and_left, exists_eq, and_true, true_and, and_self, and_assoc, tFld, sFld, tMeth, tMake])
      obtain ⟨es, he1, he2, he3⟩ := hG.he
      refine ⟨.inl ⟨_, SqL.of he1⟩, .inl ⟨_, SqL.of hG.hs⟩, ?_⟩
      obtain ⟨c', hc', hS', hF', hz⟩ := hG.pop
      refine hG.doPop ⟨F, _, rfl, hF', by omega, fun v H2 hmade s2 => ?_⟩
      rcases hmade with ⟨_, hE⟩ | ⟨e, _⟩
      · have hS2 := hS'.same s2
        obtain ⟨es2, he1, he2, he3⟩ := hS2.he
        rw [hl0] at hE
        have hE2 : ErrAt 22 100 H2 v := by
          exact ⟨hE.1, Nat.le_trans hE.2 (by omega)⟩
        have hS3 := hS2.addErr he1 hE2
        refine ⟨ea, es2, v, rfl, rfl, he1, Nat.lt_of_le_of_lt (Nat.le_trans he2 ht) (by decide), .inl ⟨_, SqL.of hS3.hs⟩, ?_⟩
        obtain ⟨zs, hl, hz1, hz2, hz3⟩ := hN
        have hl3 := hS3.out _ _ hl
        have hm := mod_lt (x := x / 16) hz1
        refine ⟨zs.length, lenV_ref.mpr (.inl ⟨_, SqL.of hl3, by rw [List.length_map]⟩), by omega, ixAny (SqL.of hl3) hm.1 (by rw [List.length_map]; exact hm.2) fun nm hnm => ?_⟩
        refine ⟨by decide, fun p hp => ⟨by decide, fun p1 hp1 => ⟨by decide, fun p2 hp2 => ⟨by decide, fun p3 hp3 => ?_⟩⟩⟩⟩
        have hn := new_fr (z := "errand") (fa := V.non) (th := [nm]) (Same.upd hp) upd_same hp1 hp2 (Same.refl _) hp3 (by decide +kernel) (thok1 (by decide +kernel) (by decide +kernel) (by decide +kernel) (names_tv hz3 hnm))
        refine ⟨sa, _, _, rfl, rfl, hn.2.2.2.2 _ _ hS3.hs, ?_, k _ _ ?_ ((hS3.push hn (by omega) ⟨fun _ => hl0, fun _ => rfl⟩).mono (by omega) (Nat.le_refl _))⟩
        · rw [List.length_map, hl0]; decide
        · rw [List.length_append]; simp only [List.length_cons, List.length_nil]; omega
      · exact absurd (hz.mpr hl0) e
    · rintro G2 rfl
      (simp only [tLst, tTup, tDNewK, _root_.L2.start, cxOf_K, cxComp_K, tSeq, tAsg, gName, tRet, tRetN, tDrop, tIfS, tTest, tB, tNot, tAnd, tOr, tAndV, tOrV, tNotV, tOp, tUn, tVar, tC, tCons, tNil, tStrs, tCB, tCall, tChain, tBM, tBM0, tPart, tNoPart, tSl, tIf, tNext, tTrue, selS, Option.bind_none, Option.bind_some, Option.join_some, if_true, rI, rI0, rU, rEq, rNe, rStarts, rSlS, lenV_str, tyV, List.map_cons, List.map_nil, List.length_cons, List.length_nil, List.replicate, List.cons_append, List.nil_append, List.append_nil, Nat.reduceAdd, Nat.reduceSub, Nat.zero_add, Nat.add_zero, Nat.sub_self, List.getElem?_cons_zero, List.getElem?_cons_succ, List.set_cons_zero, List.set_cons_succ, Option.some.injEq, V.int.injEq, V.str.injEq, V.ref.injEq, V.bl.injEq, V.ty.injEq, List.cons.injEq, exists_eq_left, exists_eq_left', exists_eq_right, exists_and_left, exists_eq, and_true, true_and, and_self, and_assoc, tFld, sFld, tMeth, tMake])
      refine hG.putRow (N := fun _ H1 => Q V.non H1) (R := fun x _ H1 => spPlain [V.int (_ / 16), V.ref na] H1 (fun y H1 => rAppend x [y] H1 fun _ H1 => Q V.non H1) E0) (fun p xs H1 h => .inl ⟨_, h⟩) fun p add => ?_
      refine ⟨_, _, rfl, by omega, names hG, fun a z r H' hfree ha hz hpl s' => ?_⟩
      have hrow : RowOk (22 - Gs.length) H' (.ref a) := by
        rw [show 22 - Gs.length = (21 - Gs.length) + 1 by omega]
        exact ⟨a, z, r, rfl, ha, hz, fun e => absurd hpl e, fun q hq => by rw [rowParts_str, hpl] at hq; cases hq⟩
      have hone : (rowF (22 - Gs.length) H' (.ref a)).length = 1 := by
        unfold rowF
        rw [partsF_of ha, rowParts_str, hpl]; rfl
      refine add _ H' s' hrow (by omega) fun H'' G' hS'' => k _ (Gs ++ [G']) ?_ (hS''.mono (by omega) (by omega))
      rw [List.length_append]; simp only [List.length_cons, List.length_nil]; omega
theorem sc_l_program : FnScope ["_law_cells", "_law_names_here", "_law_deep", "_law_errands", "_law_stack", "_law_turn", "_law_cell", "_law_made"] ["_law_cells", "_law_names_here", "_law_deep"] (defScope (top 19)) := ⟨rfl, rfl, rfl, by decide +kernel, rfl, by decide +kernel, by decide +kernel⟩
theorem ok_l_program (T : Tx P w K mg)
    (G_l_mixed : FnOk P w K mg base CX0 1 T.d_l_mixed.f T.d_l_mixed.fd ["_law_x"] (spMixed))
    (G_l_put : FnOk P w K mg base CX0 4 T.d_l_put.f T.d_l_put.fd ["_law_errands", "_law_stack", "_law_x", "_law_names_here", "_law_deep"] (spPut))
    (G_l_closed : FnOk P w K mg base CX0 1 T.d_l_closed.f T.d_l_closed.fd ["_law_frame"] (spClosed)) : FnOk P w K mg base CX0 5 T.d_l_program.f T.d_l_program.fd ["_law_cells", "_law_names_here", "_law_deep"] (spProgram) := by
  refine T.d_l_program.F.ok sc_l_program (fun vs H Q E h => ?_) (fun cdv A outer s H vs Q E hr h => ?_)
  · obtain ⟨ca, na, d, ns, rfl, _⟩ := h
    rfl
  · obtain ⟨ca, na, d, ns, rfl, hca, hns, hN, k⟩ := h
    refine ⟨_, (pss_cons (ps_set (i := 3) sc_l_program.nd rfl (Or.inl rfl) (pe_lst pa_nil))
    (pss_cons (ps_set (i := 4) sc_l_program.nd rfl (Or.inl rfl) (pe_lst (pa_cons (pe_lst (pa_cons pe_str (pa_cons (pe_tup (pa_cons (pe_ix ix_list (pv 1) pe_int (fun _ _ => rfl)) pa_nil)) (pa_cons (pe_lst (pa_cons (pe_lst pa_nil) pa_nil)) (pa_cons pe_non pa_nil))))) pa_nil)))
    (pss_cons (ps_for PassesOwn.never rfl (pi_enum rfl T.n_enumerate (pa_cons (pv 0) pa_nil)) (pg_tup (n := 2) rfl (pgs_cons (pg_name (i := 5) sc_l_program.nd rfl (Or.inl rfl)) (pgs_cons (pg_name (i := 6) sc_l_program.nd rfl (Or.inl rfl)) pgs_nil)))
    (pss_one (ps_expr (pe_call G_l_put (hr.mono (by omega)) rfl T.d_l_put.hm T.d_l_put.F.kp T.d_l_put.b .nil pass0 (pa_cons (pv 3) (pa_cons (pv 4) (pa_cons (pe_call G_l_mixed (hr.mono (by omega)) rfl T.d_l_mixed.hm T.d_l_mixed.F.kp T.d_l_mixed.b .nil pass0 (pa_cons (pe_op op_add (pe_call G_l_mixed (hr.mono (by omega)) rfl T.d_l_mixed.hm T.d_l_mixed.F.kp T.d_l_mixed.b .nil pass0 (pa_cons (pv 6) pa_nil)) (pe_op op_mul pe_int (pv 5))) pa_nil)) (pa_cons (pv 1) (pa_cons (pv 2) pa_nil)))))))))
    (pss_cons (ps_while PassesOwn.never (pt_cmpR op_gt (pe_callB call_len (by rfl) T.n_len bt_len (pa_cons (pv 4) pa_nil)) pe_int (nomark _))
    (pss_cons (ps_set (i := 7) sc_l_program.nd rfl (Or.inl rfl) (pe_call G_l_closed (hr.mono (by omega)) rfl T.d_l_closed.hm T.d_l_closed.F.kp T.d_l_closed.b .nil pass0 (pa_cons (pe_bm0 PySem.F.plainAttrs_list PySem.F.slot_list_pop PySem.F.type_list_pop mt_pop (pv 4)) pa_nil)))
    (pss_one (ps_expr (pe_bm PySem.F.plainAttrs_list PySem.F.slot_list_append PySem.F.type_list_append mt_append (pe_ix ix_list (pe_ix ix_list (pe_ix ix_list (pv 4) (pe_un un_neg pe_int) (fun _ _ => rfl)) pe_int (fun _ _ => rfl)) (pe_un un_neg pe_int) (fun _ _ => rfl)) (pa_cons (pv 7) pa_nil))))))
    (pss_one (ps_ret (pe_callTy call_tuple_of (by rfl) T.n_tuple bt_tuple (pa_cons (pe_op op_cat (pv 3) (pe_lst (pa_cons (pe_call G_l_closed (hr.mono (by omega)) rfl T.d_l_closed.hm T.d_l_closed.F.kp T.d_l_closed.b .nil pass0 (pa_cons (pe_bm0 PySem.F.plainAttrs_list PySem.F.slot_list_pop PySem.F.type_list_pop mt_pop (pv 4)) pa_nil)) pa_nil))) pa_nil)))))))), ?_⟩
    (simp only [tLst, tTup, tDNewK, _root_.L2.start, cxOf_K, cxComp_K, tSeq, tAsg, gName, tRet, tRetN, tDrop, tIfS, tTest, tB, tNot, tAnd, tOr, tAndV, tOrV, tNotV, tOp, tUn, tVar, tC, tCons, tNil, tStrs, tCB, tCall, tChain, tBM, tBM0, tPart, tNoPart, tSl, tIf, tNext, tTrue, selS, Option.bind_none, Option.bind_some, Option.join_some, if_true, rI, rI0, rU, rEq, rNe, rStarts, rSlS, lenV_str, tyV, List.map_cons, List.map_nil, List.length_cons, List.length_nil, List.replicate, List.cons_append, List.nil_append, List.append_nil, Nat.reduceAdd, Nat.reduceSub, Nat.zero_add, Nat.add_zero, Nat.sub_self, List.getElem?_cons_zero, List.getElem?_cons_succ, List.set_cons_zero, List.set_cons_succ, Option.some.injEq, V.int.injEq, V.str.injEq, V.ref.injEq, V.bl.injEq, V.ty.injEq, List.cons.injEq, exists_eq_left, exists_eq_left', exists_eq_right, exists_and_left, exists_eq, and_true, true_and, and_self, and_assoc, tFld, sFld, tMeth, tMake])
    obtain ⟨zs, hna, hz1, hz2, hz3⟩ := id hN
    refine ⟨by decide, fun ea hea => ixAny (SqL.of ((Same.upd hea) _ _ hna)) (by decide) (by rw [List.length_map]; omega) fun nm hnm => ?_⟩
    refine ⟨by decide, fun p hp => ⟨by decide, fun p1 hp1 => ⟨by decide, fun p2 hp2 => ⟨by decide, fun p3 hp3 => ⟨by decide, fun sa hsa => ?_⟩⟩⟩⟩⟩
    have hn := new_fr (z := "errand") (fa := V.non) (th := [nm]) (Same.upd hp) upd_same hp1 hp2 (Same.refl _) hp3 (by decide +kernel) (thok1 (by decide +kernel) (by decide +kernel) (by decide +kernel) (names_tv hz3 hnm))
    have hS0 := SA.first hea hn rfl hsa
    generalize upd (upd (upd (upd (upd (upd H ea (.lst [])) p (.tup [nm])) p1 (.lst [])) p2 (.lst [.ref p1])) p3 (.lst [.str "errand", .ref p, .ref p2, .non])) sa (.lst [.ref p3]) = G at hS0 ⊢
    refine ⟨_, rfl, ca, rfl, ⟨_, SqL.of (hS0.out _ _ hca)⟩, ?_⟩
    refine for_enum (K := K) (a := ca) (xs := ns.map V.int) (fun i σ H2 => ∃ (o1 o2 o3 : Option V) (Fs : List Fr), σ = [some (.ref ca), some (.ref na), some (.bl d), some (.ref ea), some (.ref sa), o1, o2, o3] ∧ 0 < Fs.length ∧ SA H H2 sa ea Fs i i)
      ⟨none, none, none, [⟨p3, p, p2, [p1], "errand", V.non, [nm], [[]], 0⟩], rfl, Nat.zero_lt_one, hS0⟩ (fun i σ H2 _ ⟨_, _, _, _, _, _, h⟩ => SqL.of (h.out _ _ hca)) ?_ ?_
    · rintro i x q σ H2 hi ⟨o1, o2, o3, Fs, rfl, hne, hS⟩ hq
      obtain ⟨n, rfl, hn'⟩ := in_int hi
      have hi50 : i < 63 := by
        have := (List.getElem?_eq_some_iff.mp hn').1
        omega
      refine ⟨q, _, rfl, SqT.of upd_same, rfl, ?_⟩
      simp only [gCons, gNil]
      (simp only [_root_.L2.start, cxOf_K, cxComp_K, tSeq, tAsg, gName, tRet, tRetN, tDrop, tIfS, tTest, tB, tNot, tAnd, tOr, tAndV, tOrV, tNotV, tOp, tUn, tVar, tC, tCons, tNil, tStrs, tCB, tCall, tChain, tBM, tBM0, tPart, tNoPart, tSl, tIf, tNext, tTrue, selS, Option.bind_none, Option.bind_some, Option.join_some, if_true, rI, rI0, rU, rEq, rNe, rStarts, rSlS, lenV_str, tyV, List.map_cons, List.map_nil, List.length_cons, List.length_nil, List.replicate, List.cons_append, List.nil_append, List.append_nil, Nat.reduceAdd, Nat.reduceSub, Nat.zero_add, Nat.add_zero, Nat.sub_self, List.getElem?_cons_zero, List.getElem?_cons_succ, List.set_cons_zero, List.set_cons_succ, Option.some.injEq, V.int.injEq, V.str.injEq, V.ref.injEq, V.bl.injEq, V.ty.injEq, List.cons.injEq, exists_eq_left, exists_eq_left', exists_eq_right, exists_and_left, exists_eq, and_true, true_and, and_self, and_assoc, tFld, sFld, tMeth, tMake])
      refine ⟨_, rfl, fun r hr0 hr1 => ⟨.inl ⟨by decide, by decide⟩, _, rfl, _, rfl, fun r2 hr2 hr3 => ?_⟩⟩
      refine ⟨ea, sa, na, r2, d, H, Fs, i, i, rfl, hr2, hN, hne, hS.same (Same.upd hq), by omega, by omega, fun H' Fs' hne' hS' => ?_⟩
      exact ⟨Fs', hne', hS'⟩
    · rintro σ H2 ⟨o1, o2, o3, Fs, rfl, hne, hS⟩
      rw [List.length_map] at hS
      have hS2 := hS.mono hns hns
      have hle := hS2.le
      refine while_by (fun σ H2 => ∃ (o3 : Option V) (Fs : List Fr) (c : Nat), σ = [some (.ref ca), some (.ref na), some (.bl d), some (.ref ea), some (.ref sa), o1, o2, o3] ∧ 0 < Fs.length ∧ c + Fs.length ≤ 84 ∧ SA H H2 sa ea Fs c 63) (fun _ H2 => lenAt H2 sa) ⟨o3, Fs, 63, rfl, hne, by omega, hS2⟩ ?_ ?_
      · rintro σ H3 ⟨o3, Fs, c, rfl, hne, hcl, hS⟩
        obtain ⟨Gs, F, rfl⟩ := snoc_of hne
        have hlen : (Gs ++ [F]).length = Gs.length + 1 := by rw [List.length_append]; rfl
        have hat := lenAt_of hS.hs
        rw [List.length_map, hlen] at hat
        (simp only [_root_.L2.start, cxOf_K, cxComp_K, tSeq, tAsg, gName, tRet, tRetN, tDrop, tIfS, tTest, tB, tNot, tAnd, tOr, tAndV, tOrV, tNotV, tOp, tUn, tVar, tC, tCons, tNil, tStrs, tCB, tCall, tChain, tBM, tBM0, tPart, tNoPart, tSl, tIf, tNext, tTrue, selS, Option.bind_none, Option.bind_some, Option.join_some, if_true, rI, rI0, rU, rEq, rNe, rStarts, rSlS, lenV_str, tyV, List.map_cons, List.map_nil, List.length_cons, List.length_nil, List.replicate, List.cons_append, List.nil_append, List.append_nil, Nat.reduceAdd, Nat.reduceSub, Nat.zero_add, Nat.add_zero, Nat.sub_self, List.getElem?_cons_zero, List.getElem?_cons_succ, List.set_cons_zero, List.set_cons_succ, Option.some.injEq, V.int.injEq, V.str.injEq, V.ref.injEq, V.bl.injEq, V.ty.injEq, List.cons.injEq, exists_eq_left, exists_eq_left', exists_eq_right, exists_and_left, exists_eq, and_true, true_and, and_self, and_assoc, tFld, sFld, tMeth, tMake])
        refine ⟨_, lenV_ref.mpr (.inl ⟨_, SqL.of hS.hs, rfl⟩), ?_⟩
        rw [List.length_map, hlen]
        by_cases hg : 0 < Gs.length
        · refine ifT (by omega) ⟨.inl ⟨_, SqL.of hS.hs⟩, ?_⟩
          refine hS.closeIn hg (by omega) (fun p xs H1 h => .inl ⟨_, h⟩) fun H' Gs' hl' hS' => ⟨⟨Gs', by omega, c + 1, by omega, hS'⟩, ?_⟩
          rw [hat, lenAt_of hS'.hs, List.length_map]; omega
        · refine ifF (by omega) ?_
          (simp only [tLst, tTup, tDNewK, _root_.L2.start, cxOf_K, cxComp_K, tSeq, tAsg, gName, tRet, tRetN, tDrop, tIfS, tTest, tB, tNot, tAnd, tOr, tAndV, tOrV, tNotV, tOp, tUn, tVar, tC, tCons, tNil, tStrs, tCB, tCall, tChain, tBM, tBM0, tPart, tNoPart, tSl, tIf, tNext, tTrue, selS, Option.bind_none, Option.bind_some, Option.join_some, if_true, rI, rI0, rU, rEq, rNe, rStarts, rSlS, lenV_str, tyV, List.map_cons, List.map_nil, List.length_cons, List.length_nil, List.replicate, List.cons_append, List.nil_append, List.append_nil, Nat.reduceAdd, Nat.reduceSub, Nat.zero_add, Nat.add_zero, Nat.sub_self, List.getElem?_cons_zero, List.getElem?_cons_succ, List.set_cons_zero, List.set_cons_succ, Option.some.injEq, V.int.injEq, V.str.injEq, V.ref.injEq, V.bl.injEq, V.ty.injEq, List.cons.injEq, exists_eq_left, exists_eq_left', exists_eq_right, exists_and_left, exists_eq, and_true, true_and, and_self, and_assoc, tFld, sFld, tMeth, tMake])
          refine ⟨.inl ⟨_, SqL.of hS.hs⟩, ?_⟩
          obtain ⟨c', hc', hS', hF', hz⟩ := hS.pop
          have hl0 : Gs.length = 0 := by omega
          refine hS.doPop ⟨F, _, rfl, hF', by omega, fun v H4 hmade s4 => ?_⟩
          rcases hmade with ⟨_, hE⟩ | ⟨e, _⟩
          · rw [hl0] at hE
            have hS4 := hS'.same s4
            obtain ⟨es, he1, he2, he3⟩ := hS4.he
            have hE2 : ErrAt 22 100 H4 v := by
              exact ⟨hE.1, Nat.le_trans hE.2 (by omega)⟩
            refine ⟨by decide, fun l1 hl1 => ?_⟩
            have s5 := Same.upd (o := .lst [v]) hl1
            refine ⟨ea, l1, _, _, rfl, rfl, s5 _ _ he1, upd_same, ?_, fun l2 hl2 => ⟨l2, rfl, _, .inl ⟨SqL.of upd_same, fun l3 hl3 => ?_⟩⟩⟩
            · exact Nat.le_trans (show es.length + 1 ≤ 100 by omega) (by decide)
            · have s6 := s5.trans ((Same.upd (o := .lst (es ++ [v])) hl2).trans (Same.upd (o := .tup (es ++ [v])) hl3))
              refine k l3 (es ++ [v]) _ ((hS4.out.trans s5).trans (Same.upd hl2) |>.free hl3) upd_same (fun x hx => ?_) ?_ (hS4.out.trans s6)
              · rcases List.mem_append.mp hx with hx | hx
                · exact (he3 x hx).sameT (sameT_of s6)
                · rw [List.mem_singleton.mp hx]; exact hE2.sameT (sameT_of s6)
              · rw [List.length_append]; simp only [List.length_cons, List.length_nil]; omega
          · exact absurd (hz.mpr hl0) e
      · intro σ H Q Q' hQ
        (simp only [_root_.L2.start, cxOf_K, cxComp_K, tSeq, tAsg, gName, tRet, tRetN, tDrop, tIfS, tTest, tB, tNot, tAnd, tOr, tAndV, tOrV, tNotV, tOp, tUn, tVar, tC, tCons, tNil, tStrs, tCB, tCall, tChain, tBM, tBM0, tPart, tNoPart, tSl, tIf, tNext, tTrue, selS, Option.bind_none, Option.bind_some, Option.join_some, if_true, rI, rI0, rU, rEq, rNe, rStarts, rSlS, lenV_str, tyV, List.map_cons, List.map_nil, List.length_cons, List.length_nil, List.replicate, List.cons_append, List.nil_append, List.append_nil, Nat.reduceAdd, Nat.reduceSub, Nat.zero_add, Nat.add_zero, Nat.sub_self, List.getElem?_cons_zero, List.getElem?_cons_succ, List.set_cons_zero, List.set_cons_succ, Option.some.injEq, V.int.injEq, V.str.injEq, V.ref.injEq, V.bl.injEq, V.ty.injEq, List.cons.injEq, exists_eq_left, exists_eq_left', exists_eq_right, exists_and_left, exists_eq, and_true, true_and, and_self, and_assoc, tFld, sFld, tMeth, tMake])
        rintro ⟨v, e, n, hl, hq⟩
        exact ⟨v, e, n, hl, hQ _ _ hq⟩
theorem sc_begin_words : FnScope ["row", "words"] ["row"] (defScope (top 2)) := ⟨rfl, rfl, rfl, by decide +kernel, rfl, by decide +kernel, by decide +kernel⟩
theorem ok_begin_words (T : Tx P w K mg) : FnOk P w K mg base CX0 1 T.d_begin_words.f T.d_begin_words.fd ["row"] (spBegin) := by
  refine T.d_begin_words.F.ok sc_begin_words (fun vs H Q E h => ?_) (fun cdv A outer s H vs Q E hr h => ?_)
  · obtain ⟨p, ln, a, b, c, l, rfl, _⟩ := h
    rfl
  · obtain ⟨p, ln, a, b, c, l, rfl, hp, ha, hb, hc, hl0, hl1, k⟩ := h
    refine ⟨_, (pss_cons (ps_set (i := 1) sc_begin_words.nd rfl (Or.inl rfl) (pe_lst (pa_cons pe_str (pa_cons (pe_ix ix_tup (pv 0) pe_int (fun _ _ => rfl)) (pa_cons (pe_ix ix_tup (pv 0) pe_int (fun _ _ => rfl)) (pa_cons pe_str (pa_cons (pe_ix ix_tup (pv 0) pe_int (fun _ _ => rfl)) pa_nil)))))))
    (pss_cons (ps_if (pt_cmpR op_ne (pe_ix ix_tup (pv 0) pe_int (fun _ _ => rfl)) pe_int (nomark _))
    (pss_one (ps_set (i := 1) sc_begin_words.nd rfl (Or.inl rfl) (pe_op op_cat (pv 1) (pe_lst (pa_cons pe_str (pa_cons (pe_ix ix_tup (pv 0) pe_int (fun _ _ => rfl)) pa_nil))))))
    pss_nil)
    (pss_one (ps_ret (pv 1))))), ?_⟩
    (simp only [tLst, tTup, tDNewK, _root_.L2.start, cxOf_K, cxComp_K, tSeq, tAsg, gName, tRet, tRetN, tDrop, tIfS, tTest, tB, tNot, tAnd, tOr, tAndV, tOrV, tNotV, tOp, tUn, tVar, tC, tCons, tNil, tStrs, tCB, tCall, tChain, tBM, tBM0, tPart, tNoPart, tSl, tIf, tNext, tTrue, selS, Option.bind_none, Option.bind_some, Option.join_some, if_true, rI, rI0, rU, rEq, rNe, rStarts, rSlS, lenV_str, tyV, List.map_cons, List.map_nil, List.length_cons, List.length_nil, List.replicate, List.cons_append, List.nil_append, List.append_nil, Nat.reduceAdd, Nat.reduceSub, Nat.zero_add, Nat.add_zero, Nat.sub_self, List.getElem?_cons_zero, List.getElem?_cons_succ, List.set_cons_zero, List.set_cons_succ, Option.some.injEq, V.int.injEq, V.str.injEq, V.ref.injEq, V.bl.injEq, V.ty.injEq, List.cons.injEq, exists_eq_left, exists_eq_left', exists_eq_right, exists_and_left, exists_eq, and_true, true_and, and_self, and_assoc, tFld, sFld, tMeth, tMake])
    have at_ : ∀ {G : Hp} {R : VK} (j : Nat) (x : V), [V.str "begin", .int ln, .str a, .str b, .str c, .int l][j]? = some x → Same H G → R x G → rIxT K (.ref p) (.int (j : Nat)) G R := fun j x hx s q => ⟨p, _, _, x, rfl, rfl, SqT.of (s _ _ hp), atI_nat hx, q⟩
    have sR := Same.refl H
    refine at_ 2 (.str a) rfl sR (at_ 3 (.str b) rfl sR (at_ 4 (.str c) rfl sR ⟨by decide, fun q hq => ?_⟩))
    have s1 := Same.upd (o := .lst [V.str "begin", V.str a, V.str b, V.str "in", V.str c]) hq
    have st : ∀ {z : Str}, z.length ≤ 60 → TV (.str z) := fun h => .inr ⟨_, rfl, h⟩
    have t5 : ∀ x ∈ [V.str "begin", V.str a, V.str b, V.str "in", V.str c], TV x := fun x hx => by
      simp only [List.mem_cons, List.not_mem_nil, or_false] at hx
      rcases hx with rfl | rfl | rfl | rfl | rfl
      · exact st (by decide +kernel)
      · exact st ha
      · exact st hb
      · exact st (by decide +kernel)
      · exact st hc
    refine at_ 5 (.int l) rfl s1 ⟨rfl, ?_⟩
    by_cases e : l = 0
    · refine ifNF (by rw [e]) (k q _ _ hq upd_same t5 ?_ (show 5 ≤ 7 by decide) s1)
      unfold wordsF
      rw [if_pos rfl]
      show _ = _ ++ (if l = 0 then [] else _)
      rw [if_pos e]
      rfl
    · refine ifNT (fun z => e (V.int.inj z)) (at_ 5 (.int l) rfl s1 ⟨by decide, fun q2 hq2 => ?_⟩)
      have s2 := Same.upd (o := .lst [V.str "within", V.int l]) hq2
      refine ⟨q, q2, _, _, rfl, rfl, s2 _ _ upd_same, upd_same, (show 7 ≤ sizeLine by decide), fun q3 hq3 => k q3 _ _ ((s1.trans s2).free hq3) upd_same (fun x hx => ?_) ?_ (show 7 ≤ 7 by decide) ((s1.trans s2).trans (Same.upd hq3))⟩
      · rcases List.mem_append.mp hx with hx | hx
        · exact t5 x hx
        · exact tv2 (st (by decide +kernel)) (TV.int hl0 hl1) x hx
      · unfold wordsF
        rw [if_pos rfl]
        show _ = _ ++ (if l = 0 then [] else _)
        rw [if_neg e]
        rfl
theorem sc_head_words : FnScope ["row"] ["row"] (defScope (top 3)) := ⟨rfl, rfl, rfl, by decide +kernel, rfl, by decide +kernel, by decide +kernel⟩
theorem ok_head_words (T : Tx P w K mg)
    (G_begin_words : FnOk P w K mg base CX0 1 T.d_begin_words.f T.d_begin_words.fd ["row"] (spBegin)) : FnOk P w K mg base CX0 2 T.d_head_words.f T.d_head_words.fd ["row"] (spHead) := by
  refine T.d_head_words.F.ok sc_head_words (fun vs H Q E h => ?_) (fun cdv A outer s H vs Q E hr h => ?_)
  · obtain ⟨v, n, rfl, _⟩ := h
    rfl
  · obtain ⟨v, n, rfl, hv, k⟩ := h
    refine ⟨_, (pss_cons (ps_if (pt_cmpR op_eq (pe_ix ix_tup (pv 0) pe_int (fun _ _ => rfl)) pe_str (nomark _))
    (pss_one (ps_ret (pe_call G_begin_words (hr.mono (by omega)) rfl T.d_begin_words.hm T.d_begin_words.F.kp T.d_begin_words.b .nil pass0 (pa_cons (pv 0) pa_nil))))
    pss_nil)
    (pss_cons (ps_if (pt_cmpR op_eq (pe_ix ix_tup (pv 0) pe_int (fun _ _ => rfl)) pe_str (nomark _))
    (pss_one (ps_ret (pe_lst (pa_cons pe_str pa_nil))))
    pss_nil)
    (pss_one (ps_ret (pe_op op_cat (pe_lst (pa_cons (pe_ix ix_tup (pv 0) pe_int (fun _ _ => rfl)) pa_nil)) (pe_lc (N' := ["field"]) (sel := [none]) rfl rfl rfl (pi_tup (pe_slice sl_tupW (pv 0) (po_some pe_int) po_none)) (gk_name rfl) (fun _ _ _ _ _ => ⟨(pg_name (i := 0) (show (["field"] : List Str).Nodup by decide +kernel) rfl (Or.inl rfl)), (pts_one (pt_not (pt_val (pe_callB (call_isinstK (K := K) rfl) (by rfl) T.n_isinstance bt_isinstance (pa_cons (pv 0) (pa_cons (pe_bltn (v := .ty "tuple") rfl T.n_tuple bt_tuple rfl) pa_nil)))))), (pv 0)⟩))))))), ?_⟩
    (simp only [tLst, tTup, tDNewK, tLc, iList, iStr, iTup, _root_.L2.start, cxOf_K, cxComp_K, tSeq, tAsg, gName, tRet, tRetN, tDrop, tIfS, tTest, tB, tNot, tAnd, tOr, tAndV, tOrV, tNotV, tOp, tUn, tVar, tC, tCons, tNil, tStrs, tCB, tCall, tChain, tBM, tBM0, tPart, tNoPart, tSl, tIf, tNext, tTrue, selS, Option.bind_none, Option.bind_some, Option.join_some, if_true, rI, rI0, rU, rEq, rNe, rStarts, rSlS, lenV_str, tyV, List.map_cons, List.map_nil, List.length_cons, List.length_nil, List.replicate, List.cons_append, List.nil_append, List.append_nil, Nat.reduceAdd, Nat.reduceSub, Nat.zero_add, Nat.add_zero, Nat.sub_self, List.getElem?_cons_zero, List.getElem?_cons_succ, List.set_cons_zero, List.set_cons_succ, Option.some.injEq, V.int.injEq, V.str.injEq, V.ref.injEq, V.bl.injEq, V.ty.injEq, List.cons.injEq, exists_eq_left, exists_eq_left', exists_eq_right, exists_and_left, exists_eq, and_true, true_and, and_self, and_assoc, tFld, sFld, tMeth, tMake])
    obtain ⟨a, z, ln, r, I⟩ := hv.ri
    rw [I.words] at k
    have sR := Same.refl H
    have st : ∀ {z : Str}, z.length ≤ 60 → TV (.str z) := fun h => .inr ⟨_, rfl, h⟩
    have hzl := I.zl
    refine I.ix 0 (.str z) rfl sR ⟨rfl, ?_⟩
    by_cases hb : z = "begin"
    · refine ifT (by rw [hb]) ?_
      rcases I.sh with P | ⟨th, fa, bs, B⟩
      · obtain ⟨x, y, w, l, rfl, hl0⟩ := P.b hb
        have h1 := P.tv (.str x) (by simp)
        have h2 := P.tv (.str y) (by simp)
        have h3 := P.tv (.str w) (by simp)
        have h4 := P.tv (.int l) (by simp)
        have sl : ∀ {x : Str}, TV (.str x) → x.length ≤ 60 := fun h => by
          rcases h with ⟨_, e, _⟩ | ⟨_, e, h⟩
          · cases e
          · cases e; exact h
        have il : l < 10000000 := by
          rcases h4 with ⟨_, e, _, h⟩ | ⟨_, e, _⟩
          · cases e; exact h
          · cases e
        obtain rfl := I.e
        subst hb
        exact ⟨a, ln, x, y, w, l, rfl, I.h, sl h1, sl h2, sl h3, hl0, il, k⟩
      · exact absurd B.w (by rw [hb]; decide +kernel)
    refine ifF (fun e => hb (V.str.inj e)) (I.ix 0 (.str z) rfl sR ⟨rfl, ?_⟩)
    by_cases ht : z = "try"
    · refine ifT (by rw [ht]) ⟨by decide, fun p hp => k p _ _ hp upd_same (tv1 (st (by decide +kernel))) ?_ (show 1 ≤ 7 by decide) (Same.upd hp)⟩
      unfold wordsF
      rw [if_neg hb, if_pos ht]
      rfl
    refine ifF (fun e => ht (V.str.inj e)) (I.ix 0 (.str z) rfl sR ⟨by decide, fun p hp => ?_⟩)
    have s1 := Same.upd (o := .lst [V.str z]) hp
    obtain rfl := I.e
    refine slFrom2 (s1 _ _ I.h) fun q G1 hq s2 h1 => ⟨q, rfl, ⟨_, SqT.of h1⟩, lc_tup (K := K) (a := q) (xs := r) (fun i ys G => G = G1 ∧ ys = (r.take i).filter fun v => !isR v) ⟨rfl, rfl⟩ ?_ ?_ ?_ ?_⟩
    · rintro i ys G hi ⟨rfl, rfl⟩
      exact ⟨SqT.of h1, Nat.le_trans (List.length_filter_le _ _) (by rw [List.length_take]; omega)⟩
    · exact Nat.le_trans I.len (by decide)
    · rintro i x ys G hi ⟨rfl, rfl⟩
      (simp only [tLst, tTup, tDNewK, tLc, iList, iStr, iTup, _root_.L2.start, cxOf_K, cxComp_K, tSeq, tAsg, gName, tRet, tRetN, tDrop, tIfS, tTest, tB, tNot, tAnd, tOr, tAndV, tOrV, tNotV, tOp, tUn, tVar, tC, tCons, tNil, tStrs, tCB, tCall, tChain, tBM, tBM0, tPart, tNoPart, tSl, tIf, tNext, tTrue, selS, Option.bind_none, Option.bind_some, Option.join_some, if_true, rI, rI0, rU, rEq, rNe, rStarts, rSlS, lenV_str, tyV, List.map_cons, List.map_nil, List.length_cons, List.length_nil, List.replicate, List.cons_append, List.nil_append, List.append_nil, Nat.reduceAdd, Nat.reduceSub, Nat.zero_add, Nat.add_zero, Nat.sub_self, List.getElem?_cons_zero, List.getElem?_cons_succ, List.set_cons_zero, List.set_cons_succ, Option.some.injEq, V.int.injEq, V.str.injEq, V.ref.injEq, V.bl.injEq, V.ty.injEq, List.cons.injEq, exists_eq_left, exists_eq_left', exists_eq_right, exists_and_left, exists_eq, and_true, true_and, and_self, and_assoc, tFld, sFld, tMeth, tMake])
      have e : (r.take (i + 1)).filter (fun v => !isR v) = (r.take i).filter (fun v => !isR v) ++ [x].filter fun v => !isR v := by
        rw [List.take_succ, hi, List.filter_append]; rfl
      rw [e]
      rcases I.each x (List.mem_of_getElem? hi) with ⟨hx, b, ys, rfl, hb, _⟩ | hx
      · exact ⟨_, .tup ((s1.trans s2) _ _ hb), true, rfl, iteF (by decide) (by rw [show [V.ref b].filter (fun v => !isR v) = [] from rfl, List.append_nil])⟩
      · have hf : [x].filter (fun v => !isR v) = [x] := by rw [List.filter_cons_of_pos (by rw [hx.notR]; rfl)]; rfl
        rw [hf]
        rcases hx with ⟨m, rfl, _⟩ | ⟨y, rfl, _⟩
        · exact ⟨_, .int m, false, rfl, iteT rfl rfl⟩
        · exact ⟨_, .str y, false, rfl, iteT rfl rfl⟩
    · rintro ys G ⟨rfl, rfl⟩ D hD
      rw [List.take_length]
      have s3 := Same.upd (o := .lst (r.filter fun v => !isR v)) hD
      refine ⟨p, D, _, _, rfl, rfl, (s2.trans s3) _ _ upd_same, upd_same, ?_, fun l hl => k l _ _ (((s1.trans s2).trans s3).free hl) upd_same (fun x hx => ?_) ?_ ?_ (((s1.trans s2).trans s3).trans (Same.upd hl))⟩
      · have := List.length_filter_le (fun v => !isR v) r
        have := I.len
        exact Nat.le_trans (show 1 + _ ≤ 7 by omega) (by decide)
      · rcases List.mem_append.mp hx with hx | hx
        · exact tv1 (st (by omega)) x hx
        · obtain ⟨hx1, hx2⟩ := List.mem_filter.mp hx
          rcases I.each x hx1 with ⟨h, _⟩ | h
          · rw [h] at hx2; cases hx2
          · exact h
      · unfold wordsF
        rw [if_neg hb, if_neg ht, List.map_append]
        rfl
      · have := List.length_filter_le (fun v => !isR v) r
        have := I.len
        rw [List.length_append, List.length_singleton]
        omega
theorem sc_turn_words : FnScope ["row"] ["row"] (defScope (top 4)) := ⟨rfl, rfl, rfl, by decide +kernel, rfl, by decide +kernel, by decide +kernel⟩
theorem ok_turn_words (T : Tx P w K mg) : FnOk P w K mg base CX0 1 T.d_turn_words.f T.d_turn_words.fd ["row"] (spTurnW) := by
  refine T.d_turn_words.F.ok sc_turn_words (fun vs H Q E h => ?_) (fun cdv A outer s H vs Q E hr h => ?_)
  · obtain ⟨v, n, rfl, _⟩ := h
    rfl
  · obtain ⟨v, n, rfl, hv, h2, k⟩ := h
    have hu := hu100 hr
    refine ⟨_, (pss_cons (ps_if (pt_cmpR op_eq (pe_ix ix_tup (pv 0) pe_int (fun _ _ => rfl)) pe_str (nomark _))
    (pss_one (ps_ret (pe_lst (pa_cons pe_str (pa_cons (pe_ix ix_tup (pv 0) pe_int (fun _ _ => rfl)) pa_nil)))))
    pss_nil)
    (pss_cons (ps_if (pt_cmpR op_eq (pe_ix ix_tup (pv 0) pe_int (fun _ _ => rfl)) pe_str (nomark _))
    (pss_one (ps_ret (pe_lst (pa_cons pe_str pa_nil))))
    pss_nil)
    (pss_one (ps_ret (pe_ifExp (pt_cmpR (op_neT hu) (pe_ix ix_tup (pv 0) pe_int (fun _ _ => rfl)) (pe_tup pa_nil) (nomark _)) (pe_lst (pa_cons pe_str pa_nil)) (pe_lst pa_nil)))))), ?_⟩
    (simp only [tLst, tTup, tDNewK, _root_.L2.start, cxOf_K, cxComp_K, tSeq, tAsg, gName, tRet, tRetN, tDrop, tIfS, tTest, tB, tNot, tAnd, tOr, tAndV, tOrV, tNotV, tOp, tUn, tVar, tC, tCons, tNil, tStrs, tCB, tCall, tChain, tBM, tBM0, tPart, tNoPart, tSl, tIf, tNext, tTrue, selS, Option.bind_none, Option.bind_some, Option.join_some, if_true, rI, rI0, rU, rEq, rNe, rStarts, rSlS, lenV_str, tyV, List.map_cons, List.map_nil, List.length_cons, List.length_nil, List.replicate, List.cons_append, List.nil_append, List.append_nil, Nat.reduceAdd, Nat.reduceSub, Nat.zero_add, Nat.add_zero, Nat.sub_self, List.getElem?_cons_zero, List.getElem?_cons_succ, List.set_cons_zero, List.set_cons_succ, Option.some.injEq, V.int.injEq, V.str.injEq, V.ref.injEq, V.bl.injEq, V.ty.injEq, List.cons.injEq, exists_eq_left, exists_eq_left', exists_eq_right, exists_and_left, exists_eq, and_true, true_and, and_self, and_assoc, tFld, sFld, tMeth, tMake])
    obtain ⟨a, z, ln, r, I⟩ := hv.ri
    have sR := Same.refl H
    have st : ∀ {z : Str}, z.length ≤ 60 → TV (.str z) := fun h => .inr ⟨_, rfl, h⟩
    rw [I.zr] at h2
    have eT : turnF H v = (if z = "try" then [[("but" : Str), txt (r.getD 1 .non)]] else if z = "do" then [["last"]] else if elems H (r.getD 2 .non) = [] then [] else [["late"]]) := by
      unfold turnF
      rw [I.zr]
    rw [eT] at k
    obtain ⟨th, fa, bs, B⟩ : ∃ th fa bs, BlkSh z r th fa bs := by
      rcases I.sh with P | B
      · exfalso
        have := P.p
        rcases h2 with rfl | rfl | rfl <;> exact absurd this (by decide +kernel)
      · exact B
    refine I.ix 0 (.str z) rfl sR ⟨rfl, ?_⟩
    by_cases ht : z = "try"
    · refine ifT (by rw [ht]) ?_
      obtain ⟨b0, b1, rfl⟩ := len2 (B.two h2)
      obtain rfl := List.length_eq_zero_iff.mp (B.tl.trans (by rw [ht]; decide +kernel))
      obtain ⟨y, hy, hyl⟩ := B.fv ht
      have hr := B.e
      rw [if_pos ht, hy] at hr
      rw [if_pos ht, hr] at k
      refine I.ix 3 (.str y) (by rw [hr]; rfl) sR ⟨by decide, fun p hp => k p _ _ hp upd_same (tv2 (st (by decide +kernel)) (st hyl)) ?_ (show 2 ≤ 2 by decide) (Same.upd hp)⟩
      rw [if_neg (by simp)]
      rfl
    rw [if_neg ht] at k
    refine ifF (fun e => ht (V.str.inj e)) (I.ix 0 (.str z) rfl sR ⟨rfl, ?_⟩)
    by_cases hd : z = "do"
    · rw [if_pos hd] at k
      refine ifT (by rw [hd]) ⟨by decide, fun p hp => k p _ _ hp upd_same (tv1 (st (by decide +kernel))) ?_ (show 1 ≤ 2 by decide) (Same.upd hp)⟩
      rw [if_neg (by simp)]
      rfl
    rw [if_neg hd] at k
    have hl : z = "limit" := by
      rcases h2 with h | h | h
      · exact absurd h ht
      · exact absurd h hd
      · exact h
    obtain ⟨b0, b1, rfl⟩ := len2 (B.two h2)
    obtain ⟨y, rfl⟩ := len1 (B.tl.trans (show thLen z = 1 by rw [hl]; decide +kernel))
    have hr := B.e
    rw [if_neg ht] at hr
    obtain ⟨_, ys, e, hb1, _⟩ : RowsOk n H (.ref b1) := by
      rcases I.each (.ref b1) (by rw [hr]; simp) with ⟨_, h⟩ | h
      · exact h
      · cases h.notR
    cases e
    rw [hr, show ([y] ++ List.map V.ref [b0, b1]).getD 2 V.non = .ref b1 from rfl, elems_of hb1] at k
    refine ifF (fun e => hd (V.str.inj e)) (I.ix 4 (.ref b1) (by rw [hr]; rfl) sR (neNilT hb1 fun G1 s1 => ⟨_, rfl, ?_⟩))
    by_cases e : ys = []
    · rw [if_pos e] at k
      refine ifNF e ⟨by decide, fun p hp => k p _ _ (s1.free hp) upd_same (fun _ h => nomatch h) ?_ (by decide) (s1.trans (Same.upd hp))⟩
      rfl
    · rw [if_neg e] at k
      refine ifNT e ⟨by decide, fun p hp => k p _ _ (s1.free hp) upd_same (tv1 (st (by decide +kernel))) ?_ (show 1 ≤ 2 by decide) (s1.trans (Same.upd hp))⟩
      rw [if_neg (by simp)]
      rfl
theorem sc_l_words : FnScope ["_law_row", "_law_word"] ["_law_row"] (defScope (top 20)) := ⟨rfl, rfl, rfl, by decide +kernel, rfl, by decide +kernel, by decide +kernel⟩
theorem ok_l_words (T : Tx P w K mg) : FnOk P w K mg base CX0 1 T.d_l_words.f T.d_l_words.fd ["_law_row"] (spWords) := by
  refine T.d_l_words.F.ok sc_l_words (fun vs H Q E h => ?_) (fun cdv A outer s H vs Q E hr h => ?_)
  · obtain ⟨v, n, rfl, _⟩ := h
    rfl
  · obtain ⟨v, n, rfl, hv, k⟩ := h
    refine ⟨_, (pss_cons (ps_set (i := 1) sc_l_words.nd rfl (Or.inl rfl) (pe_ix ix_tup (pv 0) pe_int (fun _ _ => rfl)))
    (pss_cons (ps_if (PW.pt (pw_and (pt_cmpR op_eq (pv 1) pe_str (nomark _)) (pw_and1 (pt_cmpR op_gt (pe_ix ix_tup (pv 0) pe_int (fun _ _ => rfl)) pe_int (nomark _)))))
    (pss_one (ps_ret (pe_lst (pa_cons (pv 1) (pa_cons (pe_ix ix_tup (pv 0) pe_int (fun _ _ => rfl)) (pa_cons (pe_ix ix_tup (pv 0) pe_int (fun _ _ => rfl)) (pa_cons pe_str (pa_cons (pe_ix ix_tup (pv 0) pe_int (fun _ _ => rfl)) (pa_cons pe_str (pa_cons (pe_callTy call_strV (by rfl) T.n_str bt_str (pa_cons (pe_ix ix_tup (pv 0) pe_int (fun _ _ => rfl)) pa_nil)) pa_nil))))))))))
    pss_nil)
    (pss_cons (ps_if (pt_cmpR op_eq (pv 1) pe_str (nomark _))
    (pss_one (ps_ret (pe_lst (pa_cons (pv 1) (pa_cons (pe_ix ix_tup (pv 0) pe_int (fun _ _ => rfl)) (pa_cons (pe_ix ix_tup (pv 0) pe_int (fun _ _ => rfl)) (pa_cons pe_str (pa_cons (pe_ix ix_tup (pv 0) pe_int (fun _ _ => rfl)) pa_nil))))))))
    pss_nil)
    (pss_cons (ps_if (pt_cmpR op_in_seq (pv 1) (pe_lst (pa_strs (zs := ["keep", "try", "do"]) (by decide +kernel))) (by with_unfolding_all rfl))
    (pss_one (ps_ret (pe_lst (pa_cons (pv 1) pa_nil))))
    pss_nil)
    (pss_cons (ps_if (pt_cmpR op_in_seq (pv 1) (pe_lst (pa_strs (zs := ["errand", "group", "limit", "repeat"]) (by decide +kernel))) (by with_unfolding_all rfl))
    (pss_one (ps_ret (pe_lst (pa_cons (pv 1) (pa_cons (pe_callTy call_strV (by rfl) T.n_str bt_str (pa_cons (pe_ix ix_tup (pv 0) pe_int (fun _ _ => rfl)) pa_nil)) pa_nil)))))
    pss_nil)
    (pss_cons (ps_if (pt_cmpR op_eq (pv 1) pe_str (nomark _))
    (pss_one (ps_ret (pe_lst (pa_cons (pv 1) (pa_cons (pe_ix ix_tup (pv 0) pe_int (fun _ _ => rfl)) (pa_cons (pe_callTy call_strV (by rfl) T.n_str bt_str (pa_cons (pe_ix ix_tup (pv 0) pe_int (fun _ _ => rfl)) pa_nil)) pa_nil))))))
    pss_nil)
    (pss_one (ps_ret (pe_op op_cat (pe_lst (pa_cons (pv 1) pa_nil)) (pe_lc (N' := ["_law_thing"]) (sel := [none]) rfl rfl rfl (pi_tup (pe_slice sl_tupW (pv 0) (po_some pe_int) po_none)) (gk_name rfl) (fun _ _ _ _ _ => ⟨(pg_name (i := 0) (show (["_law_thing"] : List Str).Nodup by decide +kernel) rfl (Or.inl rfl)), pts_nil, (pe_callTy call_strV (by rfl) T.n_str bt_str (pa_cons (pv 0) pa_nil))⟩))))))))))), ?_⟩
    (simp only [tLst, tTup, tDNewK, tLc, iList, iStr, iTup, _root_.L2.start, cxOf_K, cxComp_K, tSeq, tAsg, gName, tRet, tRetN, tDrop, tIfS, tTest, tB, tNot, tAnd, tOr, tAndV, tOrV, tNotV, tOp, tUn, tVar, tC, tCons, tNil, tStrs, tCB, tCall, tChain, tBM, tBM0, tPart, tNoPart, tSl, tIf, tNext, tTrue, selS, Option.bind_none, Option.bind_some, Option.join_some, if_true, rI, rI0, rU, rEq, rNe, rStarts, rSlS, lenV_str, tyV, List.map_cons, List.map_nil, List.length_cons, List.length_nil, List.replicate, List.cons_append, List.nil_append, List.append_nil, Nat.reduceAdd, Nat.reduceSub, Nat.zero_add, Nat.add_zero, Nat.sub_self, List.getElem?_cons_zero, List.getElem?_cons_succ, List.set_cons_zero, List.set_cons_succ, Option.some.injEq, V.int.injEq, V.str.injEq, V.ref.injEq, V.bl.injEq, V.ty.injEq, List.cons.injEq, exists_eq_left, exists_eq_left', exists_eq_right, exists_and_left, exists_eq, and_true, true_and, and_self, and_assoc, tFld, sFld, tMeth, tMake])
    obtain ⟨a, z, ln, r, I⟩ := hv.ri
    rw [I.words] at k
    have sR := Same.refl H
    have fin : ∀ {G : Hp} {m : Nat} {xs : List V}, Same H G → m ≤ sizeLine → xs = (wordsF z r).map V.str → m ≤ sizeLine ∧ ∀ p : Addr, G p = none → Q (.ref p) (upd G p (.lst xs)) := fun s hm e => ⟨hm, fun p hp => k p _ (s.free hp) (by rw [upd_same, e]) (s.trans (Same.upd hp))⟩
    refine I.ix 0 (.str z) rfl sR ⟨rfl, ?_⟩
    by_cases hb : z = "begin"
    · refine ifT (by rw [hb]) ?_
      rcases I.sh with P | ⟨th, fa, bs, B⟩
      · obtain ⟨x, y, w, l, rfl, hl0⟩ := P.b hb
        have il : TV (.int l) := P.tv (.int l) (by simp)
        have ew : wordsF z [.str x, .str y, .str w, .int l] = [("begin" : Str), x, y, "in", w] ++ (if l = 0 then [] else [("within" : Str), txt (.int l)]) := by
          unfold wordsF
          rw [if_pos hb]
        refine I.ix 5 (.int l) rfl sR ⟨l, rfl, ?_⟩
        by_cases e : 0 < l
        · refine ifT e (I.ix 2 (.str x) rfl sR (I.ix 3 (.str y) rfl sR (I.ix 4 (.str w) rfl sR (I.ix 5 (.int l) rfl sR (.inl ⟨l, rfl, ?_, fin sR (by decide) ?_⟩)))))
          · rcases il with ⟨_, e, h0, h1⟩ | ⟨_, e, _⟩
            · cases e; exact log_lt h0 h1
            · cases e
          · rw [ew, if_neg (by omega), hb]; rfl
        · refine ifF e ⟨rfl, ifT (by rw [hb]) (I.ix 2 (.str x) rfl sR (I.ix 3 (.str y) rfl sR (I.ix 4 (.str w) rfl sR (fin sR (by decide) ?_))))⟩
          rw [ew, if_pos (by omega), hb]; rfl
      · exact absurd B.w (by rw [hb]; decide +kernel)
    refine ifF (fun e => hb (V.str.inj e)) ⟨rfl, ifF (fun e => hb (V.str.inj e)) ⟨by decide, fun p hp => inL ["keep", "try", "do"] ⟨_, rfl, ?_⟩⟩⟩
    have s1 := Same.upd (o := .lst ([V.str "keep", V.str "try", V.str "do"])) hp
    by_cases h1 : z ∈ (["keep", "try", "do"] : List Str)
    · refine ifT h1 (fin s1 (by decide) ?_)
      rcases I.sh with P | ⟨th, fa, bs, B⟩
      · exfalso
        have := P.p
        simp only [List.mem_cons, List.not_mem_nil, or_false] at h1
        rcases h1 with rfl | rfl | rfl <;> exact absurd this (by decide +kernel)
      · by_cases ht : z = "try"
        · unfold wordsF
          rw [if_neg hb, if_pos ht, ht]
          rfl
        · rw [words_blk B ht, List.length_eq_zero_iff.mp (B.tl.trans _)]
          · rfl
          · simp only [List.mem_cons, List.not_mem_nil, or_false] at h1
            rcases h1 with rfl | rfl | rfl <;> decide +kernel
    refine ifF h1 ⟨by decide, fun p2 hp2 => inL ["errand", "group", "limit", "repeat"] ⟨_, rfl, ?_⟩⟩
    have s2 := s1.trans (Same.upd (o := .lst ([V.str "errand", V.str "group", V.str "limit", V.str "repeat"])) hp2)
    by_cases h2 : z ∈ (["errand", "group", "limit", "repeat"] : List Str)
    · refine ifT h2 ?_
      have h2' := h2
      simp only [List.mem_cons, List.not_mem_nil, or_false] at h2'
      rcases I.sh with P | ⟨th, fa, bs, B⟩
      · exfalso
        have := P.p
        rcases h2' with rfl | rfl | rfl | rfl <;> exact absurd this (by decide +kernel)
      · have ht : z ≠ "try" := by rcases h2' with rfl | rfl | rfl | rfl <;> decide +kernel
        obtain ⟨x, rfl⟩ := len1 (B.tl.trans (show thLen z = 1 by rcases h2' with rfl | rfl | rfl | rfl <;> decide +kernel))
        refine I.ix 2 x (by rw [B.e]; rfl) s2 ?_
        rcases B.tv x (by simp) with ⟨i, rfl, h0, h1⟩ | ⟨y, rfl, _⟩
        · exact .inl ⟨i, rfl, log_lt h0 h1, fin s2 (by decide) (by rw [words_blk B ht]; rfl)⟩
        · exact .inr ⟨y, rfl, fin s2 (by decide) (by rw [words_blk B ht]; rfl)⟩
    refine ifF h2 ⟨rfl, ?_⟩
    by_cases hw : z = "when"
    · refine ifT (by rw [hw]) ?_
      rcases I.sh with P | ⟨th, fa, bs, B⟩
      · exact absurd P.p (by rw [hw]; decide +kernel)
      · have ht : z ≠ "try" := by rw [hw]; decide +kernel
        obtain ⟨x, y, rfl⟩ := len2 (B.tl.trans (show thLen z = 2 by rw [hw]; decide +kernel))
        obtain ⟨x', rfl, _⟩ := B.sv hw x rfl
        refine I.ix 2 (.str x') (by rw [B.e]; rfl) s2 (I.ix 3 y (by rw [B.e]; rfl) s2 ?_)
        rcases B.tv y (by simp) with ⟨i, rfl, h0, h1⟩ | ⟨y, rfl, _⟩
        · exact .inl ⟨i, rfl, log_lt h0 h1, fin s2 (by decide) (by rw [words_blk B ht]; rfl)⟩
        · exact .inr ⟨y, rfl, fin s2 (by decide) (by rw [words_blk B ht]; rfl)⟩
    refine ifF (fun e => hw (V.str.inj e)) ⟨by decide, fun p3 hp3 => ?_⟩
    have s3 := s2.trans (Same.upd (o := .lst [V.str z]) hp3)
    have hP : PlnSh z r := by
      rcases I.sh with P | ⟨th, fa, bs, B⟩
      · exact P
      · exfalso
        rcases B.w with rfl | rfl | rfl | rfl | rfl | rfl | rfl | rfl
        · exact h2 (by decide +kernel)
        · exact h2 (by decide +kernel)
        · exact h2 (by decide +kernel)
        · exact h1 (by decide +kernel)
        · exact h1 (by decide +kernel)
        · exact h1 (by decide +kernel)
        · exact hw rfl
        · exact h2 (by decide +kernel)
    obtain rfl := I.e
    refine slFrom2 (s3 _ _ I.h) fun q G1 hq s4 h1 => ⟨q, rfl, ⟨_, SqT.of h1⟩, lc_tup (K := K) (a := q) (xs := r) (fun i ys G => G = G1 ∧ ys = (r.take i).map fun v => V.str (txt v)) ⟨rfl, rfl⟩ ?_ ?_ ?_ ?_⟩
    · rintro i ys G hi ⟨rfl, rfl⟩
      exact ⟨SqT.of h1, by rw [List.length_map, List.length_take]; omega⟩
    · exact Nat.le_trans I.len (by decide)
    · rintro i x ys G hi ⟨rfl, rfl⟩
      (simp only [tLst, tTup, tDNewK, tLc, iList, iStr, iTup, _root_.L2.start, cxOf_K, cxComp_K, tSeq, tAsg, gName, tRet, tRetN, tDrop, tIfS, tTest, tB, tNot, tAnd, tOr, tAndV, tOrV, tNotV, tOp, tUn, tVar, tC, tCons, tNil, tStrs, tCB, tCall, tChain, tBM, tBM0, tPart, tNoPart, tSl, tIf, tNext, tTrue, selS, Option.bind_none, Option.bind_some, Option.join_some, if_true, rI, rI0, rU, rEq, rNe, rStarts, rSlS, lenV_str, tyV, List.map_cons, List.map_nil, List.length_cons, List.length_nil, List.replicate, List.cons_append, List.nil_append, List.append_nil, Nat.reduceAdd, Nat.reduceSub, Nat.zero_add, Nat.add_zero, Nat.sub_self, List.getElem?_cons_zero, List.getElem?_cons_succ, List.set_cons_zero, List.set_cons_succ, Option.some.injEq, V.int.injEq, V.str.injEq, V.ref.injEq, V.bl.injEq, V.ty.injEq, List.cons.injEq, exists_eq_left, exists_eq_left', exists_eq_right, exists_and_left, exists_eq, and_true, true_and, and_self, and_assoc, tFld, sFld, tMeth, tMake])
      have e : ((r.take i).map fun v => V.str (txt v)) ++ [V.str (txt x)] = (r.take (i + 1)).map fun v => V.str (txt v) := take_snoc hi
      rcases hP.tv x (List.mem_of_getElem? hi) with ⟨m, rfl, h0, h1⟩ | ⟨y, rfl, _⟩
      · exact .inl ⟨m, rfl, log_lt h0 h1, e⟩
      · exact .inr ⟨y, rfl, e⟩
    · rintro ys G ⟨rfl, rfl⟩ D hD
      rw [List.take_length]
      have s5 := Same.upd (o := .lst (r.map fun v => V.str (txt v))) hD
      refine ⟨p3, D, _, _, rfl, rfl, (s4.trans s5) _ _ upd_same, upd_same, ?_, fun l hl => k l _ (((s3.trans s4).trans s5).free hl) ?_ (((s3.trans s4).trans s5).trans (Same.upd hl))⟩
      · have := I.len
        rw [List.length_map]
        exact Nat.le_trans (show 1 + _ ≤ 7 by omega) (by decide)
      · rw [upd_same, words_pln hP hb, List.map_cons, List.map_map]
        rfl
theorem sc_l_turning : FnScope ["_law_row"] ["_law_row"] (defScope (top 22)) := ⟨rfl, rfl, rfl, by decide +kernel, rfl, by decide +kernel, by decide +kernel⟩
theorem ok_l_turning (T : Tx P w K mg) : FnOk P w K mg base CX0 1 T.d_l_turning.f T.d_l_turning.fd ["_law_row"] (spTurning) := by
  refine T.d_l_turning.F.ok sc_l_turning (fun vs H Q E h => ?_) (fun cdv A outer s H vs Q E hr h => ?_)
  · obtain ⟨v, n, t, rfl, _⟩ := h
    rfl
  · obtain ⟨v, n, t, rfl, hv, h2, ht, k⟩ := h
    refine ⟨_, (pss_cons (ps_if (pt_cmpR op_eq (pe_ix ix_tup (pv 0) pe_int (fun _ _ => rfl)) pe_str (nomark _))
    (pss_one (ps_ret (pe_lst (pa_cons pe_str (pa_cons (pe_ix ix_tup (pv 0) pe_int (fun _ _ => rfl)) pa_nil)))))
    pss_nil)
    (pss_one (ps_ret (pe_ix ix_list (pe_lst (pa_cons (pe_lst (pa_cons pe_str pa_nil)) (pa_cons (pe_lst (pa_cons pe_str pa_nil)) pa_nil))) (pe_callTy call_int1 (by rfl) T.n_int bt_int (pa_cons (pe_cmpR op_eq (pe_ix ix_tup (pv 0) pe_int (fun _ _ => rfl)) pe_str (nomark _)) pa_nil)) (fun _ _ => rfl))))), ?_⟩
    (simp only [tLst, tTup, tDNewK, _root_.L2.start, cxOf_K, cxComp_K, tSeq, tAsg, gName, tRet, tRetN, tDrop, tIfS, tTest, tB, tNot, tAnd, tOr, tAndV, tOrV, tNotV, tOp, tUn, tVar, tC, tCons, tNil, tStrs, tCB, tCall, tChain, tBM, tBM0, tPart, tNoPart, tSl, tIf, tNext, tTrue, selS, Option.bind_none, Option.bind_some, Option.join_some, if_true, rI, rI0, rU, rEq, rNe, rStarts, rSlS, lenV_str, tyV, List.map_cons, List.map_nil, List.length_cons, List.length_nil, List.replicate, List.cons_append, List.nil_append, List.append_nil, Nat.reduceAdd, Nat.reduceSub, Nat.zero_add, Nat.add_zero, Nat.sub_self, List.getElem?_cons_zero, List.getElem?_cons_succ, List.set_cons_zero, List.set_cons_succ, Option.some.injEq, V.int.injEq, V.str.injEq, V.ref.injEq, V.bl.injEq, V.ty.injEq, List.cons.injEq, exists_eq_left, exists_eq_left', exists_eq_right, exists_and_left, exists_eq, and_true, true_and, and_self, and_assoc, tFld, sFld, tMeth, tMake])
    obtain ⟨a, z, ln, r, I⟩ := hv.ri
    have sR := Same.refl H
    rw [I.zr] at h2
    have eT : turnF H v = (if z = "try" then [[("but" : Str), txt (r.getD 1 .non)]] else if z = "do" then [["last"]] else if elems H (r.getD 2 .non) = [] then [] else [["late"]]) := by
      unfold turnF
      rw [I.zr]
    rw [eT] at ht
    obtain ⟨th, fa, bs, B⟩ : ∃ th fa bs, BlkSh z r th fa bs := by
      rcases I.sh with P | B
      · exfalso
        have := P.p
        rcases h2 with rfl | rfl | rfl <;> exact absurd this (by decide +kernel)
      · exact B
    refine I.ix 0 (.str z) rfl sR ⟨rfl, ?_⟩
    by_cases hy : z = "try"
    · refine ifT (by rw [hy]) ?_
      obtain ⟨b0, b1, rfl⟩ := len2 (B.two h2)
      obtain rfl := List.length_eq_zero_iff.mp (B.tl.trans (by rw [hy]; decide +kernel))
      obtain ⟨y, hy', hyl⟩ := B.fv hy
      have hr := B.e
      rw [if_pos hy, hy'] at hr
      rw [if_pos hy, hr] at ht
      refine I.ix 3 (.str y) (by rw [hr]; rfl) sR ⟨by decide, fun p hp => k p _ hp ?_ (Same.upd hp)⟩
      rw [upd_same, ← (List.cons.inj ht).1]
      rfl
    rw [if_neg hy] at ht
    refine ifF (fun e => hy (V.str.inj e)) ⟨by decide, fun p hp => ⟨by decide, fun p1 hp1 => ⟨by decide, fun p2 hp2 => ?_⟩⟩⟩
    have s1 := Same.upd (o := .lst [V.str "last"]) hp
    have s2 := Same.upd (o := .lst [V.str "late"]) hp1
    have s3 := Same.upd (o := .lst [V.ref p, V.ref p1]) hp2
    refine I.ix 0 (.str z) rfl ((s1.trans s2).trans s3) ⟨rfl, .inr ?_⟩
    by_cases hl : z = "limit"
    · rw [if_pos (decide_eq_true (by rw [hl]))]
      have hd : z ≠ "do" := by rw [hl]; decide +kernel
      rw [if_neg hd] at ht
      refine ⟨p2, _, _, .ref p1, rfl, rfl, SqL.of upd_same, atI_nat (j := 1) rfl, k p1 _ (s1.free hp1) ?_ ((s1.trans s2).trans s3)⟩
      rw [s3 _ _ upd_same]
      by_cases e : elems H (r.getD 2 .non) = []
      · rw [if_pos e] at ht; cases ht
      · rw [if_neg e] at ht
        rw [← (List.cons.inj ht).1]
        rfl
    · rw [if_neg (by rw [decide_eq_false (fun e => hl (V.str.inj e))]; exact Bool.false_ne_true)]
      have hd : z = "do" := by
        rcases h2 with h | h | h
        · exact absurd h hy
        · exact h
        · exact absurd h hl
      rw [if_pos hd] at ht
      refine ⟨p2, _, _, .ref p, rfl, rfl, SqL.of upd_same, atI_nat (j := 0) rfl, k p _ hp ?_ ((s1.trans s2).trans s3)⟩
      rw [(s2.trans s3) _ _ upd_same, ← (List.cons.inj ht).1]
      rfl
theorem sc_Writing___init__ : FnScope ["self"] ["self"] (defScope (inClass (top 5) 0)) := ⟨rfl, rfl, rfl, by decide +kernel, rfl, by decide +kernel, by decide +kernel⟩
theorem ok_Writing___init__ (T : Tx P w K mg) : FnOk P w K mg base CX0 1 T.m_Writing___init__.f T.m_Writing___init__.fd ["self"] (spInit T.C_Writing) := by
  refine T.m_Writing___init__.F.ok sc_Writing___init__ (fun vs H Q E h => ?_) (fun cdv A outer s H vs Q E hr h => ?_)
  · obtain ⟨x, dx, rfl, _⟩ := h
    rfl
  · obtain ⟨x, dx, rfl, hx, k⟩ := h
    refine ⟨_, (pss_one (ps_fld (pv 0) (pe_lst pa_nil) rfl)), ?_⟩
    (simp only [tLst, tTup, tDNewK, _root_.L2.start, cxOf_K, cxComp_K, tSeq, tAsg, gName, tRet, tRetN, tDrop, tIfS, tTest, tB, tNot, tAnd, tOr, tAndV, tOrV, tNotV, tOp, tUn, tVar, tC, tCons, tNil, tStrs, tCB, tCall, tChain, tBM, tBM0, tPart, tNoPart, tSl, tIf, tNext, tTrue, selS, Option.bind_none, Option.bind_some, Option.join_some, if_true, rI, rI0, rU, rEq, rNe, rStarts, rSlS, lenV_str, tyV, List.map_cons, List.map_nil, List.length_cons, List.length_nil, List.replicate, List.cons_append, List.nil_append, List.append_nil, Nat.reduceAdd, Nat.reduceSub, Nat.zero_add, Nat.add_zero, Nat.sub_self, List.getElem?_cons_zero, List.getElem?_cons_succ, List.set_cons_zero, List.set_cons_succ, Option.some.injEq, V.int.injEq, V.str.injEq, V.ref.injEq, V.bl.injEq, V.ty.injEq, List.cons.injEq, exists_eq_left, exists_eq_left', exists_eq_right, exists_and_left, exists_eq, and_true, true_and, and_self, and_assoc, tFld, sFld, tMeth, tMake])
    refine ⟨by decide, fun p hp => ⟨T.C_Writing, dx, [], ?_, T.k_Writing, T.n_Writing_lines, (by show 0 < 1000; decide), k p _ hp (fun c o n h => ?_) ?_ ?_⟩⟩
    · rw [upd_ne (ne_of_none hx hp)]; exact hx
    · rw [upd_ne n]; exact (Same.upd hp) _ _ h
    · rw [upd_same]; rfl
    · rw [upd_ne (fun e => ne_of_none hx hp e.symm), upd_same]
theorem sc_Writing_put_line : FnScope ["self", "words", "deep"] ["self", "words", "deep"] (defScope (inClass (top 5) 1)) := ⟨rfl, rfl, rfl, by decide +kernel, rfl, by decide +kernel, by decide +kernel⟩
theorem ok_Writing_put_line (T : Tx P w K mg) : FnOk P w K mg base CX0 1 T.m_Writing_put_line.f T.m_Writing_put_line.fd ["self", "words", "deep"] (spPutLine T.C_Writing) := by
  refine T.m_Writing_put_line.F.ok sc_Writing_put_line (fun vs H Q E h => ?_) (fun cdv A outer s H vs Q E hr h => ?_)
  · obtain ⟨p, L, ts, l, ws, d, rfl, _⟩ := h
    rfl
  · obtain ⟨p, L, ts, l, ws, d, rfl, W, hl, htv, hwl, hd, htl, k⟩ := h
    refine ⟨_, (pss_cons (ps_expr (pe_bm PySem.F.plainAttrs_list PySem.F.slot_list_append PySem.F.type_list_append mt_append (pe_fld (pv 0) rfl) (pa_cons (pe_op op_add_str (pe_op op_mulS (pe_glob (v := .str "  ") rfl T.stm ⟨_, rfl⟩) (pv 2)) (pe_bm PySem.F.plainAttrs_str PySem.F.slot_str_join PySem.F.type_str_join mt_join pe_str (pa_cons (pe_lc (N' := ["word"]) (sel := [none]) rfl rfl rfl (pi_list (pv 1)) (gk_name rfl) (fun _ _ _ _ _ => ⟨(pg_name (i := 0) (show (["word"] : List Str).Nodup by decide +kernel) rfl (Or.inl rfl)), pts_nil, (pe_callTy call_strV (by rfl) T.n_str bt_str (pa_cons (pv 0) pa_nil))⟩)) pa_nil))) pa_nil)))
    (pss_one (ps_ret (pe_callB call_len (by rfl) T.n_len bt_len (pa_cons (pe_fld (pv 0) rfl) pa_nil))))), ?_⟩
    (simp only [tLst, tTup, tDNewK, tLc, iList, iStr, iTup, _root_.L2.start, cxOf_K, cxComp_K, tSeq, tAsg, gName, tRet, tRetN, tDrop, tIfS, tTest, tB, tNot, tAnd, tOr, tAndV, tOrV, tNotV, tOp, tUn, tVar, tC, tCons, tNil, tStrs, tCB, tCall, tChain, tBM, tBM0, tPart, tNoPart, tSl, tIf, tNext, tTrue, selS, Option.bind_none, Option.bind_some, Option.join_some, if_true, rI, rI0, rU, rEq, rNe, rStarts, rSlS, lenV_str, tyV, List.map_cons, List.map_nil, List.length_cons, List.length_nil, List.replicate, List.cons_append, List.nil_append, List.append_nil, Nat.reduceAdd, Nat.reduceSub, Nat.zero_add, Nat.add_zero, Nat.sub_self, List.getElem?_cons_zero, List.getElem?_cons_succ, List.set_cons_zero, List.set_cons_succ, Option.some.injEq, V.int.injEq, V.str.injEq, V.ref.injEq, V.bl.injEq, V.ty.injEq, List.cons.injEq, exists_eq_left, exists_eq_left', exists_eq_right, exists_and_left, exists_eq, and_true, true_and, and_self, and_assoc, tFld, sFld, tMeth, tMake])
    obtain ⟨⟨dx, hp⟩, hL⟩ := id W
    have e2 : ("  " : Str).length = 2 := by decide +kernel
    have hz : sizeLine = 16777216 := by decide
    have hw := words_le htv hwl
    have hj := join_le " " (ws.map txt)
    have hrep := repS_len d "  "
    rw [e2] at hrep
    refine ⟨T.C_Writing, dx, _, hp, T.k_Writing, T.n_Writing_lines, _, fl_at L, .inl ⟨_, SqL.of hL⟩, "  ", d, rfl, rfl, by omega, by rw [e2]; omega, ⟨_, SqL.of hl⟩, lc_list (K := K) (a := l) (xs := ws) (fun i ys G => G = H ∧ ys = (ws.take i).map fun v => V.str (txt v)) ⟨rfl, rfl⟩ ?_ ?_ ?_ ?_⟩
    · rintro i ys G hi ⟨rfl, rfl⟩
      exact ⟨SqL.of hl, by rw [List.length_map, List.length_take]; omega⟩
    · omega
    · rintro i x ys G hi ⟨rfl, rfl⟩
      (simp only [tLst, tTup, tDNewK, tLc, iList, iStr, iTup, _root_.L2.start, cxOf_K, cxComp_K, tSeq, tAsg, gName, tRet, tRetN, tDrop, tIfS, tTest, tB, tNot, tAnd, tOr, tAndV, tOrV, tNotV, tOp, tUn, tVar, tC, tCons, tNil, tStrs, tCB, tCall, tChain, tBM, tBM0, tPart, tNoPart, tSl, tIf, tNext, tTrue, selS, Option.bind_none, Option.bind_some, Option.join_some, if_true, rI, rI0, rU, rEq, rNe, rStarts, rSlS, lenV_str, tyV, List.map_cons, List.map_nil, List.length_cons, List.length_nil, List.replicate, List.cons_append, List.nil_append, List.append_nil, Nat.reduceAdd, Nat.reduceSub, Nat.zero_add, Nat.add_zero, Nat.sub_self, List.getElem?_cons_zero, List.getElem?_cons_succ, List.set_cons_zero, List.set_cons_succ, Option.some.injEq, V.int.injEq, V.str.injEq, V.ref.injEq, V.bl.injEq, V.ty.injEq, List.cons.injEq, exists_eq_left, exists_eq_left', exists_eq_right, exists_and_left, exists_eq, and_true, true_and, and_self, and_assoc, tFld, sFld, tMeth, tMake])
      have e : ((ws.take i).map fun v => V.str (txt v)) ++ [V.str (txt x)] = (ws.take (i + 1)).map fun v => V.str (txt v) := take_snoc hi
      rcases htv x (List.mem_of_getElem? hi) with ⟨m, rfl, h0, h1⟩ | ⟨y, rfl, _⟩
      · exact .inl ⟨m, rfl, log_lt h0 h1, e⟩
      · exact .inr ⟨y, rfl, e⟩
    · rintro ys G ⟨rfl, rfl⟩ D hD
      rw [List.take_length]
      have s1 := Same.upd (o := .lst (ws.map fun v => V.str (txt v))) hD
      have hpL : p ≠ L := ne_of hp hL (fun z => nomatch z)
      refine ⟨" ", D, ws.map txt, rfl, rfl, SqL.of (by rw [upd_same, List.map_map]; rfl), by omega, _, rfl, _, rfl, by omega, L, _, _, rfl, rfl, s1 _ _ hL, by rw [List.length_map]; omega, T.C_Writing, dx, _, by rw [upd_ne hpL]; exact s1 _ _ hp, T.k_Writing, T.n_Writing_lines, _, fl_at L, ts.length + 1, ?_, ?_⟩
      · exact lenV_ref.mpr (.inl ⟨_, SqL.of upd_same, by rw [List.length_append, List.length_map]; rfl⟩)
      · refine k _ (fun c o n h => by rw [upd_ne n]; exact s1 _ _ h) ?_
        rw [upd_same, List.map_append]
        rfl
theorem sc_Writing_put_turn : FnScope ["self", "row", "deep", "words"] ["self", "row", "deep"] (defScope (inClass (top 5) 2)) := ⟨rfl, rfl, rfl, by decide +kernel, rfl, by decide +kernel, by decide +kernel⟩
theorem ok_Writing_put_turn (T : Tx P w K mg)
    (G_turn_words : FnOk P w K mg base CX0 1 T.d_turn_words.f T.d_turn_words.fd ["row"] (spTurnW))
    (G_Writing_put_line : FnOk P w K mg base CX0 1 T.m_Writing_put_line.f T.m_Writing_put_line.fd ["self", "words", "deep"] (spPutLine T.C_Writing)) : FnOk P w K mg base CX0 2 T.m_Writing_put_turn.f T.m_Writing_put_turn.fd ["self", "row", "deep"] (spPutTurn T.C_Writing) := by
  refine T.m_Writing_put_turn.F.ok sc_Writing_put_turn (fun vs H Q E h => ?_) (fun cdv A outer s H vs Q E hr h => ?_)
  · obtain ⟨p, L, ts, v, n, d, rfl, _⟩ := h
    rfl
  · obtain ⟨p, L, ts, v, n, d, rfl, W, hv, h2, hd, htl, k⟩ := h
    have hu := hu100 hr
    refine ⟨_, (pss_cons (ps_set (i := 3) sc_Writing_put_turn.nd rfl (Or.inl rfl) (pe_call G_turn_words (hr.mono (by omega)) rfl T.d_turn_words.hm T.d_turn_words.F.kp T.d_turn_words.b .nil pass0 (pa_cons (pv 1) pa_nil)))
    (pss_one (ps_if (pt_cmpR (op_neL hu) (pv 3) (pe_lst pa_nil) (nomark _))
    (pss_one (ps_expr (pe_meth (pv 0) T.k_Writing T.m_Writing_put_line.me G_Writing_put_line (hr.mono (by omega)) T.m_Writing_put_line.b .nil pass0 (pa_cons (pv 3) (pa_cons (pv 2) pa_nil)))))
    pss_nil))), ?_⟩
    (simp only [tLst, tTup, tDNewK, tLc, iList, iStr, iTup, _root_.L2.start, cxOf_K, cxComp_K, tSeq, tAsg, gName, tRet, tRetN, tDrop, tIfS, tTest, tB, tNot, tAnd, tOr, tAndV, tOrV, tNotV, tOp, tUn, tVar, tC, tCons, tNil, tStrs, tCB, tCall, tChain, tBM, tBM0, tPart, tNoPart, tSl, tIf, tNext, tTrue, selS, Option.bind_none, Option.bind_some, Option.join_some, if_true, rI, rI0, rU, rEq, rNe, rStarts, rSlS, lenV_str, tyV, List.map_cons, List.map_nil, List.length_cons, List.length_nil, List.replicate, List.cons_append, List.nil_append, List.append_nil, Nat.reduceAdd, Nat.reduceSub, Nat.zero_add, Nat.add_zero, Nat.sub_self, List.getElem?_cons_zero, List.getElem?_cons_succ, List.set_cons_zero, List.set_cons_succ, Option.some.injEq, V.int.injEq, V.str.injEq, V.ref.injEq, V.bl.injEq, V.ty.injEq, List.cons.injEq, exists_eq_left, exists_eq_left', exists_eq_right, exists_and_left, exists_eq, and_true, true_and, and_self, and_assoc, tFld, sFld, tMeth, tMake])
    refine ⟨v, n, rfl, hv, h2, fun l ws H1 hl h1 htv hT hwl s1 => neNilL h1 fun H2 s2 => ⟨_, rfl, ?_⟩⟩
    have W2 := W.same (s1.trans s2)
    obtain ⟨⟨dx, hp⟩, hL⟩ := id W2
    rw [hT] at k
    by_cases e : ws = []
    · rw [if_pos e] at k
      exact ifNF e (k H2 (But.of (s1.trans s2)) (by rw [List.map_nil, List.append_nil]; exact hL))
    · rw [if_neg e] at k
      refine ifNT e ⟨dx, _, hp, fl_no L (by decide +kernel), p, L, ts, l, ws, d, rfl, W2, s2 _ _ h1, htv, by omega, hd, htl, fun H3 b3 h3 => k H3 ((But.of (s1.trans s2)).trans b3) h3⟩
theorem sc_Writing_put_rows : FnScope ["self", "rows", "deep"] ["self", "rows", "deep"] (defScope (inClass (top 5) 3)) := ⟨rfl, rfl, rfl, by decide +kernel, rfl, by decide +kernel, by decide +kernel⟩
theorem rows_step (T : Tx P w K mg) (n : Nat) (G_Writing_put_row : FnOk P w K mg base CX0 (2 * n + 3) T.m_Writing_put_row.f T.m_Writing_put_row.fd ["self", "row", "deep"] (spPutRowD T.C_Writing n)) : FnOk P w K mg base CX0 (2 * n + 4) T.m_Writing_put_rows.f T.m_Writing_put_rows.fd ["self", "rows", "deep"] (spPutRows T.C_Writing n) := by
  refine T.m_Writing_put_rows.F.ok (k := 2 * n + 3) sc_Writing_put_rows (fun vs H Q E h => ?_) (fun cdv A outer s H vs Q E hr h => ?_)
  · obtain ⟨p, L, ts, v, d, rfl, _⟩ := h
    rfl
  · obtain ⟨p, L, ts, v, d, rfl, W, hv, hd, htl, k⟩ := h
    refine ⟨_, (pss_one (ps_ret (pe_callTy call_tuple_of (by rfl) T.n_tuple bt_tuple (pa_cons (pe_lc (N' := ["row", "self", "deep"]) (sel := [none, some 0, some 2]) rfl rfl rfl (pi_tup (pv 1)) (gk_name rfl) (fun _ _ _ _ _ => ⟨(pg_name (i := 0) (show (["row", "self", "deep"] : List Str).Nodup by decide +kernel) rfl (Or.inl rfl)), pts_nil, (pe_meth (pv 1) T.k_Writing T.m_Writing_put_row.me G_Writing_put_row (hr.mono (by omega)) T.m_Writing_put_row.b .nil pass0 (pa_cons (pv 0) (pa_cons (pv 2) pa_nil)))⟩)) pa_nil)))), ?_⟩
    (simp only [tLst, tTup, tDNewK, tLc, iList, iStr, iTup, _root_.L2.start, cxOf_K, cxComp_K, tSeq, tAsg, gName, tRet, tRetN, tDrop, tIfS, tTest, tB, tNot, tAnd, tOr, tAndV, tOrV, tNotV, tOp, tUn, tVar, tC, tCons, tNil, tStrs, tCB, tCall, tChain, tBM, tBM0, tPart, tNoPart, tSl, tIf, tNext, tTrue, selS, Option.bind_none, Option.bind_some, Option.join_some, if_true, rI, rI0, rU, rEq, rNe, rStarts, rSlS, lenV_str, tyV, List.map_cons, List.map_nil, List.length_cons, List.length_nil, List.replicate, List.cons_append, List.nil_append, List.append_nil, Nat.reduceAdd, Nat.reduceSub, Nat.zero_add, Nat.add_zero, Nat.sub_self, List.getElem?_cons_zero, List.getElem?_cons_succ, List.set_cons_zero, List.set_cons_succ, Option.some.injEq, V.int.injEq, V.str.injEq, V.ref.injEq, V.bl.injEq, V.ty.injEq, List.cons.injEq, exists_eq_left, exists_eq_left', exists_eq_right, exists_and_left, exists_eq, and_true, true_and, and_self, and_assoc, tFld, sFld, tMeth, tMake])
    obtain ⟨b, E, rfl, hb, hE⟩ := id hv
    have eL : linesF (n + 1) H (.ref b) d = E.flatMap fun y => rowLn (linesF n H) H y d := by
      show (elems H _).flatMap _ = _
      rw [elems_of hb]
    obtain ⟨F, hF⟩ : ∃ F, F = rowN (numF n H) (fun p => (linesF n H p 0).length) H := ⟨_, rfl⟩
    obtain ⟨len, hlen⟩ : ∃ len : V → Nat, len = fun y => (rowLn (linesF n H) H y 0).length := ⟨_, rfl⟩
    have eN : ∀ k, numF (n + 1) H (.ref b) k = .t (numL F len k E) := fun k => by
      show Tr.t (numL _ _ k (elems H _)) = _
      rw [elems_of hb, hF, hlen]
    rw [eL] at htl k
    rw [eN] at k
    have hL0 := W.ls
    have hbL : b ≠ L := ne_of hb hL0 (fun z => nomatch z)
    have hz : sizeLine = 16777216 := by decide
    have hEl : E.length ≤ (E.flatMap fun y => rowLn (linesF n H) H y d).length := len_flat (fun x => by unfold rowLn; rw [List.length_cons]; omega) E
    refine ⟨b, rfl, ⟨_, SqT.of hb⟩, lc_tup (K := K) (a := b) (xs := E) (fun i ys G => But L H G ∧ G L = some (.lst ((ts ++ ((E.take i).flatMap fun y => rowLn (linesF n H) H y d).map lineT).map V.str)) ∧ ys.length = i ∧ ∀ (j : Nat) (y : V) (t : Tr), ys[j]? = some y → (numL F len ts.length (E.take i))[j]? = some t → RepT (2 * n + 1) G y t) ⟨But.refl _ _, ?_, rfl, (fun j y t h => nomatch h)⟩ ?_ ?_ ?_ ?_⟩
    · rw [List.take_zero, List.flatMap_nil, List.map_nil, List.append_nil]; exact hL0
    · rintro i ys G hi ⟨b1, _, hl, _⟩
      exact ⟨SqT.of (b1 _ _ hbL hb), Nat.le_of_eq hl⟩
    · omega
    · rintro i y ys G hi ⟨b1, hG, hl, hR⟩
      (simp only [tLst, tTup, tDNewK, tLc, iList, iStr, iTup, _root_.L2.start, cxOf_K, cxComp_K, tSeq, tAsg, gName, tRet, tRetN, tDrop, tIfS, tTest, tB, tNot, tAnd, tOr, tAndV, tOrV, tNotV, tOp, tUn, tVar, tC, tCons, tNil, tStrs, tCB, tCall, tChain, tBM, tBM0, tPart, tNoPart, tSl, tIf, tNext, tTrue, selS, Option.bind_none, Option.bind_some, Option.join_some, if_true, rI, rI0, rU, rEq, rNe, rStarts, rSlS, lenV_str, tyV, List.map_cons, List.map_nil, List.length_cons, List.length_nil, List.replicate, List.cons_append, List.nil_append, List.append_nil, Nat.reduceAdd, Nat.reduceSub, Nat.zero_add, Nat.add_zero, Nat.sub_self, List.getElem?_cons_zero, List.getElem?_cons_succ, List.set_cons_zero, List.set_cons_succ, Option.some.injEq, V.int.injEq, V.str.injEq, V.ref.injEq, V.bl.injEq, V.ty.injEq, List.cons.injEq, exists_eq_left, exists_eq_left', exists_eq_right, exists_and_left, exists_eq, and_true, true_and, and_self, and_assoc, tFld, sFld, tMeth, tMake])
      have hy := hE y (List.mem_of_getElem? hi)
      cases n with
      | zero => exact hy.elim
      | succ m =>
        have W1 := W.but b1 hG
        have sT := b1.sameT hL0
        obtain ⟨⟨dx, hp⟩, _⟩ := id W1
        have eR : rowLn (linesF (m + 1) G) G y d = rowLn (linesF (m + 1) H) H y d := rowLn_same hy sT d fun p hp d => lines_sameT sT hp d
        have eS := flatMap_snoc (f := fun y => rowLn (linesF (m + 1) H) H y d) hi
        have hle := flatMap_le (f := fun y => rowLn (linesF (m + 1) H) H y d) E (i + 1)
        rw [eS, List.length_append] at hle
        have hsz : (ts ++ ((E.take i).flatMap fun y => rowLn (linesF (m + 1) H) H y d).map lineT).length = ts.length + ((E.take i).flatMap fun y => rowLn (linesF (m + 1) H) H y d).length := by rw [List.length_append, List.length_map]
        refine ⟨dx, _, hp, fl_no L (by decide +kernel), p, L, _, y, d, rfl, W1, hy.sameT sT, by omega, by rw [eR, hsz]; omega, fun y' G' b2 h2 r2 => ⟨b1.trans b2, ?_, by rw [List.length_append, hl]; rfl, ?_⟩⟩
        · rw [h2, eR, eS]
          simp only [List.map_append, List.append_assoc]
        · rw [take_snoc' hi, numL_snoc]
          intro j z t hz ht
          have sT2 := b2.sameT W1.ls
          have hnl : (numL F len ts.length (E.take i)).length = i := by
            rw [numL_len, List.length_take]
            have := (List.getElem?_eq_some_iff.mp hi).1
            omega
          by_cases hj : j < i
          · rw [List.getElem?_append_left (by omega)] at hz ht
            exact (hR j z t hz ht).sameT sT2
          · rw [List.getElem?_append_right (by omega)] at hz ht
            have hj' := (List.getElem?_eq_some_iff.mp hz).1
            rw [List.length_singleton] at hj'
            have e0 : j - ys.length = 0 := by omega
            rw [e0] at hz
            rw [show j - (numL F len ts.length (E.take i)).length = 0 by omega] at ht
            cases hz
            cases ht
            rw [rowN_same hy sT _ fun p hp => ⟨by rw [lines_sameT sT hp], fun k => num_sameT sT hp k⟩, hsz] at r2
            have e3 : ((E.take i).flatMap fun y => rowLn (linesF (m + 1) H) H y d).length = ((E.take i).map len).sum := by
              rw [List.length_flatMap, hlen]
              congr 1
              exact List.map_congr_left fun y _ => rowLn_len _ _ _ _ _
            rw [e3] at r2
            rw [hF]
            exact r2
    · rintro ys G ⟨b1, hG, hl, hR⟩ D hD
      rw [List.take_length] at hG hR
      have s1 := Same.upd (o := .lst ys) hD
      refine ⟨ys, .inl ⟨SqL.of upd_same, fun l hl2 => ?_⟩⟩
      have s2 := s1.trans (Same.upd (o := .tup ys) hl2)
      refine k (.ref l) _ (b1.trans (But.of s2)) (s2 _ _ hG) ⟨l, ys, rfl, upd_same, by rw [numL_len, hl], by rw [numL_len]; omega, fun j y t hy ht => (hR j y t hy ht).sameT (sameT_of s2)⟩
theorem sc_Writing_put_row : FnScope ["self", "row", "deep", "fields", "within", "place"] ["self", "row", "deep"] (defScope (inClass (top 5) 4)) := ⟨rfl, rfl, rfl, by decide +kernel, rfl, by decide +kernel, by decide +kernel⟩
theorem row_step (T : Tx P w K mg) (m : Nat) (G_head_words : FnOk P w K mg base CX0 2 T.d_head_words.f T.d_head_words.fd ["row"] spHead) (G_Writing_put_line : FnOk P w K mg base CX0 1 T.m_Writing_put_line.f T.m_Writing_put_line.fd ["self", "words", "deep"] (spPutLine T.C_Writing)) (G_Writing_put_turn : FnOk P w K mg base CX0 2 T.m_Writing_put_turn.f T.m_Writing_put_turn.fd ["self", "row", "deep"] (spPutTurn T.C_Writing)) (G_Writing_put_rows : FnOk P w K mg base CX0 (2 * m + 4) T.m_Writing_put_rows.f T.m_Writing_put_rows.fd ["self", "rows", "deep"] (spPutRows T.C_Writing m)) : FnOk P w K mg base CX0 (2 * m + 5) T.m_Writing_put_row.f T.m_Writing_put_row.fd ["self", "row", "deep"] (spPutRow T.C_Writing m) := by
  refine T.m_Writing_put_row.F.ok (k := 2 * m + 4) sc_Writing_put_row (fun vs H Q E h => ?_) (fun cdv A outer s H vs Q E hr h => ?_)
  · obtain ⟨p, L, ts, v, d, rfl, _⟩ := h
    rfl
  · obtain ⟨p, L, ts, v, d, rfl, W, hv, hd, htl, k⟩ := h
    refine ⟨_, (pss_cons (ps_set (i := 3) sc_Writing_put_row.nd rfl (Or.inl rfl) (pe_lst (pa_cons (pe_ix ix_tup (pv 1) pe_int (fun _ _ => rfl)) (pa_cons (pe_meth (pv 0) T.k_Writing T.m_Writing_put_line.me G_Writing_put_line (hr.mono (by omega)) T.m_Writing_put_line.b .nil pass0 (pa_cons (pe_call G_head_words (hr.mono (by omega)) rfl T.d_head_words.hm T.d_head_words.F.kp T.d_head_words.b .nil pass0 (pa_cons (pv 1) pa_nil)) (pa_cons (pv 2) pa_nil))) pa_nil))))
    (pss_cons (ps_set (i := 4) sc_Writing_put_row.nd rfl (Or.inl rfl) pe_bl)
    (pss_cons (ps_for PassesOwn.never rfl (pi_range2 rfl T.n_range (pa_cons pe_int (pa_cons (pe_callB call_len (by rfl) T.n_len bt_len (pa_cons (pv 1) pa_nil)) pa_nil))) (pg_name (i := 5) sc_Writing_put_row.nd rfl (Or.inl rfl))
    (pss_cons (ps_if (pt_not (pt_val (pe_callB call_isinst (by rfl) T.n_isinstance bt_isinstance (pa_cons (pe_ix ix_tup (pv 1) (pv 5) (fun _ _ => rfl)) (pa_cons (pe_bltn (v := .ty "tuple") rfl T.n_tuple bt_tuple rfl) pa_nil)))))
    (pss_cons (ps_expr (pe_bm PySem.F.plainAttrs_list PySem.F.slot_list_append PySem.F.type_list_append mt_append (pv 3) (pa_cons (pe_ix ix_tup (pv 1) (pv 5) (fun _ _ => rfl)) pa_nil)))
    (pss_one ps_continue))
    pss_nil)
    (pss_cons (ps_if (pt_val (pv 4))
    (pss_one (ps_expr (pe_meth (pv 0) T.k_Writing T.m_Writing_put_turn.me G_Writing_put_turn (hr.mono (by omega)) T.m_Writing_put_turn.b .nil pass0 (pa_cons (pv 1) (pa_cons (pv 2) pa_nil)))))
    pss_nil)
    (pss_cons (ps_expr (pe_bm PySem.F.plainAttrs_list PySem.F.slot_list_append PySem.F.type_list_append mt_append (pv 3) (pa_cons (pe_meth (pv 0) T.k_Writing T.m_Writing_put_rows.me G_Writing_put_rows (hr.mono (by omega)) T.m_Writing_put_rows.b .nil pass0 (pa_cons (pe_ix ix_tup (pv 1) (pv 5) (fun _ _ => rfl)) (pa_cons (pe_op op_add (pv 2) pe_int) pa_nil))) pa_nil)))
    (pss_one (ps_set (i := 4) sc_Writing_put_row.nd rfl (Or.inl rfl) pe_bl))))))
    (pss_cons (ps_if (pt_val (pv 4))
    (pss_one (ps_expr (pe_meth (pv 0) T.k_Writing T.m_Writing_put_line.me G_Writing_put_line (hr.mono (by omega)) T.m_Writing_put_line.b .nil pass0 (pa_cons (pe_lst (pa_cons pe_str pa_nil)) (pa_cons (pv 2) pa_nil)))))
    pss_nil)
    (pss_one (ps_ret (pe_callTy call_tuple_of (by rfl) T.n_tuple bt_tuple (pa_cons (pv 3) pa_nil)))))))), ?_⟩
    (simp only [tLst, tTup, tDNewK, _root_.L2.start, cxOf_K, cxComp_K, tSeq, tAsg, gName, tRet, tRetN, tDrop, tIfS, tTest, tB, tNot, tAnd, tOr, tAndV, tOrV, tNotV, tOp, tUn, tVar, tC, tCons, tNil, tStrs, tCB, tCall, tChain, tBM, tBM0, tPart, tNoPart, tSl, tIf, tNext, tTrue, selS, Option.bind_none, Option.bind_some, Option.join_some, if_true, rI, rI0, rU, rEq, rNe, rStarts, rSlS, lenV_str, tyV, List.map_cons, List.map_nil, List.length_cons, List.length_nil, List.replicate, List.cons_append, List.nil_append, List.append_nil, Nat.reduceAdd, Nat.reduceSub, Nat.zero_add, Nat.add_zero, Nat.sub_self, List.getElem?_cons_zero, List.getElem?_cons_succ, List.set_cons_zero, List.set_cons_succ, Option.some.injEq, V.int.injEq, V.str.injEq, V.ref.injEq, V.bl.injEq, V.ty.injEq, List.cons.injEq, exists_eq_left, exists_eq_left', exists_eq_right, exists_and_left, exists_eq, and_true, true_and, and_self, and_assoc, tFld, sFld, tMeth, tMake])
    obtain ⟨a, z, ln, r, I⟩ := hv.ri
    have hz : sizeLine = 16777216 := by decide
    have hL0 := W.ls
    obtain ⟨⟨dx, hp⟩, _⟩ := id W
    have hpL : p ≠ L := ne_of hp hL0 (fun z => nomatch z)
    obtain ⟨f, hf⟩ : ∃ f : V → List Ln, f = fun p => linesF (m + 1) H p (d + 1) := ⟨_, rfl⟩
    have eRow : rowLn (linesF (m + 1) H) H v d = (d, rowWords H v) :: lnsL f ((turnF H v).map fun ws => (d, ws)) [(d, ["end"])] false r := by
      unfold rowLn
      rw [I.zr, hf]
    have eNum : ∀ k, rowN (numF (m + 1) H) (fun p => (linesF (m + 1) H p 0).length) H v k = .t (.s z :: .i ((k + 1 : Nat) : Int) :: fldN (numF (m + 1) H) (fun p => (linesF (m + 1) H p 0).length) (turnF H v).length false (k + 1) r) := fun k => by
      unfold rowN
      rw [I.zr]
    rw [eRow] at htl k
    rw [eNum] at k
    have hfl : ∀ x, (f x).length = (linesF (m + 1) H x 0).length := fun x => by rw [hf]; exact linesF_len _ _ _ _ _
    generalize hnum : numF (m + 1) H = num at k
    generalize hlen : (fun p => (linesF (m + 1) H p 0).length) = len at k
    generalize htn : (turnF H v).map (fun ws => (d, ws)) = tn at htl k eRow
    have htnl : (turnF H v).length = tn.length := by rw [← htn, List.length_map]
    rw [htnl] at k
    refine I.ix 0 (.str z) rfl (Same.refl H) ⟨dx, _, hp, fl_no L (by decide +kernel), v, m, rfl, hv, fun l ws H1 hl h1 htv hws hwl s1 => ?_⟩
    have hcl := List.length_cons (a := (d, rowWords H v)) (as := lnsL f tn [(d, ["end"])] false r)
    refine ⟨p, L, ts, l, ws, d, rfl, W.same s1, h1, htv, hwl, by omega, by omega, fun H2 b2 h2 => ⟨by decide, fun q hq => ?_⟩⟩
    rw [hws] at h2
    have b02 : But L H H2 := (But.of s1).trans b2
    have hqL : q ≠ L := fun e => by rw [e, h2] at hq; cases hq
    have s3 := Same.upd (o := .lst [.str z, .int (ts.length + 1)]) hq
    have hqH : H q = none := by
      cases e : H q with
      | none => rfl
      | some o => rw [b02 _ _ hqL e] at hq; cases hq
    have h3q : upd H2 q (.lst [.str z, .int (ts.length + 1)]) q = _ := upd_same
    have b03 := b02.trans (But.of (d := L) s3)
    have h3L := s3 _ _ h2
    generalize upd H2 q (.lst [.str z, .int (ts.length + 1)]) = G0 at s3 h3q b03 h3L
    have hvG : ∀ {G : Hp}, But L H G → G a = some (.tup (.str z :: .int ln :: r)) := fun b => b _ _ (ne_of I.h hL0 (fun z => nomatch z)) I.h
    have rl := I.len
    obtain rfl := I.e
    have eTot := eRow
    refine ⟨_, rfl, _, rfl, r.length + 2, lenV_ref.mpr (.inr ⟨_, SqT.of (hvG b03), rfl⟩), 2, _, rfl, ⟨by decide, by decide, by omega, by omega⟩, for_range (lo := 2) (n := (((r.length + 2 : Nat) : Int) - 2).toNat) (fun i σ G => ∃ (w : Bool) (o5 : Option V) (xs : List V) (Ls : List Ln) (done : List Tr), σ = [some (.ref p), some (.ref a), some (.int d), some (.ref q), some (.bl w), o5] ∧ But L H G ∧ G q = some (.lst xs) ∧ xs.length = i + 2 ∧ done.length = i ∧ G L = some (.lst ((ts ++ Ls.map lineT).map V.str)) ∧ Ls ++ lnsL f tn [(d, ["end"])] w (r.drop i) = (d, rowWords H (.ref a)) :: lnsL f tn [(d, ["end"])] false r ∧ done ++ fldN num len tn.length w (ts.length + Ls.length) (r.drop i) = fldN num len tn.length false (ts.length + 1) r ∧ (w = true → (r.take i).filter isR ≠ []) ∧ ∀ (j : Nat) (x : V) (t : Tr), xs[j]? = some x → (Tr.s z :: .i ((ts.length + 1 : Nat) : Int) :: done)[j]? = some t → RepT (2 * m + 2) G x t)
      ⟨false, none, _, [(d, rowWords H (.ref a))], [], rfl, b03, h3q, rfl, rfl, h3L, rfl, rfl, (fun h => by cases h), ?_⟩ ?_ ?_⟩
    · intro j x t hx ht
      match j with
      | 0 => cases hx; cases ht; rfl
      | 1 => cases hx; cases ht; rfl
      | j + 2 => cases ht
    · rintro i σ G hi ⟨w, o5, xs, Ls, done, rfl, bG, hGq, hxl, hdl, hGL, eLs, eDn, hw, hR⟩
      have hir : i < r.length := by omega
      obtain ⟨x, hx⟩ : ∃ x, r[i]? = some x := ⟨_, List.getElem?_eq_getElem hir⟩
      have hdr : r.drop i = x :: r.drop (i + 1) := by
        have := List.getElem?_eq_some_iff.mp hx
        rw [← this.2]
        exact List.drop_eq_getElem_cons hir
      rw [hdr] at eLs eDn
      have ix : ∀ {G' : Hp} {R : VK}, But L H G' → R x G' → rIxT K (.ref a) (.int (2 + (i : Int))) G' R := fun b k => ⟨a, _, _, x, rfl, rfl, SqT.of (hvG b), by
        rw [show (2 : Int) + (i : Int) = ((i + 2 : Nat) : Int) by omega]
        exact atI_nat hx, k⟩
      have tk : (r.take (i + 1)) = r.take i ++ [x] := take_snoc' hx
      (simp only [tLst, tTup, tDNewK, _root_.L2.start, cxOf_K, cxComp_K, tSeq, tAsg, gName, tRet, tRetN, tDrop, tIfS, tTest, tB, tNot, tAnd, tOr, tAndV, tOrV, tNotV, tOp, tUn, tVar, tC, tCons, tNil, tStrs, tCB, tCall, tChain, tBM, tBM0, tPart, tNoPart, tSl, tIf, tNext, tTrue, selS, Option.bind_none, Option.bind_some, Option.join_some, if_true, rI, rI0, rU, rEq, rNe, rStarts, rSlS, lenV_str, tyV, List.map_cons, List.map_nil, List.length_cons, List.length_nil, List.replicate, List.cons_append, List.nil_append, List.append_nil, Nat.reduceAdd, Nat.reduceSub, Nat.zero_add, Nat.add_zero, Nat.sub_self, List.getElem?_cons_zero, List.getElem?_cons_succ, List.set_cons_zero, List.set_cons_succ, Option.some.injEq, V.int.injEq, V.str.injEq, V.ref.injEq, V.bl.injEq, V.ty.injEq, List.cons.injEq, exists_eq_left, exists_eq_left', exists_eq_right, exists_and_left, exists_eq, and_true, true_and, and_self, and_assoc, tFld, sFld, tMeth, tMake])
      refine ix bG ?_
      rcases I.each x (List.mem_of_getElem? hx) with ⟨hr', hrows⟩ | htv'
      · obtain ⟨xb, ys, rfl, hxb, _⟩ := id hrows
        refine ⟨_, .tup (bG _ _ (ne_of hxb hL0 (fun z => nomatch z)) hxb), true, rfl, iteF (by decide) ?_⟩
        have sT := bG.sameT hL0
        have WG := W.but bG hGL
        have h2 : w = true → twoW (rowZ G (.ref a)).1 := fun e => by
          rw [hv.z_same sT, I.zr]
          rcases I.sh with P | ⟨th, fa, bs, B⟩
          · exfalso
            have := P.tv _ (List.mem_of_getElem? hx)
            cases this.notR
          · by_cases h2 : twoW z
            · exact h2
            · exfalso
              have e1 := B.one h2
              have e2 := congrArg List.length (parts_isR B)
              rw [List.length_map, e1] at e2
              rw [← List.take_append_drop i r, hdr, List.filter_append, List.length_append, List.filter_cons, if_pos hr', List.length_cons] at e2
              have := List.length_pos_iff.mpr (hw e)
              omega
        have hLsl : Ls.length + (lnsL f tn [(d, ["end"])] w (.ref xb :: r.drop (i + 1))).length = (lnsL f tn [(d, ["end"])] false r).length + 1 := by
          have := congrArg List.length eLs
          rw [List.length_append, List.length_cons] at this
          exact this
        rw [lnsL_ref] at eLs hLsl
        rw [List.length_append, List.length_append] at hLsl
        have hts : (ts ++ Ls.map lineT).length = ts.length + Ls.length := by rw [List.length_append, List.length_map]
        refine turn_if (m := m) WG (hv.sameT sT) h2 (by omega) (by omega) fun G1 b1 h1 => ?_
        have e1 : (if w then (turnF G (.ref a)).map (fun ws => lineT (d, ws)) else []) = (if w then tn else []).map lineT := by
          rw [hv.turn_same sT, ← htn]
          cases w with
          | false => rfl
          | true => rw [if_pos rfl, if_pos rfl, List.map_map]; rfl
        rw [e1] at h1
        have bG1 := bG.trans b1
        have sT1 := bG1.sameT hL0
        have W1 := W.but (ts' := ts ++ Ls.map lineT ++ (if w then tn else []).map lineT) bG1 h1
        obtain ⟨⟨dx1, hp1⟩, _⟩ := id W1
        have hts1 : (ts ++ Ls.map lineT ++ (if w then tn else []).map lineT).length = ts.length + Ls.length + (if w then tn else []).length := by rw [List.length_append, hts, List.length_map]
        have ef : linesF (m + 1) G1 (.ref xb) (d + 1) = f (.ref xb) := by rw [lines_sameT sT1 hrows, hf]
        have hq1 := b1 _ _ hqL hGq
        refine ⟨.inl ⟨_, SqL.of hq1⟩, dx1, _, hp1, fl_no L (by decide +kernel), ix bG1 ⟨p, L, _, .ref xb, d + 1, rfl, W1, hrows.sameT sT1, by omega, by rw [hts1, ef]; omega, fun v' G2 b2 h2' r2 => ?_⟩⟩
        have hq2 := b2 _ _ hqL hq1
        have b02' := bG1.trans b2
        refine ⟨q, xs, v', rfl, rfl, hq2, by omega, fun c o n h => ?_, xs ++ [v'], upd_same, by rw [List.length_append, hxl]; rfl, Ls ++ ((if w then tn else []) ++ f (.ref xb)), done ++ [num (.ref xb) (ts.length + Ls.length + (if w then tn else []).length)], by rw [List.length_append, hdl]; rfl, ?_, ?_, ?_, fun _ => ?_, ?_⟩
        · rw [upd_ne (ne_of_none h hqH)]; exact b02' c o n h
        · rw [upd_ne (Ne.symm hqL), h2', ef]
          simp only [List.map_append, List.append_assoc]
        · rw [← eLs]
          simp only [List.append_assoc]
        · rw [← eDn]
          show _ = done ++ (if isR (V.ref xb) then _ else _)
          rw [if_pos hr', List.append_assoc]
          have el : len (.ref xb) = (f (.ref xb)).length := by rw [hfl, ← hlen]
          rw [el, List.length_append, List.length_append]
          cases w with
          | false => simp [Nat.add_assoc]
          | true => simp [Nat.add_assoc]
        · rw [tk, List.filter_append, List.filter_cons, if_pos hr']
          simp
        · have sT3 : SameT G2 (upd G2 q (.lst (xs ++ [v']))) := sameT_upd hq2
          have sTG2 : SameT G G2 := fun c ys h => (b1.trans b2) _ _ (ne_of h hGL (fun z => nomatch z)) h
          intro j y t hy ht
          by_cases hj : j < xs.length
          · rw [List.getElem?_append_left hj] at hy
            have ht' : (Tr.s z :: .i ((ts.length + 1 : Nat) : Int) :: done)[j]? = some t := by
              rw [← ht, ← List.cons_append, ← List.cons_append, List.getElem?_append_left (by rw [List.length_cons, List.length_cons]; omega)]
            exact ((hR j y t hy ht').sameT sTG2).sameT sT3
          · rw [List.getElem?_append_right (by omega)] at hy
            have hj' := (List.getElem?_eq_some_iff.mp hy).1
            rw [List.length_singleton] at hj'
            rw [show j - xs.length = 0 by omega] at hy
            cases hy
            rw [← List.cons_append, ← List.cons_append, List.getElem?_append_right (by rw [List.length_cons, List.length_cons]; omega), show j - (Tr.s z :: .i ((ts.length + 1 : Nat) : Int) :: done).length = 0 by rw [List.length_cons, List.length_cons]; omega] at ht
            cases ht
            rw [num_sameT sT1 hrows, hnum, hts1] at r2
            exact r2.sameT sT3
      · have hf0 := htv'.notR
        rw [lnsL_no hf0] at eLs
        have eD' : fldN num len tn.length w (ts.length + Ls.length) (x :: r.drop (i + 1)) = trV x :: fldN num len tn.length w (ts.length + Ls.length) (r.drop (i + 1)) := by
          show (if isR x then _ else _) = _
          rw [if_neg (by rw [hf0]; exact Bool.false_ne_true)]
        rw [eD'] at eDn
        obtain ⟨ty, hty, hk⟩ : ∃ ty, TyOf K G x ty ∧ PySem.W.kitOne K ty (Value.type "tuple") = some false := by
          rcases htv' with ⟨n, rfl, _⟩ | ⟨y, rfl, _⟩
          · exact ⟨_, .int n, rfl⟩
          · exact ⟨_, .str y, rfl⟩
        have sT3 : SameT G (upd G q (.lst (xs ++ [x]))) := sameT_upd hGq
        refine ⟨ty, hty, false, hk, iteT rfl ⟨.inl ⟨_, SqL.of hGq⟩, ix bG ⟨q, xs, x, rfl, rfl, hGq, by omega, w, _, rfl, fun c o n h => ?_, xs ++ [x], upd_same, by rw [List.length_append, hxl]; rfl, Ls, done ++ [trV x], by rw [List.length_append, hdl]; rfl, ?_, eLs, by rw [List.append_assoc]; exact eDn, fun e => ?_, ?_⟩⟩⟩
        · rw [upd_ne (ne_of_none h hqH)]; exact bG c o n h
        · rw [upd_ne (Ne.symm hqL)]; exact hGL
        · rw [tk, List.filter_append]
          intro h0
          exact hw e (List.append_eq_nil_iff.mp h0).1
        · intro j y t hy ht
          by_cases hj : j < xs.length
          · rw [List.getElem?_append_left hj] at hy
            have ht' : (Tr.s z :: .i ((ts.length + 1 : Nat) : Int) :: done)[j]? = some t := by
              rw [← ht, ← List.cons_append, ← List.cons_append, List.getElem?_append_left (by rw [List.length_cons, List.length_cons]; omega)]
            exact (hR j y t hy ht').sameT sT3
          · rw [List.getElem?_append_right (by omega)] at hy
            have hj' := (List.getElem?_eq_some_iff.mp hy).1
            rw [List.length_singleton] at hj'
            rw [show j - xs.length = 0 by omega] at hy
            cases hy
            rw [← List.cons_append, ← List.cons_append, List.getElem?_append_right (by rw [List.length_cons, List.length_cons]; omega), show j - (Tr.s z :: .i ((ts.length + 1 : Nat) : Int) :: done).length = 0 by rw [List.length_cons, List.length_cons]; omega] at ht
            cases ht
            exact RepT.tv htv'
    · rintro σ G ⟨w, o5, xs, Ls, done, rfl, bG, hGq, hxl, hdl, hGL, eLs, eDn, hw, hR⟩
      rw [show (((r.length + 2 : Nat) : Int) - 2).toNat = r.length by omega] at hxl hdl eLs eDn
      rw [List.drop_length] at eLs eDn
      (simp only [tLst, tTup, tDNewK, _root_.L2.start, cxOf_K, cxComp_K, tSeq, tAsg, gName, tRet, tRetN, tDrop, tIfS, tTest, tB, tNot, tAnd, tOr, tAndV, tOrV, tNotV, tOp, tUn, tVar, tC, tCons, tNil, tStrs, tCB, tCall, tChain, tBM, tBM0, tPart, tNoPart, tSl, tIf, tNext, tTrue, selS, Option.bind_none, Option.bind_some, Option.join_some, if_true, rI, rI0, rU, rEq, rNe, rStarts, rSlS, lenV_str, tyV, List.map_cons, List.map_nil, List.length_cons, List.length_nil, List.replicate, List.cons_append, List.nil_append, List.append_nil, Nat.reduceAdd, Nat.reduceSub, Nat.zero_add, Nat.add_zero, Nat.sub_self, List.getElem?_cons_zero, List.getElem?_cons_succ, List.set_cons_zero, List.set_cons_succ, Option.some.injEq, V.int.injEq, V.str.injEq, V.ref.injEq, V.bl.injEq, V.ty.injEq, List.cons.injEq, exists_eq_left, exists_eq_left', exists_eq_right, exists_and_left, exists_eq, and_true, true_and, and_self, and_assoc, tFld, sFld, tMeth, tMake])
      have WG := W.but bG hGL
      have hts : (ts ++ Ls.map lineT).length = ts.length + Ls.length := by rw [List.length_append, List.length_map]
      have hLsl : Ls.length ≤ (lnsL f tn [(d, ["end"])] false r).length + 1 := by
        have := congrArg List.length eLs
        rw [List.length_append, List.length_cons] at this
        omega
      refine end_if WG (by omega) (by omega) fun G1 b1 h1 => ⟨xs, .inl ⟨SqL.of (b1 _ _ hqL hGq), fun l hl2 => ?_⟩⟩
      have s9 := Same.upd (o := .tup xs) hl2
      have eD : fldN num len tn.length w (ts.length + Ls.length) [] = [] := rfl
      rw [eD, List.append_nil] at eDn
      have sTG1 : SameT G G1 := fun c ys h => b1 _ _ (ne_of h hGL (fun z => nomatch z)) h
      refine k (.ref l) _ ((bG.trans b1).trans (But.of s9)) ?_ ⟨l, xs, rfl, upd_same, ?_, ?_, fun j x t hx ht => ?_⟩
      · rw [s9 _ _ h1, ← eLs]
        have e2 : (if w then [lineT (d, ["end"])] else []) = (lnsL f tn [(d, ["end"])] w []).map lineT := by
          cases w <;> rfl
        rw [e2]
        simp only [List.map_append, List.append_assoc]
      · rw [hxl, ← eDn, List.length_cons, List.length_cons, hdl]
      · rw [← eDn, List.length_cons, List.length_cons, hdl]; omega
      · rw [← eDn] at ht
        exact ((hR j x t hx ht).sameT sTG1).sameT (sameT_of s9)
theorem ok_Writing_put_rows (T : Tx P w K mg) (G_head_words : FnOk P w K mg base CX0 2 T.d_head_words.f T.d_head_words.fd ["row"] spHead) (G_Writing_put_line : FnOk P w K mg base CX0 1 T.m_Writing_put_line.f T.m_Writing_put_line.fd ["self", "words", "deep"] (spPutLine T.C_Writing)) (G_Writing_put_turn : FnOk P w K mg base CX0 2 T.m_Writing_put_turn.f T.m_Writing_put_turn.fd ["self", "row", "deep"] (spPutTurn T.C_Writing)) : ∀ n : Nat, FnOk P w K mg base CX0 (2 * n + 4) T.m_Writing_put_rows.f T.m_Writing_put_rows.fd ["self", "rows", "deep"] (spPutRows T.C_Writing n)
  | 0 => rows_step T 0 fn_no
  | n + 1 => rows_step T (n + 1) (row_step T n G_head_words G_Writing_put_line G_Writing_put_turn (ok_Writing_put_rows T G_head_words G_Writing_put_line G_Writing_put_turn n))
theorem sc_written : FnScope ["program", "writing"] ["program"] (defScope (top 6)) := ⟨rfl, rfl, rfl, by decide +kernel, rfl, by decide +kernel, by decide +kernel⟩
theorem ok_written (T : Tx P w K mg)
    (G_Writing___init__ : FnOk P w K mg base CX0 1 T.m_Writing___init__.f T.m_Writing___init__.fd ["self"] (spInit T.C_Writing))
    (G_Writing_put_rows : FnOk P w K mg base CX0 50 T.m_Writing_put_rows.f T.m_Writing_put_rows.fd ["self", "rows", "deep"] (spPutRows T.C_Writing 23)) : FnOk P w K mg base CX0 51 T.d_written.f T.d_written.fd ["program"] (spWritten T.C_Writing) := by
  refine T.d_written.F.ok sc_written (fun vs H Q E h => ?_) (fun cdv A outer s H vs Q E hr h => ?_)
  · obtain ⟨v, rfl, _⟩ := h
    rfl
  · obtain ⟨v, rfl, hv, hll, k⟩ := h
    refine ⟨_, (pss_cons (ps_set (i := 1) sc_written.nd rfl (Or.inl rfl) (pe_make0 T.M_Writing G_Writing___init__ (hr.mono (by omega)) rfl T.h_Writing T.m_Writing___init__.b .nil pass0))
    (pss_cons (ps_expr (pe_meth (pv 1) T.k_Writing T.m_Writing_put_rows.me G_Writing_put_rows (hr.mono (by omega)) T.m_Writing_put_rows.b .nil pass0 (pa_cons (pv 0) (pa_cons pe_int pa_nil))))
    (pss_one (ps_ret (pe_bm PySem.F.plainAttrs_str PySem.F.slot_str_join PySem.F.type_str_join mt_join pe_str (pa_cons (pe_lc (N' := ["line"]) (sel := [none]) rfl rfl rfl (pi_list (pe_fld (pv 1) rfl)) (gk_name rfl) (fun _ _ _ _ _ => ⟨(pg_name (i := 0) (show (["line"] : List Str).Nodup by decide +kernel) rfl (Or.inl rfl)), pts_nil, (pe_op op_add_str (pv 0) pe_str)⟩)) pa_nil)))))), ?_⟩
    (simp only [tLst, tTup, tDNewK, tLc, iList, iStr, iTup, _root_.L2.start, cxOf_K, cxComp_K, tSeq, tAsg, gName, tRet, tRetN, tDrop, tIfS, tTest, tB, tNot, tAnd, tOr, tAndV, tOrV, tNotV, tOp, tUn, tVar, tC, tCons, tNil, tStrs, tCB, tCall, tChain, tBM, tBM0, tPart, tNoPart, tSl, tIf, tNext, tTrue, selS, Option.bind_none, Option.bind_some, Option.join_some, if_true, rI, rI0, rU, rEq, rNe, rStarts, rSlS, lenV_str, tyV, List.map_cons, List.map_nil, List.length_cons, List.length_nil, List.replicate, List.cons_append, List.nil_append, List.append_nil, Nat.reduceAdd, Nat.reduceSub, Nat.zero_add, Nat.add_zero, Nat.sub_self, List.getElem?_cons_zero, List.getElem?_cons_succ, List.set_cons_zero, List.set_cons_succ, Option.some.injEq, V.int.injEq, V.str.injEq, V.ref.injEq, V.bl.injEq, V.ty.injEq, List.cons.injEq, exists_eq_left, exists_eq_left', exists_eq_right, exists_and_left, exists_eq, and_true, true_and, and_self, and_assoc, tFld, sFld, tMeth, tMake])
    refine fun x dx hx hdx ne => ⟨x, dx, rfl, upd_same, fun L H2 hL b h1 h2 => ⟨rfl, dx, _, h1, fl_no L (by decide +kernel), ?_⟩⟩
    obtain ⟨s2, W2, hLn⟩ := wNew hx hdx ne hL b h1 h2
    have eL := lines_sameT (sameT_of s2) hv 0
    refine ⟨x, L, [], v, 0, rfl, W2, hv.same s2, by decide, by rw [eL]; show 0 + (linesF 24 H v 0).length ≤ 60000; omega, fun v' H3 b3 h3 _ => ?_⟩
    rw [eL, List.nil_append] at h3
    have W3 := W2.but b3 h3
    obtain ⟨⟨dx3, hx3⟩, _⟩ := id W3
    have s3 : Same H H3 := fun c o h => b3 _ _ (ne_of_none h hLn) (s2 _ _ h)
    have hz : sizeLine = 16777216 := by decide
    have hle := line_le hv (show 0 + 23 ≤ 30 by decide)
    have hsum := sumL hle
    have e1 : ("\n" : Str).length = 1 := by decide +kernel
    have e0 : ("" : Str).length = 0 := by decide +kernel
    generalize hls : linesF 24 H v 0 = ls at h3 hll hle hsum k
    refine ⟨T.C_Writing, dx3, _, hx3, T.k_Writing, T.n_Writing_lines, _, fl_at L, L, rfl, ⟨_, SqL.of h3⟩, lc_list (K := K) (a := L) (xs := (ls.map lineT).map V.str) (fun i ys G => G = H3 ∧ ys = (ls.take i).map fun x => V.str (lineT x ++ "\n")) ⟨rfl, rfl⟩ ?_ ?_ ?_ ?_⟩
    · rintro i ys G hi ⟨rfl, rfl⟩
      exact ⟨SqL.of h3, by rw [List.length_map, List.length_take]; omega⟩
    · rw [List.length_map, List.length_map]; omega
    · rintro i y ys G hi ⟨rfl, rfl⟩
      rw [List.getElem?_map, List.getElem?_map] at hi
      cases e : ls[i]? with
      | none => rw [e] at hi; cases hi
      | some l =>
        rw [e] at hi
        cases hi
        have hl := hle l (List.mem_of_getElem? e)
        (simp only [tLst, tTup, tDNewK, tLc, iList, iStr, iTup, _root_.L2.start, cxOf_K, cxComp_K, tSeq, tAsg, gName, tRet, tRetN, tDrop, tIfS, tTest, tB, tNot, tAnd, tOr, tAndV, tOrV, tNotV, tOp, tUn, tVar, tC, tCons, tNil, tStrs, tCB, tCall, tChain, tBM, tBM0, tPart, tNoPart, tSl, tIf, tNext, tTrue, selS, Option.bind_none, Option.bind_some, Option.join_some, if_true, rI, rI0, rU, rEq, rNe, rStarts, rSlS, lenV_str, tyV, List.map_cons, List.map_nil, List.length_cons, List.length_nil, List.replicate, List.cons_append, List.nil_append, List.append_nil, Nat.reduceAdd, Nat.reduceSub, Nat.zero_add, Nat.add_zero, Nat.sub_self, List.getElem?_cons_zero, List.getElem?_cons_succ, List.set_cons_zero, List.set_cons_succ, Option.some.injEq, V.int.injEq, V.str.injEq, V.ref.injEq, V.bl.injEq, V.ty.injEq, List.cons.injEq, exists_eq_left, exists_eq_left', exists_eq_right, exists_and_left, exists_eq, and_true, true_and, and_self, and_assoc, tFld, sFld, tMeth, tMake])
        exact ⟨by omega, take_snoc e⟩
    · rintro ys G ⟨rfl, rfl⟩ D hD
      rw [List.length_map, List.length_map, List.take_length]
      refine ⟨"", D, ls.map fun x => lineT x ++ "\n", rfl, rfl, SqL.of (by rw [upd_same, List.map_map]; rfl), ?_, k _ (s3.trans (Same.upd hD))⟩
      rw [e0]
      omega
theorem sc_numbered : FnScope ["program"] ["program"] (defScope (top 7)) := ⟨rfl, rfl, rfl, by decide +kernel, rfl, by decide +kernel, by decide +kernel⟩
theorem ok_numbered (T : Tx P w K mg)
    (G_Writing___init__ : FnOk P w K mg base CX0 1 T.m_Writing___init__.f T.m_Writing___init__.fd ["self"] (spInit T.C_Writing))
    (G_Writing_put_rows : FnOk P w K mg base CX0 50 T.m_Writing_put_rows.f T.m_Writing_put_rows.fd ["self", "rows", "deep"] (spPutRows T.C_Writing 23)) : FnOk P w K mg base CX0 51 T.d_numbered.f T.d_numbered.fd ["program"] (spNumbered) := by
  refine T.d_numbered.F.ok sc_numbered (fun vs H Q E h => ?_) (fun cdv A outer s H vs Q E hr h => ?_)
  · obtain ⟨v, rfl, _⟩ := h
    rfl
  · obtain ⟨v, rfl, hv, hll, k⟩ := h
    refine ⟨_, (pss_one (ps_ret (pe_meth (pe_make0 T.M_Writing G_Writing___init__ (hr.mono (by omega)) rfl T.h_Writing T.m_Writing___init__.b .nil pass0) T.k_Writing T.m_Writing_put_rows.me G_Writing_put_rows (hr.mono (by omega)) T.m_Writing_put_rows.b .nil pass0 (pa_cons (pv 0) (pa_cons pe_int pa_nil))))), ?_⟩
    (simp only [tLst, tTup, tDNewK, tLc, iList, iStr, iTup, _root_.L2.start, cxOf_K, cxComp_K, tSeq, tAsg, gName, tRet, tRetN, tDrop, tIfS, tTest, tB, tNot, tAnd, tOr, tAndV, tOrV, tNotV, tOp, tUn, tVar, tC, tCons, tNil, tStrs, tCB, tCall, tChain, tBM, tBM0, tPart, tNoPart, tSl, tIf, tNext, tTrue, selS, Option.bind_none, Option.bind_some, Option.join_some, if_true, rI, rI0, rU, rEq, rNe, rStarts, rSlS, lenV_str, tyV, List.map_cons, List.map_nil, List.length_cons, List.length_nil, List.replicate, List.cons_append, List.nil_append, List.append_nil, Nat.reduceAdd, Nat.reduceSub, Nat.zero_add, Nat.add_zero, Nat.sub_self, List.getElem?_cons_zero, List.getElem?_cons_succ, List.set_cons_zero, List.set_cons_succ, Option.some.injEq, V.int.injEq, V.str.injEq, V.ref.injEq, V.bl.injEq, V.ty.injEq, List.cons.injEq, exists_eq_left, exists_eq_left', exists_eq_right, exists_and_left, exists_eq, and_true, true_and, and_self, and_assoc, tFld, sFld, tMeth, tMake])
    refine fun x dx hx hdx ne => ⟨x, dx, rfl, upd_same, fun L H2 hL b h1 h2 => ⟨rfl, dx, _, h1, fl_no L (by decide +kernel), ?_⟩⟩
    obtain ⟨s2, W2, hLn⟩ := wNew hx hdx ne hL b h1 h2
    have eL := lines_sameT (sameT_of s2) hv 0
    refine ⟨x, L, [], v, 0, rfl, W2, hv.same s2, by decide, by rw [eL]; show 0 + (linesF 24 H v 0).length ≤ 60000; omega, fun v' H3 b3 _ r3 => k v' H3 (fun c o h => b3 _ _ (ne_of_none h hLn) (s2 _ _ h)) ?_⟩
    rw [num_sameT (sameT_of s2) hv] at r3
    exact r3
theorem sc_l_lines : FnScope ["_law_rows", "_law_deep", "_law_lines_here", "_law_row", "_law_pieces", "_law_k"] ["_law_rows", "_law_deep"] (defScope (top 23)) := ⟨rfl, rfl, rfl, by decide +kernel, rfl, by decide +kernel, by decide +kernel⟩
theorem lines_step (T : Tx P w K mg) (n : Nat) (G_l_words : FnOk P w K mg base CX0 1 T.d_l_words.f T.d_l_words.fd ["_law_row"] spWords) (G_l_parts : FnOk P w K mg base CX0 1 T.d_l_parts.f T.d_l_parts.fd ["_law_row"] spLParts) (G_l_turning : FnOk P w K mg base CX0 1 T.d_l_turning.f T.d_l_turning.fd ["_law_row"] spTurning) (G_l_lines : FnOk P w K mg base CX0 (n + 2) T.d_l_lines.f T.d_l_lines.fd ["_law_rows", "_law_deep"] (spLinesD n)) : FnOk P w K mg base CX0 (n + 3) T.d_l_lines.f T.d_l_lines.fd ["_law_rows", "_law_deep"] (spLines n) := by
  refine T.d_l_lines.F.ok (k := n + 2) sc_l_lines (fun vs H Q E h => ?_) (fun cdv A outer s H vs Q E hr h => ?_)
  · obtain ⟨v, d, rfl, _⟩ := h
    rfl
  · obtain ⟨v, d, rfl, hv, hll, k⟩ := h
    have hu := hu100 hr
    refine ⟨_, (pss_cons (ps_set (i := 2) sc_l_lines.nd rfl (Or.inl rfl) (pe_lst pa_nil))
    (pss_cons (ps_for PassesOwn.never rfl (pi_tup (pv 0)) (pg_name (i := 3) sc_l_lines.nd rfl (Or.inl rfl))
    (pss_cons (ps_expr (pe_bm PySem.F.plainAttrs_list PySem.F.slot_list_append PySem.F.type_list_append mt_append (pv 2) (pa_cons (pe_tup (pa_cons (pv 1) (pa_cons (pe_call G_l_words (hr.mono (by omega)) rfl T.d_l_words.hm T.d_l_words.F.kp T.d_l_words.b .nil pass0 (pa_cons (pv 3) pa_nil)) pa_nil))) pa_nil)))
    (pss_cons (ps_set (i := 4) sc_l_lines.nd rfl (Or.inl rfl) (pe_call G_l_parts (hr.mono (by omega)) rfl T.d_l_parts.hm T.d_l_parts.F.kp T.d_l_parts.b .nil pass0 (pa_cons (pv 3) pa_nil)))
    (pss_cons (ps_for PassesOwn.never rfl (pi_range1 rfl T.n_range (pa_cons (pe_callB call_len (by rfl) T.n_len bt_len (pa_cons (pv 4) pa_nil)) pa_nil)) (pg_name (i := 5) sc_l_lines.nd rfl (Or.inl rfl))
    (pss_mid (ps_if (PW.pt (pw_and (pt_cmpR op_gt (pv 5) pe_int (nomark _)) (pw_and1 (PW.pt (pw_or (pt_cmpR op_ne (pe_ix ix_tup (pv 3) pe_int (fun _ _ => rfl)) pe_str (nomark _)) (pw_or1 (pt_cmpR (op_neT hu) (pe_ix ix_list (pv 4) pe_int (fun _ _ => rfl)) (pe_tup pa_nil) (nomark _))))))))
    (pss_one (ps_expr (pe_bm PySem.F.plainAttrs_list PySem.F.slot_list_append PySem.F.type_list_append mt_append (pv 2) (pa_cons (pe_tup (pa_cons (pv 1) (pa_cons (pe_call G_l_turning (hr.mono (by omega)) rfl T.d_l_turning.hm T.d_l_turning.F.kp T.d_l_turning.b .nil pass0 (pa_cons (pv 3) pa_nil)) pa_nil))) pa_nil))))
    pss_nil)
    (pss_one (ps_set (i := 2) sc_l_lines.nd rfl (Or.inl rfl) (pe_op op_cat (pv 2) (pe_call G_l_lines (hr.mono (by omega)) rfl T.d_l_lines.hm T.d_l_lines.F.kp T.d_l_lines.b .nil pass0 (pa_cons (pe_ix ix_list (pv 4) (pv 5) (fun _ _ => rfl)) (pa_cons (pe_op op_add (pv 1) pe_int) pa_nil))))))))
    (pss_one (ps_if (pt_cmpR (op_neL hu) (pv 4) (pe_lst pa_nil) (nomark _))
    (pss_one (ps_expr (pe_bm PySem.F.plainAttrs_list PySem.F.slot_list_append PySem.F.type_list_append mt_append (pv 2) (pa_cons (pe_tup (pa_cons (pv 1) (pa_cons (pe_lst (pa_cons pe_str pa_nil)) pa_nil))) pa_nil))))
    pss_nil))))))
    (pss_one (ps_ret (pv 2))))), ?_⟩
    (simp only [tLst, tTup, tDNewK, _root_.L2.start, cxOf_K, cxComp_K, tSeq, tAsg, gName, tRet, tRetN, tDrop, tIfS, tTest, tB, tNot, tAnd, tOr, tAndV, tOrV, tNotV, tOp, tUn, tVar, tC, tCons, tNil, tStrs, tCB, tCall, tChain, tBM, tBM0, tPart, tNoPart, tSl, tIf, tNext, tTrue, selS, Option.bind_none, Option.bind_some, Option.join_some, if_true, rI, rI0, rU, rEq, rNe, rStarts, rSlS, lenV_str, tyV, List.map_cons, List.map_nil, List.length_cons, List.length_nil, List.replicate, List.cons_append, List.nil_append, List.append_nil, Nat.reduceAdd, Nat.reduceSub, Nat.zero_add, Nat.add_zero, Nat.sub_self, List.getElem?_cons_zero, List.getElem?_cons_succ, List.set_cons_zero, List.set_cons_succ, Option.some.injEq, V.int.injEq, V.str.injEq, V.ref.injEq, V.bl.injEq, V.ty.injEq, List.cons.injEq, exists_eq_left, exists_eq_left', exists_eq_right, exists_and_left, exists_eq, and_true, true_and, and_self, and_assoc, tFld, sFld, tMeth, tMake])
    refine ⟨by decide, fun l0 hl0 => ?_⟩
    obtain ⟨b, E, rfl, hb, hE⟩ := id hv
    have eL : linesF (n + 1) H (.ref b) d = E.flatMap fun y => rowLn (linesF n H) H y d := by
      show (elems H _).flatMap _ = _
      rw [elems_of hb]
    rw [eL] at hll k
    have hz : sizeLine = 16777216 := by decide
    have s0 := Same.upd (o := .lst []) hl0
    refine ⟨_, rfl, b, rfl, ⟨_, SqT.of (s0 _ _ hb)⟩, for_tup (K := K) (a := b) (xs := E) (fun i σ G => ∃ (lp : Addr) (o3 o4 o5 : Option V) (ps : List Addr), σ = [some (.ref b), some (.int d), some (.ref lp), o3, o4, o5] ∧ H lp = none ∧ G lp = some (.lst (ps.map V.ref)) ∧ LnsAt G ps ((E.take i).flatMap fun y => rowLn (linesF n H) H y d) ∧ Same H G)
      ⟨l0, none, none, none, [], rfl, hl0, upd_same, ⟨rfl, fun i q x h => nomatch h⟩, s0⟩ (fun i σ G _ ⟨_, _, _, _, _, _, _, _, _, sg⟩ => SqT.of (sg _ _ hb)) ?_ ?_⟩
    · rintro i y σ G hi ⟨lp, o3, o4, o5, ps, rfl, hlp, hG, hA, sG⟩
      (simp only [tLst, tTup, tDNewK, _root_.L2.start, cxOf_K, cxComp_K, tSeq, tAsg, gName, tRet, tRetN, tDrop, tIfS, tTest, tB, tNot, tAnd, tOr, tAndV, tOrV, tNotV, tOp, tUn, tVar, tC, tCons, tNil, tStrs, tCB, tCall, tChain, tBM, tBM0, tPart, tNoPart, tSl, tIf, tNext, tTrue, selS, Option.bind_none, Option.bind_some, Option.join_some, if_true, rI, rI0, rU, rEq, rNe, rStarts, rSlS, lenV_str, tyV, List.map_cons, List.map_nil, List.length_cons, List.length_nil, List.replicate, List.cons_append, List.nil_append, List.append_nil, Nat.reduceAdd, Nat.reduceSub, Nat.zero_add, Nat.add_zero, Nat.sub_self, List.getElem?_cons_zero, List.getElem?_cons_succ, List.set_cons_zero, List.set_cons_succ, Option.some.injEq, V.int.injEq, V.str.injEq, V.ref.injEq, V.bl.injEq, V.ty.injEq, List.cons.injEq, exists_eq_left, exists_eq_left', exists_eq_right, exists_and_left, exists_eq, and_true, true_and, and_self, and_assoc, tFld, sFld, tMeth, tMake])
      have hy := hE y (List.mem_of_getElem? hi)
      cases n with
      | zero => exact hy.elim
      | succ m =>
        have eS := flatMap_snoc (f := fun y => rowLn (linesF (m + 1) H) H y d) hi
        have hle := flatMap_le (f := fun y => rowLn (linesF (m + 1) H) H y d) E (i + 1)
        rw [eS, List.length_append] at hle
        rw [eS]
        have hyG := hy.same sG
        obtain ⟨a, z, ln, r, I⟩ := hy.ri
        obtain ⟨f, hf⟩ : ∃ f : V → List Ln, f = fun p => linesF (m + 1) H p (d + 1) := ⟨_, rfl⟩
        obtain ⟨tn, htn⟩ : ∃ tn : List Ln, tn = (turnF H y).map fun ws => (d, ws) := ⟨_, rfl⟩
        obtain ⟨base0, hbase⟩ : ∃ base0, base0 = (E.take i).flatMap fun y => rowLn (linesF (m + 1) H) H y d := ⟨_, rfl⟩
        have eRow : rowLn (linesF (m + 1) H) H y d = (d, rowWords H y) :: lnsL f tn [(d, ["end"])] false (partsF H y) := by
          rw [hy.parts_eq, lnsL_filter, htn, hf]
          rfl
        rw [← hbase] at hA hle ⊢
        rw [eRow] at hle ⊢
        rw [List.length_cons] at hle
        obtain ⟨parts, hparts⟩ : ∃ parts, parts = partsF H y := ⟨_, rfl⟩
        rw [← hparts] at hle ⊢
        have hpr : ∀ p ∈ parts, ∃ b, p = .ref b ∧ RowsOk m H (.ref b) := fun p hp => by
          rw [hparts] at hp
          obtain ⟨b, _, e, _⟩ := id (hy.parts_ok p hp)
          rw [e]
          exact ⟨b, rfl, by rw [← e]; exact hy.parts_ok p hp⟩
        have hpl2 : parts.length ≤ 2 ∧ (parts.length = 2 → twoW z) := by
          rw [hparts, hy.parts_eq, I.zr]
          rcases I.sh with P | ⟨th, fa, bs, B⟩
          · rw [List.filter_eq_nil_iff.mpr fun x hx => by rw [(P.tv x hx).notR]; exact Bool.false_ne_true]
            exact ⟨by decide, fun h => by cases h⟩
          · show (r.filter isR).length ≤ 2 ∧ ((r.filter isR).length = 2 → twoW z)
            rw [parts_isR B, List.length_map]
            by_cases h2 : twoW z
            · exact ⟨Nat.le_of_eq (B.two h2), fun _ => h2⟩
            · have := B.one h2
              exact ⟨by omega, fun h => by omega⟩
        refine ⟨.inl ⟨_, SqL.of hG⟩, y, m, rfl, hyG, fun wl G1 hwl h1 s1 => ⟨by decide, fun p hp => ?_⟩⟩
        have ew : rowWords G y = rowWords H y := by
          unfold rowWords
          rw [hy.z_same (sameT_of sG)]
        rw [ew] at h1
        refine addLn (d := d) hlp (s1 _ _ hG) (hA.same s1) (sG.trans s1) hy.words_ne h1 hp (by omega) fun G2 hG2 hA2 s2 _ => ?_
        refine ⟨y, m + 1, rfl, hy.same s2, fun pa G3 hpa h3 s3 => ?_⟩
        rw [hy.parts_same s2, ← hparts] at h3
        have nlp : lp ≠ pa := ne_of_none hG2 hpa
        refine ⟨_, rfl, _, rfl, parts.length, lenV_ref.mpr (.inl ⟨_, SqL.of h3, rfl⟩), _, rfl, by omega, by omega, for_range (lo := 0) (n := ((parts.length : Nat) : Int).toNat) (fun j σ G => ∃ (lp : Addr) (o5 : Option V) (ps : List Addr) (Ls : List Ln), σ = [some (.ref b), some (.int d), some (.ref lp), some y, some (.ref pa), o5] ∧ H lp = none ∧ lp ≠ pa ∧ G lp = some (.lst (ps.map V.ref)) ∧ LnsAt G ps (base0 ++ Ls) ∧ Ls ++ lnsL f tn [(d, ["end"])] (decide (0 < j)) (parts.drop j) = (d, rowWords H y) :: lnsL f tn [(d, ["end"])] false parts ∧ G pa = some (.lst parts) ∧ Same H G)
          ⟨lp, o5, ps ++ [p], [(d, rowWords H y)], rfl, hlp, nlp, s3 _ _ hG2, hA2.same s3, rfl, h3, s2.trans s3⟩ ?_ ?_⟩
        · rintro j σ G4 hj ⟨lp4, o54, ps4, Ls, rfl, hlp4, n4, hG4, hA4, eLs, h4, s4⟩
          rw [Int.toNat_natCast] at hj
          obtain ⟨x, hx⟩ : ∃ x, parts[j]? = some x := ⟨_, List.getElem?_eq_getElem hj⟩
          obtain ⟨xb, rfl, hrows⟩ := hpr x (List.mem_of_getElem? hx)
          have hdr : parts.drop j = .ref xb :: parts.drop (j + 1) := by
            have := List.getElem?_eq_some_iff.mp hx
            rw [← this.2]
            exact List.drop_eq_getElem_cons hj
          rw [hdr, lnsL_ref] at eLs
          have hsum : Ls.length + ((if decide (0 < j) then tn else []).length + ((f (.ref xb)).length + (lnsL f tn [(d, ["end"])] true (parts.drop (j + 1))).length)) = (lnsL f tn [(d, ["end"])] false parts).length + 1 := by
            have := congrArg List.length eLs
            rw [List.length_append, List.length_append, List.length_append, List.length_cons] at this
            exact this
          (simp only [tLst, tTup, tDNewK, _root_.L2.start, cxOf_K, cxComp_K, tSeq, tAsg, gName, tRet, tRetN, tDrop, tIfS, tTest, tB, tNot, tAnd, tOr, tAndV, tOrV, tNotV, tOp, tUn, tVar, tC, tCons, tNil, tStrs, tCB, tCall, tChain, tBM, tBM0, tPart, tNoPart, tSl, tIf, tNext, tTrue, selS, Option.bind_none, Option.bind_some, Option.join_some, if_true, rI, rI0, rU, rEq, rNe, rStarts, rSlS, lenV_str, tyV, List.map_cons, List.map_nil, List.length_cons, List.length_nil, List.replicate, List.cons_append, List.nil_append, List.append_nil, Nat.reduceAdd, Nat.reduceSub, Nat.zero_add, Nat.add_zero, Nat.sub_self, List.getElem?_cons_zero, List.getElem?_cons_succ, List.set_cons_zero, List.set_cons_succ, Option.some.injEq, V.int.injEq, V.str.injEq, V.ref.injEq, V.bl.injEq, V.ty.injEq, List.cons.injEq, exists_eq_left, exists_eq_left', exists_eq_right, exists_and_left, exists_eq, and_true, true_and, and_self, and_assoc, tFld, sFld, tMeth, tMake])
          refine ⟨fun σ' G' => ∃ (lp : Addr) (ps : List Addr), σ' = [some (.ref b), some (.int d), some (.ref lp), some y, some (.ref pa), some (.int (0 + j))] ∧ H lp = none ∧ lp ≠ pa ∧ G' lp = some (.lst (ps.map V.ref)) ∧ LnsAt G' ps (base0 ++ (Ls ++ (if decide (0 < j) then tn else []))) ∧ G' pa = some (.lst parts) ∧ Same H G', ?_, ?_⟩
          · (simp only [tLst, tTup, tDNewK, _root_.L2.start, cxOf_K, cxComp_K, tSeq, tAsg, gName, tRet, tRetN, tDrop, tIfS, tTest, tB, tNot, tAnd, tOr, tAndV, tOrV, tNotV, tOp, tUn, tVar, tC, tCons, tNil, tStrs, tCB, tCall, tChain, tBM, tBM0, tPart, tNoPart, tSl, tIf, tNext, tTrue, selS, Option.bind_none, Option.bind_some, Option.join_some, if_true, rI, rI0, rU, rEq, rNe, rStarts, rSlS, lenV_str, tyV, List.map_cons, List.map_nil, List.length_cons, List.length_nil, List.replicate, List.cons_append, List.nil_append, List.append_nil, Nat.reduceAdd, Nat.reduceSub, Nat.zero_add, Nat.add_zero, Nat.sub_self, List.getElem?_cons_zero, List.getElem?_cons_succ, List.set_cons_zero, List.set_cons_succ, Option.some.injEq, V.int.injEq, V.str.injEq, V.ref.injEq, V.bl.injEq, V.ty.injEq, List.cons.injEq, exists_eq_left, exists_eq_left', exists_eq_right, exists_and_left, exists_eq, and_true, true_and, and_self, and_assoc, tFld, sFld, tMeth, tMake])
            by_cases hj0 : j = 0
            · subst hj0
              refine ifF (by omega) ⟨hlp4, n4, ps4, hG4, ?_, h4, s4⟩
              rw [if_neg (by decide), List.append_nil]
              exact hA4
            have hj1 : j = 1 := by omega
            subst hj1
            have h2 := hpl2.2 (by omega)
            rw [show (if decide (0 < 1) = true then tn else []) = tn from rfl] at hsum ⊢
            have h2' : twoW (rowZ H y).1 := by rw [I.zr]; exact h2
            have lsl : (base0 ++ Ls).length ≤ 20000 := by rw [List.length_append]; omega
            obtain ⟨th, fa, bs, B⟩ : ∃ th fa bs, BlkSh z r th fa bs := by
              rcases I.sh with P | B
              · exfalso
                have := P.p
                rcases h2 with rfl | rfl | rfl <;> exact absurd this (by decide +kernel)
              · exact B
            have eT : turnF H y = (if z = "try" then [[("but" : Str), txt (r.getD 1 .non)]] else if z = "do" then [["last"]] else if elems H (r.getD 2 .non) = [] then [] else [["late"]]) := by
              unfold turnF
              rw [I.zr]
            have fin : ∀ {G' : Hp} {t : List Str}, Same G4 G' → turnF H y = [t] → t ≠ [] → ∀ (H3 : Hp) (p : Addr), H3 lp4 = some (.lst ((ps4 ++ [p]).map V.ref)) → LnsAt H3 (ps4 ++ [p]) (base0 ++ Ls ++ [(d, t)]) → Same H H3 → But lp4 G' H3 → H lp4 = none ∧ lp4 ≠ pa ∧ ∃ x, H3 lp4 = some (.lst (List.map V.ref x)) ∧ LnsAt H3 x (base0 ++ (Ls ++ tn)) ∧ H3 pa = some (.lst parts) ∧ Same H H3 := fun {G' t} s' hT _ H3 p e1 e2 e3 e4 => by
              refine ⟨hlp4, n4, ps4 ++ [p], e1, ?_, e4 _ _ (Ne.symm n4) (s' _ _ h4), e3⟩
              rw [htn, hT, ← List.append_assoc]
              exact e2
            refine ifT (by omega) (I.ix 0 (.str z) rfl s4 ⟨rfl, ?_⟩)
            by_cases hl : z = "limit"
            · refine ifNF (by rw [hl]) ⟨pa, _, _, .ref xb, rfl, rfl, SqL.of h4, atI_nat (j := 1) hx, ?_⟩
              obtain ⟨_, ys, e, hb1, _⟩ := id hrows
              cases e
              have hd1 : z ≠ "try" := by rw [hl]; decide +kernel
              have hd2 : z ≠ "do" := by rw [hl]; decide +kernel
              have hxr : r.getD 2 .non = .ref xb := by
                obtain ⟨c0, c1, rfl⟩ := len2 (B.two h2)
                obtain ⟨y0, rfl⟩ := len1 (B.tl.trans (show thLen z = 1 by rw [hl]; decide +kernel))
                have ep : parts = [.ref c0, .ref c1] := by rw [hparts, hy.parts_eq, I.zr]; exact parts_isR B
                rw [ep] at hx
                cases hx
                rw [B.e, if_neg hd1]
                rfl
              rw [if_neg hd1, if_neg hd2, hxr, elems_of hb1] at eT
              refine neNilT (s4 _ _ hb1) fun G5 s5 => ⟨_, rfl, ?_⟩
              by_cases e : ys = []
              · rw [if_pos e] at eT
                refine ifNF e ⟨hlp4, n4, ps4, s5 _ _ hG4, ?_, s5 _ _ h4, s4.trans s5⟩
                rw [htn, eT, List.map_nil, List.append_nil]
                exact hA4.same s5
              · rw [if_neg e] at eT
                exact ifNT e ⟨.inl ⟨_, SqL.of (s5 _ _ hG4)⟩, addTurn hlp4 (s5 _ _ hG4) (hA4.same s5) (s4.trans s5) hy h2' eT (by simp) lsl (fin s5 eT (by simp))⟩
            · obtain ⟨t, hT, ht⟩ : ∃ t, turnF H y = [t] ∧ t ≠ [] := by
                rw [eT]
                by_cases h1 : z = "try"
                · rw [if_pos h1]; exact ⟨_, rfl, by simp⟩
                · rw [if_neg h1]
                  have h3 : z = "do" := by
                    rcases h2 with h | h | h
                    · exact absurd h h1
                    · exact h
                    · exact absurd h hl
                  rw [if_pos h3]; exact ⟨_, rfl, by simp⟩
              exact ifNT (fun e => hl (V.str.inj e)) ⟨.inl ⟨_, SqL.of hG4⟩, addTurn hlp4 hG4 hA4 s4 hy h2' hT ht lsl (fin (Same.refl _) hT ht)⟩
          · rintro σ' G5 ⟨lp5, ps5, rfl, hlp5, n5, hG5, hA5, h5, s5⟩
            (simp only [tLst, tTup, tDNewK, _root_.L2.start, cxOf_K, cxComp_K, tSeq, tAsg, gName, tRet, tRetN, tDrop, tIfS, tTest, tB, tNot, tAnd, tOr, tAndV, tOrV, tNotV, tOp, tUn, tVar, tC, tCons, tNil, tStrs, tCB, tCall, tChain, tBM, tBM0, tPart, tNoPart, tSl, tIf, tNext, tTrue, selS, Option.bind_none, Option.bind_some, Option.join_some, if_true, rI, rI0, rU, rEq, rNe, rStarts, rSlS, lenV_str, tyV, List.map_cons, List.map_nil, List.length_cons, List.length_nil, List.replicate, List.cons_append, List.nil_append, List.append_nil, Nat.reduceAdd, Nat.reduceSub, Nat.zero_add, Nat.add_zero, Nat.sub_self, List.getElem?_cons_zero, List.getElem?_cons_succ, List.set_cons_zero, List.set_cons_succ, Option.some.injEq, V.int.injEq, V.str.injEq, V.ref.injEq, V.bl.injEq, V.ty.injEq, List.cons.injEq, exists_eq_left, exists_eq_left', exists_eq_right, exists_and_left, exists_eq, and_true, true_and, and_self, and_assoc, tFld, sFld, tMeth, tMake])
            have ef : linesF (m + 1) G5 (.ref xb) (d + 1) = f (.ref xb) := by rw [lines_sameT (sameT_of s5) hrows, hf]
            refine ⟨pa, _, _, .ref xb, rfl, rfl, SqL.of h5, by rw [show (0 : Int) + (j : Int) = ((j : Nat) : Int) by omega]; exact atI_nat hx, .ref xb, d + 1, rfl, hrows.same s5, by rw [ef]; omega, fun l6 ps6 G6 hl6 h6 hA6 s6 => ?_⟩
            rw [ef] at hA6
            have l5 := hA5.1
            have l6' := hA6.1
            rw [List.length_append, List.length_append] at l5
            refine ⟨lp5, l6, _, _, rfl, rfl, s6 _ _ hG5, h6, by rw [List.length_map, List.length_map]; omega, fun l hl => ?_⟩
            have s7 := Same.upd (o := .lst (ps5.map V.ref ++ ps6.map V.ref)) hl
            refine ⟨l, rfl, (s5.trans s6).free hl, (ne_of_none (s6 _ _ h5) hl).symm, ps5 ++ ps6, by rw [upd_same, List.map_append], (Ls ++ (if decide (0 < j) then tn else [])) ++ f (.ref xb), ?_, ?_, (s6.trans s7) _ _ h5, (s5.trans s6).trans s7⟩
            · rw [← List.append_assoc base0]
              exact ((hA5.same s6).app hA6).same s7
            · rw [← eLs, show decide (0 < j + 1) = true from decide_eq_true (by omega)]
              simp only [List.append_assoc]
        · rintro σ G4 ⟨lp4, o54, ps4, Ls, rfl, hlp4, n4, hG4, hA4, eLs, h4, s4⟩
          rw [Int.toNat_natCast, List.drop_length] at eLs
          (simp only [tLst, tTup, tDNewK, _root_.L2.start, cxOf_K, cxComp_K, tSeq, tAsg, gName, tRet, tRetN, tDrop, tIfS, tTest, tB, tNot, tAnd, tOr, tAndV, tOrV, tNotV, tOp, tUn, tVar, tC, tCons, tNil, tStrs, tCB, tCall, tChain, tBM, tBM0, tPart, tNoPart, tSl, tIf, tNext, tTrue, selS, Option.bind_none, Option.bind_some, Option.join_some, if_true, rI, rI0, rU, rEq, rNe, rStarts, rSlS, lenV_str, tyV, List.map_cons, List.map_nil, List.length_cons, List.length_nil, List.replicate, List.cons_append, List.nil_append, List.append_nil, Nat.reduceAdd, Nat.reduceSub, Nat.zero_add, Nat.add_zero, Nat.sub_self, List.getElem?_cons_zero, List.getElem?_cons_succ, List.set_cons_zero, List.set_cons_succ, Option.some.injEq, V.int.injEq, V.str.injEq, V.ref.injEq, V.bl.injEq, V.ty.injEq, List.cons.injEq, exists_eq_left, exists_eq_left', exists_eq_right, exists_and_left, exists_eq, and_true, true_and, and_self, and_assoc, tFld, sFld, tMeth, tMake])
          refine neNilL h4 fun G5 s5 => ⟨_, rfl, ?_⟩
          by_cases e : parts = []
          · refine ifNF e ⟨hlp4, ps4, s5 _ _ hG4, ?_, s4.trans s5⟩
            rw [← eLs, show decide (0 < parts.length) = false by rw [e]; rfl]
            show LnsAt G5 ps4 (base0 ++ (Ls ++ []))
            rw [List.append_nil]
            exact hA4.same s5
          · have hpos : decide (0 < parts.length) = true := decide_eq_true (List.length_pos_iff.mpr e)
            rw [hpos] at eLs
            have hsum : Ls.length + 1 = (lnsL f tn [(d, ["end"])] false parts).length + 1 := by
              have := congrArg List.length eLs
              rw [List.length_append, List.length_cons] at this
              exact this
            refine ifNT e ⟨.inl ⟨_, SqL.of (s5 _ _ hG4)⟩, by decide, fun p1 hp1 => ⟨by decide, fun p2 hp2 => ?_⟩⟩
            have s6 := Same.upd (o := .lst [V.str "end"]) hp1
            refine addLn (d := d) (t := ["end"]) hlp4 ((s5.trans s6) _ _ hG4) (hA4.same (s5.trans s6)) ((s4.trans s5).trans s6) (by simp) upd_same hp2 (by rw [List.length_append]; omega) fun H3 e1 e2 e3 _ => ⟨hlp4, _, e1, ?_, e3⟩
            rw [← eLs, ← List.append_assoc]
            exact e2
    · rintro σ G ⟨lp, o3, o4, o5, ps, rfl, hlp, hG, hA, sG⟩
      rw [List.take_length] at hA
      (simp only [tLst, tTup, tDNewK, _root_.L2.start, cxOf_K, cxComp_K, tSeq, tAsg, gName, tRet, tRetN, tDrop, tIfS, tTest, tB, tNot, tAnd, tOr, tAndV, tOrV, tNotV, tOp, tUn, tVar, tC, tCons, tNil, tStrs, tCB, tCall, tChain, tBM, tBM0, tPart, tNoPart, tSl, tIf, tNext, tTrue, selS, Option.bind_none, Option.bind_some, Option.join_some, if_true, rI, rI0, rU, rEq, rNe, rStarts, rSlS, lenV_str, tyV, List.map_cons, List.map_nil, List.length_cons, List.length_nil, List.replicate, List.cons_append, List.nil_append, List.append_nil, Nat.reduceAdd, Nat.reduceSub, Nat.zero_add, Nat.add_zero, Nat.sub_self, List.getElem?_cons_zero, List.getElem?_cons_succ, List.set_cons_zero, List.set_cons_succ, Option.some.injEq, V.int.injEq, V.str.injEq, V.ref.injEq, V.bl.injEq, V.ty.injEq, List.cons.injEq, exists_eq_left, exists_eq_left', exists_eq_right, exists_and_left, exists_eq, and_true, true_and, and_self, and_assoc, tFld, sFld, tMeth, tMake])
      exact k lp ps G hlp hG hA sG
theorem ok_l_lines (T : Tx P w K mg) (G_l_words : FnOk P w K mg base CX0 1 T.d_l_words.f T.d_l_words.fd ["_law_row"] spWords) (G_l_parts : FnOk P w K mg base CX0 1 T.d_l_parts.f T.d_l_parts.fd ["_law_row"] spLParts) (G_l_turning : FnOk P w K mg base CX0 1 T.d_l_turning.f T.d_l_turning.fd ["_law_row"] spTurning) : ∀ n : Nat, FnOk P w K mg base CX0 (n + 3) T.d_l_lines.f T.d_l_lines.fd ["_law_rows", "_law_deep"] (spLines n)
  | 0 => lines_step T 0 G_l_words G_l_parts G_l_turning fn_no
  | n + 1 => lines_step T (n + 1) G_l_words G_l_parts G_l_turning (ok_l_lines T G_l_words G_l_parts G_l_turning n)
theorem sc_l_set : FnScope ["_law_row", "_law_line", "_law_told"] ["_law_row", "_law_line", "_law_told"] (defScope (top 25)) := ⟨rfl, rfl, rfl, by decide +kernel, rfl, by decide +kernel, by decide +kernel⟩
theorem ok_l_set (T : Tx P w K mg) : FnOk P w K mg base CX0 1 T.d_l_set.f T.d_l_set.fd ["_law_row", "_law_line", "_law_told"] (spSet) := by
  refine T.d_l_set.F.ok sc_l_set (fun vs H Q E h => ?_) (fun cdv A outer s H vs Q E hr h => ?_)
  · obtain ⟨v, m, k0, l, us, num, len, rfl, _⟩ := h
    rfl
  · obtain ⟨v, m, k0, l, us, num, len, rfl, hv, hl, hR, k⟩ := h
    have hu := hu100 hr
    refine ⟨_, (pss_cons (ps_if (pt_cmpR op_eq (pe_ix ix_tup (pv 0) pe_int (fun _ _ => rfl)) pe_str (nomark _))
    (pss_one (ps_ret (pe_tup (pa_cons (pe_ix ix_tup (pv 0) pe_int (fun _ _ => rfl)) (pa_cons (pv 1) (pa_cons (pe_ix ix_list (pv 2) pe_int (fun _ _ => rfl)) (pa_cons (pe_ix ix_tup (pv 0) pe_int (fun _ _ => rfl)) (pa_cons (pe_ix ix_list (pv 2) pe_int (fun _ _ => rfl)) pa_nil))))))))
    pss_nil)
    (pss_cons (ps_if (pt_cmpR (op_eqL hu) (pv 2) (pe_lst pa_nil) (nomark _))
    (pss_one (ps_ret (pe_op op_catT0 (pe_tup (pa_cons (pe_ix ix_tup (pv 0) pe_int (fun _ _ => rfl)) (pa_cons (pv 1) pa_nil))) (pe_slice sl_tupW (pv 0) (po_some pe_int) po_none))))
    pss_nil)
    (pss_one (ps_ret (pe_op op_catT0 (pe_op op_catT0 (pe_tup (pa_cons (pe_ix ix_tup (pv 0) pe_int (fun _ _ => rfl)) (pa_cons (pv 1) pa_nil))) (pe_slice sl_tupW (pv 0) (po_some pe_int) (po_some (pe_op op_sub (pe_callB call_len (by rfl) T.n_len bt_len (pa_cons (pv 0) pa_nil)) (pe_callB call_len (by rfl) T.n_len bt_len (pa_cons (pv 2) pa_nil)))))) (pe_callTy call_tuple_of (by rfl) T.n_tuple bt_tuple (pa_cons (pv 2) pa_nil))))))), ?_⟩
    (simp only [tLst, tTup, tDNewK, _root_.L2.start, cxOf_K, cxComp_K, tSeq, tAsg, gName, tRet, tRetN, tDrop, tIfS, tTest, tB, tNot, tAnd, tOr, tAndV, tOrV, tNotV, tOp, tUn, tVar, tC, tCons, tNil, tStrs, tCB, tCall, tChain, tBM, tBM0, tPart, tNoPart, tSl, tIf, tNext, tTrue, selS, Option.bind_none, Option.bind_some, Option.join_some, if_true, rI, rI0, rU, rEq, rNe, rStarts, rSlS, lenV_str, tyV, List.map_cons, List.map_nil, List.length_cons, List.length_nil, List.replicate, List.cons_append, List.nil_append, List.append_nil, Nat.reduceAdd, Nat.reduceSub, Nat.zero_add, Nat.add_zero, Nat.sub_self, List.getElem?_cons_zero, List.getElem?_cons_succ, List.set_cons_zero, List.set_cons_succ, Option.some.injEq, V.int.injEq, V.str.injEq, V.ref.injEq, V.bl.injEq, V.ty.injEq, List.cons.injEq, exists_eq_left, exists_eq_left', exists_eq_right, exists_and_left, exists_eq, and_true, true_and, and_self, and_assoc, tFld, sFld, tMeth, tMake])
    obtain ⟨a, z, ln, r, I⟩ := hv.ri
    have hz : sizeLine = 16777216 := by decide
    have eR : rowN num len H v k0 = .t (.s z :: .i ((k0 + 1 : Nat) : Int) :: fldN num len (turnF H v).length false (k0 + 1) r) := by
      unfold rowN
      rw [I.zr]
    have eP : partsF H v = r.filter isR := by rw [hv.parts_eq, I.zr]
    rw [eR] at k
    rw [eP] at hR
    generalize (turnF H v).length = tn at k hR
    have sR := Same.refl H
    have rl := I.len
    have hul := hR.1
    rw [fldN_len] at hul
    have hul2 := List.length_filter_le isR r
    have two : ∀ {F : Nat} {G : Hp}, RepL F G [.str z, .int ((k0 + 1 : Nat) : Int)] [.s z, .i ((k0 + 1 : Nat) : Int)] := RepL.cons RepT.str (RepL.cons RepT.int RepL.nil)
    refine I.ix 0 (.str z) rfl sR ⟨rfl, ?_⟩
    by_cases ht : z = "try"
    · refine ifT (by rw [ht]) ?_
      obtain ⟨th, fa, bs, B⟩ : ∃ th fa bs, BlkSh z r th fa bs := by
        rcases I.sh with P | B
        · exact absurd P.p (by rw [ht]; decide +kernel)
        · exact B
      obtain ⟨b0, b1, rfl⟩ := len2 (B.two (.inl ht))
      obtain rfl := List.length_eq_zero_iff.mp (B.tl.trans (by rw [ht]; decide +kernel))
      obtain ⟨y, hy', hyl⟩ := B.fv ht
      have hr := B.e
      rw [if_pos ht, hy'] at hr
      have hr : r = [.ref b0, .str y, .ref b1] := hr
      subst hr
      obtain ⟨t0, t1, e1, e2⟩ := fldN_two (num := num) (len := len) (tn := tn) (c := k0 + 1) (b0 := b0) (b1 := b1) (fa := .str y) rfl
      rw [e1] at k
      rw [show [V.ref b0, V.str y, V.ref b1].filter isR = [.ref b0, .ref b1] from rfl, e2] at hR
      obtain ⟨u0, u1, rfl⟩ := len2 (show us.length = 2 from hR.1)
      refine I.ix 0 (.str z) rfl sR ⟨l, _, _, u0, rfl, rfl, SqL.of hl, atI_nat (j := 0) rfl, I.ix 3 (.str y) rfl sR ⟨l, _, _, u1, rfl, rfl, SqL.of hl, atI_nat (j := 1) rfl, by decide, fun p hp => ?_⟩⟩
      have s1 := Same.upd (o := .tup [.str z, .int ((k0 + 1 : Nat) : Int), u0, .str y, u1]) hp
      refine k (.ref p) _ s1 (RepL.t (us := [.str z, .int ((k0 + 1 : Nat) : Int), u0, .str y, u1]) ?_ upd_same (show 5 ≤ 100000 by decide))
      exact RepL.sameT (RepL.cons RepT.str (RepL.cons RepT.int (RepL.cons (hR.2 0 _ _ rfl rfl) (RepL.cons RepT.str (RepL.cons (hR.2 1 _ _ rfl rfl) RepL.nil))))) (sameT_of s1)
    refine ifF (fun e => ht (V.str.inj e)) (eqNilL hl fun G1 s1 => ⟨_, rfl, ?_⟩)
    by_cases hus : us = []
    · refine ifT hus (I.ix 0 (.str z) rfl s1 ⟨by decide, fun p hp => ?_⟩)
      have s2 := Same.upd (o := .tup [.str z, .int ((k0 + 1 : Nat) : Int)]) hp
      have hno : ∀ t ∈ r, isR t = false := fun t htm => by
        rw [hus] at hul
        have := List.filter_eq_nil_iff.mp (List.length_eq_zero_iff.mp hul.symm) t htm
        cases e : isR t with
        | false => rfl
        | true => exact absurd e this
      have htv : ∀ t ∈ r, TV t := fun t htm => by
        rcases I.each t htm with ⟨h, _⟩ | h
        · rw [hno t htm] at h; cases h
        · exact h
      have e1 := fldN_th (num := num) (len := len) (tn := tn) (th := r) (rs := []) (w := false) (c := k0 + 1) hno
      rw [List.append_nil, show fldN num len tn false (k0 + 1) [] = [] from rfl, List.append_nil] at e1
      rw [e1] at k
      obtain rfl := I.e
      refine slFrom2 ((s1.trans s2) _ _ I.h) fun q G2 hq s3 h2 => catT0_any (s3 _ _ upd_same) h2 (by simp) (by show 2 + _ ≤ _; omega) fun p' G3 h3 s4 => ?_
      refine k (.ref p') G3 (((s1.trans s2).trans s3).trans s4) (RepL.t (us := [.str z, .int ((k0 + 1 : Nat) : Int)] ++ r) ?_ h3 (by rw [List.length_append]; show 2 + _ ≤ _; omega))
      exact two.app (RepL.tv htv)
    · refine ifF hus (I.ix 0 (.str z) rfl s1 ⟨by decide, fun p hp => ?_⟩)
      have s2 := Same.upd (o := .tup [.str z, .int ((k0 + 1 : Nat) : Int)]) hp
      obtain ⟨th, fa, bs, B⟩ : ∃ th fa bs, BlkSh z r th fa bs := by
        rcases I.sh with P | B
        · exfalso
          rw [List.filter_eq_nil_iff.mpr fun x hx => by rw [(P.tv x hx).notR]; exact Bool.false_ne_true] at hul
          exact hus (List.length_eq_zero_iff.mp hul)
        · exact B
      have hr := B.e
      rw [if_neg ht] at hr
      rw [parts_isR B] at hR hul
      rw [List.length_map] at hul
      subst hr
      rw [fldN_th fun t h => (B.tv t h).notR] at k
      have hth := List.length_append (as := th) (bs := bs.map V.ref)
      rw [List.length_map] at hth
      obtain rfl := I.e
      refine ⟨(V.str z :: .int ln :: (th ++ bs.map V.ref)).length, lenV_ref.mpr (.inr ⟨_, SqT.of ((s1.trans s2) _ _ I.h), rfl⟩), us.length, lenV_ref.mpr (.inl ⟨_, SqL.of ((s1.trans s2) _ _ hl), rfl⟩), ?_⟩
      refine slMid ((s1.trans s2) _ _ I.h) (by rw [List.length_cons, List.length_cons]; omega) fun q G2 s3 h2 => catT0_any (s3 _ _ upd_same) h2 (by simp) (by show 2 + _ ≤ _; omega) fun p' G3 h3 s4 => ?_
      have s14 := ((s1.trans s2).trans s3).trans s4
      refine ⟨us, .inl ⟨SqL.of (s14 _ _ hl), fun l' hl' => ?_⟩⟩
      have s5 := Same.upd (o := .tup us) hl'
      refine catT0_any (s5 _ _ h3) upd_same (by simp) (by rw [List.length_append]; show 2 + _ + _ ≤ _; omega) fun p'' G4 h4 s6 => ?_
      refine k (.ref p'') G4 ((s14.trans s5).trans s6) (RepL.t (us := [.str z, .int ((k0 + 1 : Nat) : Int)] ++ th ++ us) ?_ h4 (by rw [List.length_append, List.length_append]; show 2 + _ + _ ≤ _; omega))
      have := two.app ((RepL.tv B.tv).app (hR.sameT (sameT_of ((s14.trans s5).trans s6))))
      rw [List.append_assoc]
      exact this
theorem sc_l_on : FnScope ["_law_rows", "_law_places", "_law_at", "_law_found", "_law_row", "_law_line", "_law_told", "_law_pieces", "_law_k", "_law_part"] ["_law_rows", "_law_places", "_law_at"] (defScope (top 24)) := ⟨rfl, rfl, rfl, by decide +kernel, rfl, by decide +kernel, by decide +kernel⟩
theorem on_step (T : Tx P w K mg) (n : Nat) (G_l_parts : FnOk P w K mg base CX0 1 T.d_l_parts.f T.d_l_parts.fd ["_law_row"] spLParts) (G_l_set : FnOk P w K mg base CX0 1 T.d_l_set.f T.d_l_set.fd ["_law_row", "_law_line", "_law_told"] spSet) (G_l_on : FnOk P w K mg base CX0 (n + 2) T.d_l_on.f T.d_l_on.fd ["_law_rows", "_law_places", "_law_at"] (spOnD n)) : FnOk P w K mg base CX0 (n + 3) T.d_l_on.f T.d_l_on.fd ["_law_rows", "_law_places", "_law_at"] (spOn n) := by
  refine T.d_l_on.F.ok (k := n + 2) sc_l_on (fun vs H Q E h => ?_) (fun cdv A outer s H vs Q E hr h => ?_)
  · obtain ⟨v, pl, k0, N, rfl, _⟩ := h
    rfl
  · obtain ⟨v, pl, k0, N, rfl, hv, hpl, hkN, hN, k⟩ := h
    have hu := hu100 hr
    refine ⟨_, (pss_cons (ps_set (i := 3) sc_l_on.nd rfl (Or.inl rfl) (pe_lst pa_nil))
    (pss_cons (ps_for PassesOwn.never rfl (pi_tup (pv 0)) (pg_name (i := 4) sc_l_on.nd rfl (Or.inl rfl))
    (pss_cons (ps_set (i := 5) sc_l_on.nd rfl (Or.inl rfl) (pe_ix ix_list (pv 1) (pv 2) (fun _ _ => rfl)))
    (pss_cons (ps_set (i := 2) sc_l_on.nd rfl (Or.inl rfl) (pe_op op_add (pv 2) pe_int))
    (pss_cons (ps_set (i := 6) sc_l_on.nd rfl (Or.inl rfl) (pe_lst pa_nil))
    (pss_cons (ps_set (i := 7) sc_l_on.nd rfl (Or.inl rfl) (pe_call G_l_parts (hr.mono (by omega)) rfl T.d_l_parts.hm T.d_l_parts.F.kp T.d_l_parts.b .nil pass0 (pa_cons (pv 4) pa_nil)))
    (pss_cons (ps_for PassesOwn.never rfl (pi_range1 rfl T.n_range (pa_cons (pe_callB call_len (by rfl) T.n_len bt_len (pa_cons (pv 7) pa_nil)) pa_nil)) (pg_name (i := 8) sc_l_on.nd rfl (Or.inl rfl))
    (pss_mid (ps_if (PW.pt (pw_and (pt_cmpR op_gt (pv 8) pe_int (nomark _)) (pw_and1 (PW.pt (pw_or (pt_cmpR op_ne (pe_ix ix_tup (pv 4) pe_int (fun _ _ => rfl)) pe_str (nomark _)) (pw_or1 (pt_cmpR (op_neT hu) (pe_ix ix_list (pv 7) pe_int (fun _ _ => rfl)) (pe_tup pa_nil) (nomark _))))))))
    (pss_one (ps_set (i := 2) sc_l_on.nd rfl (Or.inl rfl) (pe_op op_add (pv 2) pe_int)))
    pss_nil)
    (pss_cons (ps_asg (pe_call G_l_on (hr.mono (by omega)) rfl T.d_l_on.hm T.d_l_on.F.kp T.d_l_on.b .nil pass0 (pa_cons (pe_ix ix_list (pv 7) (pv 8) (fun _ _ => rfl)) (pa_cons (pv 1) (pa_cons (pv 2) pa_nil)))) (pg_tup rfl (pgs_cons (pg_name (i := 9) sc_l_on.nd rfl (Or.inl rfl)) (pgs_cons (pg_name (i := 2) sc_l_on.nd rfl (Or.inl rfl)) pgs_nil))))
    (pss_one (ps_expr (pe_bm PySem.F.plainAttrs_list PySem.F.slot_list_append PySem.F.type_list_append mt_append (pv 6) (pa_cons (pv 9) pa_nil)))))))
    (pss_mid (ps_if (pt_cmpR (op_neL hu) (pv 7) (pe_lst pa_nil) (nomark _))
    (pss_one (ps_set (i := 2) sc_l_on.nd rfl (Or.inl rfl) (pe_op op_add (pv 2) pe_int)))
    pss_nil)
    (pss_one (ps_expr (pe_bm PySem.F.plainAttrs_list PySem.F.slot_list_append PySem.F.type_list_append mt_append (pv 3) (pa_cons (pe_call G_l_set (hr.mono (by omega)) rfl T.d_l_set.hm T.d_l_set.F.kp T.d_l_set.b .nil pass0 (pa_cons (pv 4) (pa_cons (pv 5) (pa_cons (pv 6) pa_nil)))) pa_nil)))))))))))
    (pss_one (ps_ret (pe_tup (pa_cons (pe_callTy call_tuple_of (by rfl) T.n_tuple bt_tuple (pa_cons (pv 3) pa_nil)) (pa_cons (pv 2) pa_nil))))))), ?_⟩
    (simp only [tLst, tTup, tDNewK, _root_.L2.start, cxOf_K, cxComp_K, tSeq, tAsg, gName, tRet, tRetN, tDrop, tIfS, tTest, tB, tNot, tAnd, tOr, tAndV, tOrV, tNotV, tOp, tUn, tVar, tC, tCons, tNil, tStrs, tCB, tCall, tChain, tBM, tBM0, tPart, tNoPart, tSl, tIf, tNext, tTrue, selS, Option.bind_none, Option.bind_some, Option.join_some, if_true, rI, rI0, rU, rEq, rNe, rStarts, rSlS, lenV_str, tyV, List.map_cons, List.map_nil, List.length_cons, List.length_nil, List.replicate, List.cons_append, List.nil_append, List.append_nil, Nat.reduceAdd, Nat.reduceSub, Nat.zero_add, Nat.add_zero, Nat.sub_self, List.getElem?_cons_zero, List.getElem?_cons_succ, List.set_cons_zero, List.set_cons_succ, Option.some.injEq, V.int.injEq, V.str.injEq, V.ref.injEq, V.bl.injEq, V.ty.injEq, List.cons.injEq, exists_eq_left, exists_eq_left', exists_eq_right, exists_and_left, exists_eq, and_true, true_and, and_self, and_assoc, tFld, sFld, tMeth, tMake])
    refine ⟨by decide, fun l0 hl0 => ?_⟩
    obtain ⟨b, E, rfl, hb, hE⟩ := id hv
    have eL : linesF (n + 1) H (.ref b) 0 = E.flatMap fun y => rowLn (linesF n H) H y 0 := by
      show (elems H _).flatMap _ = _
      rw [elems_of hb]
    obtain ⟨F, hF⟩ : ∃ F, F = rowN (numF n H) (fun p => (linesF n H p 0).length) H := ⟨_, rfl⟩
    obtain ⟨len, hlen⟩ : ∃ len : V → Nat, len = fun y => (rowLn (linesF n H) H y 0).length := ⟨_, rfl⟩
    have eN : ∀ k, numF (n + 1) H (.ref b) k = .t (numL F len k E) := fun k => by
      show Tr.t (numL _ _ k (elems H _)) = _
      rw [elems_of hb, hF, hlen]
    have eS : (E.flatMap fun y => rowLn (linesF n H) H y 0).length = (E.map len).sum := by rw [List.length_flatMap, hlen]
    rw [eL, eS] at hkN k
    rw [eN] at k
    have hz : sizeLine = 16777216 := by decide
    have hEl : E.length ≤ (E.map len).sum := by
      rw [← eS]
      exact len_flat (fun x => by unfold rowLn; rw [List.length_cons]; omega) E
    have s0 := Same.upd (o := .lst []) hl0
    refine ⟨_, rfl, b, rfl, ⟨_, SqT.of (s0 _ _ hb)⟩, for_tup (K := K) (a := b) (xs := E) (fun i σ G => ∃ (o4 o5 o6 o7 o8 o9 : Option V) (ys : List V), σ = [some (.ref b), some (.ref pl), some (.int (k0 + ((E.take i).map len).sum : Nat)), some (.ref l0), o4, o5, o6, o7, o8, o9] ∧ G l0 = some (.lst ys) ∧ RepL (2 * n + 1) G ys (numL F len k0 (E.take i)) ∧ Same H G)
      ⟨none, none, none, none, none, none, [], rfl, upd_same, RepL.nil, s0⟩ (fun i σ G _ ⟨_, _, _, _, _, _, _, _, _, _, sg⟩ => SqT.of (sg _ _ hb)) ?_ ?_⟩
    · rintro i y σ G hi ⟨o4, o5, o6, o7, o8, o9, ys, rfl, hG, hR, sG⟩
      (simp only [tLst, tTup, tDNewK, _root_.L2.start, cxOf_K, cxComp_K, tSeq, tAsg, gName, tRet, tRetN, tDrop, tIfS, tTest, tB, tNot, tAnd, tOr, tAndV, tOrV, tNotV, tOp, tUn, tVar, tC, tCons, tNil, tStrs, tCB, tCall, tChain, tBM, tBM0, tPart, tNoPart, tSl, tIf, tNext, tTrue, selS, Option.bind_none, Option.bind_some, Option.join_some, if_true, rI, rI0, rU, rEq, rNe, rStarts, rSlS, lenV_str, tyV, List.map_cons, List.map_nil, List.length_cons, List.length_nil, List.replicate, List.cons_append, List.nil_append, List.append_nil, Nat.reduceAdd, Nat.reduceSub, Nat.zero_add, Nat.add_zero, Nat.sub_self, List.getElem?_cons_zero, List.getElem?_cons_succ, List.set_cons_zero, List.set_cons_succ, Option.some.injEq, V.int.injEq, V.str.injEq, V.ref.injEq, V.bl.injEq, V.ty.injEq, List.cons.injEq, exists_eq_left, exists_eq_left', exists_eq_right, exists_and_left, exists_eq, and_true, true_and, and_self, and_assoc, tFld, sFld, tMeth, tMake])
      have hy := hE y (List.mem_of_getElem? hi)
      cases n with
      | zero => exact hy.elim
      | succ m =>
        have hyl : len y = (rowLn (linesF (m + 1) H) H y 0).length := by rw [hlen]
        have tkS : ((E.take (i + 1)).map len).sum = ((E.take i).map len).sum + len y := by
          rw [take_snoc' hi, List.map_append, List.sum_append]
          rfl
        have hleN : ((E.take (i + 1)).map len).sum ≤ (E.map len).sum := by
          have e : E.map len = (E.take (i + 1)).map len ++ (E.drop (i + 1)).map len := by rw [← List.map_append, List.take_append_drop]
          rw [e, List.sum_append]
          omega
        obtain ⟨a, z, ln, r, I⟩ := hy.ri
        obtain ⟨f, hf⟩ : ∃ f : V → List Ln, f = fun p => linesF (m + 1) H p 1 := ⟨_, rfl⟩
        obtain ⟨tn, htn⟩ : ∃ tn : List Ln, tn = (turnF H y).map fun ws => (0, ws) := ⟨_, rfl⟩
        have htl : (turnF H y).length = tn.length := by rw [htn, List.length_map]
        obtain ⟨parts, hparts⟩ : ∃ parts, parts = partsF H y := ⟨_, rfl⟩
        have eRow : rowLn (linesF (m + 1) H) H y 0 = (0, rowWords H y) :: lnsL f tn [(0, ["end"])] false parts := by
          rw [hparts, hy.parts_eq, lnsL_filter, htn, hf]
          rfl
        obtain ⟨K1, hK1⟩ : ∃ K1 : Nat, K1 = k0 + ((E.take i).map len).sum := ⟨_, rfl⟩
        have hrl : len y = 1 + (lnsL f tn [(0, ["end"])] false parts).length := by rw [hyl, eRow, List.length_cons]; omega
        rw [tkS, ← Nat.add_assoc, ← hK1, take_snoc' hi, numL_snoc, ← hK1]
        have hpr : ∀ p ∈ parts, ∃ b, p = .ref b ∧ RowsOk m H (.ref b) := fun p hp => by
          rw [hparts] at hp
          obtain ⟨b, _, e, _⟩ := id (hy.parts_ok p hp)
          rw [e]
          exact ⟨b, rfl, by rw [← e]; exact hy.parts_ok p hp⟩
        have hpl2 : parts.length ≤ 2 ∧ (parts.length = 2 → twoW z) := by
          rw [hparts, hy.parts_eq, I.zr]
          rcases I.sh with P | ⟨th, fa, bs, B⟩
          · rw [List.filter_eq_nil_iff.mpr fun x hx => by rw [(P.tv x hx).notR]; exact Bool.false_ne_true]
            exact ⟨by decide, fun h => by cases h⟩
          · show (r.filter isR).length ≤ 2 ∧ ((r.filter isR).length = 2 → twoW z)
            rw [parts_isR B, List.length_map]
            by_cases h2 : twoW z
            · exact ⟨Nat.le_of_eq (B.two h2), fun _ => h2⟩
            · have := B.one h2
              exact ⟨by omega, fun h => by omega⟩
        obtain ⟨num, hnum⟩ : ∃ num, num = numF (m + 1) H := ⟨_, rfl⟩
        obtain ⟨len', hlen'⟩ : ∃ len' : V → Nat, len' = fun p => (linesF (m + 1) H p 0).length := ⟨_, rfl⟩
        have hfl : ∀ x, (f x).length = len' x := fun x => by rw [hf, hlen']; exact linesF_len _ _ _ _ _
        refine plcs_at (sG _ _ hpl) (by omega) ⟨by decide, fun tp htp => ?_⟩
        have s1 := Same.upd (o := .lst []) htp
        have htpH := sG.free htp
        refine ⟨y, m + 1, rfl, hy.same (sG.trans s1), fun pa G3 hpa h3 s3 => ?_⟩
        rw [hy.parts_same (sG.trans s1), ← hparts] at h3
        have ntp : l0 ≠ tp := ne_of_none hG htp
        have npa : tp ≠ pa := ne_of_none upd_same hpa
        refine ⟨_, rfl, _, rfl, parts.length, lenV_ref.mpr (.inl ⟨_, SqL.of h3, rfl⟩), _, rfl, by omega, by omega, for_range (lo := 0) (n := ((parts.length : Nat) : Int).toNat) (fun j σ G => ∃ (o8 o9 : Option V) (c : Nat) (us : List V) (done : List Tr), σ = [some (.ref b), some (.ref pl), some (.int (c : Nat)), some (.ref l0), some y, some (.int (K1 + 1 : Nat)), some (.ref tp), some (.ref pa), o8, o9] ∧ G tp = some (.lst us) ∧ us.length = j ∧ RepL (2 * m + 2) G us done ∧ done ++ fldN num len' tn.length (decide (0 < j)) c (parts.drop j) = fldN num len' tn.length false (K1 + 1) parts ∧ c + (lnsL f tn [(0, ["end"])] (decide (0 < j)) (parts.drop j)).length = K1 + len y ∧ G l0 = some (.lst ys) ∧ G pa = some (.lst parts) ∧ RepL (2 * (m + 1) + 1) G ys (numL F len k0 (E.take i)) ∧ Same H G)
          ⟨o8, o9, K1 + 1, [], [], rfl, s3 _ _ upd_same, rfl, RepL.nil, rfl, by rw [hrl]; show K1 + 1 + (lnsL f tn [(0, ["end"])] false parts).length = _; omega, (s1.trans s3) _ _ hG, h3, hR.sameT (sameT_of (s1.trans s3)), (sG.trans s1).trans s3⟩ ?_ ?_⟩
        · rintro j σ G4 hj ⟨o84, o94, c, us, done, rfl, hu4, hul, hR4, eD, eC, hG4, h4, hY, s4⟩
          rw [Int.toNat_natCast] at hj
          obtain ⟨x, hx⟩ : ∃ x, parts[j]? = some x := ⟨_, List.getElem?_eq_getElem hj⟩
          obtain ⟨xb, rfl, hrows⟩ := hpr x (List.mem_of_getElem? hx)
          have hdr : parts.drop j = .ref xb :: parts.drop (j + 1) := by
            have := List.getElem?_eq_some_iff.mp hx
            rw [← this.2]
            exact List.drop_eq_getElem_cons hj
          rw [hdr, lnsL_ref, List.length_append, List.length_append, hfl] at eC
          rw [hdr] at eD
          have eD' : fldN num len' tn.length (decide (0 < j)) c (.ref xb :: parts.drop (j + 1)) = num (.ref xb) (c + (if decide (0 < j) then tn else []).length) :: fldN num len' tn.length true (c + (if decide (0 < j) then tn else []).length + len' (.ref xb)) (parts.drop (j + 1)) := by
            show (if isR (V.ref xb) then _ else _) = _
            rw [if_pos (show isR (V.ref xb) = true from rfl)]
            by_cases hj0 : 0 < j
            · rw [decide_eq_true hj0]; rfl
            · rw [decide_eq_false hj0]; rfl
          rw [eD'] at eD
          (simp only [tLst, tTup, tDNewK, _root_.L2.start, cxOf_K, cxComp_K, tSeq, tAsg, gName, tRet, tRetN, tDrop, tIfS, tTest, tB, tNot, tAnd, tOr, tAndV, tOrV, tNotV, tOp, tUn, tVar, tC, tCons, tNil, tStrs, tCB, tCall, tChain, tBM, tBM0, tPart, tNoPart, tSl, tIf, tNext, tTrue, selS, Option.bind_none, Option.bind_some, Option.join_some, if_true, rI, rI0, rU, rEq, rNe, rStarts, rSlS, lenV_str, tyV, List.map_cons, List.map_nil, List.length_cons, List.length_nil, List.replicate, List.cons_append, List.nil_append, List.append_nil, Nat.reduceAdd, Nat.reduceSub, Nat.zero_add, Nat.add_zero, Nat.sub_self, List.getElem?_cons_zero, List.getElem?_cons_succ, List.set_cons_zero, List.set_cons_succ, Option.some.injEq, V.int.injEq, V.str.injEq, V.ref.injEq, V.bl.injEq, V.ty.injEq, List.cons.injEq, exists_eq_left, exists_eq_left', exists_eq_right, exists_and_left, exists_eq, and_true, true_and, and_self, and_assoc, tFld, sFld, tMeth, tMake])
          refine ⟨fun σ' G' => σ' = [some (.ref b), some (.ref pl), some (.int ((c + (if decide (0 < j) then tn else []).length : Nat) : Int)), some (.ref l0), some y, some (.int (K1 + 1 : Nat)), some (.ref tp), some (.ref pa), some (.int (0 + j)), o94] ∧ Same G4 G', ?_, ?_⟩
          · (simp only [tLst, tTup, tDNewK, _root_.L2.start, cxOf_K, cxComp_K, tSeq, tAsg, gName, tRet, tRetN, tDrop, tIfS, tTest, tB, tNot, tAnd, tOr, tAndV, tOrV, tNotV, tOp, tUn, tVar, tC, tCons, tNil, tStrs, tCB, tCall, tChain, tBM, tBM0, tPart, tNoPart, tSl, tIf, tNext, tTrue, selS, Option.bind_none, Option.bind_some, Option.join_some, if_true, rI, rI0, rU, rEq, rNe, rStarts, rSlS, lenV_str, tyV, List.map_cons, List.map_nil, List.length_cons, List.length_nil, List.replicate, List.cons_append, List.nil_append, List.append_nil, Nat.reduceAdd, Nat.reduceSub, Nat.zero_add, Nat.add_zero, Nat.sub_self, List.getElem?_cons_zero, List.getElem?_cons_succ, List.set_cons_zero, List.set_cons_succ, Option.some.injEq, V.int.injEq, V.str.injEq, V.ref.injEq, V.bl.injEq, V.ty.injEq, List.cons.injEq, exists_eq_left, exists_eq_left', exists_eq_right, exists_and_left, exists_eq, and_true, true_and, and_self, and_assoc, tFld, sFld, tMeth, tMake])
            by_cases hj0 : j = 0
            · subst hj0
              exact ifF (by omega) ⟨rfl, Same.refl _⟩
            have hj1 : j = 1 := by omega
            subst hj1
            have h2 := hpl2.2 (by omega)
            rw [show (if decide (0 < 1) = true then tn else []) = tn from rfl]
            obtain ⟨th, fa, bs, B⟩ : ∃ th fa bs, BlkSh z r th fa bs := by
              rcases I.sh with P | B
              · exfalso
                have := P.p
                rcases h2 with rfl | rfl | rfl <;> exact absurd this (by decide +kernel)
              · exact B
            have eT : turnF H y = (if z = "try" then [[("but" : Str), txt (r.getD 1 .non)]] else if z = "do" then [["last"]] else if elems H (r.getD 2 .non) = [] then [] else [["late"]]) := by
              unfold turnF
              rw [I.zr]
            refine ifT (by omega) (I.ix 0 (.str z) rfl s4 ⟨rfl, ?_⟩)
            by_cases hl : z = "limit"
            · refine ifNF (by rw [hl]) ⟨pa, _, _, .ref xb, rfl, rfl, SqL.of h4, atI_nat (j := 1) hx, ?_⟩
              obtain ⟨_, zs, e, hb1, _⟩ := id hrows
              cases e
              have hd1 : z ≠ "try" := by rw [hl]; decide +kernel
              have hd2 : z ≠ "do" := by rw [hl]; decide +kernel
              have hxr : r.getD 2 .non = .ref xb := by
                obtain ⟨c0, c1, rfl⟩ := len2 (B.two h2)
                obtain ⟨y0, rfl⟩ := len1 (B.tl.trans (show thLen z = 1 by rw [hl]; decide +kernel))
                have ep : parts = [.ref c0, .ref c1] := by rw [hparts, hy.parts_eq, I.zr]; exact parts_isR B
                rw [ep] at hx
                cases hx
                rw [B.e, if_neg hd1]
                rfl
              rw [if_neg hd1, if_neg hd2, hxr, elems_of hb1] at eT
              refine neNilT (s4 _ _ hb1) fun G5 s5 => ⟨_, rfl, ?_⟩
              by_cases e : zs = []
              · rw [if_pos e] at eT
                rw [htn, eT]
                exact ifNF e ⟨rfl, s5⟩
              · rw [if_neg e] at eT
                rw [htn, eT]
                exact ifNT e ⟨rfl, s5⟩
            · have hT : tn.length = 1 := by
                rw [← htl, eT]
                by_cases h1 : z = "try"
                · rw [if_pos h1]; rfl
                · rw [if_neg h1]
                  have h3 : z = "do" := by
                    rcases h2 with h | h | h
                    · exact absurd h h1
                    · exact h
                    · exact absurd h hl
                  rw [if_pos h3]; rfl
              rw [hT]
              exact ifNT (fun e => hl (V.str.inj e)) ⟨rfl, Same.refl _⟩
          · rintro σ' G5 ⟨rfl, s5⟩
            (simp only [tLst, tTup, tDNewK, _root_.L2.start, cxOf_K, cxComp_K, tSeq, tAsg, gName, tRet, tRetN, tDrop, tIfS, tTest, tB, tNot, tAnd, tOr, tAndV, tOrV, tNotV, tOp, tUn, tVar, tC, tCons, tNil, tStrs, tCB, tCall, tChain, tBM, tBM0, tPart, tNoPart, tSl, tIf, tNext, tTrue, selS, Option.bind_none, Option.bind_some, Option.join_some, if_true, rI, rI0, rU, rEq, rNe, rStarts, rSlS, lenV_str, tyV, List.map_cons, List.map_nil, List.length_cons, List.length_nil, List.replicate, List.cons_append, List.nil_append, List.append_nil, Nat.reduceAdd, Nat.reduceSub, Nat.zero_add, Nat.add_zero, Nat.sub_self, List.getElem?_cons_zero, List.getElem?_cons_succ, List.set_cons_zero, List.set_cons_succ, Option.some.injEq, V.int.injEq, V.str.injEq, V.ref.injEq, V.bl.injEq, V.ty.injEq, List.cons.injEq, exists_eq_left, exists_eq_left', exists_eq_right, exists_and_left, exists_eq, and_true, true_and, and_self, and_assoc, tFld, sFld, tMeth, tMake])
            have s45 := s4.trans s5
            have el : linesF (m + 1) G5 (.ref xb) 0 = linesF (m + 1) H (.ref xb) 0 := lines_sameT (sameT_of s45) hrows 0
            have el' : len' (.ref xb) = (linesF (m + 1) H (.ref xb) 0).length := by rw [hlen']
            refine ⟨pa, _, _, .ref xb, rfl, rfl, SqL.of (s5 _ _ h4), by rw [show (0 : Int) + (j : Int) = ((j : Nat) : Int) by omega]; exact atI_nat hx, .ref xb, pl, _, N, rfl, hrows.same s45, s45 _ _ hpl, by rw [el]; omega, hN, fun p v' G6 s6 h6 r6 => ⟨p, _, rfl, SqT.of h6, rfl, ?_⟩⟩
            rw [el, ← el'] at h6
            rw [num_sameT (sameT_of s45) hrows, ← hnum] at r6
            rw [el, ← el']
            simp only [gCons, gNil]
            (simp only [tLst, tTup, tDNewK, _root_.L2.start, cxOf_K, cxComp_K, tSeq, tAsg, gName, tRet, tRetN, tDrop, tIfS, tTest, tB, tNot, tAnd, tOr, tAndV, tOrV, tNotV, tOp, tUn, tVar, tC, tCons, tNil, tStrs, tCB, tCall, tChain, tBM, tBM0, tPart, tNoPart, tSl, tIf, tNext, tTrue, selS, Option.bind_none, Option.bind_some, Option.join_some, if_true, rI, rI0, rU, rEq, rNe, rStarts, rSlS, lenV_str, tyV, List.map_cons, List.map_nil, List.length_cons, List.length_nil, List.replicate, List.cons_append, List.nil_append, List.append_nil, Nat.reduceAdd, Nat.reduceSub, Nat.zero_add, Nat.add_zero, Nat.sub_self, List.getElem?_cons_zero, List.getElem?_cons_succ, List.set_cons_zero, List.set_cons_succ, Option.some.injEq, V.int.injEq, V.str.injEq, V.ref.injEq, V.bl.injEq, V.ty.injEq, List.cons.injEq, exists_eq_left, exists_eq_left', exists_eq_right, exists_and_left, exists_eq, and_true, true_and, and_self, and_assoc, tFld, sFld, tMeth, tMake])
            have hu6 := (s5.trans s6) _ _ hu4
            have sT6 : SameT G6 (upd G6 tp (.lst (us ++ [v']))) := sameT_upd hu6
            refine ⟨.inl ⟨_, SqL.of hu6⟩, tp, us, v', rfl, rfl, hu6, by omega, _, _, c + (if decide (0 < j) then tn else []).length + len' (.ref xb), rfl, rfl, rfl, us ++ [v'], upd_same, by rw [List.length_append, hul]; rfl, done ++ [num (.ref xb) (c + (if decide (0 < j) then tn else []).length)], ?_, ?_, ?_, ?_, ?_, (hY.sameT (sameT_of (s5.trans s6))).sameT sT6, ?_⟩
            · exact ((hR4.sameT (sameT_of (s5.trans s6))).app (RepL.cons r6 RepL.nil)).sameT sT6
            · rw [List.append_assoc, show decide (0 < j + 1) = true from decide_eq_true (by omega)]
              exact eD
            · rw [show decide (0 < j + 1) = true from decide_eq_true (by omega)]
              omega
            · rw [upd_ne ntp]; exact (s5.trans s6) _ _ hG4
            · rw [upd_ne (Ne.symm npa)]; exact (s5.trans s6) _ _ h4
            · exact fun c o h => by rw [upd_ne (ne_of_none h htpH)]; exact (s45.trans s6) _ _ h
        · rintro σ G4 ⟨o84, o94, c, us, done, rfl, hu4, hul, hR4, eD, eC, hG4, h4, hY, s4⟩
          rw [Int.toNat_natCast] at hul eD eC
          rw [List.drop_length] at eD eC
          refine ⟨fun σ' G' => σ' = [some (.ref b), some (.ref pl), some (.int (K1 + len y : Nat)), some (.ref l0), some y, some (.int (K1 + 1 : Nat)), some (.ref tp), some (.ref pa), o84, o94] ∧ Same G4 G', ?_, ?_⟩
          · (simp only [tLst, tTup, tDNewK, _root_.L2.start, cxOf_K, cxComp_K, tSeq, tAsg, gName, tRet, tRetN, tDrop, tIfS, tTest, tB, tNot, tAnd, tOr, tAndV, tOrV, tNotV, tOp, tUn, tVar, tC, tCons, tNil, tStrs, tCB, tCall, tChain, tBM, tBM0, tPart, tNoPart, tSl, tIf, tNext, tTrue, selS, Option.bind_none, Option.bind_some, Option.join_some, if_true, rI, rI0, rU, rEq, rNe, rStarts, rSlS, lenV_str, tyV, List.map_cons, List.map_nil, List.length_cons, List.length_nil, List.replicate, List.cons_append, List.nil_append, List.append_nil, Nat.reduceAdd, Nat.reduceSub, Nat.zero_add, Nat.add_zero, Nat.sub_self, List.getElem?_cons_zero, List.getElem?_cons_succ, List.set_cons_zero, List.set_cons_succ, Option.some.injEq, V.int.injEq, V.str.injEq, V.ref.injEq, V.bl.injEq, V.ty.injEq, List.cons.injEq, exists_eq_left, exists_eq_left', exists_eq_right, exists_and_left, exists_eq, and_true, true_and, and_self, and_assoc, tFld, sFld, tMeth, tMake])
            refine neNilL h4 fun G5 s5 => ⟨_, rfl, ?_⟩
            by_cases e : parts = []
            · refine ifNF e ⟨?_, s5⟩
              rw [e] at eC
              have : c + 0 = K1 + len y := eC
              rw [← this]
              rfl
            · refine ifNT e ⟨?_, s5⟩
              rw [decide_eq_true (List.length_pos_iff.mpr e)] at eC
              have : c + 1 = K1 + len y := eC
              rw [← this]
              rfl
          · rintro σ' G5 ⟨rfl, s5⟩
            (simp only [tLst, tTup, tDNewK, _root_.L2.start, cxOf_K, cxComp_K, tSeq, tAsg, gName, tRet, tRetN, tDrop, tIfS, tTest, tB, tNot, tAnd, tOr, tAndV, tOrV, tNotV, tOp, tUn, tVar, tC, tCons, tNil, tStrs, tCB, tCall, tChain, tBM, tBM0, tPart, tNoPart, tSl, tIf, tNext, tTrue, selS, Option.bind_none, Option.bind_some, Option.join_some, if_true, rI, rI0, rU, rEq, rNe, rStarts, rSlS, lenV_str, tyV, List.map_cons, List.map_nil, List.length_cons, List.length_nil, List.replicate, List.cons_append, List.nil_append, List.append_nil, Nat.reduceAdd, Nat.reduceSub, Nat.zero_add, Nat.add_zero, Nat.sub_self, List.getElem?_cons_zero, List.getElem?_cons_succ, List.set_cons_zero, List.set_cons_succ, Option.some.injEq, V.int.injEq, V.str.injEq, V.ref.injEq, V.bl.injEq, V.ty.injEq, List.cons.injEq, exists_eq_left, exists_eq_left', exists_eq_right, exists_and_left, exists_eq, and_true, true_and, and_self, and_assoc, tFld, sFld, tMeth, tMake])
            have s45 := s4.trans s5
            have hG5 := s5 _ _ hG4
            have hysl := hR.1
            rw [numL_len, List.length_take] at hysl
            rw [show fldN num len' tn.length (decide (0 < parts.length)) c [] = [] from rfl, List.append_nil] at eD
            refine ⟨.inl ⟨_, SqL.of hG5⟩, y, m, K1, tp, us, num, len', rfl, hy.same s45, s5 _ _ hu4, ?_, fun v' G6 s6 r6 => ?_⟩
            · rw [hy.turn_same (sameT_of s45), hy.parts_same s45, ← hparts, htl, ← eD]
              exact hR4.sameT (sameT_of s5)
            · have hG6 := s6 _ _ hG5
              have eF : rowN num len' G5 y K1 = F y K1 := by
                rw [hF, ← hnum, ← hlen']
                exact rowN_same hy (sameT_of s45) K1 fun p _ => ⟨rfl, fun _ => rfl⟩
              rw [eF] at r6
              have sT6 : SameT G6 (upd G6 l0 (.lst (ys ++ [v']))) := sameT_upd hG6
              refine ⟨l0, ys, v', rfl, rfl, hG6, by omega, ys ++ [v'], upd_same, ?_, fun c o h => by rw [upd_ne (ne_of_none h hl0)]; exact (s45.trans s6) _ _ h⟩
              exact ((hY.sameT (sameT_of (s5.trans s6))).app (RepL.cons r6 RepL.nil)).sameT sT6
    · rintro σ G ⟨o4, o5, o6, o7, o8, o9, ys, rfl, hG, hR, sG⟩
      rw [List.take_length] at hR
      rw [List.take_length]
      (simp only [tLst, tTup, tDNewK, _root_.L2.start, cxOf_K, cxComp_K, tSeq, tAsg, gName, tRet, tRetN, tDrop, tIfS, tTest, tB, tNot, tAnd, tOr, tAndV, tOrV, tNotV, tOp, tUn, tVar, tC, tCons, tNil, tStrs, tCB, tCall, tChain, tBM, tBM0, tPart, tNoPart, tSl, tIf, tNext, tTrue, selS, Option.bind_none, Option.bind_some, Option.join_some, if_true, rI, rI0, rU, rEq, rNe, rStarts, rSlS, lenV_str, tyV, List.map_cons, List.map_nil, List.length_cons, List.length_nil, List.replicate, List.cons_append, List.nil_append, List.append_nil, Nat.reduceAdd, Nat.reduceSub, Nat.zero_add, Nat.add_zero, Nat.sub_self, List.getElem?_cons_zero, List.getElem?_cons_succ, List.set_cons_zero, List.set_cons_succ, Option.some.injEq, V.int.injEq, V.str.injEq, V.ref.injEq, V.bl.injEq, V.ty.injEq, List.cons.injEq, exists_eq_left, exists_eq_left', exists_eq_right, exists_and_left, exists_eq, and_true, true_and, and_self, and_assoc, tFld, sFld, tMeth, tMake])
      refine ⟨ys, .inl ⟨SqL.of hG, fun l hl => ⟨by decide, fun p hp => ?_⟩⟩⟩
      have s1 := Same.upd (o := .tup ys) hl
      have s2 := Same.upd (o := .tup [.ref l, .int ((k0 + (E.map len).sum : Nat) : Int)]) hp
      have hyl := hR.1
      rw [numL_len] at hyl
      exact k p (.ref l) _ ((sG.trans s1).trans s2) upd_same ((hR.sameT (sameT_of (s1.trans s2))).t (s2 _ _ upd_same) (by omega))
theorem ok_l_on (T : Tx P w K mg) (G_l_parts : FnOk P w K mg base CX0 1 T.d_l_parts.f T.d_l_parts.fd ["_law_row"] spLParts) (G_l_set : FnOk P w K mg base CX0 1 T.d_l_set.f T.d_l_set.fd ["_law_row", "_law_line", "_law_told"] spSet) : ∀ n : Nat, FnOk P w K mg base CX0 (n + 3) T.d_l_on.f T.d_l_on.fd ["_law_rows", "_law_places", "_law_at"] (spOn n)
  | 0 => on_step T 0 G_l_parts G_l_set fn_no
  | n + 1 => on_step T (n + 1) G_l_parts G_l_set (ok_l_on T G_l_parts G_l_set n)
theorem sc_l_alike : FnScope ["_law_found", "_law_due"] ["_law_found", "_law_due"] (defScope (top 27)) := ⟨rfl, rfl, rfl, by decide +kernel, rfl, by decide +kernel, by decide +kernel⟩
theorem alike_step (T : Tx P w K mg) (m : Nat) (G_l_alike : FnOk P w K mg base CX0 (m + 1) T.d_l_alike.f T.d_l_alike.fd ["_law_found", "_law_due"] (spAlikeD m)) : FnOk P w K mg base CX0 (m + 2) T.d_l_alike.f T.d_l_alike.fd ["_law_found", "_law_due"] (spAlike m) := by
  refine T.d_l_alike.F.ok (k := m + 1) sc_l_alike (fun vs H Q E h => ?_) (fun cdv A outer s H vs Q E hr h => ?_)
  · obtain ⟨a, b, t, rfl, _⟩ := h
    rfl
  · obtain ⟨a, b, t, rfl, ha, hb, k⟩ := h
    have hu := hu100 hr
    refine ⟨_, (pss_cons (ps_if (pt_val (pe_callB call_isinst (by rfl) T.n_isinstance bt_isinstance (pa_cons (pv 1) (pa_cons (pe_bltn (v := .ty "tuple") rfl T.n_tuple bt_tuple rfl) pa_nil))))
    (pss_cons (ps_if (PW.pt (pw_or (pt_not (pt_val (pe_callB call_isinst (by rfl) T.n_isinstance bt_isinstance (pa_cons (pv 0) (pa_cons (pe_bltn (v := .ty "tuple") rfl T.n_tuple bt_tuple rfl) pa_nil))))) (pw_or1 (pt_cmpR op_ne (pe_callB call_len (by rfl) T.n_len bt_len (pa_cons (pv 0) pa_nil)) (pe_callB call_len (by rfl) T.n_len bt_len (pa_cons (pv 1) pa_nil)) (nomark _)))))
    (pss_one (ps_ret pe_bl))
    pss_nil)
    (pss_one (ps_ret (pe_cmpR (op_eqL hu) (pe_lc (N' := ["_law_k", "_law_found", "_law_due"]) (sel := [none, some 0, some 1]) rfl rfl rfl (pi_range1 rfl T.n_range (pa_cons (pe_callB call_len (by rfl) T.n_len bt_len (pa_cons (pv 1) pa_nil)) pa_nil)) (gk_name rfl) (fun _ _ _ _ _ => ⟨(pg_name (i := 0) (show (["_law_k", "_law_found", "_law_due"] : List Str).Nodup by decide +kernel) rfl (Or.inl rfl)), (pts_one (pt_not (pt_val (pe_call G_l_alike (hr.mono (by omega)) rfl T.d_l_alike.hm T.d_l_alike.F.kp T.d_l_alike.b .nil pass0 (pa_cons (pe_ix (ix_tupK (K := K) rfl) (pv 1) (pv 0) (fun _ _ => rfl)) (pa_cons (pe_ix (ix_tupK (K := K) rfl) (pv 2) (pv 0) (fun _ _ => rfl)) pa_nil)))))), (pv 0)⟩)) (pe_lst pa_nil) (nomark _)))))
    pss_nil)
    (pss_cons (ps_if (pt_val (pe_callB call_isinst (by rfl) T.n_isinstance bt_isinstance (pa_cons (pv 1) (pa_cons (pe_bltn (v := .ty "str") rfl T.n_str bt_str rfl) pa_nil))))
    (pss_one (ps_ret (pe_and (pe_callB call_isinst (by rfl) T.n_isinstance bt_isinstance (pa_cons (pv 0) (pa_cons (pe_bltn (v := .ty "str") rfl T.n_str bt_str rfl) pa_nil))) (pe_one (pe_cmpR op_eq (pv 0) (pv 1) (nomark _))))))
    pss_nil)
    (pss_one (ps_ret (pe_and (pe_callB call_isinst (by rfl) T.n_isinstance bt_isinstance (pa_cons (pv 0) (pa_cons (pe_bltn (v := .ty "int") rfl T.n_int bt_int rfl) pa_nil))) (pe_and (pe_not (pe_callB call_isinst (by rfl) T.n_isinstance bt_isinstance (pa_cons (pv 0) (pa_cons (pe_bltn (v := .ty "bool") rfl T.n_bool bt_bool rfl) pa_nil)))) (pe_one (pe_cmpR op_eq (pv 0) (pv 1) (nomark _))))))))), ?_⟩
    (simp only [tLst, tTup, tDNewK, tLc, iList, iStr, iTup, _root_.L2.start, cxOf_K, cxComp_K, tSeq, tAsg, gName, tRet, tRetN, tDrop, tIfS, tTest, tB, tNot, tAnd, tOr, tAndV, tOrV, tNotV, tOp, tUn, tVar, tC, tCons, tNil, tStrs, tCB, tCall, tChain, tBM, tBM0, tPart, tNoPart, tSl, tIf, tNext, tTrue, selS, Option.bind_none, Option.bind_some, Option.join_some, if_true, rI, rI0, rU, rEq, rNe, rStarts, rSlS, lenV_str, tyV, List.map_cons, List.map_nil, List.length_cons, List.length_nil, List.replicate, List.cons_append, List.nil_append, List.append_nil, Nat.reduceAdd, Nat.reduceSub, Nat.zero_add, Nat.add_zero, Nat.sub_self, List.getElem?_cons_zero, List.getElem?_cons_succ, List.set_cons_zero, List.set_cons_succ, Option.some.injEq, V.int.injEq, V.str.injEq, V.ref.injEq, V.bl.injEq, V.ty.injEq, List.cons.injEq, exists_eq_left, exists_eq_left', exists_eq_right, exists_and_left, exists_eq, and_true, true_and, and_self, and_assoc, tFld, sFld, tMeth, tMake])
    cases t with
    | i n =>
      obtain rfl : a = .int n := by cases m <;> exact ha
      obtain rfl : b = .int n := by cases m <;> exact hb
      exact ⟨_, .int n, false, rfl, iteF (by decide) ⟨_, .int n, false, rfl, iteF (by decide) ⟨_, .int n, true, rfl, iteT rfl ⟨_, .int n, false, rfl, iteT rfl ⟨rfl, by rw [decide_eq_true rfl]; exact k H (Same.refl H)⟩⟩⟩⟩⟩
    | s z =>
      obtain rfl : a = .str z := by cases m <;> exact ha
      obtain rfl : b = .str z := by cases m <;> exact hb
      exact ⟨_, .str z, false, rfl, iteF (by decide) ⟨_, .str z, true, rfl, iteT rfl ⟨_, .str z, true, rfl, iteT rfl ⟨rfl, by rw [decide_eq_true rfl]; exact k H (Same.refl H)⟩⟩⟩⟩
    | t ts =>
      cases m with
      | zero => exact ha.elim
      | succ m =>
        obtain ⟨a', xs, rfl, hxa, hxl, hts, hx⟩ := ha
        obtain ⟨b', ys, rfl, hyb, hyl, _, hy⟩ := hb
        have hz : sizeLine = 16777216 := by decide
        refine ⟨_, .tup hyb, true, rfl, iteT rfl ⟨_, .tup hxa, true, rfl, iteF (by decide) ⟨xs.length, lenV_ref.mpr (.inr ⟨_, SqT.of hxa, rfl⟩), ys.length, lenV_ref.mpr (.inr ⟨_, SqT.of hyb, rfl⟩), rfl, ifNF (by omega) ?_⟩⟩⟩
        refine ⟨_, rfl, _, rfl, ys.length, lenV_ref.mpr (.inr ⟨_, SqT.of hyb, rfl⟩), _, rfl, by omega, by omega, lc_range (lo := 0) (n := ((ys.length : Nat) : Int).toNat) (fun i zs G => zs = [] ∧ Same H G) ⟨rfl, Same.refl H⟩ ?_ ?_ ?_ ?_⟩
        · rintro i zs G hi ⟨rfl, _⟩
          exact Nat.zero_le _
        · omega
        · rintro i zs G hi ⟨rfl, sG⟩
          rw [Int.toNat_natCast] at hi
          (simp only [tLst, tTup, tDNewK, tLc, iList, iStr, iTup, _root_.L2.start, cxOf_K, cxComp_K, tSeq, tAsg, gName, tRet, tRetN, tDrop, tIfS, tTest, tB, tNot, tAnd, tOr, tAndV, tOrV, tNotV, tOp, tUn, tVar, tC, tCons, tNil, tStrs, tCB, tCall, tChain, tBM, tBM0, tPart, tNoPart, tSl, tIf, tNext, tTrue, selS, Option.bind_none, Option.bind_some, Option.join_some, if_true, rI, rI0, rU, rEq, rNe, rStarts, rSlS, lenV_str, tyV, List.map_cons, List.map_nil, List.length_cons, List.length_nil, List.replicate, List.cons_append, List.nil_append, List.append_nil, Nat.reduceAdd, Nat.reduceSub, Nat.zero_add, Nat.add_zero, Nat.sub_self, List.getElem?_cons_zero, List.getElem?_cons_succ, List.set_cons_zero, List.set_cons_succ, Option.some.injEq, V.int.injEq, V.str.injEq, V.ref.injEq, V.bl.injEq, V.ty.injEq, List.cons.injEq, exists_eq_left, exists_eq_left', exists_eq_right, exists_and_left, exists_eq, and_true, true_and, and_self, and_assoc, tFld, sFld, tMeth, tMake])
          have g1 : xs[i]? = some (xs[i]'(by omega)) := List.getElem?_eq_getElem _
          have g2 : ys[i]? = some (ys[i]'hi) := List.getElem?_eq_getElem _
          have g3 : ts[i]? = some (ts[i]'(by omega)) := List.getElem?_eq_getElem _
          have ei : (0 : Int) + (i : Int) = ((i : Nat) : Int) := by omega
          rw [ei]
          refine ⟨a', _, _, _, rfl, rfl, SqT.of (sG _ _ hxa), atI_nat g1, b', _, _, _, rfl, rfl, SqT.of (sG _ _ hyb), atI_nat g2, _, _, ts[i]'(by omega), rfl, (hx i _ _ g1 g3).sameT (sameT_of sG), (hy i _ _ g2 g3).sameT (sameT_of sG), fun H' s' => ⟨true, rfl, iteF (by decide) (sG.trans s')⟩⟩
        · rintro zs G ⟨rfl, sG⟩ D hD
          have s1 := Same.upd (o := .lst []) hD
          refine eqNilL (K := K) (G := upd G D (.lst [])) upd_same fun G' s' => ?_
          rw [decide_eq_true rfl]
          exact k G' ((sG.trans s1).trans s')
theorem ok_l_alike (T : Tx P w K mg) : ∀ m : Nat, FnOk P w K mg base CX0 (m + 2) T.d_l_alike.f T.d_l_alike.fd ["_law_found", "_law_due"] (spAlike m)
  | 0 => alike_step T 0 fn_no
  | m + 1 => alike_step T (m + 1) (ok_l_alike T m)

theorem sc_l_numbered : FnScope ["_law_program_here", "_law_lines_here"] ["_law_program_here"] (defScope (top 26)) := ⟨rfl, rfl, rfl, by decide +kernel, rfl, by decide +kernel, by decide +kernel⟩
theorem ok_l_numbered (T : Tx P w K mg)
    (G_l_lines : FnOk P w K mg base CX0 26 T.d_l_lines.f T.d_l_lines.fd ["_law_rows", "_law_deep"] (spLines 23))
    (G_l_on : FnOk P w K mg base CX0 26 T.d_l_on.f T.d_l_on.fd ["_law_rows", "_law_places", "_law_at"] (spOn 23)) : FnOk P w K mg base CX0 27 T.d_l_numbered.f T.d_l_numbered.fd ["_law_program_here"] (spNumbered) := by
  refine T.d_l_numbered.F.ok sc_l_numbered (fun vs H Q E h => ?_) (fun cdv A outer s H vs Q E hr h => ?_)
  · obtain ⟨v, rfl, _⟩ := h
    rfl
  · obtain ⟨v, rfl, hv, hll, k⟩ := h
    refine ⟨_, (pss_cons (ps_set (i := 1) sc_l_numbered.nd rfl (Or.inl rfl) (pe_call G_l_lines (hr.mono (by omega)) rfl T.d_l_lines.hm T.d_l_lines.F.kp T.d_l_lines.b .nil pass0 (pa_cons (pv 0) (pa_cons pe_int pa_nil))))
    (pss_one (ps_ret (pe_ix ix_tup (pe_call G_l_on (hr.mono (by omega)) rfl T.d_l_on.hm T.d_l_on.F.kp T.d_l_on.b .nil pass0 (pa_cons (pv 0) (pa_cons (pe_lc (N' := ["_law_k"]) (sel := [none]) rfl rfl rfl (pi_range1 rfl T.n_range (pa_cons (pe_callB call_len (by rfl) T.n_len bt_len (pa_cons (pv 1) pa_nil)) pa_nil)) (gk_name rfl) (fun _ _ _ _ _ => ⟨(pg_name (i := 0) (show (["_law_k"] : List Str).Nodup by decide +kernel) rfl (Or.inl rfl)), pts_nil, (pe_op op_add pe_int (pv 0))⟩)) (pa_cons pe_int pa_nil)))) pe_int (fun _ _ => rfl))))), ?_⟩
    (simp only [tLst, tTup, tDNewK, tLc, iList, iStr, iTup, _root_.L2.start, cxOf_K, cxComp_K, tSeq, tAsg, gName, tRet, tRetN, tDrop, tIfS, tTest, tB, tNot, tAnd, tOr, tAndV, tOrV, tNotV, tOp, tUn, tVar, tC, tCons, tNil, tStrs, tCB, tCall, tChain, tBM, tBM0, tPart, tNoPart, tSl, tIf, tNext, tTrue, selS, Option.bind_none, Option.bind_some, Option.join_some, if_true, rI, rI0, rU, rEq, rNe, rStarts, rSlS, lenV_str, tyV, List.map_cons, List.map_nil, List.length_cons, List.length_nil, List.replicate, List.cons_append, List.nil_append, List.append_nil, Nat.reduceAdd, Nat.reduceSub, Nat.zero_add, Nat.add_zero, Nat.sub_self, List.getElem?_cons_zero, List.getElem?_cons_succ, List.set_cons_zero, List.set_cons_succ, Option.some.injEq, V.int.injEq, V.str.injEq, V.ref.injEq, V.bl.injEq, V.ty.injEq, List.cons.injEq, exists_eq_left, exists_eq_left', exists_eq_right, exists_and_left, exists_eq, and_true, true_and, and_self, and_assoc, tFld, sFld, tMeth, tMake])
    refine ⟨v, 0, rfl, hv, hll, fun l ps H1 hl h1 hA s1 => ?_⟩
    have hpl : ps.length = (linesF 24 H v 0).length := hA.1
    have hz : sizeLine = 16777216 := by decide
    refine ⟨_, rfl, _, rfl, ps.length, lenV_ref.mpr (.inl ⟨_, SqL.of h1, by rw [List.length_map]⟩), _, rfl, by omega, by omega, lc_range (lo := 0) (n := ((ps.length : Nat) : Int).toNat) (fun i zs G => zs = plcs i ∧ G = H1) ⟨rfl, rfl⟩ ?_ ?_ ?_ ?_⟩
    · rintro i zs G hi ⟨rfl, _⟩
      unfold plcs
      rw [List.length_map, List.length_range]
      exact Nat.le_refl _
    · omega
    · rintro i zs G hi ⟨rfl, rfl⟩
      (simp only [tLst, tTup, tDNewK, tLc, iList, iStr, iTup, _root_.L2.start, cxOf_K, cxComp_K, tSeq, tAsg, gName, tRet, tRetN, tDrop, tIfS, tTest, tB, tNot, tAnd, tOr, tAndV, tOrV, tNotV, tOp, tUn, tVar, tC, tCons, tNil, tStrs, tCB, tCall, tChain, tBM, tBM0, tPart, tNoPart, tSl, tIf, tNext, tTrue, selS, Option.bind_none, Option.bind_some, Option.join_some, if_true, rI, rI0, rU, rEq, rNe, rStarts, rSlS, lenV_str, tyV, List.map_cons, List.map_nil, List.length_cons, List.length_nil, List.replicate, List.cons_append, List.nil_append, List.append_nil, Nat.reduceAdd, Nat.reduceSub, Nat.zero_add, Nat.add_zero, Nat.sub_self, List.getElem?_cons_zero, List.getElem?_cons_succ, List.set_cons_zero, List.set_cons_succ, Option.some.injEq, V.int.injEq, V.str.injEq, V.ref.injEq, V.bl.injEq, V.ty.injEq, List.cons.injEq, exists_eq_left, exists_eq_left', exists_eq_right, exists_and_left, exists_eq, and_true, true_and, and_self, and_assoc, tFld, sFld, tMeth, tMake])
      unfold plcs
      rw [List.range_succ, List.map_append]
      show _ ++ [V.int (1 + (0 + (i : Int)))] = _ ++ [V.int ((i + 1 : Nat) : Int)]
      rw [show (1 : Int) + (0 + (i : Int)) = ((i + 1 : Nat) : Int) by omega]
    · rintro zs G ⟨rfl, rfl⟩ D hD
      have s2 := Same.upd (o := .lst (plcs ((ps.length : Nat) : Int).toNat)) hD
      have eL := lines_sameT (sameT_of (s1.trans s2)) hv 0
      refine ⟨v, D, 0, ((ps.length : Nat) : Int).toNat, rfl, hv.same (s1.trans s2), upd_same, ?_, by omega, fun p v' H' s' h' r' => ⟨p, _, _, v', rfl, rfl, SqT.of h', atI_nat (j := 0) rfl, k v' H' ((s1.trans s2).trans s') ?_⟩⟩
      · rw [eL]
        show 0 + (linesF 24 H v 0).length ≤ _
        omega
      · rw [num_sameT (sameT_of (s1.trans s2)) hv] at r'
        exact r'
theorem sc_l_right : FnScope ["_law_program_here", "_law_due", "_law_deep", "_law_words_here", "_law_told"] ["_law_program_here"] (defScope (top 28)) := ⟨rfl, rfl, rfl, by decide +kernel, rfl, by decide +kernel, by decide +kernel⟩
theorem ok_l_right (T : Tx P w K mg)
    (G_l_lines : FnOk P w K mg base CX0 26 T.d_l_lines.f T.d_l_lines.fd ["_law_rows", "_law_deep"] (spLines 23))
    (G_written : FnOk P w K mg base CX0 51 T.d_written.f T.d_written.fd ["program"] (spWritten T.C_Writing))
    (G_l_alike : FnOk P w K mg base CX0 50 T.d_l_alike.f T.d_l_alike.fd ["_law_found", "_law_due"] (spAlike 48))
    (G_numbered : FnOk P w K mg base CX0 51 T.d_numbered.f T.d_numbered.fd ["program"] (spNumbered))
    (G_l_numbered : FnOk P w K mg base CX0 27 T.d_l_numbered.f T.d_l_numbered.fd ["_law_program_here"] (spNumbered)) : FnOk P w K mg base CX0 52 T.d_l_right.f T.d_l_right.fd ["_law_program_here"] (spRight) := by
  refine T.d_l_right.F.ok sc_l_right (fun vs H Q E h => ?_) (fun cdv A outer s H vs Q E hr h => ?_)
  · obtain ⟨v, rfl, _⟩ := h
    rfl
  · obtain ⟨v, rfl, hv, hll, k⟩ := h
    refine ⟨_, (pss_cons (ps_set (i := 1) sc_l_right.nd rfl (Or.inl rfl) pe_str)
    (pss_cons (ps_for PassesOwn.never rfl (pi_list (pe_call G_l_lines (hr.mono (by omega)) rfl T.d_l_lines.hm T.d_l_lines.F.kp T.d_l_lines.b .nil pass0 (pa_cons (pv 0) (pa_cons pe_int pa_nil)))) (pg_tup (n := 2) rfl (pgs_cons (pg_name (i := 2) sc_l_right.nd rfl (Or.inl rfl)) (pgs_cons (pg_name (i := 3) sc_l_right.nd rfl (Or.inl rfl)) pgs_nil)))
    (pss_one (ps_set (i := 1) sc_l_right.nd rfl (Or.inl rfl) (pe_op op_add_str (pe_op op_add_str (pe_op op_add_str (pv 1) (pe_op op_mulS pe_str (pv 2))) (pe_bm PySem.F.plainAttrs_str PySem.F.slot_str_join PySem.F.type_str_join mt_join pe_str (pa_cons (pv 3) pa_nil))) pe_str))))
    (pss_cons (ps_set (i := 4) sc_l_right.nd rfl (Or.inl rfl) (pe_call G_written (hr.mono (by omega)) rfl T.d_written.hm T.d_written.F.kp T.d_written.b .nil pass0 (pa_cons (pv 0) pa_nil)))
    (pss_cons (ps_if (PW.pt (pw_or (pt_not (pt_val (pe_callB call_isinst (by rfl) T.n_isinstance bt_isinstance (pa_cons (pv 4) (pa_cons (pe_bltn (v := .ty "str") rfl T.n_str bt_str rfl) pa_nil))))) (pw_or1 (pt_cmpR op_ne (pv 4) (pv 1) (nomark _)))))
    (pss_one (ps_ret pe_bl))
    pss_nil)
    (pss_one (ps_ret (pe_call G_l_alike (hr.mono (by omega)) rfl T.d_l_alike.hm T.d_l_alike.F.kp T.d_l_alike.b .nil pass0 (pa_cons (pe_call G_numbered (hr.mono (by omega)) rfl T.d_numbered.hm T.d_numbered.F.kp T.d_numbered.b .nil pass0 (pa_cons (pv 0) pa_nil)) (pa_cons (pe_call G_l_numbered (hr.mono (by omega)) rfl T.d_l_numbered.hm T.d_l_numbered.F.kp T.d_l_numbered.b .nil pass0 (pa_cons (pv 0) pa_nil)) pa_nil))))))))), ?_⟩
    (simp only [tLst, tTup, tDNewK, tLc, iList, iStr, iTup, _root_.L2.start, cxOf_K, cxComp_K, tSeq, tAsg, gName, tRet, tRetN, tDrop, tIfS, tTest, tB, tNot, tAnd, tOr, tAndV, tOrV, tNotV, tOp, tUn, tVar, tC, tCons, tNil, tStrs, tCB, tCall, tChain, tBM, tBM0, tPart, tNoPart, tSl, tIf, tNext, tTrue, selS, Option.bind_none, Option.bind_some, Option.join_some, if_true, rI, rI0, rU, rEq, rNe, rStarts, rSlS, lenV_str, tyV, List.map_cons, List.map_nil, List.length_cons, List.length_nil, List.replicate, List.cons_append, List.nil_append, List.append_nil, Nat.reduceAdd, Nat.reduceSub, Nat.zero_add, Nat.add_zero, Nat.sub_self, List.getElem?_cons_zero, List.getElem?_cons_succ, List.set_cons_zero, List.set_cons_succ, Option.some.injEq, V.int.injEq, V.str.injEq, V.ref.injEq, V.bl.injEq, V.ty.injEq, List.cons.injEq, exists_eq_left, exists_eq_left', exists_eq_right, exists_and_left, exists_eq, and_true, true_and, and_self, and_assoc, tFld, sFld, tMeth, tMake])
    have hz : sizeLine = 16777216 := by decide
    have hle := line_le hv (show 0 + 23 ≤ 30 by decide)
    obtain ⟨ls, hls⟩ : ∃ ls, ls = linesF 24 H v 0 := ⟨_, rfl⟩
    have hle : ∀ x ∈ ls, (lineT x).length ≤ 487 := by rw [hls]; exact hle
    refine ⟨_, rfl, v, 0, rfl, hv, hll, fun l ps H1 hl h1 hA s1 => ⟨l, rfl, ⟨_, SqL.of h1⟩, ?_⟩⟩
    have hA : LnsAt H1 ps ls := by rw [hls]; exact hA
    have hll' : ls.length ≤ 20000 := by rw [hls]; exact hll
    have hpl := hA.1
    refine for_list (K := K) (a := l) (xs := ps.map V.ref) (fun i σ G => ∃ o2 o3 : Option V, σ = [some v, some (.str (textF (ls.take i))), o2, o3, none] ∧ Same H1 G) ⟨none, none, by rw [List.take_zero]; rfl, Same.refl _⟩ (fun i σ G _ ⟨_, _, _, sg⟩ => SqL.of (sg _ _ h1)) ?_ ?_
    · rintro i x σ G hi ⟨o2, o3, rfl, sG⟩
      rw [List.getElem?_map] at hi
      cases e : ps[i]? with
      | none => rw [e] at hi; cases hi
      | some q =>
        rw [e] at hi
        cases hi
        have hil : i < ls.length := by
          have := (List.getElem?_eq_some_iff.mp e).1
          omega
        have ex : ls[i]? = some ls[i] := List.getElem?_eq_getElem hil
        obtain ⟨hne, w, hq, hw⟩ := hA.2 i q _ e ex
        refine ⟨q, _, rfl, SqT.of (sG _ _ hq), rfl, ?_⟩
        simp only [gCons, gNil]
        (simp only [tLst, tTup, tDNewK, _root_.L2.start, cxOf_K, cxComp_K, tSeq, tAsg, gName, tRet, tRetN, tDrop, tIfS, tTest, tB, tNot, tAnd, tOr, tAndV, tOrV, tNotV, tOp, tUn, tVar, tC, tCons, tNil, tStrs, tCB, tCall, tChain, tBM, tBM0, tPart, tNoPart, tSl, tIf, tNext, tTrue, selS, Option.bind_none, Option.bind_some, Option.join_some, if_true, rI, rI0, rU, rEq, rNe, rStarts, rSlS, lenV_str, tyV, List.map_cons, List.map_nil, List.length_cons, List.length_nil, List.replicate, List.cons_append, List.nil_append, List.append_nil, Nat.reduceAdd, Nat.reduceSub, Nat.zero_add, Nat.add_zero, Nat.sub_self, List.getElem?_cons_zero, List.getElem?_cons_succ, List.set_cons_zero, List.set_cons_succ, Option.some.injEq, V.int.injEq, V.str.injEq, V.ref.injEq, V.bl.injEq, V.ty.injEq, List.cons.injEq, exists_eq_left, exists_eq_left', exists_eq_right, exists_and_left, exists_eq, and_true, true_and, and_self, and_assoc, tFld, sFld, tMeth, tMake])
        have e2 : ("  " : Str).length = 2 := by decide +kernel
        have e1 : ("\n" : Str).length = 1 := by decide +kernel
        have e3 : (" " : Str).length = 1 := by decide +kernel
        have hL := hle ls[i] (List.getElem_mem hil)
        have eL : (lineT ls[i]).length = ls[i].1 * 2 + (Txt.join " " ls[i].2).length := by
          unfold lineT
          rw [app_len, repS_len, e2]
        have hT := textF_le (ls := ls.take i) fun x hx => hle x (List.mem_of_mem_take hx)
        rw [List.length_take] at hT
        have hT2 : (textF (ls.take i)).length ≤ 20000 * 488 := Nat.le_trans hT (Nat.mul_le_mul_right _ (by omega))
        have hj := join_len ls[i].2 hne
        have hr := repS_len ls[i].1 "  "
        rw [e2] at hr
        refine ⟨"  ", ls[i].1, rfl, rfl, by omega, by rw [e2]; omega, _, rfl, by omega, " ", w, ls[i].2, rfl, rfl, SqL.of (sG _ _ hw), by rw [e3]; omega, _, rfl, by rw [app_len]; omega, by rw [app_len, app_len, e1]; omega, ?_, sG⟩
        rw [take_snoc' ex, textF_snoc, str_assoc, str_assoc]
        congr 1
        rw [← str_assoc]
        rfl
    · rintro σ G ⟨o2, o3, rfl, sG⟩
      rw [List.length_map, hpl, List.take_length]
      (simp only [tLst, tTup, tDNewK, _root_.L2.start, cxOf_K, cxComp_K, tSeq, tAsg, gName, tRet, tRetN, tDrop, tIfS, tTest, tB, tNot, tAnd, tOr, tAndV, tOrV, tNotV, tOp, tUn, tVar, tC, tCons, tNil, tStrs, tCB, tCall, tChain, tBM, tBM0, tPart, tNoPart, tSl, tIf, tNext, tTrue, selS, Option.bind_none, Option.bind_some, Option.join_some, if_true, rI, rI0, rU, rEq, rNe, rStarts, rSlS, lenV_str, tyV, List.map_cons, List.map_nil, List.length_cons, List.length_nil, List.replicate, List.cons_append, List.nil_append, List.append_nil, Nat.reduceAdd, Nat.reduceSub, Nat.zero_add, Nat.add_zero, Nat.sub_self, List.getElem?_cons_zero, List.getElem?_cons_succ, List.set_cons_zero, List.set_cons_succ, Option.some.injEq, V.int.injEq, V.str.injEq, V.ref.injEq, V.bl.injEq, V.ty.injEq, List.cons.injEq, exists_eq_left, exists_eq_left', exists_eq_right, exists_and_left, exists_eq, and_true, true_and, and_self, and_assoc, tFld, sFld, tMeth, tMake])
      have s0 := s1.trans sG
      have eq : ∀ {G' : Hp}, Same H G' → linesF 24 G' v 0 = linesF 24 H v 0 := fun s => lines_sameT (sameT_of s) hv 0
      have eN : ∀ {G' : Hp}, Same H G' → numF 24 G' v 0 = numF 24 H v 0 := fun s => num_sameT (sameT_of s) hv 0
      refine ⟨v, rfl, hv.same s0, by rw [eq s0]; exact hll, fun H2 s2 => ⟨_, .str _, true, rfl, iteF (by decide) ⟨rfl, ifNF (by rw [eq s0, hls]) ?_⟩⟩⟩
      have s02 := s0.trans s2
      refine ⟨v, rfl, hv.same s02, by rw [eq s02]; exact hll, fun v1 H3 s3 r3 => ?_⟩
      have s03 := s02.trans s3
      refine ⟨v, rfl, hv.same s03, by rw [eq s03]; exact hll, fun v2 H4 s4 r4 => ⟨v1, v2, numF 24 H v 0, rfl, ?_, ?_, fun H5 s5 => k H5 ((s03.trans s4).trans s5)⟩⟩
      · rw [eN s02] at r3
        exact r3.sameT (sameT_of s4)
      · rw [eN s03] at r4
        exact r4
theorem sc_law : FnScope ["_law_script", "_law_names_here", "_law_program_here", "_law_other"] ["_law_script"] (defScope (top 29)) := ⟨rfl, rfl, rfl, by decide +kernel, rfl, by decide +kernel, by decide +kernel⟩
theorem ok_law (T : Tx P w K mg) {f : Addr} {fd : FuncData} (F : Fun K "law" "law" (top 29) f fd)
    (G_l_names : FnOk P w K mg base CX0 4 T.d_l_names.f T.d_l_names.fd ["_law_x"] (spNames))
    (G_l_cell_at : FnOk P w K mg base CX0 1 T.d_l_cell_at.f T.d_l_cell_at.fd ["_law_script", "_law_k"] (spCell K))
    (G_l_program : FnOk P w K mg base CX0 5 T.d_l_program.f T.d_l_program.fd ["_law_cells", "_law_names_here", "_law_deep"] (spProgram))
    (G_l_right : FnOk P w K mg base CX0 52 T.d_l_right.f T.d_l_right.fd ["_law_program_here"] (spRight)) : FnOk P w K mg base CX0 53 f fd ["_law_script"] (spLaw K) := by
  refine F.ok sc_law (fun vs H Q E h => ?_) (fun cdv A outer s H vs Q E hr h => ?_)
  · obtain ⟨a, ns, rfl, _⟩ := h
    rfl
  · obtain ⟨a, ns, rfl, ha, hns, k⟩ := h
    have hu := hu100 hr
    refine ⟨_, (pss_cons (ps_set (i := 1) sc_law.nd rfl (Or.inl rfl) (pe_call G_l_names (hr.mono (by omega)) rfl T.d_l_names.hm T.d_l_names.F.kp T.d_l_names.b .nil pass0 (pa_cons (pe_call G_l_cell_at (hr.mono (by omega)) rfl T.d_l_cell_at.hm T.d_l_cell_at.F.kp T.d_l_cell_at.b .nil pass0 (pa_cons (pv 0) (pa_cons pe_int pa_nil))) pa_nil)))
    (pss_cons (ps_set (i := 2) sc_law.nd rfl (Or.inl rfl) (pe_call G_l_program (hr.mono (by omega)) rfl T.d_l_program.hm T.d_l_program.F.kp T.d_l_program.b .nil pass0 (pa_cons (pe_slice sl_list (pv 0) (po_some pe_int) (po_some pe_int)) (pa_cons (pv 1) (pa_cons (pe_cmpR op_eq (pe_op op_mod (pe_call G_l_cell_at (hr.mono (by omega)) rfl T.d_l_cell_at.hm T.d_l_cell_at.F.kp T.d_l_cell_at.b .nil pass0 (pa_cons (pv 0) (pa_cons pe_int pa_nil))) pe_int) pe_int (nomark _)) pa_nil)))))
    (pss_cons (ps_set (i := 3) sc_law.nd rfl (Or.inl rfl) (pe_call G_l_program (hr.mono (by omega)) rfl T.d_l_program.hm T.d_l_program.F.kp T.d_l_program.b .nil pass0 (pa_cons (pe_slice sl_list (pv 0) (po_some pe_int) (po_some pe_int)) (pa_cons (pe_revL (ops := fun v u => [v, u]) (pv 1) (po_some (pe_un un_neg pe_int)) (fun _ _ => by with_unfolding_all rfl)) (pa_cons pe_bl pa_nil)))))
    (pss_one (ps_ret (pe_and (pe_call G_l_right (hr.mono (by omega)) rfl T.d_l_right.hm T.d_l_right.F.kp T.d_l_right.b .nil pass0 (pa_cons (pv 2) pa_nil)) (pe_and (pe_call G_l_right (hr.mono (by omega)) rfl T.d_l_right.hm T.d_l_right.F.kp T.d_l_right.b .nil pass0 (pa_cons (pv 3) pa_nil)) (pe_one (pe_call G_l_right (hr.mono (by omega)) rfl T.d_l_right.hm T.d_l_right.F.kp T.d_l_right.b .nil pass0 (pa_cons (pv 2) pa_nil)))))))))), ?_⟩
    (simp only [tLst, tTup, tDNewK, _root_.L2.start, cxOf_K, cxComp_K, tSeq, tAsg, gName, tRet, tRetN, tDrop, tIfS, tTest, tB, tNot, tAnd, tOr, tAndV, tOrV, tNotV, tOp, tUn, tVar, tC, tCons, tNil, tStrs, tCB, tCall, tChain, tBM, tBM0, tPart, tNoPart, tSl, tIf, tNext, tTrue, selS, Option.bind_none, Option.bind_some, Option.join_some, if_true, rI, rI0, rU, rEq, rNe, rStarts, rSlS, lenV_str, tyV, List.map_cons, List.map_nil, List.length_cons, List.length_nil, List.replicate, List.cons_append, List.nil_append, List.append_nil, Nat.reduceAdd, Nat.reduceSub, Nat.zero_add, Nat.add_zero, Nat.sub_self, List.getElem?_cons_zero, List.getElem?_cons_succ, List.set_cons_zero, List.set_cons_succ, Option.some.injEq, V.int.injEq, V.str.injEq, V.ref.injEq, V.bl.injEq, V.ty.injEq, List.cons.injEq, exists_eq_left, exists_eq_left', exists_eq_right, exists_and_left, exists_eq, and_true, true_and, and_self, and_assoc, tFld, sFld, tMeth, tMake])
    refine ⟨a, ns, 0, rfl, ha, hns, by decide, fun n0 => ⟨n0, rfl, fun na H1 hna0 hN s1 => ?_⟩⟩
    refine ⟨a, _, rfl, s1.seq ha, fun ca hca => ?_⟩
    obtain ⟨ms, hms, hml⟩ := cut_ints ns (some 2) (some 52)
    rw [hms]
    have s2 := Same.upd (o := .lst (ms.map V.int)) hca
    refine ⟨a, ns, 1, rfl, (s1.trans s2).seq ha, hns, by decide, fun n1 => ⟨n1, rfl, by decide, rfl, ?_⟩⟩
    obtain ⟨zs, hz1, hz2, hz3, hz4⟩ := hN
    refine ⟨ca, na, _, ms, rfl, upd_same, by omega, ⟨zs, s2 _ _ hz1, hz2, hz3, hz4⟩, fun p es H3 hp h3 hes hel s3 => ?_⟩
    have s13 := (s1.trans s2).trans s3
    refine ⟨a, _, rfl, s13.seq ha, fun cb hcb => ?_⟩
    obtain ⟨ms2, hms2, hml2⟩ := cut_ints ns (some 2) (some 7)
    rw [hms2]
    have s4 := Same.upd (o := .lst (ms2.map V.int)) hcb
    simp only [tRevL]
    (simp only [tLst, tTup, tDNewK, _root_.L2.start, cxOf_K, cxComp_K, tSeq, tAsg, gName, tRet, tRetN, tDrop, tIfS, tTest, tB, tNot, tAnd, tOr, tAndV, tOrV, tNotV, tOp, tUn, tVar, tC, tCons, tNil, tStrs, tCB, tCall, tChain, tBM, tBM0, tPart, tNoPart, tSl, tIf, tNext, tTrue, selS, Option.bind_none, Option.bind_some, Option.join_some, if_true, rI, rI0, rU, rEq, rNe, rStarts, rSlS, lenV_str, tyV, List.map_cons, List.map_nil, List.length_cons, List.length_nil, List.replicate, List.cons_append, List.nil_append, List.append_nil, Nat.reduceAdd, Nat.reduceSub, Nat.zero_add, Nat.add_zero, Nat.sub_self, List.getElem?_cons_zero, List.getElem?_cons_succ, List.set_cons_zero, List.set_cons_succ, Option.some.injEq, V.int.injEq, V.str.injEq, V.ref.injEq, V.bl.injEq, V.ty.injEq, List.cons.injEq, exists_eq_left, exists_eq_left', exists_eq_right, exists_and_left, exists_eq, and_true, true_and, and_self, and_assoc, tFld, sFld, tMeth, tMake])
    refine ⟨_, SqL.of ((s2.trans (s3.trans s4)) _ _ hz1), fun nb hnb => ?_⟩
    have s5 := Same.upd (o := .lst (zs.map V.str).reverse) hnb
    refine ⟨cb, nb, _, ms2, rfl, s5 _ _ upd_same, by omega, ⟨zs.reverse, by rw [upd_same, List.map_reverse], by rw [List.length_reverse]; exact hz2, by rw [List.length_reverse]; exact hz3, fun z hz => hz4 z (List.mem_reverse.mp hz)⟩, fun p2 es2 H6 hp2 h6 hes2 hel2 s6 => ?_⟩
    have s36 := s4.trans (s5.trans s6)
    obtain ⟨r1, l1⟩ := prog_ok (s36 _ _ h3) (fun e he => (hes e he).sameT (sameT_of s36)) hel
    obtain ⟨r2, l2⟩ := prog_ok h6 hes2 hel2
    have eq : ∀ {v : V} {G G' : Hp}, RowsOk 23 G v → Same G G' → (linesF 24 G v 0).length ≤ 20000 → (linesF 24 G' v 0).length ≤ 20000 := fun r s h => by
      rw [show linesF 24 _ _ 0 = _ from lines_sameT (sameT_of s) r 0]
      exact h
    exact ⟨.ref p, rfl, r1, l1, fun H7 s7 => ⟨true, rfl, iteT rfl ⟨.ref p2, rfl, r2.same s7, eq r2 s7 l2, fun H8 s8 => ⟨true, rfl, iteT rfl ⟨.ref p, rfl, r1.same (s7.trans s8), eq r1 (s7.trans s8) l1, fun H9 _ => k H9⟩⟩⟩⟩⟩
theorem law_fn {l : PySem.W.OpenLaw} {h : Heap} {fa : Addr} (X : K.In h) (G : h.Ns mainGlobals mg) (hfa : mg "law" = some (.ref fa))
    (i21 : InK K "_law_parts" (top 21))
    (i9 : InK K "_law_cell_at" (top 9))
    (i10 : InK K "_law_mixed" (top 10))
    (i11 : InK K "_law_stream" (top 11))
    (i12 : InK K "_law_name_by" (top 12))
    (i13 : InK K "_law_names" (top 13))
    (i14 : InK K "_law_value_by" (top 14))
    (i15 : InK K "_law_plain" (top 15))
    (i16 : InK K "_law_opened" (top 16))
    (i17 : InK K "_law_closed" (top 17))
    (i18 : InK K "_law_put" (top 18))
    (i19 : InK K "_law_program" (top 19))
    (i2 : InK K "begin_words" (top 2))
    (i3 : InK K "head_words" (top 3))
    (i4 : InK K "turn_words" (top 4))
    (i20 : InK K "_law_words" (top 20))
    (i22 : InK K "_law_turning" (top 22))
    (i6 : InK K "written" (top 6))
    (i7 : InK K "numbered" (top 7))
    (i23 : InK K "_law_lines" (top 23))
    (i25 : InK K "_law_set" (top 25))
    (i24 : InK K "_law_on" (top 24))
    (i27 : InK K "_law_alike" (top 27))
    (i26 : InK K "_law_numbered" (top 26))
    (i28 : InK K "_law_right" (top 28))
    (i29 : InK K "law" (top 29))
    {C_Writing : Addr} (c_Writing : InC K "Writing" C_Writing)
    (na_Writing_lines : PySem.W.findIn K (.ref C_Writing) "lines" = some none)
    (im_Writing___init__ : InM K C_Writing "__init__" "Writing.__init__" (inClass (top 5) 0))
    (im_Writing_put_line : InM K C_Writing "put_line" "Writing.put_line" (inClass (top 5) 1))
    (im_Writing_put_turn : InM K C_Writing "put_turn" "Writing.put_turn" (inClass (top 5) 2))
    (im_Writing_put_rows : InM K C_Writing "put_rows" "Writing.put_rows" (inClass (top 5) 3))
    (im_Writing_put_row : InM K C_Writing "put_row" "Writing.put_row" (inClass (top 5) 4))
    {stt : Tok} (iST : PySem.W.nsIn K mainGlobals "STEP_IN" = some (some (.str "  " stt)))
    
    (z_len : PySem.W.nsIn K mainGlobals "len" = some none)
    (z_isinstance : PySem.W.nsIn K mainGlobals "isinstance" = some none)
    (z_list : PySem.W.nsIn K mainGlobals "list" = some none)
    (z_tuple : PySem.W.nsIn K mainGlobals "tuple" = some none)
    (z_int : PySem.W.nsIn K mainGlobals "int" = some none)
    (z_range : PySem.W.nsIn K mainGlobals "range" = some none)
    (z_enumerate : PySem.W.nsIn K mainGlobals "enumerate" = some none)
    (z_str : PySem.W.nsIn K mainGlobals "str" = some none)
    (z_bool : PySem.W.nsIn K mainGlobals "bool" = some none)
    : ∃ fd : FuncData, (∀ (s : Shared) (v : Value), BindsTo s fd ⟨[v], []⟩ [("_law_script", v)]) ∧ ∀ base : Heap, K.In base → base.Ns mainGlobals mg → FnOk l.prog w K mg base CX0 53 fa fd ["_law_script"] (spLaw K) := by
  obtain ⟨d21⟩ := i21.def (ps := ["_law_row"]) X G fun _ _ _ _ _ _ us hl => match us, hl with | [_], _ => rfl
  obtain ⟨d9⟩ := i9.def (ps := ["_law_script", "_law_k"]) X G fun _ _ _ _ _ _ us hl => match us, hl with | [_, _], _ => rfl
  obtain ⟨d10⟩ := i10.def (ps := ["_law_x"]) X G fun _ _ _ _ _ _ us hl => match us, hl with | [_], _ => rfl
  obtain ⟨d11⟩ := i11.def (ps := ["_law_cell", "_law_many"]) X G fun _ _ _ _ _ _ us hl => match us, hl with | [_, _], _ => rfl
  obtain ⟨d12⟩ := i12.def (ps := ["_law_x"]) X G fun _ _ _ _ _ _ us hl => match us, hl with | [_], _ => rfl
  obtain ⟨d13⟩ := i13.def (ps := ["_law_x"]) X G fun _ _ _ _ _ _ us hl => match us, hl with | [_], _ => rfl
  obtain ⟨d14⟩ := i14.def (ps := ["_law_x", "_law_names_here"]) X G fun _ _ _ _ _ _ us hl => match us, hl with | [_, _], _ => rfl
  obtain ⟨d15⟩ := i15.def (ps := ["_law_x", "_law_names_here"]) X G fun _ _ _ _ _ _ us hl => match us, hl with | [_, _], _ => rfl
  obtain ⟨d16⟩ := i16.def (ps := ["_law_x", "_law_names_here"]) X G fun _ _ _ _ _ _ us hl => match us, hl with | [_, _], _ => rfl
  obtain ⟨d17⟩ := i17.def (ps := ["_law_frame"]) X G fun _ _ _ _ _ _ us hl => match us, hl with | [_], _ => rfl
  obtain ⟨d18⟩ := i18.def (ps := ["_law_errands", "_law_stack", "_law_x", "_law_names_here", "_law_deep"]) X G fun _ _ _ _ _ _ us hl => match us, hl with | [_, _, _, _, _], _ => rfl
  obtain ⟨d19⟩ := i19.def (ps := ["_law_cells", "_law_names_here", "_law_deep"]) X G fun _ _ _ _ _ _ us hl => match us, hl with | [_, _, _], _ => rfl
  obtain ⟨d2⟩ := i2.def (ps := ["row"]) X G fun _ _ _ _ _ _ us hl => match us, hl with | [_], _ => rfl
  obtain ⟨d3⟩ := i3.def (ps := ["row"]) X G fun _ _ _ _ _ _ us hl => match us, hl with | [_], _ => rfl
  obtain ⟨d4⟩ := i4.def (ps := ["row"]) X G fun _ _ _ _ _ _ us hl => match us, hl with | [_], _ => rfl
  obtain ⟨d20⟩ := i20.def (ps := ["_law_row"]) X G fun _ _ _ _ _ _ us hl => match us, hl with | [_], _ => rfl
  obtain ⟨d22⟩ := i22.def (ps := ["_law_row"]) X G fun _ _ _ _ _ _ us hl => match us, hl with | [_], _ => rfl
  obtain ⟨d6⟩ := i6.def (ps := ["program"]) X G fun _ _ _ _ _ _ us hl => match us, hl with | [_], _ => rfl
  obtain ⟨d7⟩ := i7.def (ps := ["program"]) X G fun _ _ _ _ _ _ us hl => match us, hl with | [_], _ => rfl
  obtain ⟨d23⟩ := i23.def (ps := ["_law_rows", "_law_deep"]) X G fun _ _ _ _ _ _ us hl => match us, hl with | [_, _], _ => rfl
  obtain ⟨d25⟩ := i25.def (ps := ["_law_row", "_law_line", "_law_told"]) X G fun _ _ _ _ _ _ us hl => match us, hl with | [_, _, _], _ => rfl
  obtain ⟨d24⟩ := i24.def (ps := ["_law_rows", "_law_places", "_law_at"]) X G fun _ _ _ _ _ _ us hl => match us, hl with | [_, _, _], _ => rfl
  obtain ⟨d27⟩ := i27.def (ps := ["_law_found", "_law_due"]) X G fun _ _ _ _ _ _ us hl => match us, hl with | [_, _], _ => rfl
  obtain ⟨d26⟩ := i26.def (ps := ["_law_program_here"]) X G fun _ _ _ _ _ _ us hl => match us, hl with | [_], _ => rfl
  obtain ⟨d28⟩ := i28.def (ps := ["_law_program_here"]) X G fun _ _ _ _ _ _ us hl => match us, hl with | [_], _ => rfl
  obtain ⟨e_Writing___init__⟩ := im_Writing___init__.def (ps := ["self"]) fun _ _ _ _ _ _ us hl => match us, hl with | [_], _ => rfl
  obtain ⟨e_Writing_put_line⟩ := im_Writing_put_line.def (ps := ["self", "words", "deep"]) fun _ _ _ _ _ _ us hl => match us, hl with | [_, _, _], _ => rfl
  obtain ⟨e_Writing_put_turn⟩ := im_Writing_put_turn.def (ps := ["self", "row", "deep"]) fun _ _ _ _ _ _ us hl => match us, hl with | [_, _, _], _ => rfl
  obtain ⟨e_Writing_put_rows⟩ := im_Writing_put_rows.def (ps := ["self", "rows", "deep"]) fun _ _ _ _ _ _ us hl => match us, hl with | [_, _, _], _ => rfl
  obtain ⟨e_Writing_put_row⟩ := im_Writing_put_row.def (ps := ["self", "row", "deep"]) fun _ _ _ _ _ _ us hl => match us, hl with | [_, _, _], _ => rfl
  obtain ⟨f, oc, od, kV, doc, pm, an, cdv, ct, osl, a, lk, c, kp⟩ := i29.ex
  have F := fun_mk (x := "law") (qual := "law") (st := top 29) lk c kp
  have e := hfa.symm.trans (PySem.W.mg_of X G a)
  cases e
  have T : Tx l.prog w K mg := ⟨d21, d9, d10, d11, d12, d13, d14, d15, d16, d17, d18, d19, d2, d3, d4, d20, d22, d6, d7, d23, d25, d24, d27, d26, d28, C_Writing, c_Writing.cls, PySem.W.mg_of X G c_Writing.a, na_Writing_lines, e_Writing___init__, e_Writing_put_line, e_Writing_put_turn, e_Writing_put_rows, e_Writing_put_row, ⟨c_Writing.mak, e_Writing___init__.me.at_, e_Writing___init__.me.fn, c_Writing.kp⟩, stt, (PySem.W.mg_of X G iST), PySem.W.mg_none_of X G z_len, PySem.W.mg_none_of X G z_isinstance, PySem.W.mg_none_of X G z_list, PySem.W.mg_none_of X G z_tuple, PySem.W.mg_none_of X G z_int, PySem.W.mg_none_of X G z_range, PySem.W.mg_none_of X G z_enumerate, PySem.W.mg_none_of X G z_str, PySem.W.mg_none_of X G z_bool⟩
  refine ⟨PySem.W.fnOf "law" "law" (defArgs (top 29)) (defBody (top 29)) (defScope (top 29)) .none kV doc pm an cdv ct, fun s v => .of_eq rfl, fun base _ _ => ?_⟩
  have g_l_parts := ok_l_parts (P := l.prog) (w := w) (base := base) T  
  have g_l_cell_at := ok_l_cell_at (P := l.prog) (w := w) (base := base) T  
  have g_l_mixed := ok_l_mixed (P := l.prog) (w := w) (base := base) T  
  have g_l_stream := ok_l_stream (P := l.prog) (w := w) (base := base) T  g_l_mixed
  have g_l_name_by := ok_l_name_by (P := l.prog) (w := w) (base := base) T  g_l_stream
  have g_l_names := ok_l_names (P := l.prog) (w := w) (base := base) T  g_l_stream g_l_name_by
  have g_l_value_by := ok_l_value_by (P := l.prog) (w := w) (base := base) T  
  have g_l_plain := ok_l_plain (P := l.prog) (w := w) (base := base) T  g_l_stream g_l_value_by
  have g_l_opened := ok_l_opened (P := l.prog) (w := w) (base := base) T  g_l_value_by
  have g_l_closed := ok_l_closed (P := l.prog) (w := w) (base := base) T  
  have g_l_put := ok_l_put (P := l.prog) (w := w) (base := base) T  g_l_opened g_l_closed g_l_plain
  have g_l_program := ok_l_program (P := l.prog) (w := w) (base := base) T  g_l_mixed g_l_put g_l_closed
  have g_begin_words := ok_begin_words (P := l.prog) (w := w) (base := base) T  
  have g_head_words := ok_head_words (P := l.prog) (w := w) (base := base) T  g_begin_words
  have g_turn_words := ok_turn_words (P := l.prog) (w := w) (base := base) T  
  have g_l_words := ok_l_words (P := l.prog) (w := w) (base := base) T  
  have g_l_turning := ok_l_turning (P := l.prog) (w := w) (base := base) T  
  have g_Writing___init__ := ok_Writing___init__ (P := l.prog) (w := w) (base := base) T  
  have g_Writing_put_line := ok_Writing_put_line (P := l.prog) (w := w) (base := base) T  
  have g_Writing_put_turn := ok_Writing_put_turn (P := l.prog) (w := w) (base := base) T  g_turn_words g_Writing_put_line
  have g_Writing_put_rows := ok_Writing_put_rows (P := l.prog) (w := w) (base := base) T  g_head_words g_Writing_put_line g_Writing_put_turn 23
  have g_written := ok_written (P := l.prog) (w := w) (base := base) T  g_Writing___init__ g_Writing_put_rows
  have g_numbered := ok_numbered (P := l.prog) (w := w) (base := base) T  g_Writing___init__ g_Writing_put_rows
  have g_l_lines := ok_l_lines (P := l.prog) (w := w) (base := base) T  g_l_words g_l_parts g_l_turning 23
  have g_l_set := ok_l_set (P := l.prog) (w := w) (base := base) T  
  have g_l_on := ok_l_on (P := l.prog) (w := w) (base := base) T  g_l_parts g_l_set 23
  have g_l_alike := ok_l_alike (P := l.prog) (w := w) (base := base) T   48
  have g_l_numbered := ok_l_numbered (P := l.prog) (w := w) (base := base) T  g_l_lines g_l_on
  have g_l_right := ok_l_right (P := l.prog) (w := w) (base := base) T  g_l_lines g_written g_l_alike g_numbered g_l_numbered
  exact ok_law T F  g_l_names g_l_cell_at g_l_program g_l_right

end
end K12
open PySem PySem.W PyProof.Rows
set_option maxRecDepth 100000 in
set_option maxHeartbeats 0 in
theorem PySem.Challenge.cw_nightwatch_k12_written_holds : PySem.Challenge.rw_nightwatch_k12_written.Holds := by
  w_on; o_law; k_head; (case hw => w_witness2)
  k_fill
  refine L2.walk_ofK (l := PySem.Challenge.rw_nightwatch_k12_written) (n := 63) (k := 53) (x := "_law_script") (CX := L2.CX0) (sp := K12.spLaw) rfl (by decide) rfl ⟨rfl, by decide, by decide⟩ (fun w h Y => PySem.W.kIn_of Y) ?F (fun K H a ns hl _ hS => ⟨a, ns, rfl, hS, hl, fun _ => rfl⟩) (fun _ _ _ _ z => z)
  case F =>
    intro w mg fa h KX G hmg
    refine' K12.law_fn KX G hmg ?i21 ?i9 ?i10 ?i11 ?i12 ?i13 ?i14 ?i15 ?i16 ?i17 ?i18 ?i19 ?i2 ?i3 ?i4 ?i20 ?i22 ?i6 ?i7 ?i23 ?i25 ?i24 ?i27 ?i26 ?i28 ?i29 ?c_Writing ?na_Writing_lines ?im_Writing___init__ ?im_Writing_put_line ?im_Writing_put_turn ?im_Writing_put_rows ?im_Writing_put_row ?iST ?z_len ?z_isinstance ?z_list ?z_tuple ?z_int ?z_range ?z_enumerate ?z_str ?z_bool
    case i21 =>
      refine' L2.InK.of ?a ?l ?c ?k
      (case a => k_is); (case l => k_is); (case c => k_is); (case k => k_is)
    case i9 =>
      refine' L2.InK.of ?a ?l ?c ?k
      (case a => k_is); (case l => k_is); (case c => k_is); (case k => k_is)
    case i10 =>
      refine' L2.InK.of ?a ?l ?c ?k
      (case a => k_is); (case l => k_is); (case c => k_is); (case k => k_is)
    case i11 =>
      refine' L2.InK.of ?a ?l ?c ?k
      (case a => k_is); (case l => k_is); (case c => k_is); (case k => k_is)
    case i12 =>
      refine' L2.InK.of ?a ?l ?c ?k
      (case a => k_is); (case l => k_is); (case c => k_is); (case k => k_is)
    case i13 =>
      refine' L2.InK.of ?a ?l ?c ?k
      (case a => k_is); (case l => k_is); (case c => k_is); (case k => k_is)
    case i14 =>
      refine' L2.InK.of ?a ?l ?c ?k
      (case a => k_is); (case l => k_is); (case c => k_is); (case k => k_is)
    case i15 =>
      refine' L2.InK.of ?a ?l ?c ?k
      (case a => k_is); (case l => k_is); (case c => k_is); (case k => k_is)
    case i16 =>
      refine' L2.InK.of ?a ?l ?c ?k
      (case a => k_is); (case l => k_is); (case c => k_is); (case k => k_is)
    case i17 =>
      refine' L2.InK.of ?a ?l ?c ?k
      (case a => k_is); (case l => k_is); (case c => k_is); (case k => k_is)
    case i18 =>
      refine' L2.InK.of ?a ?l ?c ?k
      (case a => k_is); (case l => k_is); (case c => k_is); (case k => k_is)
    case i19 =>
      refine' L2.InK.of ?a ?l ?c ?k
      (case a => k_is); (case l => k_is); (case c => k_is); (case k => k_is)
    case i2 =>
      refine' L2.InK.of ?a ?l ?c ?k
      (case a => k_is); (case l => k_is); (case c => k_is); (case k => k_is)
    case i3 =>
      refine' L2.InK.of ?a ?l ?c ?k
      (case a => k_is); (case l => k_is); (case c => k_is); (case k => k_is)
    case i4 =>
      refine' L2.InK.of ?a ?l ?c ?k
      (case a => k_is); (case l => k_is); (case c => k_is); (case k => k_is)
    case i20 =>
      refine' L2.InK.of ?a ?l ?c ?k
      (case a => k_is); (case l => k_is); (case c => k_is); (case k => k_is)
    case i22 =>
      refine' L2.InK.of ?a ?l ?c ?k
      (case a => k_is); (case l => k_is); (case c => k_is); (case k => k_is)
    case i6 =>
      refine' L2.InK.of ?a ?l ?c ?k
      (case a => k_is); (case l => k_is); (case c => k_is); (case k => k_is)
    case i7 =>
      refine' L2.InK.of ?a ?l ?c ?k
      (case a => k_is); (case l => k_is); (case c => k_is); (case k => k_is)
    case i23 =>
      refine' L2.InK.of ?a ?l ?c ?k
      (case a => k_is); (case l => k_is); (case c => k_is); (case k => k_is)
    case i25 =>
      refine' L2.InK.of ?a ?l ?c ?k
      (case a => k_is); (case l => k_is); (case c => k_is); (case k => k_is)
    case i24 =>
      refine' L2.InK.of ?a ?l ?c ?k
      (case a => k_is); (case l => k_is); (case c => k_is); (case k => k_is)
    case i27 =>
      refine' L2.InK.of ?a ?l ?c ?k
      (case a => k_is); (case l => k_is); (case c => k_is); (case k => k_is)
    case i26 =>
      refine' L2.InK.of ?a ?l ?c ?k
      (case a => k_is); (case l => k_is); (case c => k_is); (case k => k_is)
    case i28 =>
      refine' L2.InK.of ?a ?l ?c ?k
      (case a => k_is); (case l => k_is); (case c => k_is); (case k => k_is)
    case i29 =>
      refine' L2.InK.of ?a ?l ?c ?k
      (case a => k_is); (case l => k_is); (case c => k_is); (case k => k_is)
    case c_Writing =>
      refine' L2.InC.mk ?a ?b ?c ?d ?e ?f ?g
      (case a => k_is); (case b => k_is); (case c => k_is); (case d => k_is); (case e => k_is); (case f => k_is); (case g => k_is)
    (case na_Writing_lines => k_is)
    case im_Writing___init__ =>
      refine' L2.InM.of ?a ?i ?l ?c ?k
      (case a => k_is); (case i => k_is); (case l => k_is); (case c => k_is); (case k => k_is)
    case im_Writing_put_line =>
      refine' L2.InM.of ?a ?i ?l ?c ?k
      (case a => k_is); (case i => k_is); (case l => k_is); (case c => k_is); (case k => k_is)
    case im_Writing_put_turn =>
      refine' L2.InM.of ?a ?i ?l ?c ?k
      (case a => k_is); (case i => k_is); (case l => k_is); (case c => k_is); (case k => k_is)
    case im_Writing_put_rows =>
      refine' L2.InM.of ?a ?i ?l ?c ?k
      (case a => k_is); (case i => k_is); (case l => k_is); (case c => k_is); (case k => k_is)
    case im_Writing_put_row =>
      refine' L2.InM.of ?a ?i ?l ?c ?k
      (case a => k_is); (case i => k_is); (case l => k_is); (case c => k_is); (case k => k_is)
    (case iST => k_is)
    (case z_len => k_is)
    (case z_isinstance => k_is)
    (case z_list => k_is)
    (case z_tuple => k_is)
    (case z_int => k_is)
    (case z_range => k_is)
    (case z_enumerate => k_is)
    (case z_str => k_is)
    (case z_bool => k_is)
#print axioms PySem.Challenge.cw_nightwatch_k12_written_holds

