import PyProof.Rows.All
import Wide.All
import OpenK.AllK
import Wide.FinOn
import Lean
import PyProof.EqAt
import PyProof.EqKinds
import PyProof.TupleCall
import PyProof.SetScanFacts
import PyProof.Rows.SetFrom
import PyProof.Rows.SortWalk
import PyProof.CollectWalk
import PyProof.DictWalks
import PySem.Challenge.RW_holdback_k11_in_hand
set_option Elab.async false
set_option linter.all false
set_option maxRecDepth 100000
namespace L2
open PySem PySem.Spec PyProof.Rows

abbrev Key := Sum Int Str
def keyIs : Key → Value → Bool
  | .inl k, v => Value.isInt k v
  | .inr x, v => Value.isStrOf x v
def keyH (w : World) : Key → Int
  | .inl k => hashInt k
  | .inr x => hashStr w x
theorem keyIs_shape : ∀ {k : Key} {v : Value}, keyIs k v = true → (∃ i t, k = Sum.inl i ∧ v = Value.int i t) ∨ (∃ x t, k = Sum.inr x ∧ v = Value.str x t)
  | .inl i, v, h => by
    obtain ⟨t, e⟩ := Value.isInt_shape (k := i) (v := v) h
    exact .inl ⟨i, t, rfl, e⟩
  | .inr x, v, h => by
    obtain ⟨t, e⟩ := Value.isStrOf_shape (x := x) (v := v) h
    exact .inr ⟨x, t, rfl, e⟩
theorem keyIs_int (i : Int) (t : Tok) : keyIs (.inl i) (.int i t) = true := by simp [keyIs, Value.isInt]
theorem keyIs_str (x : Str) (t : Tok) : keyIs (.inr x) (.str x t) = true := by simp [keyIs, Value.isStrOf]
theorem key_ll (a b : Int) : decide ((Sum.inl a : Key) = Sum.inl b) = (a == b) := by
  by_cases e : a = b
  · subst e; simp
  · have h : ¬ (Sum.inl a : Key) = Sum.inl b := fun q => e (Sum.inl.inj q)
    rw [decide_eq_false h]
    exact (beq_eq_false_iff_ne.mpr e).symm
theorem key_rr (a b : Str) : decide ((Sum.inr a : Key) = Sum.inr b) = decide (a = b) := by
  by_cases e : a = b
  · subst e; simp
  · have h : ¬ (Sum.inr a : Key) = Sum.inr b := fun q => e (Sum.inr.inj q)
    rw [decide_eq_false h, decide_eq_false e]
theorem key_lr (a : Int) (b : Str) : decide ((Sum.inl a : Key) = Sum.inr b) = false := decide_eq_false (fun q => nomatch q)
theorem key_rl (a : Str) (b : Int) : decide ((Sum.inr a : Key) = Sum.inl b) = false := decide_eq_false (fun q => nomatch q)

def mixKind (prog : Program) (w : World) : PySem.KeyKind prog w Key where
  is := keyIs
  hash := keyH w
  inj := fun v a b ha hb => by
    rcases keyIs_shape ha with ⟨i, t, rfl, rfl⟩ | ⟨x, t, rfl, rfl⟩
    · rcases keyIs_shape hb with ⟨j, u, rfl, e⟩ | ⟨y, u, rfl, e⟩
      · injection e with e1 _; rw [e1]
      · exact nomatch e
    · rcases keyIs_shape hb with ⟨j, u, rfl, e⟩ | ⟨y, u, rfl, e⟩
      · exact nomatch e
      · injection e with e1 _; rw [e1]
  byValue := fun k v h => by
    rcases keyIs_shape h with ⟨i, t, rfl, rfl⟩ | ⟨x, t, rfl, rfl⟩ <;> rfl
  pyHash := fun hv h => by
    rcases keyIs_shape hv with ⟨i, t, rfl, rfl⟩ | ⟨x, t, rfl, rfl⟩
    · exact wpAny_pyHash_int h
    · exact wpAny_pyHash_str h
  eqBool := fun hu hv h => by
    rcases keyIs_shape hu with ⟨i, t, rfl, rfl⟩ | ⟨x, t, rfl, rfl⟩
    · rcases keyIs_shape hv with ⟨j, u, rfl, rfl⟩ | ⟨y, u, rfl, rfl⟩
      · rw [key_ll] at h; exact wpAny_eqBool_int h
      · rw [key_lr] at h; exact SeqAt.EqAt.int_str i t y u _ _ _ _ h
    · rcases keyIs_shape hv with ⟨j, u, rfl, rfl⟩ | ⟨y, u, rfl, rfl⟩
      · rw [key_rl] at h; exact SeqAt.EqAt.str_int x t j u _ _ _ _ h
      · rw [key_rr] at h; exact wpAny_eqBool_str h
  «strs» := fun k x t v h => by
    rcases keyIs_shape h with ⟨i, u, rfl, e⟩ | ⟨y, u, rfl, e⟩
    · exact nomatch e
    · injection e with e1 _
      subst e1
      cases v <;> rfl

theorem mixKind_int (prog : Program) (w : World) (i : Int) (t : Tok) : (mixKind prog w).is (.inl i) (.int i t) = true := keyIs_int i t
theorem mixKind_str (prog : Program) (w : World) (x : Str) (t : Tok) : (mixKind prog w).is (.inr x) (.str x t) = true := keyIs_str x t
end L2

namespace L2
open PySem PySem.Spec PyProof.Rows

inductive V where
  | non | bl (b : Bool) | int (i : Int) | str (x : Str) | byt (b : Array UInt8) | flt (b : UInt64) | ref (a : Addr) | ty (n : String)
  deriving DecidableEq

def RelV : V → Value → Prop
  | .non, u => u = Value.none
  | .bl b, u => u = Value.bool b
  | .int i, u => ∃ t, u = Value.int i t
  | .str x, u => ∃ t, u = Value.str x t
  | .byt b, u => ∃ t, u = Value.bytes b t
  | .flt b, u => ∃ t, u = Value.float b t
  | .ref a, u => u = Value.ref a
  | .ty n, u => u = Value.type n

abbrev Vals : List V → List Value → Prop := Paired RelV
theorem Vals.length {xs : List V} {us : List Value} (r : Vals xs us) : xs.length = us.length := Paired.length r
theorem Vals.get : ∀ {xs : List V} {us : List Value} {i : Nat} {x : V}, Vals xs us → xs[i]? = some x → ∃ u, us[i]? = some u ∧ RelV x u
  | _, _, _, _, .nil, e => by simp at e
  | _, _, 0, _, .cons r _, e => by simp at e; subst e; exact ⟨_, rfl, r⟩
  | _, _, i + 1, x, .cons _ t, e => by
    obtain ⟨u, h1, h2⟩ := Vals.get (i := i) (x := x) t (by simpa using e)
    exact ⟨u, by simpa using h1, h2⟩
theorem Vals.set {x : V} {u : Value} (r : RelV x u) : ∀ {xs : List V} {us : List Value} (i : Nat), Vals xs us → Vals (xs.set i x) (us.set i u)
  | _, _, _, .nil => .nil
  | _, _, 0, .cons _ t => .cons r t
  | _, _, i + 1, .cons q t => .cons q (Vals.set r i t)
theorem Vals.append : ∀ {xs ys : List V} {us ws : List Value}, Vals xs us → Vals ys ws → Vals (xs ++ ys) (us ++ ws)
  | _, _, _, _, .nil, s => s
  | _, _, _, _, .cons r t, s => .cons r (Vals.append t s)
theorem Vals.take : ∀ {xs : List V} {us : List Value} (n : Nat), Vals xs us → Vals (xs.take n) (us.take n)
  | _, _, 0, _ => .nil
  | _, _, _ + 1, .nil => .nil
  | _, _, n + 1, .cons r t => .cons r (Vals.take n t)
theorem Vals.drop : ∀ {xs : List V} {us : List Value} (n : Nat), Vals xs us → Vals (xs.drop n) (us.drop n)
  | _, _, 0, r => r
  | _, _, _ + 1, .nil => .nil
  | _, _, n + 1, .cons _ t => Vals.drop n t
theorem Vals.none_of : ∀ {xs : List V} {us : List Value} {i : Nat}, Vals xs us → xs[i]? = none → us[i]? = none := fun {xs us i} r e => by
  have h1 := r.length
  have h2 : xs.length ≤ i := List.getElem?_eq_none_iff.mp e
  exact List.getElem?_eq_none_iff.mpr (by omega)

def RelO : Option V → Option Value → Prop
  | some v, some u => RelV v u
  | none, none => True
  | _, _ => False
def KV {κ : Type} : List (κ × V) → List (κ × Value) → Prop := Paired fun (p : κ × V) (q : κ × Value) => p.1 = q.1 ∧ RelV p.2 q.2

def kV : Key → V
  | .inl i => .int i
  | .inr x => .str x

inductive HO where
    | lst (xs : List V)
    | tup (xs : List V)
    | dK (kvs : List (Key × V)) | dT (kvs : List (List Key × V))
    | set (S : Int → Bool) (n : Nat)
    | ins (C dx : Addr) (fs : List (Str × V))
    | own (x : Addr)
    | xd (fs : List (Str × V))
    | met (f x : Addr)
    | rng (lo hi : Int)
    | frz (o : Obj) (u : HO)
    | tbl (ps : Array Value)
    | ext (φ : Heap → Prop)

abbrev Hp := Addr → Option HO
def upd (H : Hp) (a : Addr) (o : HO) : Hp := fun b => if b = a then some o else H b
theorem upd_same {H : Hp} {a : Addr} {o : HO} : upd H a o a = some o := by unfold upd; rw [if_pos rfl]
theorem upd_ne {H : Hp} {a b : Addr} {o : HO} (h : b ≠ a) : upd H a o b = H b := by unfold upd; rw [if_neg h]
theorem upd_upd {H : Hp} {a : Addr} {o u : HO} : upd (upd H a o) a u = upd H a u := by
  funext b; unfold upd; split <;> rfl
theorem ne_of {H : Hp} {a b : Addr} {o u : HO} (h : H a = some o) (h' : H b = some u) (d : o ≠ u) : a ≠ b := by
  intro e; subst e; rw [h] at h'; exact d (Option.some.inj h')
theorem ne_of_none {H : Hp} {a b : Addr} {o : HO} (h : H a = some o) (h' : H b = none) : a ≠ b := by
  intro e; subst e; rw [h] at h'; cases h'

section
variable (P : Program) (w : World)
def ObjOk (H : Hp) (h : Heap) (a : Addr) : HO → Prop
  | .lst xs => xs.length ≤ sizeLine ∧ ∃ (its : List Value) (n : Nat), Vals xs its ∧ h.get? a = some { cls := .type "list", data := .seq its.toArray n }
  | .tup xs => xs.length ≤ sizeLine ∧ ∃ its : List Value, Vals xs its ∧ IsTup h a its.toArray
  | .dK kvs => kvs.length ≤ sizeLine ∧ (a == sysModules) = false ∧ ∃ vs, KV kvs vs ∧ h.DictOf (mixKind P w) a vs
  | .dT kvs => kvs.length ≤ sizeLine ∧ (a == sysModules) = false ∧ ∃ xs : List (List Key × Addr × Value),
      Paired (fun (p : List Key × V) (q : List Key × Addr × Value) => p.1 = q.1 ∧ H q.2.1 = some (.tup (p.1.map kV)) ∧ RelV p.2 q.2.2) kvs xs ∧
      ∃ o es ep, h.get? a = some o ∧ o.ExactDict ∧ o.data = .dict es ep ∧ es.toList = xs.map (entryOfKey (tupleKind (mixKind P w))) ∧ (xs.map (·.1)).Nodup
  | .set S n => h.SetOf (intKind P w) a S n
  | .ins C dx fs => H dx = some (.own a) ∧ fs.length ≤ 1000 ∧ dx ≠ a ∧ h.get? a = some (PySem.W.instObj C dx) ∧
      ∃ mA, h.Ns1 dx mA ∧ (∀ f, RelO (fs.lookup f) (mA f)) ∧ PySem.Within mA (fs.map (·.1))
  | .own _ => ∃ o, h.get? a = some o
  | .xd fs => ∃ mA, h.Ns1 a mA ∧ ∀ f, RelO (fs.lookup f) (mA f)
  | .rng lo hi => ∃ t u v, h.get? a = some { cls := .type "range", data := .fields #[.int lo t, .int hi u, .int 1 v] }
  | .frz o u => h.get? a = some o ∧ ObjOk H h a u
  | .tbl ps => h.get? a = some { cls := .none, data := .fields ps }
  | .met f x => h.get? a = some (PySem.W.methodObj (.ref f) (.ref x))
  | .ext φ => φ h ∧ (∃ o, h.get? a = some o) ∧ ∀ h1 h2 : Heap, φ h1 → (∀ o, h1.get? a = some o → h2.get? a = some o) → φ h2
def HOk (H : Hp) (h : Heap) : Prop := ∀ a o, H a = some o → ObjOk P w H h a o
end

section
variable {P : Program} {w : World} {H H' : Hp} {h h' : Heap} {a : Addr} {o : HO}
theorem ObjOk.lt (x : ObjOk P w H h a o) : a < h.objs.size := by
  cases o with
  | lst xs => obtain ⟨_, _, _, _, e⟩ := x; exact Heap.lt_size e
  | tup xs => obtain ⟨_, _, _, p⟩ := x; exact p.lt
  | dK kvs => obtain ⟨_, _, _, _, o, _, _, e, _⟩ := x; exact Heap.lt_size e
  | dT kvs => obtain ⟨_, _, _, _, o, _, _, e, _⟩ := x; exact Heap.lt_size e
  | set S n => obtain ⟨o, _, _, _, e, _⟩ := x; exact Heap.lt_size e
  | ins C dx fs => obtain ⟨_, _, _, e, _⟩ := x; exact Heap.lt_size e
  | own y => obtain ⟨_, e⟩ := x; exact Heap.lt_size e
  | xd fs => obtain ⟨_, ⟨_, _, _, e, _⟩, _⟩ := x; exact Heap.lt_size e
  | rng lo hi => obtain ⟨_, _, _, e⟩ := x; exact Heap.lt_size e
  | frz ob u => obtain ⟨e, _⟩ := x; exact Heap.lt_size e
  | tbl ps => exact Heap.lt_size (show h.get? a = some _ from x)
  | met f y => exact Heap.lt_size (show h.get? a = some _ from x)
  | ext φ => obtain ⟨_, ⟨_, e⟩, _⟩ := x; exact Heap.lt_size e
theorem Paired.mapP {α β : Type} {F G : α → β → Prop} : ∀ {l₁ : List α} {l₂ : List β}, Paired F l₁ l₂ → (∀ a b, F a b → G a b) → Paired G l₁ l₂
  | _, _, .nil, _ => .nil
  | _, _, .cons r t, f => .cons (f _ _ r) (Paired.mapP t f)
theorem ObjOk.stay (x : ObjOk P w H h a o) (k : ∀ b u, (b = a ∨ H b = some (.own a)) → h.get? b = some u → h'.get? b = some u)
    (ho : ∀ b, H b = some (.own a) → H' b = some (.own a)) (ht : ∀ b xs, H b = some (.tup xs) → H' b = some (.tup xs)) : ObjOk P w H' h' a o := by
  induction o with
  | lst xs => obtain ⟨z, its, n, r, e⟩ := x; exact ⟨z, its, n, r, k _ _ (.inl rfl) e⟩
  | tup xs => obtain ⟨z, its, r, ob, e, c⟩ := x; exact ⟨z, its, r, ob, k _ _ (.inl rfl) e, c⟩
  | dK kvs => obtain ⟨z, y, vs, r, ob, es, ep, e, c⟩ := x; exact ⟨z, y, vs, r, ob, es, ep, k _ _ (.inl rfl) e, c⟩
  | dT kvs =>
    obtain ⟨z, y, xs, r, ob, es, ep, e, c⟩ := x
    exact ⟨z, y, xs, Paired.mapP r fun p q z => ⟨z.1, ht _ _ z.2.1, z.2.2⟩, ob, es, ep, k _ _ (.inl rfl) e, c⟩
  | set S n => obtain ⟨ob, es, ep, t, e, c⟩ := x; exact ⟨ob, es, ep, t, k _ _ (.inl rfl) e, c⟩
  | ins C dx fs =>
    obtain ⟨d, z, ne, e, mA, ⟨od, es, ep, e2, c⟩, r⟩ := x
    exact ⟨ho _ d, z, ne, k _ _ (.inl rfl) e, mA, ⟨od, es, ep, k _ _ (.inr d) e2, c⟩, r⟩
  | own y => obtain ⟨ob, e⟩ := x; exact ⟨ob, k _ _ (.inl rfl) e⟩
  | xd fs => obtain ⟨mA, ⟨od, es, ep, e, c⟩, r⟩ := x; exact ⟨mA, ⟨od, es, ep, k _ _ (.inl rfl) e, c⟩, r⟩
  | rng lo hi => obtain ⟨t, u, v, e⟩ := x; exact ⟨t, u, v, k _ _ (.inl rfl) e⟩
  | frz ob u ih => obtain ⟨e, q⟩ := x; exact ⟨k _ _ (.inl rfl) e, ih q⟩
  | tbl ps =>
    have e : h.get? a = some { cls := .none, data := .fields ps } := x
    show h'.get? a = some { cls := .none, data := .fields ps }
    exact k a _ (.inl rfl) e
  | met f y =>
    have e : h.get? a = some (PySem.W.methodObj (.ref f) (.ref y)) := x
    show h'.get? a = some (PySem.W.methodObj (.ref f) (.ref y))
    exact k a _ (.inl rfl) e
  | ext φ => obtain ⟨p, ⟨o, e⟩, st⟩ := x; exact ⟨st _ _ p fun o q => k _ _ (.inl rfl) q, ⟨o, k _ _ (.inl rfl) e⟩, st⟩
theorem HOk.lt (x : HOk P w H h) (e : H a = some o) : a < h.objs.size := (x a o e).lt
theorem HOk.fresh (x : HOk P w H h) (e : h.objs.size ≤ a) : H a = none := by
  cases q : H a with
  | none => rfl
  | some u => exact absurd (Nat.lt_of_lt_of_le (x.lt q) e) (Nat.lt_irrefl _)
theorem HOk.kept (x : HOk P w H h) (k : ∀ b u, h.get? b = some u → h'.get? b = some u) : HOk P w H h' := fun a o e =>
  (x a o e).stay (fun b u _ q => k b u q) (fun _ q => q) fun _ _ q => q
theorem HOk.laid (x : HOk P w H h) (k : ∀ b u, h.get? b = some u → h'.get? b = some u) (hp : h.objs.size ≤ a) (new : ObjOk P w (upd H a o) h' a o) : HOk P w (upd H a o) h' := fun b u e => by
  have hn := x.fresh hp
  by_cases hb : b = a
  · subst hb; rw [upd_same] at e; cases e; exact new
  · rw [upd_ne hb] at e
    exact (x b u e).stay (fun c v _ q => k c v q) (fun c q => by rw [upd_ne (ne_of_none q hn)]; exact q) fun c xs q => by rw [upd_ne (ne_of_none q hn)]; exact q
end

def Rd (H : Hp) (a : Addr) (u : HO) : Prop := H a = some u ∨ ∃ o, H a = some (.frz o u)
theorem Rd.of {H : Hp} {a : Addr} {u : HO} (h : H a = some u) : Rd H a u := .inl h
theorem Rd.ok {P : Program} {w : World} {H : Hp} {h : Heap} {a : Addr} {u : HO} (r : Rd H a u) (x : HOk P w H h) : ObjOk P w H h a u := by
  rcases r with r | ⟨o, r⟩
  · exact x a u r
  · obtain ⟨_, q⟩ := x a _ r
    exact q
def Mut : Option HO → Prop
  | some (.lst _) => True
  | some (.dK _) => True
  | some (.dT _) => True
  | some (.set _ _) => True
  | some (.ins _ _ _) => True
  | some (.ext _) => True
  | _ => False
section
variable {P : Program} {w : World} {H : Hp} {h h' : Heap} {x e : Addr} {o' : HO}
theorem HOk.write (ok : HOk P w H h) (mu : Mut (H x)) (he : e = x ∨ H e = some (.own x)) (k : ∀ b u, b ≠ e → h.get? b = some u → h'.get? b = some u) (heo : ∃ u, h'.get? e = some u)
    (new : ObjOk P w (upd H x o') h' x o') : HOk P w (upd H x o') h' := fun b u q => by
  have nown : ∀ c y, H c = some (.own y) → c ≠ x := fun c y r z => by subst z; rw [r] at mu; exact mu
  have ntup : ∀ c xs, H c = some (.tup xs) → c ≠ x := fun c xs r z => by subst z; rw [r] at mu; exact mu
  by_cases hb : b = x
  · subst hb; rw [upd_same] at q; cases q; exact new
  · rw [upd_ne hb] at q
    by_cases hbe : b = e
    · have q' : H b = some (.own x) := by
        rcases he with z | z
        · exact absurd (hbe.trans z) hb
        · rw [hbe]; exact z
      rw [q] at q'; cases q'
      obtain ⟨v, hv⟩ := heo
      exact ⟨v, by rw [hbe]; exact hv⟩
    · refine (ok b u q).stay (fun c v hc r => k c v ?_ r) (fun c r => by rw [upd_ne (nown c b r)]; exact r) fun c xs r => by rw [upd_ne (ntup c xs r)]; exact r
      rcases hc with rfl | hc
      · exact hbe
      · rintro rfl
        rcases he with z | z
        · exact nown c b hc z
        · rw [hc] at z; cases z; exact hb rfl
end

structure Un (fs ex : List Addr) (H H' : Hp) (h h' : Heap) : Prop where
  keep : ∀ b o, h.get? b = some o → H b = none → b ∉ fs → b ∉ ex → h'.get? b = some o
  slot : ∀ b o, h.get? b = some o → H b = none → b ∈ fs → b ∉ ex → ∃ sl, h'.get? b = some { o with slots := sl }
  free : ∀ b o, h.get? b = some o → H b = none → b ∉ ex → H' b = none
  there : ∀ b o, h.get? b = some o → b ∉ ex → ∃ o', h'.get? b = some o'
  tups : ∀ b xs, H b = some (.tup xs) → H' b = some (.tup xs)
  frzs : ∀ b o u, H b = some (.frz o u) → H' b = some (.frz o u)
  tbls : ∀ b ps, H b = some (.tbl ps) → ∃ more, H' b = some (.tbl (ps ++ more))
section
variable {fs fs' ex ex' : List Addr} {H H1 H2 : Hp} {h h1 h2 h' : Heap} {a x e : Addr} {o : HO}
theorem Un.any (u : Un fs ex H H1 h h1) {b : Addr} {ob : Obj} (q : h.get? b = some ob) (n : H b = none) (hx : b ∉ ex) : ∃ sl, h1.get? b = some { ob with slots := sl } := by
  by_cases hb : b ∈ fs
  · exact u.slot b ob q n hb hx
  · exact ⟨ob.slots, u.keep b ob q n hb hx⟩
theorem Un.trans (a : Un fs ex H H1 h h1) (b : Un fs ex H1 H2 h1 h2) : Un fs ex H H2 h h2 where
  keep := fun c ob q n hc hx => b.keep c ob (a.keep c ob q n hc hx) (a.free c ob q n hx) hc hx
  slot := fun c ob q n hc hx => by
    obtain ⟨sl, e1⟩ := a.slot c ob q n hc hx
    obtain ⟨sl', e2⟩ := b.slot c _ e1 (a.free c ob q n hx) hc hx
    exact ⟨sl', e2⟩
  free := fun c ob q n hx => by
    obtain ⟨o', e1⟩ := a.there c ob q hx
    exact b.free c o' e1 (a.free c ob q n hx) hx
  there := fun c ob q hx => by
    obtain ⟨o', e1⟩ := a.there c ob q hx
    exact b.there c o' e1 hx
  tups := fun c xs q => b.tups c xs (a.tups c xs q)
  frzs := fun c ob xs q => b.frzs c ob xs (a.frzs c ob xs q)
  tbls := fun c ps q => by
    obtain ⟨m1, e1⟩ := a.tbls c ps q
    obtain ⟨m2, e2⟩ := b.tbls c _ e1
    exact ⟨m1 ++ m2, by rw [e2, Array.append_assoc]⟩
theorem Un.kept (k : ∀ b u, h.get? b = some u → h'.get? b = some u) : Un fs ex H H h h' :=
  ⟨fun b ob q _ _ _ => k b ob q, fun b ob q _ _ _ => ⟨ob.slots, k b ob q⟩, fun _ _ _ n _ => n, fun b ob q _ => ⟨ob, k b ob q⟩, fun _ _ q => q, fun _ _ _ q => q, fun _ ps q => ⟨#[], by rw [q]; simp⟩⟩
theorem Un.refl : Un fs ex H H h h := Un.kept fun _ _ q => q
theorem Un.laid (k : ∀ b u, h.get? b = some u → h'.get? b = some u) (hp : h.objs.size ≤ a) (hn : H a = none) : Un fs ex H (upd H a o) h h' where
  keep := fun b u q _ _ _ => k b u q
  slot := fun b u q _ _ _ => ⟨u.slots, k b u q⟩
  free := fun b u q n _ => by rw [upd_ne (Nat.ne_of_lt (Nat.lt_of_lt_of_le (Heap.lt_size q) hp))]; exact n
  there := fun b u q _ => ⟨u, k b u q⟩
  tups := fun b xs q => by rw [upd_ne (ne_of_none q hn)]; exact q
  frzs := fun b u xs q => by rw [upd_ne (ne_of_none q hn)]; exact q
  tbls := fun b ps q => ⟨#[], by rw [upd_ne (ne_of_none q hn), q]; simp⟩
theorem Un.write (mu : Mut (H x)) (he : e = x ∨ H e = some (.own x)) (k : ∀ b u, b ≠ e → h.get? b = some u → h'.get? b = some u) (heo : ∃ u, h'.get? e = some u) : Un fs ex H (upd H x o) h h' := by
  have hx : ∀ b, H b = none → b ≠ x := fun b n z => by subst z; rw [n] at mu; exact mu
  have hb : ∀ b, H b = none → b ≠ e := fun b n z => by
    subst z
    rcases he with r | r
    · exact hx b n r
    · rw [n] at r; cases r
  have hm : ∀ b u, H b = some u → ¬ Mut (some u) → b ≠ x := fun b u q nm z => by subst z; rw [q] at mu; exact nm mu
  refine ⟨fun b u q n _ _ => k b u (hb b n) q, fun b u q n _ _ => ⟨u.slots, k b u (hb b n) q⟩, fun b u q n _ => by rw [upd_ne (hx b n)]; exact n, fun b u q _ => ?_,
    fun b xs q => by rw [upd_ne (hm b _ q fun z => z)]; exact q, fun b u xs q => by rw [upd_ne (hm b _ q fun z => z)]; exact q, fun b ps q => ⟨#[], by rw [upd_ne (hm b _ q fun z => z), q]; simp⟩⟩
  by_cases hbe : b = e
  · subst hbe; exact heo
  · exact ⟨u, k b u hbe q⟩
theorem Un.mono (u : Un fs ex H H1 h h1) (hs : ∀ b ∈ fs, b ∈ fs') (hx : ∀ b ∈ ex, b ∈ ex') : Un fs' ex' H H1 h h1 :=
  ⟨fun b ob q n hb he => u.keep b ob q n (fun z => hb (hs b z)) fun z => he (hx b z), fun _ _ q n _ he => u.any q n fun z => he (hx _ z), fun b ob q n he => u.free b ob q n fun z => he (hx b z), fun b ob q he => u.there b ob q fun z => he (hx b z), u.tups, u.frzs, u.tbls⟩
end

def trk (h : Heap) (H : Hp) : List Addr := (List.range h.objs.size).filter fun a => (H a).isSome
def hidT (h : Heap) (H : Hp) : Heap := PySem.W.hideAll h (trk h H)
theorem hidT_size (h : Heap) (H : Hp) : (hidT h H).objs.size = h.objs.size := PySem.W.hideAll_size _ _
theorem hidT_get {h : Heap} {H : Hp} {b : Addr} {o : Obj} (e : h.get? b = some o) (n : H b = none) : (hidT h H).get? b = some o :=
  PySem.W.hideAll_get _ e fun hm => by
    have q : (H b).isSome = true := (List.mem_filter.mp hm).2
    rw [n] at q; simp at q
theorem of_hidT {h : Heap} {H : Hp} {b : Addr} {o : Obj} (e : (hidT h H).get? b = some o) : h.get? b = some o ∧ H b = none := by
  have e' : h.get? b = some o := PySem.W.of_hideAll (trk h H) e
  refine ⟨e', ?_⟩
  cases q : H b with
  | none => rfl
  | some x =>
    have hm : b ∈ trk h H := List.mem_filter.mpr ⟨List.mem_range.mpr (Heap.lt_size e'), by simp [q]⟩
    have z : (hidT h H).get? b = none := PySem.W.hideAll_none (trk h H) hm
    rw [z] at e; cases e

def allNews (g h : Heap) (L : Addr) : List (Addr × Obj) := (List.range h.objs.size).filterMap fun a => if a = L ∨ (g.get? a).isSome = true then none else (h.get? a).map fun o => (a, o)
def rest (g h : Heap) (L d : Addr) : List (Addr × Obj) := (allNews g h L).filter fun p => decide (p.1 ≠ d)
end L2

namespace L2
open PySem PySem.Spec PyProof.Rows

structure Mod (K : PySem.W.Frag) (mg : Str → Option Value) (base : Heap) : Prop where
  kin : K.In base
  glob : base.Ns mainGlobals mg
  blt : ∃ mb, base.Ns builtinsNs mb ∧ ∀ x : Str, x ≠ "__name__" → mb x = bootBuiltins x
  nolimit : base.NoLimit

structure Cx where
  prog : Program
  w : World
  K : PySem.W.Frag
  mg : Str → Option Value
  base : Heap
  A : Around
  N : List Str
  s₀ : Shared
  H₀ : Hp
  env : Env
  outer : List Env
  stack : List Env
  ex : List Addr
  fn : Str → Bool
  calm : Bool
  pn : List (Addr × Obj)
  xe : Value → Shared → Prop
def frs (l : List Env) : List Addr := l.filterMap (·.frame)
abbrev Cx.fs (X : Cx) : List Addr := frs X.outer

def Vis (sc : Scope) (x : Str) : Prop := sc.names.lookup x = some .local ∨ sc.names.lookup x = some .cell ∨ sc.names.lookup x = some .free
def Loc (sc : Scope) (x : Str) : Prop := sc.names.lookup x = some .local ∨ sc.names.lookup x = some .cell
def Look (env : Env) (h : Heap) (m : Str → Option Value) (x : Str) (u : Value) : Prop :=
  (env.kindOf x = some .local ∧ m x = some u) ∨ ((env.kindOf x = some .cell ∨ env.kindOf x = some .free) ∧ ∃ c, env.cells.lookup x = some c ∧ h.IsCell c (some u))

structure Cx.Ok (X : Cx) : Prop where
  mod : Mod X.K X.mg X.base
  kind : X.env.scope.kind = .function
  glob : X.env.globals = mainGlobals
  blt : X.env.builtins = builtinsNs
  above : X.s₀.heap.objs.size ≤ X.env.locals
  inj : ∀ x y c, X.env.cells.lookup x = some c → X.env.cells.lookup y = some c → x = y
  has : ∀ x, (X.env.kindOf x = some .cell ∨ X.env.kindOf x = some .free) → ∃ c, X.env.cells.lookup x = some c
  cab : ∀ x c, X.fn x = true → X.env.cells.lookup x = some c → X.s₀.heap.objs.size ≤ c
  hd : X.calm = true → X.A.handled = none
  frames : X.A.frames = some X.stack
  stk : X.stack = X.outer ∨ (X.stack = X.env :: X.outer ∧ X.env.frame = some X.env.locals)
  exf : ∀ b ∈ X.ex, b ≠ X.env.locals ∧ ∀ x c, X.env.cells.lookup x = some c → c ≠ b
  bs : ∀ b o, X.base.get? b = some o → X.s₀.heap.get? b = some o ∧ X.H₀ b = none
  bsz : X.base.objs.size ≤ X.s₀.heap.objs.size
  noex : ∀ b o, X.base.get? b = some o → b ∉ X.ex
  exfs : ∀ b ∈ X.ex, b ∉ X.fs
  funs : X.s₀.heap.FunFrames X.base X.outer
  frf : ∀ b ∈ X.fs, X.H₀ b = none

structure Inv (X : Cx) (pins : List (Addr × Obj)) (σ : List (Option V)) (H : Hp) (s : Shared) : Prop where
  ok : X.Ok
  os : s.os = X.s₀.os
  bare : AllBare s.gens
  base : Un X.fs X.ex X.H₀ H X.s₀.heap s.heap
  loc : ∃ m, s.heap.Ns X.env.locals m ∧ ∀ (i : Nat) (x : Str) (v : V), X.N[i]? = some x → σ[i]? = some (some v) → Vis X.env.scope x → ∃ u, RelV v u ∧ Look X.env s.heap m x u
  cell : ∀ x c, X.env.cells.lookup x = some c → ∃ v, s.heap.IsCell c v
  free : H X.env.locals = none
  freeC : ∀ x c, X.env.cells.lookup x = some c → H c = none
  pin : ∀ p ∈ X.pn ++ pins, s.heap.get? p.1 = some p.2 ∧ H p.1 = none ∧ p.1 ≠ X.env.locals ∧ p.1 ∉ X.fs ∧ ∀ v, p.2.data ≠ .cell v
  hok : HOk X.prog X.w H s.heap
  len : σ.length = X.N.length

section
variable {X : Cx} {pins : List (Addr × Obj)} {σ : List (Option V)} {H H' : Hp} {s : Shared} {h' : Heap}

theorem Cx.Ok.nofr (ok : X.Ok) {b : Addr} {o : Obj} (e : X.base.get? b = some o) : b ∉ X.fs := fun hb => by
  have := (ok.funs.mem hb).1
  rw [e] at this; cases this
theorem Inv.bs (I : Inv X pins σ H s) : ∀ b o, X.base.get? b = some o → s.heap.get? b = some o ∧ H b = none := fun b o e =>
  ⟨I.base.keep b o (I.ok.bs b o e).1 (I.ok.bs b o e).2 (I.ok.nofr e) (I.ok.noex b o e), I.base.free b o (I.ok.bs b o e).1 (I.ok.bs b o e).2 (I.ok.noex b o e)⟩
theorem Inv.bk (I : Inv X pins σ H s) : ∀ b o, X.base.get? b = some o → s.heap.get? b = some o := fun b o e => (I.bs b o e).1
theorem Inv.mod (I : Inv X pins σ H s) : Mod X.K X.mg X.base := I.ok.mod
theorem Inv.kIn (I : Inv X pins σ H s) : X.K.In s.heap := I.ok.mod.kin.keeps I.bk
theorem Inv.nolimit (I : Inv X pins σ H s) : s.heap.NoLimit := I.ok.mod.nolimit.keeps I.bk
theorem Inv.fr (I : Inv X pins σ H s) : ∃ m, Fr X.base X.env.locals s.heap m :=
  let ⟨m, hn, _⟩ := I.loc
  ⟨m, hn, I.bk, Nat.le_trans I.ok.bsz I.ok.above⟩
theorem Inv.lt (I : Inv X pins σ H s) : X.env.locals < s.heap.objs.size := let ⟨_, hn, _⟩ := I.loc; hn.lt
theorem Inv.sz (I : Inv X pins σ H s) : X.s₀.heap.objs.size ≤ s.heap.objs.size := Nat.le_trans I.ok.above (Nat.le_of_lt I.lt)
theorem Inv.nofs (I : Inv X pins σ H s) {a : Addr} (h : s.heap.objs.size ≤ a) : a ∉ X.fs := fun hb => by
  obtain ⟨_, o, ho, _⟩ := I.ok.funs.mem hb
  exact absurd (Nat.lt_of_lt_of_le (Heap.lt_size ho) (Nat.le_trans I.sz h)) (Nat.lt_irrefl _)
theorem Inv.cne (I : Inv X pins σ H s) : ∀ x c, X.env.cells.lookup x = some c → c ≠ X.env.locals := fun x c e z => by
  obtain ⟨v, o, ho, hd⟩ := I.cell x c e
  obtain ⟨m, ⟨o', es, ep, ho', hd', _⟩, _⟩ := I.loc
  rw [z, ho'] at ho; cases ho; rw [hd'] at hd; cases hd
theorem Inv.funs (I : Inv X pins σ H s) : s.heap.FunFrames X.base X.outer := by
  have all : ∀ (l : List Env), (∀ b ∈ frs l, b ∈ X.fs) → X.s₀.heap.FunFrames X.base l → s.heap.FunFrames X.base l := by
    intro l
    induction l with
    | nil => intro _ _; trivial
    | cons env r ih =>
      intro hs hl
      obtain ⟨hk, ⟨L, o, hf, hn, ho, hd⟩, hr⟩ := hl
      have hL : L ∈ X.fs := hs L (by unfold frs; rw [List.filterMap_cons, hf]; exact List.mem_cons_self)
      obtain ⟨sl, e⟩ := I.base.slot L o ho (I.ok.frf L hL) hL fun z => I.ok.exfs L z hL
      exact ⟨hk, ⟨L, _, hf, hn, e, hd⟩, ih (fun b hb => hs b (by unfold frs; rw [List.filterMap_cons, hf]; exact List.mem_cons_of_mem _ hb)) hr⟩
  exact all X.outer (fun _ hb => hb) I.ok.funs

theorem Inv.stack (I : Inv X pins σ H s) : s.heap.FunFrames X.base X.stack := by
  rcases I.ok.stk with e | ⟨e, hf⟩
  · rw [e]; exact I.funs
  · rw [e]
    obtain ⟨m, hn, _⟩ := I.loc
    refine .cons (by rw [I.ok.kind]; decide) hf hn ?_ I.funs
    exact Heap.get?_none_of_le (Nat.le_trans I.ok.bsz I.ok.above)
theorem Inv.stkSub (I : Inv X pins σ H s) : ∀ b ∈ frs X.stack, b ∈ X.env.locals :: X.fs := fun b hb => by
  rcases I.ok.stk with e | ⟨e, hf⟩
  · rw [e] at hb; exact List.mem_cons_of_mem _ hb
  · rw [e] at hb
    unfold frs at hb
    rw [List.filterMap_cons, hf] at hb
    exact hb
theorem Inv.stkFree (I : Inv X pins σ H s) : ∀ b ∈ frs X.stack, H b = none := fun b hb => by
  rcases List.mem_cons.mp (I.stkSub b hb) with e | hb
  · rw [e]; exact I.free
  · obtain ⟨_, o, ho, _⟩ := I.ok.funs.mem hb
    exact I.base.free b o ho (I.ok.frf b hb) fun z => I.ok.exfs b z hb

theorem Inv.step {g' : Array GenState} {t' : Nat} {d' : Drawn} {ch : List Addr} (I : Inv X pins σ H s)
    (hch : ∀ b ∈ ch, (b ∈ X.ex ∨ X.s₀.heap.objs.size ≤ b) ∧ b ≠ X.env.locals ∧ (∀ x c, X.env.cells.lookup x = some c → c ≠ b) ∧ ∀ p ∈ X.pn ++ pins, p.1 ≠ b)
    (keep : ∀ b o, b ≠ X.env.locals → b ∉ X.fs → b ∉ ch → s.heap.get? b = some o → H b = none → h'.get? b = some o)
    (slot : ∀ b o, b ≠ X.env.locals → b ∈ X.fs → b ∉ ch → s.heap.get? b = some o → H b = none → ∃ sl, h'.get? b = some { o with slots := sl }) (free : ∀ b o, b ∉ ch → s.heap.get? b = some o → H b = none → H' b = none)
    (there : ∀ b o, b ∉ ch → s.heap.get? b = some o → ∃ o', h'.get? b = some o')
    (tups : ∀ b xs, H b = some (.tup xs) → H' b = some (.tup xs)) (frzs : ∀ b o u, H b = some (.frz o u) → H' b = some (.frz o u)) (tbls : ∀ b ps, H b = some (.tbl ps) → ∃ more, H' b = some (.tbl (ps ++ more)))
    (ns : ∀ m, s.heap.Ns X.env.locals m → h'.Ns X.env.locals m) (hok : HOk X.prog X.w H' h') (hg : AllBare g') :
    Inv X pins σ H' { s with heap := h', gens := g', drawn := d', toks := t' } := by
  have neL : ∀ b o, X.s₀.heap.get? b = some o → b ≠ X.env.locals := fun b o e => Nat.ne_of_lt (Nat.lt_of_lt_of_le (Heap.lt_size e) I.ok.above)
  have neC : ∀ b o, X.s₀.heap.get? b = some o → b ∉ X.ex → b ∉ ch := fun b o e hx hb => by
    rcases (hch b hb).1 with z | z
    · exact hx z
    · exact absurd (Nat.lt_of_lt_of_le (Heap.lt_size e) z) (Nat.lt_irrefl _)
  have cellK : ∀ x c, X.env.cells.lookup x = some c → ∀ v, s.heap.IsCell c v → h'.IsCell c v := fun x c e v ⟨o, ho, hd⟩ => by
    have nch : c ∉ ch := fun z => (hch c z).2.2.1 x c e rfl
    by_cases hc : c ∈ X.fs
    · obtain ⟨sl, q⟩ := slot c o (I.cne x c e) hc nch ho (I.freeC x c e)
      exact ⟨_, q, hd⟩
    · exact ⟨o, keep c o (I.cne x c e) hc nch ho (I.freeC x c e), hd⟩
  refine ⟨I.ok, I.os, hg, ⟨fun b o e n hb hx => ?_, fun b o e n hb hx => ?_, fun b o e n hx => ?_, fun b o e hx => ?_, fun b xs e => tups b xs (I.base.tups b xs e), fun b o xs e => frzs b o xs (I.base.frzs b o xs e), fun b ps e => ?_⟩, ?_, fun x c e => ?_, ?_, fun x c e => ?_, fun p hp => ?_, hok, I.len⟩
  · exact keep b o (neL b o e) hb (neC b o e hx) (I.base.keep b o e n hb hx) (I.base.free b o e n hx)
  · obtain ⟨sl, e1⟩ := I.base.slot b o e n hb hx
    obtain ⟨sl', e2⟩ := slot b _ (neL b o e) hb (neC b o e hx) e1 (I.base.free b o e n hx)
    exact ⟨sl', e2⟩
  · obtain ⟨o', e1⟩ := I.base.there b o e hx
    exact free b o' (neC b o e hx) e1 (I.base.free b o e n hx)
  · obtain ⟨o', e1⟩ := I.base.there b o e hx
    exact there b o' (neC b o e hx) e1
  · obtain ⟨m1, e1⟩ := I.base.tbls b ps e
    obtain ⟨m2, e2⟩ := tbls b _ e1
    exact ⟨m1 ++ m2, by rw [e2, Array.append_assoc]⟩
  · obtain ⟨m, hn, hl⟩ := I.loc
    refine ⟨m, ns m hn, fun i x v e1 e2 e3 => ?_⟩
    obtain ⟨u, r, l⟩ := hl i x v e1 e2 e3
    refine ⟨u, r, ?_⟩
    rcases l with l | ⟨k, c, e, z⟩
    · exact .inl l
    · exact .inr ⟨k, c, e, cellK x c e _ z⟩
  · obtain ⟨v, z⟩ := I.cell x c e
    exact ⟨v, cellK x c e v z⟩
  · obtain ⟨m, ⟨o, _, _, ho, _⟩, _⟩ := I.loc
    exact free _ o (fun z => (hch _ z).2.1 rfl) ho I.free
  · obtain ⟨v, o, ho, hd⟩ := I.cell x c e
    exact free c o (fun z => (hch c z).2.2.1 x c e rfl) ho (I.freeC x c e)
  · obtain ⟨e, n, ne, nf, d⟩ := I.pin p hp
    have nch : p.1 ∉ ch := fun z => (hch p.1 z).2.2.2 p hp rfl
    exact ⟨keep p.1 p.2 ne nf nch e n, free p.1 p.2 nch e n, ne, nf, d⟩
theorem Inv.un {t' : Nat} (I : Inv X pins σ H s) (u : Un X.fs [] H H' s.heap h') (hok : HOk X.prog X.w H' h') : Inv X pins σ H' { s with heap := h', toks := t' } := by
  obtain ⟨m, ⟨o, es, ep, ho, r⟩, _⟩ := id I.loc
  obtain ⟨sl, hL⟩ := u.any ho I.free (by simp)
  exact I.step (g' := s.gens) (d' := s.drawn) (ch := []) (fun _ z => nomatch z) (fun b o _ hb _ e n => u.keep b o e n hb (by simp)) (fun b o _ hb _ e n => u.slot b o e n hb (by simp)) (fun b o _ e n => u.free b o e n (by simp)) (fun b o _ e => u.there b o e (by simp)) u.tups u.frzs u.tbls (fun m' hm => by
    obtain ⟨o', es', ep', ho', r'⟩ := hm
    rw [ho] at ho'; cases ho'
    exact ⟨_, es', ep', hL, r'⟩) hok I.bare
theorem Inv.call {g' : Array GenState} {t' : Nat} {d' : Drawn} {ch : List Addr} (I : Inv X pins σ H s) (u : Un (frs X.stack) ch H H' s.heap h') (hok : HOk X.prog X.w H' h') (hg : AllBare g')
    (hch : ∀ b ∈ ch, (b ∈ X.ex ∨ X.s₀.heap.objs.size ≤ b) ∧ b ≠ X.env.locals ∧ (∀ x c, X.env.cells.lookup x = some c → c ≠ b) ∧ ∀ p ∈ X.pn ++ pins, p.1 ≠ b) :
    Inv X pins σ H' { s with heap := h', gens := g', drawn := d', toks := t' } := by
  obtain ⟨m, ⟨o, es, ep, ho, r⟩, _⟩ := id I.loc
  obtain ⟨sl, hL⟩ := u.any ho I.free fun z => (hch _ z).2.1 rfl
  exact I.step (ch := ch) hch (fun b o hL hb hc e n => u.keep b o e n (fun z => (List.mem_cons.mp (I.stkSub b z)).elim hL hb) hc) (fun b o _ _ hc e n => u.any e n hc) (fun b o hc e n => u.free b o e n hc) (fun b o hc e => u.there b o e hc) u.tups u.frzs u.tbls (fun m' hm => by
    obtain ⟨o', es', ep', ho', r'⟩ := hm
    rw [ho] at ho'; cases ho'
    exact ⟨_, es', ep', hL, r'⟩) hok hg
theorem Inv.turned {t' : Nat} {it : Addr} (I : Inv X pins σ H s) (k : ∀ b o, b ≠ it → s.heap.get? b = some o → h'.get? b = some o) (hn : H it = none) (hL : it ≠ X.env.locals)
    (h1 : it ∈ X.ex ∨ X.s₀.heap.objs.size ≤ it) (h2 : ∀ x c, X.env.cells.lookup x = some c → c ≠ it) (h3 : ∀ p ∈ X.pn ++ pins, p.1 ≠ it) : Inv X pins σ H { s with heap := h', toks := t' } := by
  have nit : ∀ b u, H b = some u → b ≠ it := fun b u e z => by rw [z, hn] at e; cases e
  refine I.step (g' := s.gens) (d' := s.drawn) (ch := [it]) (fun b hb => ?_) (fun b o _ _ hc e _ => k b o (fun z => hc (by simp [z])) e) (fun b o _ _ hc e _ => ⟨o.slots, k b o (fun z => hc (by simp [z])) e⟩) (fun _ _ _ _ n => n)
    (fun b o hc e => ⟨o, k b o (fun z => hc (by simp [z])) e⟩) (fun _ _ e => e) (fun _ _ _ e => e) (fun b ps e => ⟨#[], by rw [e]; simp⟩) (fun m hm => ?_) (fun b u e => ?_) I.bare
  · have e : b = it := by simpa using hb
    subst e
    exact ⟨h1, hL, h2, h3⟩
  · obtain ⟨o, es, ep, ho, r⟩ := hm
    exact ⟨o, es, ep, k _ o (Ne.symm hL) ho, r⟩
  · refine (I.hok b u e).stay (fun c v hc q => k c v ?_ q) (fun _ q => q) fun _ _ q => q
    rcases hc with z | z
    · rw [z]; exact nit b u e
    · exact nit c _ z
theorem Inv.tok (I : Inv X pins σ H s) (t : Nat) : Inv X pins σ H { s with toks := t } := I.un (h' := s.heap) (t' := t) Un.refl I.hok
theorem Inv.kept {t' : Nat} (I : Inv X pins σ H s) (k : ∀ b u, s.heap.get? b = some u → h'.get? b = some u) : Inv X pins σ H { s with heap := h', toks := t' } := I.un (Un.kept k) (I.hok.kept k)
theorem Inv.laid {a : Addr} {o : HO} {t' : Nat} (I : Inv X pins σ H s) (k : ∀ b u, s.heap.get? b = some u → h'.get? b = some u) (hp : s.heap.objs.size ≤ a) (new : ObjOk X.prog X.w (upd H a o) h' a o) :
    Inv X pins σ (upd H a o) { s with heap := h', toks := t' } := I.un (Un.laid k hp (I.hok.fresh hp)) (I.hok.laid k hp new)
theorem Inv.write {x e : Addr} {o : HO} {t' : Nat} (I : Inv X pins σ H s) (mu : Mut (H x)) (he : e = x ∨ H e = some (.own x)) (k : ∀ b u, b ≠ e → s.heap.get? b = some u → h'.get? b = some u) (heo : ∃ u, h'.get? e = some u)
    (new : ObjOk X.prog X.w (upd H x o) h' x o) : Inv X pins σ (upd H x o) { s with heap := h', toks := t' } := I.un (Un.write mu he k heo) (I.hok.write mu he k heo new)
theorem Inv.pins_of {pins' : List (Addr × Obj)} (I : Inv X pins σ H s) (h : ∀ p ∈ pins', s.heap.get? p.1 = some p.2 ∧ H p.1 = none ∧ p.1 ≠ X.env.locals ∧ p.1 ∉ X.fs ∧ ∀ v, p.2.data ≠ .cell v) : Inv X pins' σ H s :=
  ⟨I.ok, I.os, I.bare, I.base, I.loc, I.cell, I.free, I.freeC, fun p hp => (List.mem_append.mp hp).elim (fun z => I.pin p (List.mem_append_left _ z)) (h p), I.hok, I.len⟩

theorem nodup_ix {N : List Str} (hN : N.Nodup) {i j : Nat} {x : Str} (a : N[i]? = some x) (b : N[j]? = some x) : i = j := by
  obtain ⟨h1, e1⟩ := List.getElem?_eq_some_iff.mp a
  obtain ⟨h2, e2⟩ := List.getElem?_eq_some_iff.mp b
  exact (List.getElem_inj hN).mp (e1.trans e2.symm)

theorem store_ok2 {M : Model} {A : Around} {E : Value → Shared → Prop} {i : Nat} {x : Str} {v : V} {u : Value} {Q : Unit → Shared → Prop} (I : Inv X pins σ H s) (hN : X.N.Nodup) (hi : X.N[i]? = some x) (hx : Loc X.env.scope x) (r : RelV v u)
    (h : ∀ s', Inv X pins (σ.set i (some v)) H s' → (∃ a, Heap.SameBut a s.heap s'.heap ∧ (a = X.env.locals ∨ X.env.cells.lookup x = some a)) → Q () s') (hf : X.fn x = true ∨ X.env.scope.names.lookup x = some .local := by first | exact .inl rfl | exact .inr rfl | assumption) : wpAny M A (storeName X.env x u) Q E s := by
  obtain ⟨m, hn, hl⟩ := id I.loc
  have hcls : (X.env.scope.kind == .class || (X.env.scope.kind == .module && X.env.locals != X.env.globals)) = false := by rw [I.ok.kind]; rfl
  have hiσ : i < σ.length := by rw [I.len]; exact (List.getElem?_eq_some_iff.mp hi).1
  have cne := I.cne
  have tracked : ∀ {a : Addr} {h' : Heap}, (∃ o, s.heap.get? a = some o ∧ H a = none) → Heap.SameBut a s.heap h' → HOk X.prog X.w H h' := fun {a h'} ha hs b ob e => by
    obtain ⟨_, _, hfree⟩ := ha
    refine (I.hok b ob e).stay (fun c w' hc q => (hs.2 c ?_).trans q) (fun _ q => q) fun _ _ q => q
    rintro rfl
    rcases hc with rfl | hc
    · rw [hfree] at e; cases e
    · rw [hfree] at hc; cases hc
  rcases hx with hk | hk
  · refine wpAny_storeName_local hk hn (fun h' hn' hs => ?_) hcls
    obtain ⟨oL, _, _, hoL, _⟩ := id hn
    refine h _ ⟨I.ok, I.os, I.bare, ⟨fun b o e n hb hx => ?_, fun b o e n hb hx => ?_, I.base.free, fun b o e hx => ?_, I.base.tups, I.base.frzs, I.base.tbls⟩, ⟨_, hn', fun j y v' e1 e2 e3 => ?_⟩, fun y c e => ?_, I.free, I.freeC, fun p hp => ?_, tracked ⟨oL, hoL, I.free⟩ hs, by simpa using I.len⟩ ⟨_, hs, .inl rfl⟩
    · exact (hs.2 b (Nat.ne_of_lt (Nat.lt_of_lt_of_le (Heap.lt_size e) I.ok.above))).trans (I.base.keep b o e n hb hx)
    · obtain ⟨sl, e1⟩ := I.base.slot b o e n hb hx
      exact ⟨sl, (hs.2 b (Nat.ne_of_lt (Nat.lt_of_lt_of_le (Heap.lt_size e) I.ok.above))).trans e1⟩
    · obtain ⟨o', e1⟩ := I.base.there b o e hx
      exact ⟨o', (hs.2 b (Nat.ne_of_lt (Nat.lt_of_lt_of_le (Heap.lt_size e) I.ok.above))).trans e1⟩
    · by_cases hj : j = i
      · subst hj
        rw [hi] at e1; cases e1
        rw [List.getElem?_set_self hiσ] at e2
        cases e2
        exact ⟨u, r, .inl ⟨hk, by simp⟩⟩
      · rw [List.getElem?_set_ne (Ne.symm hj)] at e2
        obtain ⟨u', r', q⟩ := hl j y v' e1 e2 e3
        refine ⟨u', r', ?_⟩
        rcases q with ⟨k, e⟩ | ⟨k, c, e, z⟩
        · refine .inl ⟨k, ?_⟩
          have : y ≠ x := fun e => hj (nodup_ix hN e1 (e ▸ hi))
          simp [this, e]
        · exact .inr ⟨k, c, e, z.sameBut hs (cne y c e)⟩
    · obtain ⟨w', z⟩ := I.cell y c e
      exact ⟨w', z.sameBut hs (cne y c e)⟩
    · obtain ⟨e, n, ne, nf, d⟩ := I.pin p hp
      exact ⟨(hs.2 p.1 ne).trans e, n, ne, nf, d⟩
  · have hfn : X.fn x = true := by
      rcases hf with z | z
      · exact z
      · rw [z] at hk; cases hk
    obtain ⟨c, hc⟩ := I.ok.has x (.inl hk)
    obtain ⟨w', z⟩ := I.cell x c hc
    refine wpAny_storeName_cell I.ok.kind hk hc z (fun h' hc' hs => ?_)
    obtain ⟨oc, hoc, hocd⟩ := id z
    refine h { s with heap := h' } ⟨I.ok, I.os, I.bare, ⟨fun b o e n hb hx => ?_, fun b o e n hb hx => ?_, I.base.free, fun b o e hx => ?_, I.base.tups, I.base.frzs, I.base.tbls⟩, ⟨m, hn.sameBut hs (Ne.symm (cne x c hc)), fun j y v' e1 e2 e3 => ?_⟩, fun y c' e => ?_, I.free, I.freeC, fun p hp => ?_, tracked ⟨oc, hoc, I.freeC x c hc⟩ hs, by simpa using I.len⟩ ⟨c, hs, .inr hc⟩
    · exact (hs.2 b (Nat.ne_of_lt (Nat.lt_of_lt_of_le (Heap.lt_size e) (I.ok.cab x c hfn hc)))).trans (I.base.keep b o e n hb hx)
    · obtain ⟨sl, e1⟩ := I.base.slot b o e n hb hx
      exact ⟨sl, (hs.2 b (Nat.ne_of_lt (Nat.lt_of_lt_of_le (Heap.lt_size e) (I.ok.cab x c hfn hc)))).trans e1⟩
    · obtain ⟨o', e1⟩ := I.base.there b o e hx
      exact ⟨o', (hs.2 b (Nat.ne_of_lt (Nat.lt_of_lt_of_le (Heap.lt_size e) (I.ok.cab x c hfn hc)))).trans e1⟩
    · by_cases hj : j = i
      · subst hj
        rw [hi] at e1; cases e1
        rw [List.getElem?_set_self hiσ] at e2
        cases e2
        exact ⟨u, r, .inr ⟨.inl hk, c, hc, hc'⟩⟩
      · rw [List.getElem?_set_ne (Ne.symm hj)] at e2
        obtain ⟨u', r', q⟩ := hl j y v' e1 e2 e3
        refine ⟨u', r', ?_⟩
        rcases q with q | ⟨k, c', e, z'⟩
        · exact .inl q
        · refine .inr ⟨k, c', e, z'.sameBut hs ?_⟩
          rintro rfl
          exact hj (nodup_ix hN e1 (I.ok.inj _ _ _ e hc ▸ hi))
    · by_cases hcc : c' = c
      · subst hcc; exact ⟨_, hc'⟩
      · obtain ⟨w2, z2⟩ := I.cell y c' e
        exact ⟨w2, z2.sameBut hs hcc⟩
    · obtain ⟨e, n, ne, nf, d⟩ := I.pin p hp
      refine ⟨(hs.2 p.1 ?_).trans e, n, ne, nf, d⟩
      intro q
      rw [q, hoc] at e
      have q' : oc = p.2 := Option.some.inj e
      exact d w' (by rw [← q']; exact hocd)
theorem store_ok {M : Model} {A : Around} {E : Value → Shared → Prop} {i : Nat} {x : Str} {v : V} {u : Value} {Q : Unit → Shared → Prop} (I : Inv X pins σ H s) (hN : X.N.Nodup) (hi : X.N[i]? = some x) (hx : Loc X.env.scope x) (r : RelV v u)
    (h : ∀ s', Inv X pins (σ.set i (some v)) H s' → Q () s') (hf : X.fn x = true ∨ X.env.scope.names.lookup x = some .local := by first | exact .inl rfl | exact .inr rfl | assumption) : wpAny M A (storeName X.env x u) Q E s :=
  store_ok2 I hN hi hx r (fun s' I' _ => h s' I') hf
theorem Inv.call' {s' : Shared} {ch : List Addr} (I : Inv X pins σ H s) (ho : s'.os = s.os) (u : Un (frs X.stack) ch H H' s.heap s'.heap) (hok : HOk X.prog X.w H' s'.heap) (hg : AllBare s'.gens)
    (hch : ∀ b ∈ ch, (b ∈ X.ex ∨ X.s₀.heap.objs.size ≤ b) ∧ b ≠ X.env.locals ∧ (∀ x c, X.env.cells.lookup x = some c → c ≠ b) ∧ ∀ p ∈ X.pn ++ pins, p.1 ≠ b) : Inv X pins σ H' s' := by
  obtain ⟨h', g', d', t', o'⟩ := s'
  have e : o' = s.os := ho
  subst e
  exact I.call (g' := g') (t' := t') (d' := d') u hok hg hch
end

abbrev XK := Value → Option Addr → Hp → Prop
abbrev St := List (Option V)
abbrev VK := V → Hp → Prop
abbrev TE := St → Hp → VK → Prop
abbrev TT := St → Hp → (Bool → Hp → Prop) → Prop
abbrev TA := St → Hp → (List V → Hp → Prop) → Prop
structure Ends where
  nx : St → Hp → Prop
  rt : VK
  bk : St → Hp → Prop := fun _ _ => False
  ct : St → Hp → Prop := fun _ _ => False
abbrev TS := Ends → St → Hp → Prop

def EP (X : Cx) (pins : List (Addr × Obj)) (σ : St) (Q : VK) (u : Value) (s' : Shared) : Prop := ∃ v H', Inv X pins σ H' s' ∧ RelV v u ∧ Q v H'
def TP (X : Cx) (pins : List (Addr × Obj)) (σ : St) (Q : Bool → Hp → Prop) (b : Bool) (s' : Shared) : Prop := ∃ H', Inv X pins σ H' s' ∧ Q b H'
def AP (X : Cx) (pins : List (Addr × Obj)) (σ : St) (Q : List V → Hp → Prop) (us : List Value) (s' : Shared) : Prop := ∃ vs H', Inv X pins σ H' s' ∧ Vals vs us ∧ Q vs H'
def SP (X : Cx) (pins : List (Addr × Obj)) (D : Ends) (f : Flow) (s' : Shared) : Prop :=
  match f with
  | .next => ∃ σ' H', Inv X pins σ' H' s' ∧ D.nx σ' H'
  | .brk => ∃ σ' H', Inv X pins σ' H' s' ∧ D.bk σ' H'
  | .cont => ∃ σ' H', Inv X pins σ' H' s' ∧ D.ct σ' H'
  | .ret u => ∃ v σ' H', Inv X pins σ' H' s' ∧ RelV v u ∧ D.rt v H'

def PE (X : Cx) (e : Expr) (t : TE) : Prop :=
  ∀ (pins : List (Addr × Obj)) (s : Shared) (σ : St) (H : Hp) (Q : VK), Inv X pins σ H s → t σ H Q → wpAny (model X.prog X.w) X.A (eval e X.env) (EP X pins σ Q) X.xe s
def PT (X : Cx) (e : Expr) (t : TT) : Prop :=
  ∀ (pins : List (Addr × Obj)) (s : Shared) (σ : St) (H : Hp) (Q : Bool → Hp → Prop), Inv X pins σ H s → t σ H Q → wpAny (model X.prog X.w) X.A (isTrue e X.env (eval e X.env)) (TP X pins σ Q) X.xe s
def PW (X : Cx) (e : Expr) (t : TT) : Prop :=
  ∀ (whole : Sem Value) (pins : List (Addr × Obj)) (s : Shared) (σ : St) (H : Hp) (Q : Bool → Hp → Prop), Inv X pins σ H s → t σ H Q → wpAny (model X.prog X.w) X.A (isTrue e X.env whole) (TP X pins σ Q) X.xe s
theorem PW.pt {X : Cx} {e : Expr} {t : TT} (h : PW X e t) : PT X e t := h _
def PA (X : Cx) (es : List Expr) (t : TA) : Prop :=
  ∀ (pos : Pos) (pins : List (Addr × Obj)) (s : Shared) (σ : St) (H : Hp) (Q : List V → Hp → Prop), Inv X pins σ H s → t σ H Q → wpAny (model X.prog X.w) X.A (spliced (backTo pos (starEach es X.env))) (AP X pins σ Q) X.xe s
def PS (X : Cx) (st : Stmt) (t : TS) : Prop :=
  ∀ (pins : List (Addr × Obj)) (s : Shared) (σ : St) (H : Hp) (D : Ends), Inv X pins σ H s → t D σ H → wpAny (model X.prog X.w) X.A (exec st X.env) (SP X pins D) X.xe s
def PSs (X : Cx) (st : List Stmt) (t : TS) : Prop :=
  ∀ (pins : List (Addr × Obj)) (s : Shared) (σ : St) (H : Hp) (D : Ends), Inv X pins σ H s → t D σ H → wpAny (model X.prog X.w) X.A (execs st X.env) (SP X pins D) X.xe s
theorem thn {α : Type} {t : Sem α} {Q Q' : α → Shared → Prop} {M : Model} {A : Around} {E : Value → Shared → Prop} {s : Shared} (h : wpAny M A t Q E s) (hQ : ∀ a s, Q a s → Q' a s) : wpAny M A t Q' E s := wpAny_mono h hQ fun _ _ x => x
end L2

namespace L2
open PySem PySem.Spec PyProof.Rows
section
variable {X : Cx}

def tVar (i : Nat) : TE := fun σ H Q => ∃ v, σ[i]? = some (some v) ∧ Q v H
def tC (v : V) : TE := fun _ H Q => Q v H
theorem pe_var {i : Nat} {x : Str} {pos : Pos} (hN : X.N[i]? = some x) (hv : Vis X.env.scope x) (hd : (x == ("__debug__" : Str)) = false := by decide) (hcd : (x == ("__classdict__" : Str)) = false := by decide) : PE X (.Name x pos) (tVar i) := by
  intro pins s σ H Q I h
  obtain ⟨v, e, h⟩ := h
  obtain ⟨m, hn, hl⟩ := I.loc
  obtain ⟨u, r, l⟩ := hl i x v hN e hv
  have fin : EP X pins σ Q u s := ⟨v, H, I, r, h⟩
  rcases l with ⟨hk, hm⟩ | ⟨hk, c, hc, hcell⟩
  · exact wpAny_Name (wpAny_loadName_local I.ok.kind hk hn hm fin) hd
  · rcases hk with hk | hk
    · exact wpAny_Name (wpAny_loadName_cell I.ok.kind hk hc hcell fin) hd
    · exact wpAny_Name (wpAny_loadName_free I.ok.kind hk hc hcell fin hcd) hd
theorem pe_int {i j pos} : PE X (.Constant (.int i) j pos) (tC (.int i)) := fun _ _ _ H _ I h => wpAny_Constant_int ⟨.int i, H, I.tok _, ⟨_, rfl⟩, h⟩
theorem pe_bl {b j pos} : PE X (.Constant (.bool b) j pos) (tC (.bl b)) := fun _ _ _ H _ I h => Constant_bool ⟨.bl b, H, I, rfl, h⟩
theorem pe_non {j pos} : PE X (.Constant .none j pos) (tC .non) := fun _ _ _ H _ I h => Constant_none ⟨.non, H, I, rfl, h⟩
theorem pe_str {x j pos} : PE X (.Constant (.str x) j pos) (tC (.str x)) := fun _ _ _ H _ I h => Calls.Constant_str ⟨.str x, H, I.tok _, ⟨_, rfl⟩, h⟩

def Gl (X : Cx) (x : Str) : Prop := X.env.kindOf x = some .globalImplicit
theorem ld_glob {E : Value → Shared → Prop} {pins : List (Addr × Obj)} {s : Shared} {σ : St} {H : Hp} {x : Str} {u : Value} {pos : Pos} {Q : Value → Shared → Prop} (I : Inv X pins σ H s) (hg : Gl X x) (hm : X.mg x = some u) (h : Q u s)
    (hd : (x == ("__debug__" : Str)) = false := by decide) : wpAny (model X.prog X.w) X.A (eval (.Name x pos) X.env) Q E s :=
  Calls.Name_function_global I.ok.kind hg (Calls.loadGlobal_global (by rw [I.ok.glob]; exact I.mod.glob.keeps I.bk) hm h) hd
theorem ld_blt {E : Value → Shared → Prop} {pins : List (Addr × Obj)} {s : Shared} {σ : St} {H : Hp} {x : Str} {u : Value} {pos : Pos} {Q : Value → Shared → Prop} (I : Inv X pins σ H s) (hg : Gl X x) (hm : X.mg x = none) (hv : bootBuiltins x = some u) (h : Q u s)
    (hn : x ≠ "__name__" := by decide) (hd : (x == ("__debug__" : Str)) = false := by decide) : wpAny (model X.prog X.w) X.A (eval (.Name x pos) X.env) Q E s := by
  obtain ⟨mb, h1, h2⟩ := I.mod.blt
  exact Calls.Name_function_global I.ok.kind hg (Calls.loadGlobal_builtin (by rw [I.ok.glob]; exact I.mod.glob.keeps I.bk) hm (by rw [I.ok.blt]; exact h1.keeps I.bk) ((h2 x hn).trans hv) h) hd
theorem pe_bltn {x : Str} {v : V} {u : Value} {pos : Pos} (hg : Gl X x) (hm : X.mg x = none) (hv : bootBuiltins x = some u) (r : RelV v u) (hn : x ≠ "__name__" := by decide) (hd : (x == ("__debug__" : Str)) = false := by decide) : PE X (.Name x pos) (tC v) :=
  fun _ _ _ H _ I h => ld_blt I hg hm hv ⟨v, H, I, r, h⟩ hn hd

variable {a b : Expr} {ta tb : TE} {pos : Pos}
def PC (X : Cx) (op : CmpOp) (a b : Expr) (t : TE) : Prop :=
  ∀ (pins : List (Addr × Obj)) (s : Shared) (σ : St) (H : Hp) (Q : VK), Inv X pins σ H s → t σ H Q →
    wpAny (model X.prog X.w) X.A (eval a X.env) (fun v s₁ => wpAny (model X.prog X.w) X.A (eval b X.env) (fun u s₂ => wpAny (model X.prog X.w) X.A (compareOp op v u) (EP X pins σ Q) X.xe s₂) X.xe s₁) X.xe s
theorem nobehind (b : Expr) {op : CmpOp} (h : op ≠ .In) (h2 : op ≠ .NotIn) : behindInMarks op b = false := by
  have e1 : (op == CmpOp.In) = false := by cases op <;> first | rfl | exact absurd rfl h
  have e2 : (op == CmpOp.NotIn) = false := by cases op <;> first | rfl | exact absurd rfl h2
  cases b <;> simp [behindInMarks, e1, e2]
def tB (t : TE) : TT := fun σ H Q => t σ H fun x H1 => ∃ c, x = .bl c ∧ Q c H1
theorem pt_cmp {op : CmpOp} {t : TE} (h : PC X op a b t) (h1 : behindInMarks op b = false := by first | exact nobehind _ (by decide) (by decide) | rfl) : PT X (.Compare a [op] [b] pos) (tB t) := by
  intro pins s σ H Q I hw
  refine wpAny_isTrue_Compare1 (thn (h pins s σ H _ I hw) fun v s1 h1 => thn h1 fun u s2 h2 => thn h2 fun c s3 ⟨x, H1, I1, r1, q1⟩ => ?_) h1
  obtain ⟨d, rfl, q⟩ := q1
  cases r1
  exact wpAny_truthy_bool ⟨H1, I1, q⟩
variable {tA tB' : TT} {rest : List Expr}
def tAnd (t u : TT) : TT := fun σ H Q => t σ H fun c H1 => if c = true then u σ H1 Q else Q false H1
def tOr (t u : TT) : TT := fun σ H Q => t σ H fun c H1 => if c = true then Q true H1 else u σ H1 Q
def tNot (t : TT) : TT := fun σ H Q => t σ H fun c H1 => Q (!c) H1
theorem pw_or1 (ha : PT X a tA) : PW X (.BoolOp .Or [a] pos) tA := by
  intro wh pins s σ H Q I h
  refine isTrue_or (thn (ha pins s σ H Q I h) fun c s1 e => ?_)
  cases c with
  | false => exact isTrue_or_nil e
  | true => exact e
theorem pw_or (ha : PT X a tA) (hb : PW X (.BoolOp .Or (b :: rest) pos) tB') : PW X (.BoolOp .Or (a :: b :: rest) pos) (tOr tA tB') := by
  intro wh pins s σ H Q I h
  refine isTrue_or (thn (ha pins s σ H _ I h) fun c s1 ⟨H1, I1, q1⟩ => ?_)
  cases c with
  | true => exact ⟨H1, I1, q1⟩
  | false => exact hb wh pins s1 σ H1 Q I1 q1
theorem pt_not (ha : PT X a tA) : PT X (.UnaryOp .Not a pos) (tNot tA) := by
  intro pins s σ H Q I h
  exact isTrue_not (ha pins s σ H (fun c H1 => Q (!c) H1) I h)
def tAndV (ta tb : TE) : TE := fun σ H Q => ta σ H fun x H1 => ∃ c, x = .bl c ∧ if c = true then tb σ H1 Q else Q (.bl false) H1
def tOrV (ta tb : TE) : TE := fun σ H Q => ta σ H fun x H1 => ∃ c, x = .bl c ∧ if c = true then Q (.bl true) H1 else tb σ H1 Q
theorem pe_one {op} {t : TE} (h : PE X a t) : PE X (.BoolOp op [a] pos) t := fun pins s σ H Q I hw => BoolOp_one (h pins s σ H Q I hw)
theorem pe_and (ha : PE X a ta) (hb : PE X (.BoolOp .And (b :: rest) pos) tb) : PE X (.BoolOp .And (a :: b :: rest) pos) (tAndV ta tb) := by
  intro pins s σ H Q I h
  refine BoolOp_and (thn (ha pins s σ H _ I h) fun v s1 ⟨x, H1, I1, r1, q1⟩ => ?_)
  obtain ⟨c, rfl, q1⟩ := q1
  cases r1
  refine wpAny_truthy_bool ?_
  cases c with
  | true => exact hb pins s1 σ H1 Q I1 q1
  | false => exact ⟨.bl false, H1, I1, rfl, q1⟩
def tIf (t : TT) (ta tb : TE) : TE := fun σ H Q => t σ H fun c H1 => if c = true then ta σ H1 Q else tb σ H1 Q
end
end L2

namespace L2
open PySem PySem.Spec PyProof.Rows

def SqL (K : PySem.W.Frag) (H : Hp) (a : Addr) (xs : List V) : Prop :=
  Rd H a (.lst xs) ∨
    ∃ (o : Obj) (its : Array Value) (n : Nat), K.lookup a = some o ∧ o.cls = .type "list" ∧ o.dict = none ∧ o.data = .seq its n ∧ its.size ≤ sizeLine ∧ Vals xs its.toList
def SqT (K : PySem.W.Frag) (H : Hp) (a : Addr) (xs : List V) : Prop :=
  Rd H a (.tup xs) ∨
    ∃ (o : Obj) (its : Array Value) (n : Nat), K.lookup a = some o ∧ o.cls = .type "tuple" ∧ o.data = .seq its n ∧ its.size ≤ sizeLine ∧ Vals xs its.toList
def absV : Value → Option V
  | .none => some .non
  | .bool b => some (.bl b)
  | .int i _ => some (.int i)
  | .str x _ => some (.str x)
  | .bytes b _ => some (.byt b)
  | .float b _ => some (.flt b)
  | .ref a => some (.ref a)
  | .type n => some (.ty n)
  | _ => none
theorem RelV.abs {x : V} {u : Value} (r : RelV x u) : absV u = some x := by
  cases x with
  | non => cases r; rfl
  | bl _ => cases r; rfl
  | int _ => obtain ⟨t, rfl⟩ := r; rfl
  | str _ => obtain ⟨t, rfl⟩ := r; rfl
  | byt _ => obtain ⟨t, rfl⟩ := r; rfl
  | flt _ => obtain ⟨t, rfl⟩ := r; rfl
  | ref _ => cases r; rfl
  | ty _ => cases r; rfl
theorem RelV.inj {x y : V} {u : Value} (r : RelV x u) (q : RelV y u) : x = y := Option.some.inj (r.abs.symm.trans q.abs)
theorem Vals.inj : ∀ {xs ys : List V} {us : List Value}, Vals xs us → Vals ys us → xs = ys
  | _, _, _, .nil, .nil => rfl
  | _, _, _, .cons r t, .cons r' t' => by rw [r.inj r', Vals.inj t t']
section
variable {X : Cx} {pins : List (Addr × Obj)} {σ : St} {H : Hp} {s : Shared} {a : Addr} {xs ys : List V}
theorem SqL.of {K : PySem.W.Frag} (h : H a = some (.lst xs)) : SqL K H a xs := .inl (.inl h)
theorem SqT.of {K : PySem.W.Frag} (h : H a = some (.tup xs)) : SqT K H a xs := .inl (.inl h)
theorem Inv.list (I : Inv X pins σ H s) (h : SqL X.K H a xs) : ∃ its : List Value, Vals xs its ∧ PlainL s.heap a its.toArray ∧ xs.length ≤ sizeLine := by
  rcases h with h | ⟨o, its, n, hk, hc, hd, hs, hz, r⟩
  · obtain ⟨z, its, n, r, e⟩ := h.ok I.hok
    exact ⟨its, r, ⟨_, n, e, rfl, rfl, rfl⟩, z⟩
  · refine ⟨its.toList, r, ⟨o, n, I.kIn a o hk, hc, hd, by simpa using hs⟩, ?_⟩
    have e := r.length
    simp only [Array.length_toList] at e
    omega
theorem Inv.tuple (I : Inv X pins σ H s) (h : SqT X.K H a xs) : ∃ its : List Value, Vals xs its ∧ IsTup s.heap a its.toArray ∧ xs.length ≤ sizeLine := by
  rcases h with h | ⟨o, its, n, hk, hc, hs, hz, r⟩
  · obtain ⟨z, its, r, p⟩ := h.ok I.hok
    exact ⟨its, r, p, z⟩
  · refine ⟨its.toList, r, ⟨o, I.kIn a o hk, hc, n, by simpa using hs⟩, ?_⟩
    have e := r.length
    simp only [Array.length_toList] at e
    omega
theorem Inv.list_inj (I : Inv X pins σ H s) (h : SqL X.K H a xs) (h' : SqL X.K H a ys) : xs = ys := by
  obtain ⟨its, r, ⟨o, n, e, _, _, d⟩, _⟩ := I.list h
  obtain ⟨its', r', ⟨o', n', e', _, _, d'⟩, _⟩ := I.list h'
  rw [e] at e'; cases e'
  rw [d] at d'
  injection d' with d1 _
  have : its = its' := by simpa using congrArg Array.toList d1
  subst this
  exact r.inj r'
theorem Inv.tuple_inj (I : Inv X pins σ H s) (h : SqT X.K H a xs) (h' : SqT X.K H a ys) : xs = ys := by
  obtain ⟨its, r, ⟨o, e, _, n, d⟩, _⟩ := I.tuple h
  obtain ⟨its', r', ⟨o', e', _, n', d'⟩, _⟩ := I.tuple h'
  rw [e] at e'; cases e'
  rw [d] at d'
  injection d' with d1 _
  have : its = its' := by simpa using congrArg Array.toList d1
  subst this
  exact r.inj r'
end

abbrev Cx.wish (X : Cx) (E : Value → Shared → Prop) : Cx := { X with xe := E }
abbrev Cx.nox (X : Cx) : Cx := X.wish fun _ _ => False
theorem Cx.Ok.wish {X : Cx} (ok : X.Ok) (E : Value → Shared → Prop) : (X.wish E).Ok :=
  ⟨ok.mod, ok.kind, ok.glob, ok.blt, ok.above, ok.inj, ok.has, ok.cab, ok.hd, ok.frames, ok.stk, ok.exf, ok.bs, ok.bsz, ok.noex, ok.exfs, ok.funs, ok.frf⟩
theorem Cx.Ok.unwish {X : Cx} {E : Value → Shared → Prop} (ok : (X.wish E).Ok) : X.Ok :=
  ⟨ok.mod, ok.kind, ok.glob, ok.blt, ok.above, ok.inj, ok.has, ok.cab, ok.hd, ok.frames, ok.stk, ok.exf, ok.bs, ok.bsz, ok.noex, ok.exfs, ok.funs, ok.frf⟩
section
variable {X : Cx} {pins : List (Addr × Obj)} {σ : St} {H : Hp} {s : Shared} {E : Value → Shared → Prop}
theorem Inv.wish (I : Inv X pins σ H s) (E : Value → Shared → Prop) : Inv (X.wish E) pins σ H s := ⟨I.ok.wish E, I.os, I.bare, I.base, I.loc, I.cell, I.free, I.freeC, I.pin, I.hok, I.len⟩
theorem Inv.unwish (I : Inv (X.wish E) pins σ H s) : Inv X pins σ H s := ⟨I.ok.unwish, I.os, I.bare, I.base, I.loc, I.cell, I.free, I.freeC, I.pin, I.hok, I.len⟩
theorem SP.unwish {D : Ends} {f : Flow} {s' : Shared} (h : SP (X.wish E) pins D f s') : SP X pins D f s' := by
  cases f with
  | next => obtain ⟨σ', H', I, q⟩ := h; exact ⟨σ', H', I.unwish, q⟩
  | brk => obtain ⟨σ', H', I, q⟩ := h; exact ⟨σ', H', I.unwish, q⟩
  | cont => obtain ⟨σ', H', I, q⟩ := h; exact ⟨σ', H', I.unwish, q⟩
  | ret u => obtain ⟨v, σ', H', I, r, q⟩ := h; exact ⟨v, σ', H', I.unwish, r, q⟩
theorem PE.nox {e : Expr} {t : TE} (h : PE X.nox e t) : PE X e t := fun pins s σ H Q I hw =>
  wpAny_mono (h pins s σ H Q (I.wish _) hw) (fun _ _ ⟨v, H', I', r, q⟩ => ⟨v, H', I'.unwish, r, q⟩) fun _ _ z => False.elim z
theorem PT.nox {e : Expr} {t : TT} (h : PT X.nox e t) : PT X e t := fun pins s σ H Q I hw =>
  wpAny_mono (h pins s σ H Q (I.wish _) hw) (fun _ _ ⟨H', I', q⟩ => ⟨H', I'.unwish, q⟩) fun _ _ z => False.elim z
theorem PSs.nox {st : List Stmt} {t : TS} (h : PSs X.nox st t) : PSs X st t := fun pins s σ H D I hw =>
  wpAny_mono (h pins s σ H D (I.wish _) hw) (fun _ _ q => q.unwish) fun _ _ z => False.elim z
end

section
variable {X : Cx} {st : Stmt} {rest : List Stmt} {t u : TS} {e : Expr} {te : TE} {pos : Pos}
def tNext : TS := fun D σ H => D.nx σ H
def tSeq (t u : TS) : TS := fun D σ H => t { D with nx := u D } σ H
theorem pss_nil : PSs X [] tNext := fun _ _ σ H _ I h => wpAny_execs_nil ⟨σ, H, I, h⟩
theorem pss_cons (h1 : PS X st t) (h2 : PSs X rest u) : PSs X (st :: rest) (tSeq t u) := by
  intro pins s σ H D I h
  refine wpAny_execs_cons (thn (h1 pins s σ H { D with nx := u D } I h) fun f s1 q => ?_)
  cases f with
  | next =>
    obtain ⟨σ', H', I', q⟩ := q
    exact h2 pins s1 σ' H' D I' q
  | ret v => exact q
  | brk => exact q
  | cont => exact q
theorem pss_one (h1 : PS X st t) : PSs X [st] t := by
  intro pins s σ H D I h
  refine wpAny_execs_cons (thn (h1 pins s σ H D I h) fun f s1 q => ?_)
  cases f with
  | next => exact wpAny_execs_nil q
  | ret v => exact q
  | brk => exact q
  | cont => exact q
def tBreak : TS := fun D σ H => D.bk σ H
def tCont : TS := fun D σ H => D.ct σ H
theorem Inv.quiet {pins : List (Addr × Obj)} {σ : St} {H : Hp} {s : Shared} (I : Inv X pins σ H s) : interactive X.env = false := by simp [interactive, I.ok.kind]
def tDrop (te : TE) : TS := fun D σ H => te σ H fun _ H1 => D.nx σ H1
theorem ps_expr (he : PE X e te) (hs : swapsWith e none pos.line X.env = pure false := by rfl) : PS X (.Expr e pos) (tDrop te) := by
  intro pins s σ H D I h
  exact wpAny_Expr_any (thn (he pins s σ H _ I h) fun v s1 ⟨x, H1, I1, r1, q1⟩ => ⟨σ, H1, I1, q1⟩) I.quiet hs
def tRet (te : TE) : TS := fun D σ H => te σ H D.rt
theorem ps_ret (he : PE X e te) : PS X (.Return (some e) pos) (tRet te) := by
  intro pins s σ H D I h
  exact wpAny_Return_some (thn (he pins s σ H _ I h) fun v s1 ⟨x, H1, I1, r1, q1⟩ => ⟨x, σ, H1, I1, r1, q1⟩)
def tRetN : TS := fun D _ H => D.rt .non H
def tIfS (c : TT) (t u : TS) : TS := fun D σ H => c σ H fun b H1 => if b = true then t D σ H1 else u D σ H1
theorem ps_if {c : Expr} {a b : List Stmt} {tc : TT} (hc : PT X c tc) (ha : PSs X a t) (hb : PSs X b u) : PS X (.If c a b pos) (tIfS tc t u) := by
  intro pins s σ H D I h
  refine wpAny_If (thn (hc pins s σ H _ I h) fun d s1 ⟨H1, I1, q1⟩ => ?_)
  cases d with
  | true => exact ha pins s1 σ H1 D I1 q1
  | false => exact hb pins s1 σ H1 D I1 q1
end

abbrev TG := V → St → Hp → (St → Hp → Prop) → Prop
abbrev TGs := List V → St → Hp → (St → Hp → Prop) → Prop
def PG (X : Cx) (target : Expr) (t : TG) : Prop :=
  ∀ (pins : List (Addr × Obj)) (s : Shared) (σ : St) (H : Hp) (v : V) (u : Value) (Q : St → Hp → Prop), Inv X pins σ H s → RelV v u → t v σ H Q →
    wpAny (model X.prog X.w) X.A (assign target X.env u) (fun _ s' => ∃ σ' H', Inv X pins σ' H' s' ∧ Q σ' H') X.xe s
def PGs (X : Cx) (ts : List Expr) (t : TGs) : Prop :=
  ∀ (pins : List (Addr × Obj)) (s : Shared) (σ : St) (H : Hp) (vs : List V) (us : List Value) (Q : St → Hp → Prop), Inv X pins σ H s → Vals vs us → t vs σ H Q →
    wpAny (model X.prog X.w) X.A (assignInOrder ((assignEach ts X.env).map (·.2)) us) (fun _ s' => ∃ σ' H', Inv X pins σ' H' s' ∧ Q σ' H') X.xe s
abbrev TSet := V → V → V → Hp → (Hp → Prop) → Prop
def PSet (X : Cx) (t : TSet) : Prop :=
  ∀ (pins : List (Addr × Obj)) (s : Shared) (σ : St) (H : Hp) (o i v : V) (ov iv u : Value) (Q : Hp → Prop), Inv X pins σ H s → RelV o ov → RelV i iv → RelV v u → t o i v H Q →
    wpAny (model X.prog X.w) X.A (setItem ov iv u) (fun _ s' => ∃ H', Inv X pins σ H' s' ∧ Q H') X.xe s
abbrev TIp := V → V → Hp → VK → Prop
section
variable {X : Cx} {pos : Pos}
def gName (i : Nat) : TG := fun v σ H Q => Q (σ.set i (some v)) H
theorem pg_name {i : Nat} {x : Str} (hN : X.N.Nodup) (hi : X.N[i]? = some x) (hx : Loc X.env.scope x) (hf : X.fn x = true ∨ X.env.scope.names.lookup x = some .local := by first | exact .inl rfl | exact .inr rfl | assumption) : PG X (.Name x pos) (gName i) := by
  intro pins s σ H v u Q I r h
  exact wpAny_assign_Name (store_ok I hN hi hx r (fun s' I' => ⟨_, H, I', h⟩) hf)
def gNil : TGs := fun vs σ H Q => vs = [] ∧ Q σ H
def gCons (t : TG) (u : TGs) : TGs := fun vs σ H Q => ∃ v r, vs = v :: r ∧ t v σ H fun σ' H' => u r σ' H' Q
theorem pgs_nil : PGs X [] gNil := by
  intro pins s σ H vs us Q I r h
  obtain ⟨e, h⟩ := h
  subst e
  cases r
  exact assignInOrder_nil ⟨σ, H, I, h⟩
theorem pgs_cons {e : Expr} {es : List Expr} {t : TG} {u : TGs} (h1 : PG X e t) (h2 : PGs X es u)
    (hs : (assignEach (e :: es) X.env).map (·.2) = assign e X.env :: (assignEach es X.env).map (·.2) := by rfl) : PGs X (e :: es) (gCons t u) := by
  intro pins s σ H vs us Q I r h
  obtain ⟨v, vr, e1, h⟩ := h
  subst e1
  cases r with
  | cons r rr =>
    rw [hs]
    refine assignInOrder_cons (thn (h1 pins s σ H _ _ _ I r h) fun _ s1 ⟨σ1, H1, I1, q1⟩ => ?_)
    exact h2 pins s1 σ1 H1 _ _ Q I1 rr q1
def gTup (K : PySem.W.Frag) (n : Nat) (t : TGs) : TG := fun v σ H Q => ∃ a xs, v = .ref a ∧ SqT K H a xs ∧ xs.length = n ∧ t xs σ H Q
theorem pg_tup {es : List Expr} {k : Nat} {t : TGs} {n : Nat} (hc : X.calm = true) (h : PGs X es t)
    (hn : (assignEach es X.env).length = n := by rfl) (hst : (assignEach es X.env).findIdx? (·.1) = none := by rfl) : PG X (.Tuple es k pos) (gTup X.K n t) := by
  intro pins s σ H v u Q I r hw
  obtain ⟨a, xs, e1, hq, hl, hw⟩ := hw
  subst e1
  cases r
  obtain ⟨its, rv, ht, hz⟩ := I.tuple hq
  refine assign_Tuple_tuple (I.ok.hd hc) ht (by simp [hn, ← hl, rv.length]) hst fun h' hx => ?_
  have I1 : Inv X pins σ H { s with heap := h' } := I.kept (t' := s.toks) fun b o e => hx b o (Nat.ne_of_lt (Heap.lt_size e)) e
  exact h pins _ σ H xs _ Q I1 (by simpa using rv) hw
def gSub (to ti : TE) (t : TSet) : TG := fun v σ H Q => to σ H fun o H1 => ti σ H1 fun i H2 => t o i v H2 fun H3 => Q σ H3
theorem pg_sub {o i : Expr} {to ti : TE} {t : TSet} (ho : PE X o to) (hi : PE X i ti) (hs : PSet X t)
    (ha : ∀ v, assign (.Subscript o i pos) X.env v = (do
      let ov ← holding [v] (eval o X.env)
      let iv ← holding [v, ov] (eval i X.env)
      standAt pos
      holding [v, ov, iv] (setItem ov iv v)
      release [v, ov, iv] []) := by intro _; rfl) : PG X (.Subscript o i pos) (gSub to ti t) := by
  intro pins s σ H v u Q I r h
  rw [ha]
  refine wpAny_bind (wpAny_holding (thn (ho pins s σ H _ I h) fun ov s1 ⟨x, H1, I1, r1, q1⟩ => ?_))
  refine wpAny_bind (wpAny_holding (thn (hi pins s1 σ H1 _ I1 q1) fun iv s2 ⟨y, H2, I2, r2, q2⟩ => ?_))
  refine wpAny_bind (wpAny_standAt (wpAny_bind (wpAny_holding (thn (hs pins s2 σ H2 x y v ov iv u _ I2 r1 r2 r q2) fun _ s3 ⟨H3, I3, q3⟩ => ?_))))
  exact wpAny_release ⟨σ, H3, I3, q3⟩
def tAsg (te : TE) (g : TG) : TS := fun D σ H => te σ H fun x H1 => g x σ H1 D.nx
theorem ps_asg {tg e : Expr} {te : TE} {g : TG} (he : PE X e te) (hg : PG X tg g) (hs : swapsWithSole [tg] e pos.line X.env = pure false := by rfl) (hw : swappedStores [tg] e X.env = pure none := by rfl)
    (h1 : (assignEach [tg] X.env).map (·.2) = [assign tg X.env] := by rfl) : PS X (.Assign [tg] e pos) (tAsg te g) := by
  intro pins s σ H D I h
  refine wpAny_Assign_stores (thn (he pins s σ H _ I h) fun v s1 ⟨x, H1, I1, r1, q1⟩ => ?_) hs hw
  rw [h1]
  exact thn (hg pins s1 σ H1 x v _ I1 r1 q1) fun _ s2 q => q
theorem ps_set {i : Nat} {x : Str} {e : Expr} {te : TE} {pos' : Pos} (hN : X.N.Nodup) (hi : X.N[i]? = some x) (hx : Loc X.env.scope x) (he : PE X e te) (hs : swapsWith e (some (.Name x pos')) pos.line X.env = pure false := by rfl) (hf : X.fn x = true ∨ X.env.scope.names.lookup x = some .local := by first | exact .inl rfl | exact .inr rfl | assumption) :
    PS X (.Assign [.Name x pos'] e pos) (tAsg te (gName i)) := by
  intro pins s σ H D I h
  refine wpAny_Assign_Name (thn (he pins s σ H _ I h) fun v s1 ⟨y, H1, I1, r1, q1⟩ => ?_) hs
  exact store_ok I1 hN hi hx r1 (fun s2 I2 => ⟨_, H1, I2, q1⟩) hf
def tAug (i : Nat) (te : TE) (ti : TIp) : TS := fun D σ H => ∃ x, σ[i]? = some (some x) ∧ te σ H fun y H1 => ti x y H1 fun z H2 => D.nx (σ.set i (some z)) H2
def ipI (f : Int → Int → Int) : TIp := fun x y H Q => ∃ i j, x = .int i ∧ y = .int j ∧ Q (.int (f i j)) H
end

section
variable {X : Cx} {pos : Pos}
end

structure It where
  go : Nat → Hp → Prop
  yld : Nat → Hp → V → Hp → Prop
  stop : Nat → Hp → Prop
def FpOk (X : Cx) (pins : List (Addr × Obj)) (H : Hp) (b : Addr) : Prop :=
  H b = none ∧ b ≠ X.env.locals ∧ b ∉ X.fs ∧ (b ∈ X.ex ∨ X.s₀.heap.objs.size ≤ b) ∧ (∀ x c, X.env.cells.lookup x = some c → c ≠ b) ∧ ∀ p ∈ X.pn ++ pins, p.1 ≠ b
theorem Inv.fpOk {X : Cx} {pins : List (Addr × Obj)} {σ : St} {H H' : Hp} {s : Shared} {b : Addr} (I : Inv X pins σ H s) (hb : s.heap.objs.size ≤ b) (hn : H' b = none) : FpOk X pins H' b := by
  refine ⟨hn, Nat.ne_of_gt (Nat.lt_of_lt_of_le I.lt hb), I.nofs hb, .inr (Nat.le_trans I.sz hb), fun x c e z => ?_, fun p hp z => ?_⟩
  · obtain ⟨v, q⟩ := I.cell x c e
    exact absurd (Nat.lt_of_lt_of_le q.lt (by rw [z]; exact hb)) (Nat.lt_irrefl _)
  · exact absurd (Nat.lt_of_lt_of_le (Heap.lt_size (I.pin p hp).1) (by rw [z]; exact hb)) (Nat.lt_irrefl _)
structure Turn (P : Program) (w : World) (K : PySem.W.Frag) (tg : Expr) (J : It) (fp : List Addr) (it : Addr) (tn : Nat → Heap → Prop) : Prop where
  mem : it ∈ fp
  obj : ∀ i h, tn i h → ∀ b ∈ fp, ∃ o, h.get? b = some o ∧ ∀ v, o.data ≠ .cell v
  keep : ∀ i h h', tn i h → (∀ b ∈ fp, ∀ o, h.get? b = some o → h'.get? b = some o) → tn i h'
  item : ∀ (X : Cx), X.prog = P → X.w = w → X.K = K → X.calm = true → ∀ (i : Nat) (pins : List (Addr × Obj)) (s : Shared) (σ : St) (H : Hp) (E : Value → Shared → Prop), Inv X pins σ H s → (∀ b ∈ fp, FpOk X pins H b) → tn i s.heap → J.go i H →
    wpAny (model P w) X.A (pyNext (.ref it)) (fun r s1 => ∃ u, r = some u ∧
      wpAny (model P w) X.A (letOwnedTupleGo tg (.ref it) u) (fun _ s2 => ∃ x H', Inv X pins σ H' s2 ∧ RelV x u ∧ J.yld i H x H' ∧ tn (i + 1) s2.heap ∧ ∀ b ∈ fp, H' b = none) E s1) E s
  done : ∀ (X : Cx), X.prog = P → X.w = w → X.K = K → X.calm = true → ∀ (i : Nat) (pins : List (Addr × Obj)) (s : Shared) (σ : St) (H : Hp) (E : Value → Shared → Prop), Inv X pins σ H s → (∀ b ∈ fp, FpOk X pins H b) → tn i s.heap → J.stop i H →
    wpAny (model P w) X.A (pyNext (.ref it)) (fun r s1 => r = none ∧ Inv X pins σ H s1) E s
  self : ∀ (A : Around) (i : Nat) (s : Shared) (Q : Value → Shared → Prop) (E : Value → Shared → Prop), tn i s.heap → Q (.ref it) s → wpAny (model P w) A (pyIter (.ref it)) Q E s
abbrev TI := St → Hp → (It → Hp → Prop) → Prop
def PIE (X : Cx) (pins : List (Addr × Obj)) (σ : St) (tg : Expr) (R : It → Hp → Prop) (itv : Value) (s2 : Shared) : Prop :=
  ∃ (it : Addr) (fp : List Addr) (tn : Nat → Heap → Prop) (J : It) (H' : Hp), itv = .ref it ∧ Inv X pins σ H' s2 ∧ Turn X.prog X.w X.K tg J fp it tn ∧ tn 0 s2.heap ∧ (∀ b ∈ fp, FpOk X pins H' b) ∧ R J H'
def PI (X : Cx) (tg iter : Expr) (wi : TI) : Prop :=
  ∀ (pins : List (Addr × Obj)) (s : Shared) (σ : St) (H : Hp) (R : It → Hp → Prop), Inv X pins σ H s → wi σ H R →
    wpAny (model X.prog X.w) X.A (eval iter X.env) (fun v s1 => wpAny (model X.prog X.w) X.A (pyIter v) (PIE X pins σ tg R) X.xe s1) X.xe s

theorem go_of {M : Model} {A : Around} {E : Value → Shared → Prop} {s : Shared} {tg : Expr} {it : Addr} {u : Value} {o : Obj} {n : String} {vs : Array Value} {Q : Unit → Shared → Prop} (ho : s.heap.get? it = some o) (hc : o.cls = .type n) (hd : o.data = .fields vs)
    (hn : ["enumerate", "zip", "dict_itemiterator", "dict_reverseitemiterator", "odict_iterator", "itertools.zip_longest", "itertools.pairwise"].contains n = false) (hQ : Q () s) : wpAny M A (letOwnedTupleGo tg (.ref it) u) Q E s := by
  unfold letOwnedTupleGo
  cases tg <;> first
    | exact wpAny_pure hQ
    | (cases u <;> first
        | exact wpAny_pure hQ
        | (refine wpAny_bind (wpAny_load ho ?_)
           rw [hc, hd]
           show wpAny M A (if (["enumerate", "zip", "dict_itemiterator", "dict_reverseitemiterator", "odict_iterator", "itertools.zip_longest", "itertools.pairwise"].contains n && vs[0]? == some (rawInt _)) = true then _ else _) Q E s
           rw [if_neg (by intro h; rw [hn, Bool.false_and] at h; cases h)]
           exact wpAny_pure hQ))

def Itl (K : PySem.W.Frag) (a : Addr) : It :=
  ⟨fun i H => ∃ xs x, SqL K H a xs ∧ xs[i]? = some x, fun i H x H' => H' = H ∧ ∀ xs, SqL K H a xs → xs[i]? = some x, fun i H => ∃ xs, SqL K H a xs ∧ xs.length ≤ i⟩
def Itt (K : PySem.W.Frag) (a : Addr) : It :=
  ⟨fun i H => ∃ xs x, SqT K H a xs ∧ xs[i]? = some x, fun i H x H' => H' = H ∧ ∀ xs, SqT K H a xs → xs[i]? = some x, fun i H => ∃ xs, SqT K H a xs ∧ xs.length ≤ i⟩
def Itr (lo : Int) (n : Nat) : It := ⟨fun i _ => i < n, fun i H x H' => H' = H ∧ x = .int (lo + i), fun i _ => n ≤ i⟩
theorem turn_list {P : Program} {w : World} {K : PySem.W.Frag} {tg : Expr} (a it : Addr) : Turn P w K tg (Itl K a) [it] it (fun i h => h.IsListIter it a i) where
  mem := by simp
  obj := fun i h st b hb => by
    have e : b = it := by simpa using hb
    subst e
    obtain ⟨o, e, c, d⟩ := st
    exact ⟨o, e, fun v z => by rw [d] at z; cases z⟩
  keep := fun i h h' st k => st.at fun o e => k it (by simp) o e
  item := by
    intro X hP hw hK hc i pins s σ H E I hf st hg
    subst hP hw hK
    obtain ⟨xs, x, hq, hx⟩ := hg
    obtain ⟨its, rv, p, hz⟩ := I.list hq
    obtain ⟨u, hu, ru⟩ := rv.get hx
    obtain ⟨f0, f1, f2, f3, f4, f5⟩ := hf it (by simp)
    refine wpAny_pyNext_list_item st p.isList (x := u) (by simpa using hu) fun h' st' sb => ?_
    have I1 : Inv X pins σ H { s with heap := h' } := I.turned (t' := s.toks) (fun b o hb e => (sb.2 b hb).trans e) f0 f1 f3 f4 f5
    obtain ⟨o, e, c, d⟩ := id st'
    exact ⟨u, rfl, go_of (s := { s with heap := h' }) e c d (by decide) ⟨x, H, I1, ru, ⟨rfl, fun ys hy => by rw [I.list_inj hy hq]; exact hx⟩, st', fun b hb => (hf b hb).1⟩⟩
  done := by
    intro X hP hw hK hc i pins s σ H E I hf st hg
    subst hP hw hK
    obtain ⟨xs, hq, hx⟩ := hg
    obtain ⟨its, rv, p, hz⟩ := I.list hq
    obtain ⟨f0, f1, f2, f3, f4, f5⟩ := hf it (by simp)
    have hl := rv.length
    exact wpAny_pyNext_list_end (I.ok.hd hc) st p.isList (by simp; omega) fun h' eb => ⟨rfl, I.turned (t' := s.toks) (fun b o hb e => eb b o hb e) f0 f1 f3 f4 f5⟩
  self := fun _ _ _ _ _ st h => wpAny_pyIter_listiter st h
theorem turn_tuple {P : Program} {w : World} {K : PySem.W.Frag} {tg : Expr} (a it : Addr) : Turn P w K tg (Itt K a) [it] it (fun i h => h.IsTupleIter it a i) where
  mem := by simp
  obj := fun i h st b hb => by
    have e : b = it := by simpa using hb
    subst e
    obtain ⟨o, e, c, d⟩ := st
    exact ⟨o, e, fun v z => by rw [d] at z; cases z⟩
  keep := fun i h h' st k => st.at fun o e => k it (by simp) o e
  item := by
    intro X hP hw hK hc i pins s σ H E I hf st hg
    subst hP hw hK
    obtain ⟨xs, x, hq, hx⟩ := hg
    obtain ⟨its, rv, p, hz⟩ := I.tuple hq
    obtain ⟨u, hu, ru⟩ := rv.get hx
    obtain ⟨f0, f1, f2, f3, f4, f5⟩ := hf it (by simp)
    refine wpAny_pyNext_tuple_item st (show s.heap.IsTuple a its.toArray from p) (x := u) (by simpa using hu) fun h' st' sb => ?_
    have I1 : Inv X pins σ H { s with heap := h' } := I.turned (t' := s.toks) (fun b o hb e => (sb.2 b hb).trans e) f0 f1 f3 f4 f5
    obtain ⟨o, e, c, d⟩ := id st'
    exact ⟨u, rfl, go_of (s := { s with heap := h' }) e c d (by decide) ⟨x, H, I1, ru, ⟨rfl, fun ys hy => by rw [I.tuple_inj hy hq]; exact hx⟩, st', fun b hb => (hf b hb).1⟩⟩
  done := by
    intro X hP hw hK hc i pins s σ H E I hf st hg
    subst hP hw hK
    obtain ⟨xs, hq, hx⟩ := hg
    obtain ⟨its, rv, p, hz⟩ := I.tuple hq
    obtain ⟨f0, f1, f2, f3, f4, f5⟩ := hf it (by simp)
    have hl := rv.length
    exact wpAny_pyNext_tuple_end (I.ok.hd hc) st (show s.heap.IsTuple a its.toArray from p) (by simp; omega) fun h' eb => ⟨rfl, I.turned (t' := s.toks) (fun b o hb e => eb b o hb e) f0 f1 f3 f4 f5⟩
  self := fun _ _ _ _ _ st h => wpAny_pyIter_tupleiter st h
theorem turn_range {P : Program} {w : World} {K : PySem.W.Frag} {tg : Expr} (it : Addr) (lo : Int) (n : Nat) : Turn P w K tg (Itr lo n) [it] it (fun i h => IsRangeIter h it (lo + (i : Nat) * 1) ((n : Int) - (i : Nat)) 1) where
  mem := by simp
  obj := fun i h st b hb => by
    have e : b = it := by simpa using hb
    subst e
    exact ⟨_, st, fun v z => by
      have z' : Data.fields _ = Data.cell v := z
      cases z'⟩
  keep := fun i h h' st k => k it (by simp) _ st
  item := by
    intro X hP hw hK hc i pins s σ H E I hf st hg
    subst hP hw hK
    obtain ⟨f0, f1, f2, f3, f4, f5⟩ := hf it (by simp)
    have W := Walks.range (prog := X.prog) (w := X.w) (I.ok.hd hc) it lo 1 n
    refine W.item i s _ _ hg st fun v h' tk hv st' kk => ?_
    obtain ⟨t, rfl⟩ := hv
    have I1 : Inv X pins σ H { s with heap := h', toks := tk } := I.turned (fun b o hb e => kk b o (by simpa using hb) e) f0 f1 f3 f4 f5
    refine ⟨_, rfl, go_of (s := { s with heap := h', toks := tk }) (n := "range_iterator") st' rfl rfl (by decide) ⟨.int (lo + i), H, I1, ⟨t, ?_⟩, ⟨rfl, rfl⟩, st', fun b hb => (hf b hb).1⟩⟩
    rw [Int.mul_one]
  done := by
    intro X hP hw hK hc i pins s σ H E I hf st hg
    subst hP hw hK
    obtain ⟨f0, f1, f2, f3, f4, f5⟩ := hf it (by simp)
    exact wpAny_pyNext_range_end (I.ok.hd hc) st (by have : n ≤ i := hg; omega) fun h' eb => ⟨rfl, I.turned (t' := s.toks) (fun b o hb e => eb b o hb e) f0 f1 f3 f4 f5⟩
  self := fun _ _ _ _ _ st h => wpAny_pyIter_rangeiter st h
end L2

namespace L2
open PySem PySem.Spec PyProof.Rows
section
variable {X : Cx} {tg : Expr}
theorem range_it {pins : List (Addr × Obj)} {σ : St} {H : Hp} {s : Shared} {R : It → Hp → Prop} {E : Value → Shared → Prop} {lo hi : Int} {t u v : Tok} {tk : Nat} (I : Inv X pins σ H s) (h1 : -(2 ^ 62) ≤ lo) (h2 : lo < 2 ^ 62) (h3 : -(2 ^ 62) ≤ hi) (h4 : hi < 2 ^ 62)
    (q : R (Itr lo (hi - lo).toNat) H) : wpAny (model X.prog X.w) X.A (pyIter (.ref s.heap.objs.size)) (PIE X pins σ tg R) E { s with heap := s.heap.push { cls := .type "range", data := .fields #[.int lo t, .int hi u, .int 1 v] }, toks := tk } := by
  refine wpAny_pyIter_range (IsRange.new ..) (small_one h1 h2 h3 h4) ?_
  have I1 : Inv X pins σ H { s with heap := s.heap.push { cls := .type "range", data := .fields #[.int lo t, .int hi u, .int 1 v] }, toks := tk } := I.kept fun b o e => Heap.get?_push_of_some _ e
  refine ⟨(s.heap.push { cls := .type "range", data := .fields #[.int lo t, .int hi u, .int 1 v] }).objs.size, [(s.heap.push { cls := .type "range", data := .fields #[.int lo t, .int hi u, .int 1 v] }).objs.size], _, _, H, rfl,
    I1.kept (t' := tk) fun b o e => Heap.get?_push_of_some _ e, turn_range _ lo (hi - lo).toNat, ?_, fun b hb => ?_, q⟩
  · have e1 : lo + ((0 : Nat) : Int) * 1 = lo := by simp
    have e2 : (((hi - lo).toNat : Nat) : Int) - ((0 : Nat) : Int) = Builtin.Range.rangeSize lo hi 1 := by rw [rangeSize_one]; split <;> omega
    show IsRangeIter _ _ (lo + ((0 : Nat) : Int) * 1) ((((hi - lo).toNat : Nat) : Int) - ((0 : Nat) : Int)) 1
    rw [e1, e2]
    exact Heap.get?_push_size _ rfl
  · have e : b = (s.heap.push { cls := .type "range", data := .fields #[.int lo t, .int hi u, .int 1 v] }).objs.size := by simpa using hb
    subst e
    exact I1.fpOk (Nat.le_refl _) (I1.hok.fresh (Nat.le_refl _))
def iRng1 (ta : TA) : TI := fun σ H R => ta σ H fun vs H1 => ∃ j : Int, vs = [.int j] ∧ -(2 ^ 62) ≤ j ∧ j < 2 ^ 62 ∧ R (Itr 0 j.toNat) H1
def iRng2 (ta : TA) : TI := fun σ H R => ta σ H fun vs H1 => ∃ i j : Int, vs = [.int i, .int j] ∧ (-(2 ^ 62) ≤ i ∧ i < 2 ^ 62 ∧ -(2 ^ 62) ≤ j ∧ j < 2 ^ 62) ∧ R (Itr i (j - i).toNat) H1
theorem pi_range1 {a : Expr} {ta : TA} {p pos : Pos} (hg : Gl X "range") (hm : X.mg "range" = none) (ha : PA X [a] ta) (hs : starEach [a] X.env = [(false, eval a X.env)] := by rfl) : PI X tg (.Call (.Name "range" p) [a] [] pos) (iRng1 ta) := by
  intro pins s σ H R I h
  refine Call_ (ld_blt I hg hm boot_range (PyProof.Rows.callWith_type1 (thn (ha pos pins s σ H _ I h) fun us s1 ⟨vs, H1, I1, r1, q1⟩ => ?_) hs rfl))
  obtain ⟨j, e, q1, q2, q⟩ := q1
  subst e
  cases r1 with
  | cons r rr =>
    cases rr
    obtain ⟨t, rfl⟩ := r
    exact call_range_1 (range_it I1 (by omega) (by omega) q1 q2 (by simpa using q))
def tFor (wi : TI) (g : TG) (tb : TS) : TS := fun D σ H => wi σ H fun J H1 => ∃ W : Nat → Nat → St → Hp → Prop, (∃ m, W 0 m σ H1) ∧ ∀ i m σ H, W i m σ H →
  (J.stop i H ∧ D.nx σ H) ∨ (J.go i H ∧ ∃ N : St → Hp → Prop, (∀ σ' H', N σ' H' → ∃ m', m' < m ∧ W (i + 1) m' σ' H') ∧ ∀ x H', J.yld i H x H' → g x σ H' fun σ2 H2 => tb { D with nx := N, ct := N, bk := D.nx } σ2 H2)
def pinsAt (fp : List Addr) (h : Heap) : List (Addr × Obj) := fp.filterMap fun b => (h.get? b).map fun o => (b, o)
theorem mem_pinsAt {fp : List Addr} {h : Heap} {b : Addr} {o : Obj} (hb : b ∈ fp) (e : h.get? b = some o) : (b, o) ∈ pinsAt fp h := List.mem_filterMap.mpr ⟨b, hb, by rw [e]; rfl⟩
theorem of_pinsAt {fp : List Addr} {h : Heap} {p : Addr × Obj} (hp : p ∈ pinsAt fp h) : p.1 ∈ fp ∧ h.get? p.1 = some p.2 := by
  obtain ⟨b, hb, e⟩ := List.mem_filterMap.mp hp
  cases q : h.get? b with
  | none => rw [q] at e; cases e
  | some o =>
    rw [q] at e
    have e' : (b, o) = p := Option.some.inj e
    subst e'
    exact ⟨hb, q⟩
theorem Inv.pinned {pins : List (Addr × Obj)} {σ : St} {H : Hp} {s : Shared} {fp : List Addr} (I : Inv X pins σ H s) (hf : ∀ b ∈ fp, FpOk X pins H b) (ho : ∀ b ∈ fp, ∃ o, s.heap.get? b = some o ∧ ∀ v, o.data ≠ .cell v) : Inv X (pins ++ pinsAt fp s.heap) σ H s :=
  I.pins_of fun p hp => (List.mem_append.mp hp).elim (fun z => I.pin p (List.mem_append_right _ z)) fun z => by
    obtain ⟨hb, e⟩ := of_pinsAt z
    obtain ⟨f0, f1, f2, _⟩ := hf p.1 hb
    obtain ⟨o, e', d⟩ := ho p.1 hb
    rw [e] at e'; cases e'
    exact ⟨e, f0, f1, f2, d⟩
theorem Inv.unpinned {pins pl : List (Addr × Obj)} {σ : St} {H : Hp} {s : Shared} (I : Inv X (pins ++ pl) σ H s) : Inv X pins σ H s := I.pins_of fun p hp => I.pin p (List.mem_append_right _ (List.mem_append_left _ hp))
theorem ps_for {iter : Expr} {body : List Stmt} {wi : TI} {g : TG} {tb : TS} {pos : Pos} (hp : PassesOwn (model X.prog X.w) X.A X.env X.xe) (hc : X.calm = true) (hi : PI X tg iter wi) (hg : PG X tg g) (hb : PSs X body tb)
    (hs : ∀ x, foldedSetIterable iter X.env x = pure x := by intro _; rfl) : PS X (.For tg iter body [] pos) (tFor wi g tb) := by
  intro pins s σ H D I h
  refine wpAny_For (thn (hi pins s σ H _ I h) fun v s1 h1 => thn h1 fun itv s2 h2 => ?_) hs
  obtain ⟨it, fp, tn, J, H2, e, I2, T, st2, f2, W, ⟨m0, w0⟩, turn⟩ := h2
  subst e
  -- what stays true of the iterator's objects through the loop
  have stat : ∀ {H' : Hp}, (∀ b ∈ fp, H' b = none) → ∀ b ∈ fp, FpOk X pins H' b := fun hn b hb => ⟨hn b hb, (f2 b hb).2⟩
  refine codeAny_forLoop_any (fun n s' => ∃ i σ' H', Inv X pins σ' H' s' ∧ tn i s'.heap ∧ (∀ b ∈ fp, H' b = none) ∧ W i n σ' H') ?_ m0 ⟨0, σ, H2, I2, st2, fun b hb => (f2 b hb).1, w0⟩
  rintro n s3 ⟨i, σ3, H3, I3, st3, fr3, w3⟩
  rcases turn i n σ3 H3 w3 with ⟨stop, qn⟩ | ⟨go, N, hN, step⟩
  · refine wpAny_passesOwn hp (thn (T.done X rfl rfl rfl hc i pins s3 σ3 H3 X.xe I3 (stat fr3) st3 stop) fun r s4 ⟨hr, I4⟩ => ?_)
    subst hr
    exact wpAny_execs_nil ⟨σ3, H3, I4, qn⟩
  · refine wpAny_passesOwn hp (thn (T.item X rfl rfl rfl hc i pins s3 σ3 H3 X.xe I3 (stat fr3) st3 go) fun r s4 ⟨u, hr, h4⟩ => ?_)
    subst hr
    refine wpAny_passesOwn hp (thn h4 fun _ s5 ⟨x, H5, I5, r5, y5, st5, fr5⟩ => ?_)
    have I5' := I5.pinned (stat fr5) (T.obj _ _ st5)
    refine wpAny_passesOwn hp (thn (hg _ s5 σ3 H5 x u _ I5' r5 (step x H5 y5)) fun _ s6 ⟨σ6, H6, I6, q6⟩ => ?_)
    refine wpAny_passesOwn hp (thn (hb _ s6 σ6 H6 _ I6 q6) fun f s7 q7 => ?_)
    have again : ∀ {σ7 : St} {H7 : Hp}, Inv X (pins ++ pinsAt fp s5.heap) σ7 H7 s7 → N σ7 H7 → ∃ m, m < n ∧ ∃ i σ' H', Inv X pins σ' H' s7 ∧ tn i s7.heap ∧ (∀ b ∈ fp, H' b = none) ∧ W i m σ' H' := fun {σ7 H7} I7 n7 => by
      obtain ⟨m', hm, w7⟩ := hN σ7 H7 n7
      refine ⟨m', hm, i + 1, σ7, H7, I7.unpinned, T.keep _ _ _ st5 fun b hb o e => (I7.pin (b, o) (List.mem_append_right _ (List.mem_append_right _ (mem_pinsAt hb e)))).1, fun b hb => ?_, w7⟩
      obtain ⟨o, e, d⟩ := T.obj _ _ st5 b hb
      exact (I7.pin (b, o) (List.mem_append_right _ (List.mem_append_right _ (mem_pinsAt hb e)))).2.1
    cases f with
    | next => obtain ⟨σ7, H7, I7, n7⟩ := q7; exact again I7 n7
    | cont => obtain ⟨σ7, H7, I7, n7⟩ := q7; exact again I7 n7
    | brk => obtain ⟨σ7, H7, I7, q7⟩ := q7; exact ⟨σ7, H7, I7.unpinned, q7⟩
    | ret v => obtain ⟨x7, σ7, H7, I7, r7, q7⟩ := q7; exact ⟨x7, σ7, H7, I7.unpinned, r7, q7⟩
end

theorem for_list {K : PySem.W.Frag} {a : Addr} {xs : List V} {g : TG} {tb : TS} {D : Ends} {σ : St} {H : Hp} (Pv : Nat → St → Hp → Prop) (h0 : Pv 0 σ H) (hl : ∀ i σ H, i ≤ xs.length → Pv i σ H → SqL K H a xs)
    (hs : ∀ i x σ H, xs[i]? = some x → Pv i σ H → g x σ H fun σ2 H2 => tb { D with nx := Pv (i + 1), ct := Pv (i + 1), bk := D.nx } σ2 H2) (hd : ∀ σ H, Pv xs.length σ H → D.nx σ H) :
    ∃ W : Nat → Nat → St → Hp → Prop, (∃ m, W 0 m σ H) ∧ ∀ i m σ H, W i m σ H →
      ((Itl K a).stop i H ∧ D.nx σ H) ∨ ((Itl K a).go i H ∧ ∃ N : St → Hp → Prop, (∀ σ' H', N σ' H' → ∃ m', m' < m ∧ W (i + 1) m' σ' H') ∧ ∀ x H', (Itl K a).yld i H x H' → g x σ H' fun σ2 H2 => tb { D with nx := N, ct := N, bk := D.nx } σ2 H2) := by
  refine ⟨fun i m σ H => m = xs.length - i ∧ i ≤ xs.length ∧ Pv i σ H, ⟨xs.length, by simp, Nat.zero_le _, h0⟩, ?_⟩
  rintro i m σ H ⟨rfl, hi, p⟩
  have q := hl i σ H hi p
  by_cases hlt : i < xs.length
  · refine .inr ⟨⟨xs, xs[i], q, by simp [hlt]⟩, Pv (i + 1), fun σ' H' p' => ⟨xs.length - (i + 1), by omega, rfl, hlt, p'⟩, fun x H' y => ?_⟩
    obtain ⟨e, y⟩ := y
    subst e
    exact hs i x σ _ (y xs q) p
  · have e : i = xs.length := by omega
    subst e
    exact .inl ⟨⟨xs, q, Nat.le_refl _⟩, hd σ H p⟩
theorem for_range {lo : Int} {n : Nat} {g : TG} {tb : TS} {D : Ends} {σ : St} {H : Hp} (Pv : Nat → St → Hp → Prop) (h0 : Pv 0 σ H)
    (hs : ∀ i σ H, i < n → Pv i σ H → g (.int (lo + i)) σ H fun σ2 H2 => tb { D with nx := Pv (i + 1), ct := Pv (i + 1), bk := D.nx } σ2 H2) (hd : ∀ σ H, Pv n σ H → D.nx σ H) :
    ∃ W : Nat → Nat → St → Hp → Prop, (∃ m, W 0 m σ H) ∧ ∀ i m σ H, W i m σ H →
      ((Itr lo n).stop i H ∧ D.nx σ H) ∨ ((Itr lo n).go i H ∧ ∃ N : St → Hp → Prop, (∀ σ' H', N σ' H' → ∃ m', m' < m ∧ W (i + 1) m' σ' H') ∧ ∀ x H', (Itr lo n).yld i H x H' → g x σ H' fun σ2 H2 => tb { D with nx := N, ct := N, bk := D.nx } σ2 H2) := by
  refine ⟨fun i m σ H => m = n - i ∧ i ≤ n ∧ Pv i σ H, ⟨n, by simp, Nat.zero_le _, h0⟩, ?_⟩
  rintro i m σ H ⟨rfl, hi, p⟩
  by_cases hlt : i < n
  · refine .inr ⟨hlt, Pv (i + 1), fun σ' H' p' => ⟨n - (i + 1), by omega, rfl, hlt, p'⟩, fun x H' y => ?_⟩
    obtain ⟨e, y⟩ := y
    subst e y
    exact hs i σ _ hlt p
  · have e : i = n := by omega
    subst e
    exact .inl ⟨Nat.le_refl _, hd σ H p⟩
end L2

namespace L2
open PySem PySem.Spec PyProof.Rows

abbrev R2 := V → V → Hp → VK → Prop
def OpR (X : Cx) (f : Value → Value → Sem Value) (r : R2) : Prop :=
  ∀ (pins : List (Addr × Obj)) (s : Shared) (σ : St) (H : Hp) (x y : V) (v u : Value) (Q : VK), Inv X pins σ H s → RelV x v → RelV y u → r x y H Q →
    wpAny (model X.prog X.w) X.A (f v u) (EP X pins σ Q) X.xe s
def CallR (X : Cx) (f : Value) (r : List V → Hp → VK → Prop) : Prop :=
  ∀ (pins : List (Addr × Obj)) (s : Shared) (σ : St) (H : Hp) (xs : List V) (us : List Value) (Q : VK), Inv X pins σ H s → Vals xs us → r xs H Q →
    wpAny (model X.prog X.w) X.A (call f us) (EP X pins σ Q) X.xe s
def TruR (X : Cx) (r : V → Hp → (Bool → Hp → Prop) → Prop) : Prop :=
  ∀ (pins : List (Addr × Obj)) (s : Shared) (σ : St) (H : Hp) (x : V) (v : Value) (Q : Bool → Hp → Prop), Inv X pins σ H s → RelV x v → r x H Q →
    wpAny (model X.prog X.w) X.A (truthy v) (TP X pins σ Q) X.xe s

def tOp (r : R2) (ta tb : TE) : TE := fun σ H Q => ta σ H fun x H1 => tb σ H1 fun y H2 => r x y H2 Q
def tUn (r : V → Hp → VK → Prop) (ta : TE) : TE := fun σ H Q => ta σ H fun x H1 => r x H1 Q
def rI (C : Int → Int → Prop) (g : Int → Int → V) : R2 := fun x y H Q => ∃ i j, x = .int i ∧ y = .int j ∧ C i j ∧ Q (g i j) H
def rI0 (g : Int → Int → V) : R2 := fun x y H Q => ∃ i j, x = .int i ∧ y = .int j ∧ Q (g i j) H
def rU (g : Int → V) : V → Hp → VK → Prop := fun x H Q => ∃ i, x = .int i ∧ Q (g i) H

section
variable {X : Cx} {a b c : Expr} {ta tb tc : TE} {pos : Pos}

theorem binT (ha : PE X a ta) (hb : PE X b tb) {pins : List (Addr × Obj)} {s : Shared} {σ : St} {H : Hp} {R : V → V → Hp → Prop} (I : Inv X pins σ H s)
    (h : ta σ H fun x H1 => tb σ H1 fun y H2 => R x y H2) {Q : Value → Shared → Prop} {f : Value → Value → Sem Value}
    (hf : ∀ v u s2 x y H2, Inv X pins σ H2 s2 → RelV x v → RelV y u → R x y H2 → wpAny (model X.prog X.w) X.A (f v u) Q X.xe s2) :
    wpAny (model X.prog X.w) X.A (eval a X.env) (fun v s₁ => wpAny (model X.prog X.w) X.A (eval b X.env) (fun u s₂ => wpAny (model X.prog X.w) X.A (f v u) Q X.xe s₂) X.xe s₁) X.xe s := by
  refine thn (ha pins s σ H _ I h) fun v s1 ⟨x, H1, I1, r1, q1⟩ => ?_
  refine thn (hb pins s1 σ H1 _ I1 q1) fun u s2 ⟨y, H2, I2, r2, q2⟩ => ?_
  exact hf v u s2 x y H2 I2 r1 r2 q2

theorem pe_op {op : Operator} {r : R2} (ho : OpR X (binaryOp op) r) (ha : PE X a ta) (hb : PE X b tb) : PE X (.BinOp a op b pos) (tOp r ta tb) := by
  intro pins s σ H Q I h
  exact wpAny_BinOp (binT ha hb I h fun v u s2 x y H2 I2 rx ry q => ho pins s2 σ H2 x y v u Q I2 rx ry q)
theorem opI {f : Value → Value → Sem Value} {C : Int → Int → Prop} {g : Int → Int → Int}
    (rule : ∀ (i j : Int) (t u : Tok) (s : Shared) (Q : Value → Shared → Prop) (E : Value → Shared → Prop), C i j → Q (.int (g i j) s.toks) { s with toks := s.toks + 1 } → wpAny (model X.prog X.w) X.A (f (.int i t) (.int j u)) Q E s) :
    OpR X f (rI C fun i j => .int (g i j)) := by
  intro pins s σ H x y v u Q I rx ry h
  obtain ⟨i, j, rfl, rfl, hc, q⟩ := h
  obtain ⟨t, rfl⟩ := rx
  obtain ⟨t', rfl⟩ := ry
  exact rule i j t t' s _ _ hc ⟨.int (g i j), H, I.tok _, ⟨_, rfl⟩, q⟩
theorem opI0 {f : Value → Value → Sem Value} {g : Int → Int → Int}
    (rule : ∀ (i j : Int) (t u : Tok) (s : Shared) (Q : Value → Shared → Prop) (E : Value → Shared → Prop), Q (.int (g i j) s.toks) { s with toks := s.toks + 1 } → wpAny (model X.prog X.w) X.A (f (.int i t) (.int j u)) Q E s) :
    OpR X f (rI0 fun i j => .int (g i j)) := by
  intro pins s σ H x y v u Q I rx ry h
  obtain ⟨i, j, rfl, rfl, q⟩ := h
  obtain ⟨t, rfl⟩ := rx
  obtain ⟨t', rfl⟩ := ry
  exact rule i j t t' s _ _ ⟨.int (g i j), H, I.tok _, ⟨_, rfl⟩, q⟩
theorem opB0 {f : Value → Value → Sem Value} {g : Int → Int → Bool}
    (rule : ∀ (i j : Int) (t u : Tok) (s : Shared) (Q : Value → Shared → Prop) (E : Value → Shared → Prop), Q (.bool (g i j)) s → wpAny (model X.prog X.w) X.A (f (.int i t) (.int j u)) Q E s) :
    OpR X f (rI0 fun i j => .bl (g i j)) := by
  intro pins s σ H x y v u Q I rx ry h
  obtain ⟨i, j, rfl, rfl, q⟩ := h
  obtain ⟨t, rfl⟩ := rx
  obtain ⟨t', rfl⟩ := ry
  exact rule i j t t' s _ _ ⟨.bl (g i j), H, I, rfl, q⟩

def CDiv (i j : Int) : Prop := 0 < j ∧ j < 1073741824
def CPow (i j : Int) : Prop := 0 ≤ j ∧ j ≤ 1000000 ∧ i.natAbs < 2 ^ 64
def CMul (i j : Int) : Prop := (-(2 ^ 64) < i ∧ i < 2 ^ 64) ∨ (-(2 ^ 64) < j ∧ j < 2 ^ 64)
theorem CMul.ok {i j : Int} (h : CMul i j) : IntMulOk i j := by
  rcases h with ⟨h1, h2⟩ | ⟨h1, h2⟩
  · exact .of_left (intBits_le_64 h1 h2)
  · exact .of_right (intBits_le_64 h1 h2)
theorem op_add : OpR X (binaryOp .Add) (rI0 fun i j => .int (i + j)) := opI0 fun _ _ _ _ _ _ _ q => add_int q
theorem op_sub : OpR X (binaryOp .Sub) (rI0 fun i j => .int (i - j)) := opI0 fun _ _ _ _ _ _ _ q => sub_int q
theorem op_mul : OpR X (binaryOp .Mult) (rI CMul fun i j => .int (i * j)) := opI fun _ _ _ _ _ _ _ hc q => mul_int q hc.ok
theorem op_fdiv : OpR X (binaryOp .FloorDiv) (rI CDiv fun i j => .int (i / j)) := opI fun i j _ _ _ _ _ hc q => by
  have h1 : (0 : Int) < j := hc.1
  have h2 : j < 1073741824 := hc.2
  exact floordiv_int (by omega) (by rw [Int.fdiv_eq_ediv_of_nonneg i (by omega)]; exact q) (.inl (PyProof.noPylong_small (by omega)))
theorem op_mod : OpR X (binaryOp .Mod) (rI (fun _ j => 0 < j) fun i j => .int (i % j)) := opI fun i j _ _ _ _ _ hc q => by
  have h1 : (0 : Int) < j := hc
  exact mod_int' (by omega) (by rw [Int.fmod_eq_emod_of_nonneg i (by omega)]; exact q)
theorem op_pow : OpR X (binaryOp .Pow) (rI CPow fun i j => .int (i ^ j.toNat)) := opI fun _ _ _ _ _ _ _ hc q => pow_int_small hc.1 hc.2.1 hc.2.2 q
end

def scal : V → V → Bool
  | .non, .non => true | .non, .int _ => true | .int _, .non => true | .non, .bl _ => true | .bl _, .non => true | .non, .str _ => true | .str _, .non => true
  | .int _, .int _ => true | .bl _, .bl _ => true | .str _, .str _ => true | .byt _, .byt _ => true
  | .int _, .str _ => true | .str _, .int _ => true | .bl _, .str _ => true | .str _, .bl _ => true
  | _, _ => false
def rEq : R2 := fun x y H Q => scal x y = true ∧ Q (.bl (decide (x = y))) H
def rNe : R2 := fun x y H Q => scal x y = true ∧ Q (.bl (!decide (x = y))) H

theorem dec_int {i j : Int} : decide (V.int i = V.int j) = (i == j) := by
  rw [Bool.eq_iff_iff]
  simp
theorem dec_bl {i j : Bool} : decide (V.bl i = V.bl j) = (i == j) := by
  rw [Bool.eq_iff_iff]
  simp
theorem dec_str {i j : Str} : decide (V.str i = V.str j) = (i == j) := by
  rw [Bool.eq_iff_iff]
  simp
theorem dec_byt {i j : Array UInt8} : decide (V.byt i = V.byt j) = (i.toList == j.toList) := by
  rw [Bool.eq_iff_iff]
  cases i
  cases j
  simp

section
variable {X : Cx} {a b c : Expr} {ta tb tc : TE} {pos : Pos}
theorem fin_bl {pins : List (Addr × Obj)} {σ : St} {H : Hp} {s : Shared} {Q : VK} {k k' : Bool} (I : Inv X pins σ H s) (q : Q (.bl k) H) (e : k = k') : EP X pins σ Q (.bool k') s := by
  subst e
  exact ⟨.bl k, H, I, rfl, q⟩
theorem op_eq : OpR X (compareOp .Eq) rEq := by
  intro pins s σ H x y v u Q I rx ry h
  obtain ⟨hs, q⟩ := h
  cases x with
  | non =>
    cases rx
    cases y with
    | non => cases ry; exact PySem.EqNone.eq_none_none (fin_bl I q (by simp))
    | bl j => cases ry; exact PySem.EqNone.eq_none_bool (fin_bl I q (by simp))
    | int j => obtain ⟨t', rfl⟩ := ry; exact PySem.EqNone.eq_none_int (fin_bl I q (by simp))
    | str j => obtain ⟨t', rfl⟩ := ry; exact PySem.EqNone.eq_none_str (fin_bl I q (by simp))
    | _ => exact absurd (show false = true from hs) Bool.false_ne_true
  | bl i =>
    cases rx
    cases y with
    | non => cases ry; exact PySem.EqNone.eq_bool_none (fin_bl I q (by simp))
    | bl j => cases ry; exact eq_bool (fin_bl I q dec_bl)
    | str j => obtain ⟨t', rfl⟩ := ry; exact PySem.EqMixed.eq_bool_str (fin_bl I q (by simp))
    | _ => exact absurd (show false = true from hs) Bool.false_ne_true
  | int i =>
    obtain ⟨t, rfl⟩ := rx
    cases y with
    | non => cases ry; exact PySem.EqNone.eq_int_none (fin_bl I q (by simp))
    | int j => obtain ⟨t', rfl⟩ := ry; exact eq_int (fin_bl I q dec_int)
    | str j => obtain ⟨t', rfl⟩ := ry; exact PySem.EqMixed.eq_int_str (fin_bl I q (by simp))
    | _ => exact absurd (show false = true from hs) Bool.false_ne_true
  | str i =>
    obtain ⟨t, rfl⟩ := rx
    cases y with
    | non => cases ry; exact PySem.EqNone.eq_str_none (fin_bl I q (by simp))
    | bl j => cases ry; exact PySem.EqMixed.eq_str_bool (fin_bl I q (by simp))
    | int j => obtain ⟨t', rfl⟩ := ry; exact PySem.EqMixed.eq_str_int (fin_bl I q (by simp))
    | str j => obtain ⟨t', rfl⟩ := ry; exact eq_str (fin_bl I q dec_str)
    | _ => exact absurd (show false = true from hs) Bool.false_ne_true
  | byt i =>
    obtain ⟨t, rfl⟩ := rx
    cases y with
    | byt j => obtain ⟨t', rfl⟩ := ry; exact PySem.W.eq_bytes (fin_bl I q dec_byt)
    | _ => exact absurd (show false = true from hs) Bool.false_ne_true
  | _ => cases y <;> exact absurd (show false = true from hs) Bool.false_ne_true
theorem op_ne : OpR X (compareOp .NotEq) rNe := by
  intro pins s σ H x y v u Q I rx ry h
  obtain ⟨hs, q⟩ := h
  cases x with
  | non =>
    cases rx
    cases y with
    | non => cases ry; exact PySem.EqNone.ne_none_none (fin_bl I q (by simp))
    | bl j => cases ry; exact PySem.EqNone.ne_none_bool (fin_bl I q (by simp))
    | int j => obtain ⟨t', rfl⟩ := ry; exact PySem.EqNone.ne_none_int (fin_bl I q (by simp))
    | str j => obtain ⟨t', rfl⟩ := ry; exact PySem.EqNone.ne_none_str (fin_bl I q (by simp))
    | _ => exact absurd (show false = true from hs) Bool.false_ne_true
  | bl i =>
    cases rx
    cases y with
    | non => cases ry; exact PySem.EqNone.ne_bool_none (fin_bl I q (by simp))
    | bl j => cases ry; exact ne_bool (fin_bl I q (congrArg not dec_bl))
    | str j => obtain ⟨t', rfl⟩ := ry; exact PySem.EqMixed.ne_bool_str (fin_bl I q (by simp))
    | _ => exact absurd (show false = true from hs) Bool.false_ne_true
  | int i =>
    obtain ⟨t, rfl⟩ := rx
    cases y with
    | non => cases ry; exact PySem.EqNone.ne_int_none (fin_bl I q (by simp))
    | int j => obtain ⟨t', rfl⟩ := ry; exact ne_int (fin_bl I q (congrArg not dec_int))
    | str j => obtain ⟨t', rfl⟩ := ry; exact PySem.EqMixed.ne_int_str (fin_bl I q (by simp))
    | _ => exact absurd (show false = true from hs) Bool.false_ne_true
  | str i =>
    obtain ⟨t, rfl⟩ := rx
    cases y with
    | non => cases ry; exact PySem.EqNone.ne_str_none (fin_bl I q (by simp))
    | bl j => cases ry; exact PySem.EqMixed.ne_str_bool (fin_bl I q (by simp))
    | int j => obtain ⟨t', rfl⟩ := ry; exact PySem.EqMixed.ne_str_int (fin_bl I q (by simp))
    | str j => obtain ⟨t', rfl⟩ := ry; exact ne_str (fin_bl I q (congrArg not dec_str))
    | _ => exact absurd (show false = true from hs) Bool.false_ne_true
  | byt i =>
    obtain ⟨t, rfl⟩ := rx
    cases y with
    | byt j => obtain ⟨t', rfl⟩ := ry; exact PySem.W.ne_bytes (fin_bl I q (congrArg not dec_byt))
    | _ => exact absurd (show false = true from hs) Bool.false_ne_true
  | _ => cases y <;> exact absurd (show false = true from hs) Bool.false_ne_true

theorem op_lt : OpR X (compareOp .Lt) (rI0 fun i j => .bl (decide (i < j))) := opB0 fun _ _ _ _ _ _ _ q => lt_int q
theorem op_le : OpR X (compareOp .LtE) (rI0 fun i j => .bl (decide (i ≤ j))) := opB0 fun _ _ _ _ _ _ _ q => le_int q
theorem op_gt : OpR X (compareOp .Gt) (rI0 fun i j => .bl (decide (j < i))) := opB0 fun _ _ _ _ _ _ _ q => gt_int q
theorem op_isN : OpR X (compareOp .Is) (fun x y H Q => y = .non ∧ Q (.bl (decide (x = .non))) H) := by
  intro pins s σ H x y v u Q I rx ry h
  obtain ⟨rfl, q⟩ := h
  cases ry
  refine is_none_gen (fin_bl I q ?_)
  cases x <;> first
    | (cases rx; rfl)
    | (obtain ⟨t, rfl⟩ := rx; rfl)
theorem OpR.or {f : Value → Value → Sem Value} {r r' : R2} (h : OpR X f r) (h' : OpR X f r') : OpR X f (fun x y H Q => r x y H Q ∨ r' x y H Q) := by
  intro pins s σ H x y v u Q I rx ry q
  rcases q with q | q
  · exact h pins s σ H x y v u Q I rx ry q
  · exact h' pins s σ H x y v u Q I rx ry q

theorem nomark (b : Expr) {op : CmpOp} (h : op ≠ .In := by decide) (h2 : op ≠ .NotIn := by decide) : behindInMarks op b = false := by
  have e1 : (op == CmpOp.In) = false := by cases op <;> first | rfl | exact absurd rfl h
  have e2 : (op == CmpOp.NotIn) = false := by cases op <;> first | rfl | exact absurd rfl h2
  cases b <;> simp [behindInMarks, e1, e2]
theorem pe_cmpR {op : CmpOp} {r : R2} (ho : OpR X (compareOp op) r) (ha : PE X a ta) (hb : PE X b tb) (hm : behindInMarks op b = false) : PE X (.Compare a [op] [b] pos) (tOp r ta tb) := by
  intro pins s σ H Q I h
  exact wpAny_Compare1 (binT ha hb I h fun v u s2 x y H2 I2 rx ry q => ho pins s2 σ H2 x y v u Q I2 rx ry q) hm
def tTest (t : TE) : TT := fun σ H Q => t σ H fun x H' => ∃ k, x = .bl k ∧ Q k H'
theorem pt_cmpR {op : CmpOp} {r : R2} (ho : OpR X (compareOp op) r) (ha : PE X a ta) (hb : PE X b tb) (hm : behindInMarks op b = false) : PT X (.Compare a [op] [b] pos) (tTest (tOp r ta tb)) := by
  intro pins s σ H Q I h
  refine wpAny_isTrue_Compare1 (thn (ha pins s σ H _ I h) fun v s1 ⟨x, H1, I1, r1, q1⟩ => thn (hb pins s1 σ H1 _ I1 q1) fun u s2 ⟨y, H2, I2, r2, q2⟩ =>
    thn (ho pins s2 σ H2 x y v u _ I2 r1 r2 q2) fun c s3 ⟨z, H3, I3, r3, k, e, q3⟩ => ?_) hm
  subst e
  cases r3
  exact wpAny_truthy_bool ⟨H3, I3, q3⟩
def tChain (r r' : R2) (ta tb tc : TE) : TE := fun σ H Q => ta σ H fun x H1 => tb σ H1 fun y H2 => r x y H2 fun z H3 => ∃ k, z = .bl k ∧
  (if k = true then tc σ H3 fun w' H4 => r' y w' H4 Q else Q (.bl false) H3)
theorem pt_chain {op op' : CmpOp} {r r' : R2} (ho : OpR X (compareOp op) r) (ho' : OpR X (compareOp op') r') (ha : PE X a ta) (hb : PE X b tb) (hc : PE X c tc)
    (hm : lastMarks [op, op'] [b, c] = false := by with_unfolding_all rfl) : PT X (.Compare a [op, op'] [b, c] pos) (tTest (tChain r r' ta tb tc)) := by
  intro pins s σ H Q I h
  refine isTrue_chain (thn (ha pins s σ H _ I h) fun v s1 ⟨x, H1, I1, r1, q1⟩ => test_link (thn (hb pins s1 σ H1 _ I1 q1) fun u s2 ⟨y, H2, I2, r2, q2⟩ =>
    thn (ho pins s2 σ H2 x y v u _ I2 r1 r2 q2) fun d s3 ⟨z, H3, I3, r3, k, e, q3⟩ => ?_)) hm
  subst e
  cases r3
  refine wpAny_truthy_bool ?_
  cases k with
  | false =>
    obtain ⟨k', e', q'⟩ := q3
    cases e'
    exact ite_ff ⟨H3, I3, q'⟩
  | true =>
    refine ite_tt (test_last (thn (hc pins s3 σ H3 _ I3 q3) fun w' s4 ⟨z', H4, I4, r4, q4⟩ => thn (ho' pins s4 σ H4 y z' u w' _ I4 r2 r4 q4) fun d' s5 ⟨z2, H5, I5, r5, k2, e2, q5⟩ => ?_))
    subst e2
    cases r5
    exact wpAny_truthy_bool ⟨H5, I5, q5⟩

def TruV (K : PySem.W.Frag) (x : V) (H : Hp) (k : Bool) : Prop :=
  match x with
  | .non => k = false
  | .bl b => k = b
  | .int i => k = (i != 0)
  | .str y => y.length ≤ sizeLine ∧ k = ((y.length : Int) != 0)
  | .byt y => y.size ≤ sizeLine ∧ k = ((y.size : Int) != 0)
  | .ref p => (∃ xs, SqL K H p xs ∧ k = !xs.isEmpty) ∨ (∃ xs, SqT K H p xs ∧ k = !xs.isEmpty) ∨ ∃ kvs, H p = some (.dK kvs) ∧ k = !kvs.isEmpty
  | _ => False
theorem isEmpty_kv {κ : Type} {kvs : List (κ × V)} {vs : List (κ × Value)} (r : KV kvs vs) : (!vs.isEmpty) = !kvs.isEmpty := by
  cases r <;> rfl
theorem isEmpty_of {xs : List V} {its : List Value} (r : Vals xs its) : (!its.toArray.isEmpty) = !xs.isEmpty := by
  cases r <;> simp
theorem line63 : (sizeLine : Nat) < 2 ^ 63 := by rw [sizeLine_eq]; decide
theorem tru_ok : TruR X (fun x H Q => ∃ k, TruV X.K x H k ∧ Q k H) := by
  intro pins s σ H x v Q I rx h
  obtain ⟨k, e, q⟩ := h
  have hl := line63
  have hs : sizeLine = 16777216 := sizeLine_eq
  cases x with
  | non =>
    cases rx
    have e' : k = false := e
    subst e'
    exact truthy_none ⟨H, I, q⟩
  | bl b =>
    cases rx
    have e' : k = b := e
    subst e'
    exact wpAny_truthy_bool ⟨H, I, q⟩
  | int i =>
    obtain ⟨t, rfl⟩ := rx
    have e' : k = (i != 0) := e
    subst e'
    exact PySem.P.truthy_int ⟨H, I, q⟩
  | str y =>
    obtain ⟨t, rfl⟩ := rx
    obtain ⟨hy, e'⟩ : y.length ≤ sizeLine ∧ k = ((y.length : Int) != 0) := e
    subst e'
    exact PySem.P.truthy_str (by omega) ⟨H, I.tok _, q⟩
  | byt y =>
    obtain ⟨t, rfl⟩ := rx
    obtain ⟨hy, e'⟩ : y.size ≤ sizeLine ∧ k = ((y.size : Int) != 0) := e
    subst e'
    exact PySem.W.truthy_bytes (by omega) ⟨H, I.tok _, q⟩
  | ref p =>
    cases rx
    have e' : (∃ xs, SqL X.K H p xs ∧ k = !xs.isEmpty) ∨ (∃ xs, SqT X.K H p xs ∧ k = !xs.isEmpty) ∨ ∃ kvs, H p = some (.dK kvs) ∧ k = !kvs.isEmpty := e
    rcases e' with ⟨xs, hx, e'⟩ | ⟨xs, hx, e'⟩ | ⟨kvs, hx, e'⟩
    · subst e'
      obtain ⟨its, r, pl, hz⟩ := I.list hx
      have hlen := r.length
      exact wpAny_truthy_list pl.isList (by simp only [List.size_toArray]; omega) ⟨H, I.tok _, by rw [isEmpty_of r]; exact q⟩
    · subst e'
      obtain ⟨its, r, pl, hz⟩ := I.tuple hx
      have hlen := r.length
      exact truthy_tuple pl (by simp only [List.size_toArray]; omega) ⟨H, I.tok _, by rw [isEmpty_of r]; exact q⟩
    · subst e'
      obtain ⟨hz, hS, vs, r, m⟩ : kvs.length ≤ sizeLine ∧ (p == sysModules) = false ∧ ∃ vs, KV kvs vs ∧ s.heap.DictOf (mixKind X.prog X.w) p vs := I.hok p _ hx
      have hlen : kvs.length = vs.length := Paired.length r
      exact wpAny_truthy_dict hS m (by omega) ⟨H, I.tok _, by rw [isEmpty_kv r]; exact q⟩
  | _ => exact (show False from e).elim
theorem pt_truth (ha : PE X a ta) (he : ∀ whole, isTrue a X.env whole = (do let v ← whole; standAt a.pos; holding [v] (truthy v))) :
    PT X a (fun σ H Q => ta σ H fun x H' => ∃ k, TruV X.K x H' k ∧ Q k H') := by
  intro pins s σ H Q I h
  exact isTrue_plain (thn (ha pins s σ H _ I h) fun v s1 ⟨x, H1, I1, r1, q1⟩ => tru_ok pins s1 σ H1 x v Q I1 r1 q1) (he _)

theorem op_add_str : OpR X (binaryOp .Add) (fun x y H Q => ∃ i j, x = .str i ∧ y = .str j ∧ i.length + j.length ≤ sizeLine ∧ Q (.str (i ++ j)) H) := by
  intro pins s σ H x y v u Q I rx ry h
  obtain ⟨i, j, rfl, rfl, hz, q⟩ := h
  obtain ⟨t, rfl⟩ := rx
  obtain ⟨t', rfl⟩ := ry
  exact add_str (fun t' tk => ⟨.str (i ++ j), H, I.tok _, ⟨_, rfl⟩, q⟩) hz
theorem vals1 {x : V} {us : List Value} (r : Vals [x] us) : ∃ u, us = [u] ∧ RelV x u := by
  cases r with
  | cons r1 r2 => cases r2; exact ⟨_, rfl, r1⟩
theorem call_int1 : CallR X (.type "int") (fun xs H Q => (∃ i, xs = [.int i] ∧ Q (.int i) H) ∨ ∃ k, xs = [.bl k] ∧ Q (.int (if k then 1 else 0)) H) := by
  intro pins s σ H xs us Q I r h
  rcases h with ⟨i, rfl, q⟩ | ⟨k, rfl, q⟩
  · obtain ⟨u, rfl, t, rfl⟩ := vals1 r
    exact call_int_int ⟨.int i, H, I, ⟨_, rfl⟩, q⟩
  · obtain ⟨u, rfl, r1⟩ := vals1 r
    cases r1
    exact call_int_bool ⟨.int (if k then 1 else 0), H, I.tok _, ⟨_, rfl⟩, q⟩
def LenV (K : PySem.W.Frag) (x : V) (H : Hp) (n : Nat) : Prop :=
  match x with
  | .str y => y.length ≤ sizeLine ∧ n = y.length
  | .byt y => y.size ≤ sizeLine ∧ n = y.size
  | .ref p => (∃ xs, SqL K H p xs ∧ n = xs.length) ∨ ∃ xs, SqT K H p xs ∧ n = xs.length
  | _ => False
theorem call_len : CallR X (.builtin "len") (fun xs H Q => ∃ x n, xs = [x] ∧ LenV X.K x H n ∧ Q (.int n) H) := by
  intro pins s σ H xs us Q I r h
  obtain ⟨x, n, rfl, e, q⟩ := h
  obtain ⟨u, rfl, rx⟩ := vals1 r
  have hl := line63
  have hs : sizeLine = 16777216 := sizeLine_eq
  cases x with
  | str y =>
    obtain ⟨t, rfl⟩ := rx
    obtain ⟨hy, e'⟩ : y.length ≤ sizeLine ∧ n = y.length := e
    subst e'
    exact len_str (by omega) ⟨.int _, H, I.tok _, ⟨_, rfl⟩, q⟩
  | byt y =>
    obtain ⟨t, rfl⟩ := rx
    obtain ⟨hy, e'⟩ : y.size ≤ sizeLine ∧ n = y.size := e
    subst e'
    exact PySem.W.len_bytes (by omega) ⟨.int _, H, I.tok _, ⟨_, rfl⟩, q⟩
  | ref p =>
    cases rx
    have e' : (∃ xs, SqL X.K H p xs ∧ n = xs.length) ∨ ∃ xs, SqT X.K H p xs ∧ n = xs.length := e
    rcases e' with ⟨xs, hx, e'⟩ | ⟨xs, hx, e'⟩
    · subst e'
      obtain ⟨its, r', pl, hz⟩ := I.list hx
      have hlen := r'.length
      exact Calls.call_len_list pl.isList (by simp only [List.size_toArray]; omega) ⟨.int xs.length, H, I.tok _, ⟨_, by simp only [List.size_toArray]; rw [hlen]⟩, q⟩
    · subst e'
      obtain ⟨its, r', pl, hz⟩ := I.tuple hx
      have hlen := r'.length
      exact len_tuple pl (by simp only [List.size_toArray]; omega) ⟨.int xs.length, H, I.tok _, ⟨_, by simp only [List.size_toArray]; rw [hlen]⟩, q⟩
  | _ => exact (show False from e).elim
end
end L2

namespace L2
open PySem PySem.Spec PyProof.Rows

structure ObjM (h : Heap) (x dx C : Addr) (mA : Str → Option Value) : Prop where
  obj : h.get? x = some (PySem.W.instObj C dx)
  ns : h.Ns1 dx mA
  ne : dx ≠ x

theorem lookIn_ns {h : Heap} {dx : Addr} {mA : Str → Option Value} (n : h.Ns1 dx mA) : ∃ od, h.get? dx = some od ∧ ∀ name, PySem.W.lookIn name od = some (mA name) := by
  obtain ⟨o, es, ep, ho, hd, hk, _, hm⟩ := n
  refine ⟨o, ho, fun name => ?_⟩
  have e := hm name
  unfold nsFind findBy at e
  rw [← Array.find?_toList] at e
  unfold PySem.W.lookIn
  rw [hd]
  dsimp only
  split
  · rename_i y q
    rw [q] at e
    exact congrArg some e
  · rename_i q
    rw [q] at e
    have a : es.toList.any (·.refKey) = false := by
      rw [List.any_eq_false]
      intro y hy
      obtain ⟨z, t, hkey⟩ := hk y (Array.mem_toList_iff.mp hy)
      simp [DictEntry.refKey, hkey]
    have a' : ¬ es.toList.any (·.refKey) = true := by rw [a]; exact Bool.false_ne_true
    rw [if_neg a']
    exact congrArg some e

theorem ObjM.look {h : Heap} {x dx C : Addr} {mA : Str → Option Value} (I : ObjM h x dx C mA) : ∃ od, PySem.W.InstAt h x (PySem.W.instObj C dx) C (some od) ∧ ∀ name, PySem.W.lookIn name od = some (mA name) :=
  let ⟨od, ho, hl⟩ := lookIn_ns I.ns
  ⟨od, ⟨I.obj, rfl, rfl, ho⟩, hl⟩

section
variable {prog : Program} {w : World} {A : Around} {E : Value → Shared → Prop} {s : Shared} {K : PySem.W.Frag} {x dx C f : Addr} {mA : Str → Option Value} {name : Str} {v : Value}

theorem get_map {expr : Bool} {Q : Value → Shared → Prop} (X : K.In s.heap) (I : ObjM s.heap x dx C mA) (hg : PySem.W.plainGet K C name = true) (hh : PySem.W.hasDictIn K C = true)
    (ha : PySem.W.findIn K (.ref C) name = some none) (hv : mA name = some v) (hv' : PySem.W.handedIn v = true) (h : Q v { s with toks := s.toks + 1 }) :
    wpAny (model prog w) A (getAttr (.ref x) name expr) Q E s := by
  obtain ⟨od, J, hl⟩ := I.look
  exact PySem.W.get_value X J (PySem.W.plainGet_of hg).1 (PySem.W.findObj_own hh ha rfl (by rw [hl, hv])) hv' h

theorem get_meth {pl : Sem Bool} {Q : Value × List Value → Shared → Prop} (X : K.In s.heap) (I : ObjM s.heap x dx C mA) (hg : PySem.W.plainGet K C name = true)
    (hf : PySem.W.findIn K (.ref C) name = some (some (.ref f))) (ht : PySem.W.isFn K (.ref f) = true) (hv : mA name = none) (h : Q (.ref f, [.ref x]) s) :
    wpAny (model prog w) A (getMethod (.ref x) name pl) Q E s := by
  obtain ⟨od, J, hl⟩ := I.look
  exact PySem.W.method_fn X J (PySem.W.plainGet_of hg).1 (PySem.W.plainGet_of hg).2 hf (beq_iff_eq.mp ht) (by show (PySem.W.lookIn name od).map (·.isSome) = some false; rw [hl, hv]; rfl) h

theorem set_map {ns : List Str} {Q : Unit → Shared → Prop} (X : K.In s.heap) (I : ObjM s.heap x dx C mA)
    (hs : PySem.W.findIn K (.ref C) "__setattr__" = some (some (.builtin "object.__setattr__"))) (hp : PySem.W.plainOver K C = true) (ht : PySem.W.takerIn K C name = some none) (hh : PySem.W.hasDictIn K C = true)
    (hw : PySem.Within mA ns) (hsz : ns.length ≤ sizeLine)
    (h : ∀ h', ObjM h' x dx C (fun y => if y = name then some v else mA y) → Heap.SameBut dx s.heap h' → Q () { s with heap := h', toks := s.toks + 2 }) :
    wpAny (model prog w) A (setAttr (.ref x) name v) Q E s := by
  obtain ⟨od, J, hl⟩ := I.look
  refine PySem.W.set_plain X J hs (PySem.W.osa_open (s := { s with toks := s.toks + 1 }) (r := none) X J hp ht fun b => ?_)
  obtain ⟨cd, hc, hd'⟩ := PySem.W.any_some hh
  have hx : s.heap.get? x = some ⟨.ref C, some dx, .plain, #[]⟩ := I.obj
  refine wpAny_bind (wpAny_pure (wpAny_bind (wpAny_bind (wpAny_loadPart hx (wpAny_bind (PySem.W.Looks.here (s := { s with toks := s.toks + 1 }) (PySem.W.looks_clsIn X hc) ?_))))))
  rw [hd']
  refine wpAny_pure (a := some dx) (wpAny_bind (wpAny_pure (wpAny_bind ?_)))
  refine wpAny_nsSet1 (s := { s with toks := s.toks + 1 }) I.ns fun h' hn2 hs2 => ?_
  obtain ⟨oD, esD, epD, hoD, hdD, hcD⟩ := hn2.count (PySem.Within.cons name v hw)
  refine wpAny_bind (wpAny_lookBehind hoD (by rw [hdD]; exact pastItsLine_dict (Nat.le_trans hcD (by rw [List.length_cons]; omega))) ?_)
  exact wpAny_pure (h _ ⟨(hs2.2 _ (Ne.symm I.ne)).trans I.obj, hn2, I.ne⟩ hs2)

theorem make_map {R : Result → Shared → Prop} {vs : List Value} {kw : List (Str × Value)} (X : K.In s.heap) (hm : PySem.W.makesIn K C = true)
    (hi : PySem.W.findIn K (.ref C) "__init__" = some (some (.ref f))) (hf : PySem.W.typeIn K (.ref f) = some (.type "function"))
    (h : codeAny (model prog w) (A.under (.builtin "type.__call__" ⟨.ref C :: vs, kw⟩)) (.call (.ref f) ⟨.ref (s.heap.objs.size + 1) :: vs, kw⟩) (PySem.W.InitBack (s.heap.objs.size + 1) R)
      { s with heap := (s.heap.push PySem.W.emptyDict).push (PySem.W.instObj C s.heap.objs.size) }) :
    codeAny (model prog w) A (.call (.ref C) ⟨vs, kw⟩) R s := by
  obtain ⟨hh, g, d, t, os⟩ := s
  exact PySem.W.make_core (PySem.W.makes_of X hm) (PySem.W.looks_findIn X hi) (fun self => PySem.W.bind_fn X self hf) (.inl rfl) h
end

def putF (f : Str) (v : V) : List (Str × V) → List (Str × V)
  | [] => [(f, v)]
  | (g, x) :: r => if g = f then (g, v) :: r else (g, x) :: putF f v r
theorem lookup_putF (f g : Str) (v : V) : ∀ fs : List (Str × V), (putF f v fs).lookup g = if g = f then some v else fs.lookup g
  | [] => by
    show List.lookup g [(f, v)] = _
    by_cases h : g = f
    · have hb : (g == f) = true := beq_iff_eq.mpr h
      simp only [List.lookup, hb, if_pos h]
    · have hb : (g == f) = false := beq_eq_false_iff_ne.mpr h
      simp only [List.lookup, hb, if_neg h]
  | (k, x) :: r => by
    have ih := lookup_putF f g v r
    rw [show putF f v ((k, x) :: r) = (if k = f then (k, v) :: r else (k, x) :: putF f v r) from rfl]
    by_cases hk : k = f
    · rw [if_pos hk]
      by_cases h : g = k
      · have hb : (g == k) = true := beq_iff_eq.mpr h
        simp only [List.lookup, hb, if_pos (h.trans hk)]
      · have hb : (g == k) = false := beq_eq_false_iff_ne.mpr h
        simp only [List.lookup, hb, if_neg (fun e : g = f => h (e.trans hk.symm))]
    · rw [if_neg hk]
      by_cases h : g = k
      · have hb : (g == k) = true := beq_iff_eq.mpr h
        simp only [List.lookup, hb, if_neg (fun e : g = f => hk (h.symm.trans e))]
      · have hb : (g == k) = false := beq_eq_false_iff_ne.mpr h
        simp only [List.lookup, hb]
        exact ih
theorem keys_putF (f : Str) (v : V) : ∀ fs : List (Str × V), f ∈ (putF f v fs).map (·.1) ∧ ∀ g, g ∈ fs.map (·.1) → g ∈ (putF f v fs).map (·.1)
  | [] => ⟨by simp [putF], fun g h => by simp at h⟩
  | (k, x) :: r => by
    obtain ⟨i1, i2⟩ := keys_putF f v r
    rw [show putF f v ((k, x) :: r) = (if k = f then (k, v) :: r else (k, x) :: putF f v r) from rfl]
    by_cases hk : k = f
    · rw [if_pos hk]
      subst hk
      exact ⟨by simp, fun g h => by simpa using h⟩
    · rw [if_neg hk]
      refine ⟨?_, fun g h => ?_⟩
      · rw [List.map_cons]
        exact List.mem_cons_of_mem _ i1
      · rw [List.map_cons] at h ⊢
        rcases List.mem_cons.mp h with e | e
        · exact List.mem_cons.mpr (.inl e)
        · exact List.mem_cons_of_mem _ (i2 g e)
theorem length_putF (f : Str) (v : V) : ∀ fs : List (Str × V), (putF f v fs).length ≤ fs.length + 1
  | [] => by simp [putF]
  | (k, x) :: r => by
    have ih := length_putF f v r
    rw [show putF f v ((k, x) :: r) = (if k = f then (k, v) :: r else (k, x) :: putF f v r) from rfl]
    by_cases hk : k = f
    · rw [if_pos hk, List.length_cons, List.length_cons]; omega
    · rw [if_neg hk, List.length_cons, List.length_cons]; omega

theorem RelO.some_of {v : V} {o : Option Value} (r : RelO (some v) o) : ∃ u, o = some u ∧ RelV v u := by
  cases o with
  | none => exact (show False from r).elim
  | some u => exact ⟨u, rfl, r⟩
theorem RelO.none_of {o : Option Value} (r : RelO none o) : o = none := by
  cases o with
  | none => rfl
  | some u => exact (show False from r).elim
theorem handed_of {v : V} {u : Value} (r : RelV v u) : PySem.W.handedIn u = true := by
  cases v with
  | non => cases (show u = Value.none from r); rfl
  | bl b => cases (show u = Value.bool b from r); rfl
  | int i => obtain ⟨t, e⟩ := (show ∃ t, u = Value.int i t from r); cases e; rfl
  | str x => obtain ⟨t, e⟩ := (show ∃ t, u = Value.str x t from r); cases e; rfl
  | byt b => obtain ⟨t, e⟩ := (show ∃ t, u = Value.bytes b t from r); cases e; rfl
  | flt b => obtain ⟨t, e⟩ := (show ∃ t, u = Value.float b t from r); cases e; rfl
  | ref a => cases (show u = Value.ref a from r); rfl
  | ty n => cases (show u = Value.type n from r); rfl

section
variable {P : Program} {w : World} {H H' : Hp} {h h' : Heap} {a C dx : Addr} {fs fs' : List (Str × V)}
theorem ins_get (hok : HOk P w H h) (e : H a = some (.ins C dx fs)) : ∃ mA, ObjM h a dx C mA ∧ (∀ f, RelO (fs.lookup f) (mA f)) ∧ PySem.Within mA (fs.map (·.1)) ∧ fs.length ≤ 1000 ∧ H dx = some (.own a) := by
  obtain ⟨d, z, ne, ob, mA, n, r, q⟩ := (show ObjOk P w H h a (.ins C dx fs) from hok a _ e)
  exact ⟨mA, ⟨ob, n, ne⟩, r, q, z, d⟩
end

structure Cls (K : PySem.W.Frag) (C : Addr) : Prop where
  pg : PySem.W.plainGet K C Str.empty = true
  hd : PySem.W.hasDictIn K C = true
  po : PySem.W.plainOver K C = true
  sa : PySem.W.findIn K (.ref C) "__setattr__" = some (some (.builtin "object.__setattr__"))
theorem Cls.get {K : PySem.W.Frag} {C : Addr} (c : Cls K C) (f : Str) : PySem.W.plainGet K C f = true := c.pg
def NoAttr (K : PySem.W.Frag) (C : Addr) (f : Str) : Prop := PySem.W.findIn K (.ref C) f = some none
theorem NoAttr.taker {K : PySem.W.Frag} {C : Addr} {f : Str} (n : NoAttr K C f) : PySem.W.takerIn K C f = some none := by
  unfold PySem.W.takerIn
  rw [show PySem.W.findIn K (.ref C) f = some none from n]
  rfl
structure Con (K : PySem.W.Frag) (C : Addr) (f : Str) (v : V) (u : Value) : Prop where
  at_ : PySem.W.findIn K (.ref C) f = some (some u)
  rel : RelV v u
  get : PySem.W.specialIn K u "__get__" = some none
  cp : PySem.W.copiedNames.contains f = false
structure Meth (K : PySem.W.Frag) (C : Addr) (m : Str) (f : Addr) : Prop where
  at_ : PySem.W.findIn K (.ref C) m = some (some (.ref f))
  fn : PySem.W.isFn K (.ref f) = true
  kp : PySem.W.keepIn K (.ref f) = true

section
variable {X : Cx} {pins : List (Addr × Obj)} {σ : St} {H : Hp} {s : Shared} {a C dx : Addr} {fs : List (Str × V)} {f : Str} {v : V} {A : Around} {E : Value → Shared → Prop}

theorem getattr_ok {b : Bool} {Q : Value → Shared → Prop} (I : Inv X pins σ H s) (e : H a = some (.ins C dx fs)) (c : Cls X.K C) (n : NoAttr X.K C f) (l : fs.lookup f = some v)
    (h : ∀ u s', Inv X pins σ H s' → RelV v u → Q u s') : wpAny (model X.prog X.w) A (getAttr (.ref a) f b) Q E s := by
  obtain ⟨mA, O, r, _, _, _⟩ := ins_get I.hok e
  obtain ⟨u, hu, ru⟩ := RelO.some_of (v := v) (o := mA f) (by rw [← l]; exact r f)
  exact get_map I.kIn O (c.get f) c.hd n hu (handed_of ru) (h u _ (I.tok _) ru)

theorem getmeth_ok {m : Str} {g : Addr} {pl : Sem Bool} {Q : Value × List Value → Shared → Prop} (I : Inv X pins σ H s) (e : H a = some (.ins C dx fs)) (c : Cls X.K C) (k : Meth X.K C m g) (l : fs.lookup m = none)
    (h : Q (.ref g, [.ref a]) s) : wpAny (model X.prog X.w) A (getMethod (.ref a) m pl) Q E s := by
  obtain ⟨mA, O, r, _, _, _⟩ := ins_get I.hok e
  have hn : mA m = none := RelO.none_of (by rw [← l]; exact r m)
  exact get_meth I.kIn O (c.get m) k.at_ k.fn hn h

theorem setattr_ok {y : V} {u : Value} {Q : Unit → Shared → Prop} (I : Inv X pins σ H s) (e : H a = some (.ins C dx fs)) (c : Cls X.K C) (n : NoAttr X.K C f) (hl : fs.length < 1000) (ry : RelV y u)
    (h : ∀ s', Inv X pins σ (upd H a (.ins C dx (putF f y fs))) s' → Q () s') : wpAny (model X.prog X.w) A (setAttr (.ref a) f u) Q E s := by
  obtain ⟨mA, O, r, wi, _, ho⟩ := ins_get I.hok e
  have hz : (fs.map (·.1)).length ≤ sizeLine := by rw [List.length_map, sizeLine_eq]; omega
  refine set_map I.kIn O c.sa c.po n.taker c.hd wi hz fun h' O' sb => h _ ?_
  have hd : ∃ o, h'.get? dx = some o := let ⟨o, _, _, e', _⟩ := O'.ns; ⟨o, e'⟩
  refine I.write (x := a) (e := dx) (by rw [e]; exact True.intro) (.inr ho) (fun b q hb z => (sb.2 b hb).trans z) hd ?_
  refine ⟨by rw [upd_ne O.ne]; exact ho, ?_, O.ne, O'.obj, _, O'.ns, fun g => ?_, fun g hg => ?_⟩
  · have := length_putF f y fs; omega
  · show RelO ((putF f y fs).lookup g) (if g = f then some u else mA g)
    rw [lookup_putF]
    by_cases q : g = f
    · rw [if_pos q, if_pos q]; exact ry
    · rw [if_neg q, if_neg q]; exact r g
  · by_cases q : g = f
    · rw [q]; exact (keys_putF f y fs).1
    · refine (keys_putF f y fs).2 g (wi g fun z => hg ?_)
      show (if g = f then some u else mA g) = none
      rw [if_neg q]; exact z

theorem Inv.made (I : Inv X pins σ H s) : Inv X pins σ (upd (upd H s.heap.objs.size (.own (s.heap.objs.size + 1))) (s.heap.objs.size + 1) (.ins C s.heap.objs.size []))
    { s with heap := (s.heap.push PySem.W.emptyDict).push (PySem.W.instObj C s.heap.objs.size) } := by
  have e1 : (s.heap.push PySem.W.emptyDict).get? s.heap.objs.size = some PySem.W.emptyDict := Heap.get?_push_size s.heap rfl
  have e2 : ((s.heap.push PySem.W.emptyDict).push (PySem.W.instObj C s.heap.objs.size)).get? (s.heap.objs.size + 1) = some (PySem.W.instObj C s.heap.objs.size) := by
    have := Heap.get?_push_size (s.heap.push PySem.W.emptyDict) (o := PySem.W.instObj C s.heap.objs.size) rfl
    rwa [Heap.size_push] at this
  have e3 : (s.heap.push PySem.W.emptyDict).Ns s.heap.objs.size (fun _ => none) := ⟨PySem.W.emptyDict, #[], _, e1, rfl, (fun e he => absurd he (by simp)), fun _ => rfl⟩
  have I1 := I.laid (a := s.heap.objs.size) (o := .own (s.heap.objs.size + 1)) (h' := s.heap.push PySem.W.emptyDict) (t' := s.toks) (fun b u q => Heap.get?_push_of_some _ q) (Nat.le_refl _) ⟨_, e1⟩
  refine I1.laid (a := s.heap.objs.size + 1) (o := .ins C s.heap.objs.size []) (t' := s.toks) (fun b u q => Heap.get?_push_of_some _ q) (Nat.le_of_eq (Heap.size_push _ _)) ?_
  have ne : s.heap.objs.size ≠ s.heap.objs.size + 1 := Nat.ne_of_lt (Nat.lt_succ_self _)
  refine ⟨by rw [upd_ne ne, upd_same], Nat.zero_le _, ne, e2, fun _ => none, (Heap.Ns1.of_empty e3).at fun o q => Heap.get?_push_of_some _ q, fun _ => True.intro, fun y hy => absurd rfl hy⟩

theorem attr_of {prog : Program} {w : World} {env : Env} {e : Expr} {f : Str} {pos : Pos} {s : Shared} {Q : Value → Shared → Prop} (hb : attributeBase e f env (eval e env) = eval e env)
    (h : wpAny (model prog w) A (eval e env) (fun o s₁ => wpAny (model prog w) A (getAttr o f true) Q E s₁) E s) : wpAny (model prog w) A (eval (.Attribute e f pos) env) Q E s :=
  Attribute_any_ h (by rw [arm_eval_Attribute, hb])
end

def tFld (K : PySem.W.Frag) (ta : TE) (f : Str) : TE := fun σ H Q => ta σ H fun x H1 => ∃ a C dx fs v, x = .ref a ∧ H1 a = some (.ins C dx fs) ∧ Cls K C ∧ NoAttr K C f ∧ fs.lookup f = some v ∧ Q v H1
def sFld (K : PySem.W.Frag) (ta tv : TE) (f : Str) : TS := fun D σ H => tv σ H fun y H1 => ta σ H1 fun x H2 => ∃ a C dx fs, x = .ref a ∧ H2 a = some (.ins C dx fs) ∧ Cls K C ∧ NoAttr K C f ∧ fs.length < 1000 ∧
  D.nx σ (upd H2 a (.ins C dx (putF f y fs)))
def InOp (X : Cx) (op : Operator) (rd : V → V → Hp → VK → Prop) : Prop :=
  ∀ (pins : List (Addr × Obj)) (s : Shared) (σ : St) (H : Hp) (x y : V) (u v : Value) (Q : VK), Inv X pins σ H s → RelV x u → RelV y v → rd x y H Q → wpAny (model X.prog X.w) X.A (inplaceOp op u v) (EP X pins σ Q) X.xe s
def sFldAug (K : PySem.W.Frag) (ta tv : TE) (rd : V → V → Hp → VK → Prop) (f : Str) : TS := fun D σ H => ta σ H fun x H1 => ∃ a C dx fs v, x = .ref a ∧ H1 a = some (.ins C dx fs) ∧ Cls K C ∧ NoAttr K C f ∧ fs.lookup f = some v ∧
  tv σ H1 fun y H2 => rd v y H2 fun z H3 => ∃ dx' fs', H3 a = some (.ins C dx' fs') ∧ fs'.length < 1000 ∧ D.nx σ (upd H3 a (.ins C dx' (putF f z fs')))

section
variable {X : Cx} {o e value : Expr} {f : Str} {pos pos' tpos : Pos} {ta tv : TE}
theorem pe_fld (he : PE X e ta) (hb : attributeBase e f X.env (eval e X.env) = eval e X.env) : PE X (.Attribute e f pos) (tFld X.K ta f) := by
  intro pins s σ H Q I h
  refine attr_of hb (thn (he pins s σ H _ I h) fun u s1 ⟨x, H1, I1, rx, a, C, dx, fs, v, ex, ea, c, n, l, q⟩ => ?_)
  subst ex
  obtain rfl : u = Value.ref a := rx
  exact getattr_ok I1 ea c n l fun u' s2 I2 ru => ⟨v, H1, I2, ru, q⟩
theorem ps_fld (ha : PE X o ta) (hv : PE X value tv) (hs : swapsWith value (some (.Attribute o f pos')) pos.line X.env = pure false) : PS X (.Assign [.Attribute o f pos'] value pos) (sFld X.K ta tv f) := by
  intro pins s σ H D I h
  refine plainObj_wpAny_Assign_Attribute (thn (hv pins s σ H _ I h) fun u s1 ⟨y, H1, I1, ry, q⟩ => thn (ha pins s1 σ H1 _ I1 q) fun ov s2 ⟨x, H2, I2, rx, a, C, dx, fs, ex, ea, c, n, l, q2⟩ => ?_) hs
  subst ex
  obtain rfl : ov = Value.ref a := rx
  exact setattr_ok I2 ea c n l ry fun s3 I3 => ⟨σ, _, I3, q2⟩
theorem ps_fldaug {op : Operator} {rd : V → V → Hp → VK → Prop} (ha : PE X o ta) (hv : PE X value tv) (hop : InOp X op rd) : PS X (.AugAssign (.Attribute o f tpos) op value pos) (sFldAug X.K ta tv rd f) := by
  intro pins s σ H D I h
  refine wpAny_AugAssign_AttributeAny (thn (ha pins s σ H _ I h) fun ov s1 ⟨x, H1, I1, rx, a, C, dx, fs, v, ex, ea, c, n, l, q⟩ => ?_)
  subst ex
  obtain rfl : ov = Value.ref a := rx
  refine getattr_ok I1 ea c n l fun u s2 I2 ru => thn (hv pins s2 σ H1 _ I2 q) fun w3 s3 ⟨y, H2, I3, ry, q3⟩ => thn (hop pins s3 σ H2 v y u w3 _ I3 ru ry q3) fun w4 s4 ⟨z, H3, I4, rz, dx', fs', ea', l', q4⟩ => ?_
  exact setattr_ok I4 ea' c n l' rz fun s5 I5 => ⟨σ, _, I5, q4⟩
def rAdd : V → V → Hp → VK → Prop := fun x y H Q => ∃ i j, x = .int i ∧ y = .int j ∧ Q (.int (i + j)) H
theorem in_add : InOp X .Add rAdd := by
  rintro pins s σ H x y u v Q I rx ry ⟨i, j, rfl, rfl, q⟩
  obtain ⟨t, rfl⟩ := (show ∃ t, u = Value.int i t from rx)
  obtain ⟨t', rfl⟩ := (show ∃ t', v = Value.int j t' from ry)
  exact PyProof.Rows.iadd_int ⟨.int (i + j), H, I.tok _, ⟨_, rfl⟩, q⟩
end

section
variable {X : Cx} {pins : List (Addr × Obj)} {σ : St} {H : Hp} {s : Shared} {A : Around} {E : Value → Shared → Prop} {Q : Value → Shared → Prop} {c : Value} {b : Bool}
inductive TyOf (K : PySem.W.Frag) (H : Hp) : V → Value → Prop where
  | non : TyOf K H .non (.type "NoneType")
  | bl (x : Bool) : TyOf K H (.bl x) (.type "bool")
  | int (i : Int) : TyOf K H (.int i) (.type "int")
  | str (x : Str) : TyOf K H (.str x) (.type "str")
  | flt (x : UInt64) : TyOf K H (.flt x) (.type "float")
  | lst {a : Addr} {xs : List V} (e : H a = some (.lst xs)) : TyOf K H (.ref a) (.type "list")
  | frz {a : Addr} {o : Obj} {xs : List V} (e : H a = some (.frz o (.lst xs))) : TyOf K H (.ref a) (.type "list")
  | tup {a : Addr} {xs : List V} (e : H a = some (.tup xs)) : TyOf K H (.ref a) (.type "tuple")
  | dK {a : Addr} {kvs : List (Key × V)} (e : H a = some (.dK kvs)) : TyOf K H (.ref a) (.type "dict")
  | dT {a : Addr} {kvs : List (List Key × V)} (e : H a = some (.dT kvs)) : TyOf K H (.ref a) (.type "dict")
  | ins {a C dx : Addr} {fs : List (Str × V)} (e : H a = some (.ins C dx fs)) (cl : Cls K C) (ha : PySem.W.findIn K (.ref C) "__class__" = some (some (.builtin "object.__class__")))
      (hn : PySem.W.specialIn K (.builtin "object.__class__") "__get__" = some (some (.builtin "getset_descriptor.__get__"))) (htk : PySem.W.takesIn K (.builtin "object.__class__") = some true)
      (hm : PySem.W.mroIn K C (.type "object") = some true) : TyOf K H (.ref a) (.ref C)
end
end L2

namespace L2
open PySem PySem.Spec PyProof.Rows

structure Room (k : Nat) (A : Around) : Prop where
  hd : A.handled = none
  dp : A.depth + 3 * k + 5 < recursionLimit
  un : A.units + 16 * k + 200 < cLine
theorem Room.mono {j k : Nat} {A : Around} (r : Room k A) (h : j ≤ k) : Room j A := ⟨r.hd, by have := r.dp; omega, by have := r.un; omega⟩
theorem Room.deeper {k : Nat} {A : Around} (r : Room (k + 1) A) (env : Env) : Room k (A.deeper env) :=
  ⟨r.hd, by have := r.dp; show A.depth + 1 + 3 * k + 5 < _; omega, by have := r.un; show A.units + 3 + 16 * k + 200 < _; omega⟩
theorem Room.in1 {k : Nat} {A : Around} (r : Room (k + 1) A) : Room k A.in1 :=
  ⟨r.hd, by have := r.dp; show A.depth + 3 * k + 5 < _; omega, by have := r.un; show A.units + 1 + 16 * k + 200 < _; omega⟩
theorem make_depth {A : Around} {C : Addr} {us : List Value} {kw : List (Str × Value)} : (A.under (.builtin "type.__call__" ⟨.ref C :: us, kw⟩)).depth = A.depth + 1 := by
  first | rfl | simp [Around.under, Code.weight, Code.isCreation, Code.isGuard, Code.isCaller, Code.frames, Code.isFrame, guardIds]
theorem make_units {A : Around} {C : Addr} {us : List Value} {kw : List (Str × Value)} : (A.under (.builtin "type.__call__" ⟨.ref C :: us, kw⟩)).units = A.units + 1 := by
  first | rfl | simp [Around.under, Code.cUnits, Code.frames, Code.isFrame]
theorem Room.make {k : Nat} {A : Around} (r : Room (k + 1) A) (C : Addr) (us : List Value) (kw : List (Str × Value)) : Room k (A.under (.builtin "type.__call__" ⟨.ref C :: us, kw⟩)) :=
  ⟨r.hd, by have := r.dp; rw [make_depth]; omega, by have := r.un; rw [make_units]; omega⟩
theorem Room.depth {k : Nat} {A : Around} (r : Room k A) : A.depth < recursionLimit := by have := r.dp; omega
theorem Room.units {k : Nat} {A : Around} (r : Room k A) : A.units + 64 < cLine := by have := r.un; omega
def tNil : TA := fun _ H Q => Q [] H
def tCons (ta : TE) (tr : TA) : TA := fun σ H Q => ta σ H fun x H1 => tr σ H1 fun xs H2 => Q (x :: xs) H2
section
variable {X : Cx} {e : Expr} {es : List Expr} {te : TE} {t : TA} {pos : Pos}
theorem pa_nil : PA X [] tNil := fun _ _ _ _ H Q I h => Calls.spliced_nil ⟨[], H, I, .nil, h⟩
theorem pa_cons (ha : PE X e te) (hr : PA X es t) (hs : starEach (e :: es) X.env = (false, eval e X.env) :: starEach es X.env := by rfl) : PA X (e :: es) (tCons te t) := by
  intro pos pins s σ H Q I h
  rw [hs]
  show wpAny _ _ (spliced ((false, eval e X.env) :: backTo pos (starEach es X.env))) _ _ s
  refine Calls.spliced_cons (thn (ha pins s σ H _ I h) fun u s1 ⟨x, H1, I1, r1, q1⟩ => ?_)
  exact thn (hr pos pins s1 σ H1 _ I1 q1) fun us s2 ⟨xs, H2, I2, r2, q2⟩ => ⟨x :: xs, H2, I2, .cons r1 r2, q2⟩

def tTup (t : TA) : TE := fun σ H Q => t σ H fun xs H1 => xs.length ≤ sizeLine ∧ ∀ p, H1 p = none → Q (.ref p) (upd H1 p (.tup xs))
def tLst (t : TA) : TE := fun σ H Q => t σ H fun xs H1 => xs.length ≤ sizeLine ∧ ∀ p, H1 p = none → Q (.ref p) (upd H1 p (.lst xs))
theorem pe_tup {x1} (h : PA X es t) : PE X (.Tuple es x1 pos) (tTup t) := by
  intro pins s σ H Q I hq
  refine wpAny_Tuple_spliced (thn (h pos pins s σ H _ I hq) fun us s1 ⟨xs, H1, I1, r, z, q⟩ => ⟨by rw [← r.length]; exact z, ?_⟩)
  have hf : H1 s1.heap.objs.size = none := I1.hok.fresh (Nat.le_refl _)
  refine ⟨.ref s1.heap.objs.size, upd H1 s1.heap.objs.size (.tup xs), I1.laid (t' := s1.toks) (fun b u e => Heap.get?_push_of_some _ e) (Nat.le_refl _) ?_, rfl, q _ hf⟩
  exact ⟨z, us, r, ⟨_, Heap.get?_push_size _ rfl, rfl, _, rfl⟩⟩
theorem pe_lst (h : PA X es t) : PE X (.List es pos) (tLst t) := by
  intro pins s σ H Q I hq
  refine wpAny_List_spliced (thn (h pos pins s σ H _ I hq) fun us s1 ⟨xs, H1, I1, r, z, q⟩ => ⟨by rw [← r.length]; exact z, ?_⟩)
  have hf : H1 s1.heap.objs.size = none := I1.hok.fresh (Nat.le_refl _)
  refine ⟨.ref s1.heap.objs.size, upd H1 s1.heap.objs.size (.lst xs), I1.laid (t' := s1.toks) (fun b u e => Heap.get?_push_of_some _ e) (Nat.le_refl _) ?_, rfl, q _ hf⟩
  exact ⟨z, us, 0, r, Heap.get?_push_size _ rfl⟩
end

abbrev Sp := List V → Hp → VK → XK → Prop
abbrev CXT := List Env → Hp → Shared → XK → Value → Shared → Prop

structure Env0 (P : Program) (w : World) (K : PySem.W.Frag) (mg : Str → Option Value) (base : Heap) (A : Around) (outer : List Env) (s : Shared) (H : Hp) : Prop where
  frames : A.frames = some outer
  mod : Mod K mg base
  bs : ∀ b o, base.get? b = some o → s.heap.get? b = some o ∧ H b = none
  bsz : base.objs.size ≤ s.heap.objs.size
  funs : s.heap.FunFrames base outer
  frf : ∀ b ∈ frs outer, H b = none
  hok : HOk P w H s.heap
  bare : AllBare s.gens
def CE (outer : List Env) (P : Program) (w : World) (H : Hp) (s : Shared) (Q : VK) (u : Value) (s' : Shared) : Prop :=
  ∃ v H', s'.os = s.os ∧ AllBare s'.gens ∧ Un (frs outer) [] H H' s.heap s'.heap ∧ HOk P w H' s'.heap ∧ RelV v u ∧ Q v H'
def CR (CX : CXT) (outer : List Env) (P : Program) (w : World) (H : Hp) (s : Shared) (Q : VK) (E : XK) (r : Result) (s' : Shared) : Prop :=
  match r with
  | .ok (.ret u) => CE outer P w H s Q u s'
  | .ok _ => False
  | .error e => CX outer H s E e s'
structure FnOk (P : Program) (w : World) (K : PySem.W.Frag) (mg : Str → Option Value) (base : Heap) (CX : CXT) (k : Nat) (f : Addr) (fd : FuncData) (ps : List Str) (sp : Sp) : Prop where
  len : ∀ vs H Q E, sp vs H Q E → vs.length = ps.length
  run : ∀ (A : Around) (outer : List Env) (s : Shared) (H : Hp) (args : Args) (us : List Value) (vs : List V) (Q : VK) (E : XK), Room k A → Env0 P w K mg base A outer s H → BindsTo s fd args (ps.zip us) → Vals vs us → sp vs H Q E →
    codeAny (model P w) A (.call (.ref f) args) (CR CX outer P w H s Q E) s
theorem FnOk.mono {P : Program} {w : World} {K : PySem.W.Frag} {mg : Str → Option Value} {base : Heap} {CX : CXT} {j k : Nat} {f : Addr} {fd : FuncData} {ps : List Str} {sp : Sp} (F : FnOk P w K mg base CX j f fd ps sp) (h : j ≤ k) :
    FnOk P w K mg base CX k f fd ps sp := ⟨F.len, fun A outer s H args us vs Q E hr => F.run A outer s H args us vs Q E (hr.mono h)⟩
theorem FnOk.imp {P : Program} {w : World} {K : PySem.W.Frag} {mg : Str → Option Value} {base : Heap} {CX : CXT} {k : Nat} {f : Addr} {fd : FuncData} {ps : List Str} {sp sp' : Sp} (F : FnOk P w K mg base CX k f fd ps sp)
    (h : ∀ vs H Q E, sp' vs H Q E → sp vs H Q E) : FnOk P w K mg base CX k f fd ps sp' :=
  ⟨fun vs H Q E q => F.len vs H Q E (h _ _ _ _ q), fun A outer s H args us vs Q E hr he hb hv hs => F.run A outer s H args us vs Q E hr he hb hv (h _ _ _ _ hs)⟩

theorem Env0.make {P : Program} {w : World} {K : PySem.W.Frag} {mg : Str → Option Value} {base : Heap} {A : Around} {outer : List Env} {s : Shared} {H : Hp} (e : Env0 P w K mg base A outer s H) (C : Addr) (us : List Value) (kw : List (Str × Value)) :
    Env0 P w K mg base (A.under (.builtin "type.__call__" ⟨.ref C :: us, kw⟩)) outer s H := ⟨by first | exact e.frames | (simpa [Around.under, Code.envs, Code.isFrame, pushEnvs] using e.frames), e.mod, e.bs, e.bsz, e.funs, e.frf, e.hok, e.bare⟩
theorem Env0.in1 {P : Program} {w : World} {K : PySem.W.Frag} {mg : Str → Option Value} {base : Heap} {A : Around} {outer : List Env} {s : Shared} {H : Hp} (e : Env0 P w K mg base A outer s H) :
    Env0 P w K mg base A.in1 outer s H := ⟨e.frames, e.mod, e.bs, e.bsz, e.funs, e.frf, e.hok, e.bare⟩

section
variable {X : Cx} {pins : List (Addr × Obj)} {σ : St} {H : Hp} {s s' : Shared}
theorem Inv.env0 (I : Inv X pins σ H s) : Env0 X.prog X.w X.K X.mg X.base X.A X.stack s H :=
  ⟨I.ok.frames, I.ok.mod, I.bs, Nat.le_trans I.ok.bsz I.sz, I.stack, I.stkFree, I.hok, I.bare⟩
theorem Inv.after {Q : VK} {u : Value} (I : Inv X pins σ H s) (h : CE X.stack X.prog X.w H s Q u s') : EP X pins σ Q u s' := by
  obtain ⟨v, H', os, bare, un, hok, r, q⟩ := h
  obtain ⟨hh, g, d, t, os'⟩ := s'
  obtain rfl : os' = s.os := os
  exact ⟨v, H', I.call (h' := hh) (g' := g) (d' := d) (t' := t) (ch := []) un hok bare (fun b z => absurd z (by simp)), r, q⟩
end

def tCall (sp : Sp) (dvs : List V) (E : St → XK) (t : TA) : TE := fun σ H Q => t σ H fun vs H1 => sp (vs ++ dvs) H1 Q (E σ)
def tMeth (C : Addr) (m : Str) (sp : Sp) (dvs : List V) (E : St → XK) (ta : TE) (t : TA) : TE := fun σ H Q => ta σ H fun x H1 => ∃ a dx fs, x = .ref a ∧ H1 a = some (.ins C dx fs) ∧ fs.lookup m = none ∧
  t σ H1 fun vs H2 => sp (x :: (vs ++ dvs)) H2 Q (E σ)
def tMake (C : Addr) (sp : Sp) (dvs : List V) (E : St → XK) (t : TA) : TE := fun σ H Q => t σ H fun vs H1 => ∀ x dx, H1 x = none → H1 dx = none → dx ≠ x →
  sp (.ref x :: (vs ++ dvs)) (upd (upd H1 dx (.own x)) x (.ins C dx [])) (fun v H2 => v = .non ∧ Q (.ref x) H2) (E σ)

def Binds (K : PySem.W.Frag) (fd : FuncData) (ps : List Str) (ds : List Value) : Prop :=
  ∀ (s : Shared) (us : List Value), K.In s.heap → (us ++ ds).length = ps.length → BindsTo s fd ⟨us, []⟩ (ps.zip (us ++ ds))
theorem Binds.all {K : PySem.W.Frag} {fd : FuncData} {ps : List Str} (h : ∀ us : List Value, us.length = ps.length → bindArgs fd ⟨us, []⟩ = pure (ps.zip us)) : Binds K fd ps [] := fun s us _ hl => by
  rw [List.append_nil] at hl ⊢
  exact .of_eq (h us hl)

def Passes (CX : CXT) (X : Cx) (E : St → XK) : Prop := ∀ (pins : List (Addr × Obj)) (σ : St) (H : Hp) (s : Shared) (e : Value) (s' : Shared), Inv X pins σ H s → CX X.stack H s (E σ) e s' → X.xe e s'

section
variable {X : Cx} {CX : CXT} {k : Nat} {f C : Addr} {fd : FuncData} {ps : List Str} {sp : Sp} {dvs : List V} {ds : List Value} {E : St → XK} {x m : Str} {p pos apos : Pos} {e o : Expr} {es : List Expr} {ta : TE} {t : TA}

theorem run_fn {pins : List (Addr × Obj)} {σ : St} {H : Hp} {s : Shared} {Q : VK} {us : List Value} {vs : List V} (F : FnOk X.prog X.w X.K X.mg X.base CX k f fd ps sp) (hr : Room k X.A) (hb : Binds X.K fd ps ds) (hd : Vals dvs ds) (hx : Passes CX X E)
    (I : Inv X pins σ H s) (r : Vals vs us) (h : sp (vs ++ dvs) H Q (E σ)) : wpAny (model X.prog X.w) X.A (call (.ref f) us) (EP X pins σ Q) X.xe s := by
  have r2 : Vals (vs ++ dvs) (us ++ ds) := r.append hd
  have hl : (us ++ ds).length = ps.length := by rw [← r2.length]; exact F.len _ _ _ _ h
  refine wpAny_call (codeAny_mono (F.run X.A X.stack s H ⟨us, []⟩ (us ++ ds) (vs ++ dvs) Q (E σ) hr I.env0 (hb s us I.kIn hl) r2 h) fun r s' hq => ?_)
  cases r with
  | error e => exact hx pins σ H s e s' I hq
  | ok fl =>
    cases fl with
    | ret u => exact I.after hq
    | next => exact False.elim hq
    | brk => exact False.elim hq
    | cont => exact False.elim hq

theorem pe_call (F : FnOk X.prog X.w X.K X.mg X.base CX k f fd ps sp) (hr : Room k X.A) (hg : Gl X x) (hm : X.mg x = some (.ref f)) (hk : PySem.W.keepIn X.K (.ref f) = true) (hb : Binds X.K fd ps ds) (hd : Vals dvs ds) (hx : Passes CX X E)
    (ha : PA X (e :: es) t) (hdb : (x == ("__debug__" : Str)) = false := by decide) (he : starEach (e :: es) X.env = (false, eval e X.env) :: starEach es X.env := by rfl) (hpl : (backTo pos (starEach es X.env)).any (·.1) = false := by rfl) :
    PE X (.Call (.Name x p) (e :: es) [] pos) (tCall sp dvs E t) := by
  intro pins s σ H Q I h
  refine wpAny_Call_Name_kw (ld_glob I hg hm ?_ hdb)
  refine PySem.W.callWith_K (h₀ := X.base) I.ok.mod.kin hk (thn (ha pos pins s σ H _ I h) fun us s1 ⟨vs, H1, I1, r, q⟩ => ⟨I1.kIn, ?_⟩) he hpl
  exact run_fn F hr hb hd hx I1 r q
theorem pe_meth {pl : Sem Bool} (he : PE X o ta) (c : Cls X.K C) (hm : Meth X.K C m f) (F : FnOk X.prog X.w X.K X.mg X.base CX k f fd ps sp) (hr : Room k X.A) (hb : Binds X.K fd ps ds) (hd : Vals dvs ds) (hx : Passes CX X E) (ha : PA X (e :: es) t)
    (hst : starEach (e :: es) X.env = (false, eval e X.env) :: starEach es X.env := by rfl) (hpl : (backTo pos (starEach es X.env)).any (·.1) = false := by rfl)
    (ht : eval (.Call (.Attribute o m apos) (e :: es) [] pos) X.env = (do
      let ov ← eval o X.env
      standAt apos.atName
      let (f, first) ← holding [ov] (getMethod ov m pl)
      callWith pos f first (backTo pos (starEach (e :: es) X.env)) (backToKw pos (keywordEach [] X.env))) := by rfl) :
    PE X (.Call (.Attribute o m apos) (e :: es) [] pos) (tMeth C m sp dvs E ta t) := by
  intro pins s σ H Q I h
  refine PySem.W.methodCall_KW (pl := pl) (thn (he pins s σ H _ I h) fun u s1 ⟨x, H1, I1, rx, a, dx, fs, ex, ea, l, q⟩ => ?_) ht
  subst ex
  obtain rfl : u = Value.ref a := rx
  refine getmeth_ok I1 ea c hm l ?_
  refine PySem.W.callWith_K (first := [.ref a]) (h₀ := X.base) I.ok.mod.kin hm.kp (thn (ha pos pins s1 σ H1 _ I1 q) fun us s2 ⟨vs, H2, I2, r, q2⟩ => ⟨I2.kIn, ?_⟩) hst hpl
  exact run_fn (us := .ref a :: us) (vs := .ref a :: vs) F hr hb hd hx I2 (.cons rfl r) q2
theorem pe_meth0 {pl : Sem Bool} (he : PE X o ta) (c : Cls X.K C) (hm : Meth X.K C m f) (F : FnOk X.prog X.w X.K X.mg X.base CX k f fd ps sp) (hr : Room k X.A) (hb : Binds X.K fd ps ds) (hd : Vals dvs ds) (hx : Passes CX X E)
    (ht : eval (.Call (.Attribute o m apos) [] [] pos) X.env = (do
      let ov ← eval o X.env
      standAt apos.atName
      let (f, first) ← holding [ov] (getMethod ov m pl)
      callWith pos f first (backTo pos (starEach [] X.env)) (backToKw pos (keywordEach [] X.env))) := by rfl) :
    PE X (.Call (.Attribute o m apos) [] [] pos) (tMeth C m sp dvs E ta tNil) := by
  intro pins s σ H Q I h
  refine PySem.W.methodCall_KW (pl := pl) (thn (he pins s σ H _ I h) fun u s1 ⟨x, H1, I1, rx, a, dx, fs, ex, ea, l, q⟩ => ?_) ht
  subst ex
  obtain rfl : u = Value.ref a := rx
  refine getmeth_ok I1 ea c hm l ?_
  exact PySem.W.callWith_K0 (first := [.ref a]) I1.kIn hm.kp (run_fn (us := [.ref a]) (vs := [.ref a]) F hr hb hd hx I1 (.cons rfl .nil) q)

structure Mk (K : PySem.W.Frag) (C f : Addr) : Prop where
  makes : PySem.W.makesIn K C = true
  init : PySem.W.findIn K (.ref C) "__init__" = some (some (.ref f))
  fn : PySem.W.isFn K (.ref f) = true
  kp : PySem.W.keepIn K (.ref C) = true

theorem run_make {pins : List (Addr × Obj)} {σ : St} {H : Hp} {s : Shared} {Q : VK} {us : List Value} {vs : List V} (M : Mk X.K C f) (F : FnOk X.prog X.w X.K X.mg X.base CX k f fd ps sp) (hr : Room (k + 1) X.A) (hb : Binds X.K fd ps ds) (hd : Vals dvs ds)
    (hx : Passes CX X E) (I : Inv X pins σ H s) (r : Vals vs us)
    (h : ∀ x dx, H x = none → H dx = none → dx ≠ x → sp (.ref x :: (vs ++ dvs)) (upd (upd H dx (.own x)) x (.ins C dx [])) (fun v H2 => v = .non ∧ Q (.ref x) H2) (E σ)) :
    wpAny (model X.prog X.w) X.A (call (.ref C) us) (EP X pins σ Q) X.xe s := by
  have hq := h (s.heap.objs.size + 1) s.heap.objs.size (I.hok.fresh (Nat.le_succ _)) (I.hok.fresh (Nat.le_refl _)) (Nat.ne_of_lt (Nat.lt_succ_self _))
  have I2 := Inv.made (C := C) I
  have r2 : Vals (V.ref (s.heap.objs.size + 1) :: (vs ++ dvs)) (Value.ref (s.heap.objs.size + 1) :: (us ++ ds)) := .cons rfl (r.append hd)
  have hl : (Value.ref (s.heap.objs.size + 1) :: us ++ ds).length = ps.length := by
    have e := r2.length
    rw [F.len _ _ _ _ hq] at e
    exact e.symm
  refine wpAny_call (make_map (f := f) I.kIn M.makes M.init (beq_iff_eq.mp M.fn) (codeAny_mono (F.run _ X.stack _ _ ⟨Value.ref (s.heap.objs.size + 1) :: us, []⟩ (Value.ref (s.heap.objs.size + 1) :: (us ++ ds)) _ _ (E σ) (hr.make C us [])
    (I2.env0.make C us []) (hb _ (Value.ref (s.heap.objs.size + 1) :: us) I2.kIn hl) r2 hq) fun r s' hq' => ?_))
  cases r with
  | error e => exact hx pins σ _ _ e s' I2 hq'
  | ok fl =>
    cases fl with
    | ret u =>
      obtain ⟨v, H', I3, rv, ev, q3⟩ := I2.after hq'
      subst ev
      exact ⟨rv, ⟨V.ref (s.heap.objs.size + 1), H', I3, rfl, q3⟩⟩
    | next => exact False.elim hq'
    | brk => exact False.elim hq'
    | cont => exact False.elim hq'
theorem pe_make (M : Mk X.K C f) (F : FnOk X.prog X.w X.K X.mg X.base CX k f fd ps sp) (hr : Room (k + 1) X.A) (hg : Gl X x) (hm : X.mg x = some (.ref C)) (hb : Binds X.K fd ps ds) (hd : Vals dvs ds) (hx : Passes CX X E)
    (ha : PA X (e :: es) t) (hdb : (x == ("__debug__" : Str)) = false := by decide) (he : starEach (e :: es) X.env = (false, eval e X.env) :: starEach es X.env := by rfl) (hpl : (backTo pos (starEach es X.env)).any (·.1) = false := by rfl) :
    PE X (.Call (.Name x p) (e :: es) [] pos) (tMake C sp dvs E t) := by
  intro pins s σ H Q I h
  refine wpAny_Call_Name_kw (ld_glob I hg hm ?_ hdb)
  refine PySem.W.callWith_K (h₀ := X.base) I.ok.mod.kin M.kp (thn (ha pos pins s σ H _ I h) fun us s1 ⟨vs, H1, I1, r, q⟩ => ⟨I1.kIn, ?_⟩) he hpl
  exact run_make M F hr hb hd hx I1 r q
end

section
variable {X : Cx} {CX : CXT} {k : Nat} {f C : Addr} {fd : FuncData} {ps ks : List Str} {sp : Sp} {E : St → XK} {x m : Str} {p pos apos kpos : Pos} {e o : Expr} {es : List Expr} {kws : List Keyword} {te ta : TE} {t tk : TA} {nm : Option Str}
structure KBinds (K : PySem.W.Frag) (fd : FuncData) (ps ks : List Str) (g : List Value → List Value → List Value) (gV : List V → List V → List V) : Prop where
  to : ∀ (s : Shared) (us ws : List Value), K.In s.heap → (g us ws).length = ps.length → BindsTo s fd ⟨us, ks.zip ws⟩ (ps.zip (g us ws))
  rel : ∀ {vs : List V} {us : List Value} {zs : List V} {ws : List Value}, Vals vs us → Vals zs ws → Vals (gV vs zs) (g us ws)
variable {g : List Value → List Value → List Value} {gV : List V → List V → List V}
end

structure FnScope (N P : List Str) (sc : Scope) : Prop where
  kind : sc.kind = .function
  co : sc.isCoroutine = false
  gen : sc.isGenerator = false
  nd : N.Nodup
  pre : N.take P.length = P
  par : ∀ x ∈ P, sc.names.lookup x = some .local ∨ sc.names.lookup x = some .cell
  nofree : ∀ y ∈ sc.names, y.2 ≠ .free

theorem bindL_out {kindOf : Str → Option NameKind} {x : Str} : ∀ {binds : List (Str × Value)} {m : Str → Option Value}, (∀ v, (x, v) ∉ binds) → bindL kindOf binds m x = m x
  | [], _, _ => rfl
  | (n, v) :: r, m, h => by
    unfold bindL
    rw [bindL_out fun w hw => h w (List.mem_cons_of_mem _ hw)]
    split
    · have : x ≠ n := by rintro rfl; exact h v List.mem_cons_self
      simp [this]
    · rfl
theorem bindC_out {kindOf : Str → Option NameKind} {x : Str} : ∀ {binds : List (Str × Value)} {m : Str → Option Value}, (∀ v, (x, v) ∉ binds) → bindC kindOf binds m x = m x
  | [], _, _ => rfl
  | (n, v) :: r, m, h => by
    unfold bindC
    rw [bindC_out fun w hw => h w (List.mem_cons_of_mem _ hw)]
    split
    · rfl
    · have : x ≠ n := by rintro rfl; exact h v List.mem_cons_self
      simp [this]
theorem bindL_get {kindOf : Str → Option NameKind} {x : Str} {v : Value} : ∀ {P : List Str} {vs : List Value} {i : Nat} {m : Str → Option Value}, P.Nodup → P[i]? = some x → vs[i]? = some v → kindOf x = some .local →
    bindL kindOf (P.zip vs) m x = some v
  | [], _, _, _, _, h, _, _ => by simp at h
  | _ :: _, [], _, _, _, _, h, _ => by simp at h
  | p :: P, w :: vs, 0, m, nd, h1, h2, hk => by
    simp at h1 h2; subst h1; subst h2
    show bindL kindOf ((p, w) :: P.zip vs) m p = _
    unfold bindL
    rw [bindL_out fun v hv => (List.nodup_cons.mp nd).1 (List.of_mem_zip hv).1, if_pos hk]
    simp
  | p :: P, w :: vs, i + 1, m, nd, h1, h2, hk => by
    show bindL kindOf ((p, w) :: P.zip vs) m x = _
    unfold bindL
    exact bindL_get (i := i) (List.nodup_cons.mp nd).2 (by simpa using h1) (by simpa using h2) hk
theorem bindC_get {kindOf : Str → Option NameKind} {x : Str} {v : Value} : ∀ {P : List Str} {vs : List Value} {i : Nat} {m : Str → Option Value}, P.Nodup → P[i]? = some x → vs[i]? = some v → kindOf x ≠ some .local →
    bindC kindOf (P.zip vs) m x = some v
  | [], _, _, _, _, h, _, _ => by simp at h
  | _ :: _, [], _, _, _, _, h, _ => by simp at h
  | p :: P, w :: vs, 0, m, nd, h1, h2, hk => by
    simp at h1 h2; subst h1; subst h2
    show bindC kindOf ((p, w) :: P.zip vs) m p = _
    unfold bindC
    rw [bindC_out fun v hv => (List.nodup_cons.mp nd).1 (List.of_mem_zip hv).1, if_neg hk]
    simp
  | p :: P, w :: vs, i + 1, m, nd, h1, h2, hk => by
    show bindC kindOf ((p, w) :: P.zip vs) m x = _
    unfold bindC
    exact bindC_get (i := i) (List.nodup_cons.mp nd).2 (by simpa using h1) (by simpa using h2) hk

def start (N : List Str) (vs : List V) : St := vs.map some ++ List.replicate (N.length - vs.length) none

def cxOf (CX : CXT) (P : Program) (w : World) (K : PySem.W.Frag) (mg : Str → Option Value) (base : Heap) (N : List Str) (qual : Str) (scope : Scope) (f : Addr) (cd : Value) (A : Around) (outer : List Env) (s : Shared) (H : Hp) (E : XK) : Cx where
  prog := P
  w := w
  K := K
  mg := mg
  base := base
  A := A.deeper (envOfC qual scope s.heap.objs.size f cd)
  N := N
  s₀ := s
  H₀ := H
  env := envOfC qual scope s.heap.objs.size f cd
  outer := outer
  stack := envOfC qual scope s.heap.objs.size f cd :: outer
  ex := []
  calm := true
  fn := fun _ => true
  pn := []
  xe := fun e s' => wpAny (model P w) (A.deeper (envOfC qual scope s.heap.objs.size f cd)) (leaving (envOfC qual scope s.heap.objs.size f cd) e) (fun _ s'' => CX outer H s E e s'') (fun e' s'' => CX outer H s E e' s'') s'

theorem cell_has {sc : Scope} {n : Nat} {x : Str} (h : sc.names.lookup x = some .cell) : ∃ c, (cellsFrom n sc.names []).lookup x = some c := by
  have q := PySem.W.cellsFrom_some sc.names n [] (.inl h)
  exact Option.isSome_iff_exists.mp q

theorem inv_start {CX : CXT} {P : Program} {w : World} {K : PySem.W.Frag} {mg : Str → Option Value} {base : Heap} {N ps : List Str} {qual : Str} {scope : Scope} {f : Addr} {cd : Value} {A : Around} {outer : List Env} {s s1 : Shared} {H : Hp} {E : XK} {us : List Value} {vs : List V}
    (S : FnScope N ps scope) (hd : A.handled = none) (e0 : Env0 P w K mg base A outer s H) (hl : vs.length = ps.length) (r : Vals vs us)
    (x : InCallC s s.heap.objs.size (bindL (envOfC qual scope s.heap.objs.size f cd).kindOf (ps.zip us) fun _ => none) (cellsFrom (s.heap.objs.size + 1) scope.names []) (bindC (envOfC qual scope s.heap.objs.size f cd).kindOf (ps.zip us) fun _ => none) s1) :
    Inv (cxOf CX P w K mg base N qual scope f cd A outer s H E) [] (start N vs) H s1 := by
  have hpl : ps.length ≤ N.length := by have := congrArg List.length S.pre; rw [List.length_take] at this; omega
  obtain ⟨h1, tk, rfl, hk⟩ := x.done
  have noA : ∀ b : Addr, b ∉ (cxOf CX P w K mg base N qual scope f cd A outer s H E).ex := fun b z => absurd (show b ∈ ([] : List Addr) from z) (by simp)
  refine ⟨⟨e0.mod, S.kind, rfl, rfl, Nat.le_refl _, fun y z c h1 h2 => ?_, fun y hy => ?_, fun y c _ h => ?_, fun _ => hd, Around.frames_deeper e0.frames, .inr ⟨rfl, rfl⟩, fun b z => absurd z (noA b), e0.bs, e0.bsz, fun b _ _ => noA b, fun b z => absurd z (noA b), e0.funs, e0.frf⟩,
    rfl, e0.bare, Un.kept hk, ⟨_, x.toInCall.ns, fun i y v h1 h2 h3 => ?_⟩, fun y c h => ⟨_, x.cell y c h⟩, e0.hok.fresh (Nat.le_refl _), fun y c h => ?_, fun p hp => absurd (show p ∈ ([] : List (Addr × Obj)) from hp) (by simp), e0.hok.kept hk, ?_⟩
  · exact name_of_addr x.apart (PySem.mem_of_lookup h1) (PySem.mem_of_lookup h2)
  · have hy : scope.names.lookup y = some .cell ∨ scope.names.lookup y = some .free := hy
    rcases hy with hy | hy
    · exact cell_has hy
    · exact absurd rfl (S.nofree _ (PySem.mem_of_lookup hy))
  · exact Nat.le_of_lt (x.above y c (PySem.mem_of_lookup h))
  · have hi : i < vs.length := by
      unfold start at h2
      by_cases hi : i < vs.length
      · exact hi
      · rw [List.getElem?_append_right (by simpa using hi)] at h2
        rw [List.getElem?_replicate] at h2
        split at h2 <;> cases h2
    have ha : vs[i]? = some v := by
      unfold start at h2
      rw [List.getElem?_append_left (by simpa using hi), List.getElem?_map] at h2
      cases e : vs[i]? with
      | none => rw [e] at h2; cases h2
      | some a => rw [e] at h2; cases h2; rfl
    obtain ⟨u, hu, rv⟩ := r.get ha
    have hp : ps[i]? = some y := by
      rw [← S.pre, List.getElem?_take_of_lt (by omega)]; exact h1
    have ndP : ps.Nodup := by rw [← S.pre]; exact S.nd.sublist (List.take_sublist _ _)
    refine ⟨u, rv, ?_⟩
    rcases S.par y (List.mem_of_getElem? hp) with k | k
    · exact .inl ⟨k, bindL_get ndP hp hu k⟩
    · obtain ⟨c, e⟩ := cell_has (n := s.heap.objs.size + 1) k
      refine .inr ⟨.inl k, c, e, ?_⟩
      have q := x.cell y c e
      rw [bindC_get ndP hp hu (by show scope.names.lookup y ≠ _; rw [k]; decide)] at q
      exact q
  · exact e0.hok.fresh (Nat.le_of_lt (x.above y c (PySem.mem_of_lookup h)))
  · unfold start
    show _ = N.length
    rw [List.length_append, List.length_map, List.length_replicate]
    omega

theorem fn_of {CX : CXT} {P : Program} {w : World} {K : PySem.W.Frag} {mg : Str → Option Value} {base : Heap} {k : Nat} {f : Addr} {name qual : Str} {params : Arguments} {body : List Stmt} {scope : Scope} {dV kV doc pm cdv ct oc : Value} {an od : Option Addr}
    {osl : Array (Option Value)} {N ps : List Str} {sp : Sp} (lk : K.lookup f = some ⟨oc, od, .func (PySem.W.fnOf name qual params body scope dV kV doc pm an cdv ct), osl⟩) (hcd : PySem.W.codeIn K cdv qual = true) (S : FnScope N ps scope)
    (len : ∀ vs H Q E, sp vs H Q E → vs.length = ps.length)
    (hbody : ∀ (A : Around) (outer : List Env) (s : Shared) (H : Hp) (vs : List V) (Q : VK) (E : XK), Room k (A.deeper (envOfC qual scope s.heap.objs.size f cdv)) → sp vs H Q E →
      ∃ t, PSs (cxOf CX P w K mg base N qual scope f cdv A outer s H E) body t ∧ t { nx := fun _ H' => Q .non H', rt := Q } (start N vs) H) :
    FnOk P w K mg base CX (k + 1) f (PySem.W.fnOf name qual params body scope dV kV doc pm an cdv ct) ps sp := by
  refine ⟨len, fun A outer s H args us vs Q E hr e0 hb r hsp => ?_⟩
  have hl := len _ _ _ _ hsp
  have KX : K.In s.heap := e0.mod.kin.keeps fun b o e => (e0.bs b o e).1
  have lim : s.heap.NoLimit := e0.mod.nolimit.keeps fun b o e => (e0.bs b o e).1
  have hkind : ∀ y ∈ ps.zip us, scope.names.lookup y.1 = some .local ∨ (scope.names.lookup y.1 = some .cell ∧ ((cellsFrom (s.heap.objs.size + 1) scope.names []).lookup y.1).isSome = true) := fun ⟨n, v⟩ hy => by
    rcases S.par n (List.of_mem_zip hy).1 with q | q
    · exact .inl q
    · exact .inr ⟨q, PySem.W.cellsFrom_some _ _ _ (.inl q)⟩
  refine codeAny_call_function hr.depth (KX _ _ lk) rfl S.co S.gen rfl (PySem.W.codeRec_of KX hcd) (hb _ _ _ _ ?_)
  refine wpAny_newFunctionEnv_cells S.kind hkind fun env he s1 x => ?_
  subst he
  refine ⟨lim.keeps x.toInCall.keep, codeAny_func ?_⟩
  obtain ⟨t, ht, hq⟩ := hbody A outer s H vs Q E (hr.deeper _) hsp
  have I : Inv (cxOf CX P w K mg base N qual scope f cdv A outer s H E) [] (start N vs) H s1 := inv_start S hr.hd e0 hl r x
  refine wpAny_mono (ht [] s1 (start N vs) H _ I hq) (fun fl s' hs => ?_) fun e s' hs => hs
  have fin : ∀ {σ' : St} {H' : Hp} {v : V} {u : Value}, Inv (cxOf CX P w K mg base N qual scope f cdv A outer s H E) [] σ' H' s' → RelV v u → Q v H' → CE outer P w H s Q u s' :=
    fun {σ' H' v u} J rv q => ⟨v, H', J.os, J.bare, J.base, J.hok, rv, q⟩
  cases fl with
  | ret u =>
    obtain ⟨v, σ', H', J, rv, q⟩ := hs
    exact fin J rv q
  | next =>
    obtain ⟨σ', H', J, q⟩ := hs
    exact fin (v := V.non) (u := Value.none) J rfl q
  | brk =>
    obtain ⟨_, _, _, q⟩ := hs
    exact False.elim q
  | cont =>
    obtain ⟨_, _, _, q⟩ := hs
    exact False.elim q
end L2

namespace L2
open PySem PySem.Spec PyProof.Rows
section
variable {X : Cx} {x : Str} {p pos : Pos} {e : Expr} {es : List Expr} {t : TA} {id T : String} {r : List V → Hp → VK → Prop}

def tCB (r : List V → Hp → VK → Prop) (t : TA) : TE := fun σ H Q => t σ H fun vs H1 => r vs H1 Q
theorem pe_callB (hc : CallR X (.builtin id) r) (hg : Gl X x) (hm : X.mg x = none) (hv : bootBuiltins x = some (.builtin id)) (ha : PA X (e :: es) t) (hn : x ≠ "__name__" := by decide) (hdb : (x == ("__debug__" : Str)) = false := by decide)
    (he : starEach (e :: es) X.env = (false, eval e X.env) :: starEach es X.env := by rfl) (hpl : (backTo pos (starEach es X.env)).any (·.1) = false := by rfl) : PE X (.Call (.Name x p) (e :: es) [] pos) (tCB r t) := by
  intro pins s σ H Q I h
  refine wpAny_Call_Name_kw (ld_blt I hg hm hv ?_ hn hdb)
  exact PyProof.Rows.callWith_builtin1 (thn (ha pos pins s σ H _ I h) fun us s1 ⟨vs, H1, I1, r1, q1⟩ => hc pins s1 σ H1 vs us Q I1 r1 q1) he hpl
theorem pe_callTy (hc : CallR X (.type T) r) (hg : Gl X x) (hm : X.mg x = none) (hv : bootBuiltins x = some (.type T)) (ha : PA X (e :: es) t) (hn : x ≠ "__name__" := by decide) (hdb : (x == ("__debug__" : Str)) = false := by decide)
    (he : starEach (e :: es) X.env = (false, eval e X.env) :: starEach es X.env := by rfl) (hpl : (backTo pos (starEach es X.env)).any (·.1) = false := by rfl) : PE X (.Call (.Name x p) (e :: es) [] pos) (tCB r t) := by
  intro pins s σ H Q I h
  refine wpAny_Call_Name_kw (ld_blt I hg hm hv ?_ hn hdb)
  exact PyProof.Rows.callWith_type1 (thn (ha pos pins s σ H _ I h) fun us s1 ⟨vs, H1, I1, r1, q1⟩ => hc pins s1 σ H1 vs us Q I1 r1 q1) he hpl
end
end L2

namespace HT
open PySem PyProof.Rows

section
open PySem.SeqAt
open PySem.AutoSeq1 (wpAny_loadPart')
open PySem.MeetsSeq PySem.MeetsSeq2 PySem.MeetsSeq3

end

section
variable {prog : Program} {w : World} {A : Around} {E : Value → Shared → Prop} {s : Shared}

theorem cat_tup {t b : Addr} {vs ws : List Value} {Q : Value → Shared → Prop} (ht : IsTup s.heap t vs.toArray) (hb : IsTup s.heap b ws.toArray) (hv : vs ≠ [])
    (h1 : ws = [] → Q (.ref t) s) (h2 : ws ≠ [] → Q (.ref s.heap.objs.size) { s with heap := s.heap.push { cls := .type "tuple", data := .seq (vs ++ ws).toArray } })
    (hsz : vs.length + ws.length ≤ sizeLine) : wpAny (model prog w) A (binaryOp .Add (.ref t) (.ref b)) Q E s := by
  obtain ⟨⟨cls, dd, data, sl⟩, ho, hc, n, hd⟩ := id ht
  obtain ⟨⟨cls2, dd2, data2, sl2⟩, ho2, hc2, n2, hd2⟩ := id hb
  simp only at hc hd hc2 hd2
  subst hc hd hc2 hd2
  have e : vs.toArray ++ ws.toArray = (vs ++ ws).toArray := by simp
  by_cases hw : ws = []
  · exact concat_meets ⟨_, ho, rfl⟩ ⟨_, ho2, rfl⟩ noFill_tuple_add seq_tuple_add PySem.F.slot_tuple_add PySem.F.entry_tuple_add (PySem.F.args_tuple_add_2 _ _)
      (tuple_addW1 t b vs.toArray ws.toArray n n2 dd dd2 sl sl2 (by simpa using hv) (by simp [hw])) ⟨ho, ho2, h1 hw⟩
  · refine concat_meets ⟨_, ho, rfl⟩ ⟨_, ho2, rfl⟩ noFill_tuple_add seq_tuple_add PySem.F.slot_tuple_add PySem.F.entry_tuple_add (PySem.F.args_tuple_add_2 _ _)
      (tuple_addW2 t b vs.toArray ws.toArray n n2 dd dd2 sl sl2 (by simpa using hv) (by simpa using hw) (by rw [List.size_toArray, List.size_toArray]; exact hsz)) ⟨ho, ho2, ?_⟩
    rw [e]
    exact h2 hw

def sIx (n d : Nat) : Option Int → Nat
  | none => d
  | some v => if v < 0 then (v + (n : Int)).toNat else min v.toNat n
theorem sIx_le (n d : Nat) (hd : d ≤ n) (o : Option Int) : sIx n d o ≤ n := by
  cases o with
  | none => exact hd
  | some v =>
    show (if v < 0 then (v + (n : Int)).toNat else min v.toNat n) ≤ n
    by_cases hv : v < 0
    · rw [if_pos hv]; omega
    · rw [if_neg hv]; exact Nat.min_le_right _ _
theorem clip_eq (v : Int) (n d : Nat) : (if v < 0 then max (v + (n : Int)) 0 else min v (n : Int)) = ((sIx n d (some v) : Nat) : Int) := by
  show (if v < 0 then max (v + (n : Int)) 0 else min v (n : Int)) = (((if v < 0 then (v + (n : Int)).toNat else min v.toNat n) : Nat) : Int)
  by_cases hv : v < 0
  · simp only [if_pos hv]; omega
  · simp only [if_neg hv]; omega
theorem adjust_gen (lo hi : Option Int) (n : Nat) : Builtin.Slice.sliceAdjust lo hi 1 (n : Int) = (((sIx n 0 lo : Nat) : Int), ((sIx n n hi : Nat) : Int)) := by
  have h1 : ¬ ((1 : Int) < 0) := by omega
  unfold Builtin.Slice.sliceAdjust
  simp only [h1, if_false]
  refine Prod.ext ?_ ?_
  · cases lo with
    | none => rfl
    | some v => exact clip_eq v n 0
  · cases hi with
    | none => rfl
    | some v => exact clip_eq v n n
theorem places_gen (i j : Nat) : Builtin.Slice.slicePlaces (i : Int) (j : Int) 1 = j - i := by
  unfold Builtin.Slice.slicePlaces
  have h1 : (1 : Int) > 0 := by omega
  simp only [h1, if_true, Int.ediv_one]
  split <;> omega
theorem slicePart_ {v : Value} {o : Option Int} {Q : Option Int → Shared → Prop} (p : IsPart v o) (h : Q o s) : wpAny (model prog w) A (Builtin.Slice.slicePartIndex v) Q E s := by
  cases p with
  | none => exact slicePart_none h
  | int i t => exact slicePart_int h
theorem sliceApplied_gen {sl : Addr} {vl vu : Value} {lo hi : Option Int} {n : Nat} {Q : Int × Int × Nat → Shared → Prop} (hs : s.heap.IsSliceOf sl vl vu .none) (pl : IsPart vl lo) (pu : IsPart vu hi)
    (h : Q (((sIx n 0 lo : Nat) : Int), 1, sIx n n hi - sIx n 0 lo) s) : wpAny (model prog w) A (Builtin.Slice.sliceApplied (.ref sl) (pure (n : Int))) Q E s := by
  obtain ⟨os, hos, hcs, hds⟩ := id hs
  unfold Builtin.Slice.sliceApplied Builtin.Slice.sliceFields
  refine wpAny_bind (wpAny_bind (wpAny_field hos hds (x := vl) rfl (wpAny_bind (wpAny_field hos hds (x := vu) rfl (wpAny_bind (wpAny_field hos hds (x := .none) rfl (wpAny_pure ?_)))))))
  refine wpAny_bind (slicePart_none ?_)
  show wpAny _ _ (if ((1 : Int) == 0) = true then _ else _) _ _ s
  rw [if_neg (by decide)]
  refine wpAny_bind (slicePart_ pl (wpAny_bind (slicePart_ pu (wpAny_bind (wpAny_pure ?_)))))
  show wpAny _ _ (match Builtin.Slice.sliceAdjust lo hi 1 (n : Int) with | (lo, hi) => pure (lo, (1 : Int), Builtin.Slice.slicePlaces lo hi 1)) _ _ s
  rw [adjust_gen lo hi n]
  show wpAny _ _ (pure (((sIx n 0 lo : Nat) : Int), (1 : Int), Builtin.Slice.slicePlaces ((sIx n 0 lo : Nat) : Int) ((sIx n n hi : Nat) : Int) 1)) _ _ s
  rw [places_gen]
  exact wpAny_pure h
theorem pick_gen (xs : Array Value) (i k : Nat) : ((List.range k).filterMap fun (m : Nat) => xs[((i : Int) + (m : Int) * 1).toNat]?).toArray = ((xs.toList.drop i).take k).toArray := by
  have e : (fun (m : Nat) => xs[((i : Int) + (m : Int) * 1).toNat]?) = fun m => xs[i + m]? := by
    funext m
    have : ((i : Int) + (m : Int) * 1).toNat = i + m := by omega
    rw [this]
  rw [e]
  have := pick_run xs i k
  rw [List.filterMap_map] at this
  have e2 : ((fun x => xs[x]?) ∘ fun x => i + x) = fun m => xs[i + m]? := rfl
  rw [e2] at this
  rw [this]

theorem getItem_tuple_cut {t sl : Addr} {items : Array Value} {vl vu : Value} {lo hi : Option Int} {Q : Value → Shared → Prop} (ht : IsTup s.heap t items) (hs : s.heap.IsSliceOf sl vl vu .none) (pl : IsPart vl lo) (pu : IsPart vu hi)
    (hw : ¬ (sIx items.size 0 lo = 0 ∧ sIx items.size items.size hi = items.size))
    (h : Q (.ref s.heap.objs.size) { s with heap := s.heap.push { cls := .type "tuple", data := .seq ((items.toList.drop (sIx items.size 0 lo)).take (sIx items.size items.size hi - sIx items.size 0 lo)).toArray } })
    (hsz : items.size ≤ sizeLine) : wpAny (model prog w) A (getItem (.ref t) (.ref sl)) Q E s := by
  have htake : sizeOk (.seq ((items.toList.drop (sIx items.size 0 lo)).take (sIx items.size items.size hi - sIx items.size 0 lo)).toArray) := by
    show ((items.toList.drop (sIx items.size 0 lo)).take (sIx items.size items.size hi - sIx items.size 0 lo)).toArray.size ≤ sizeLine
    rw [List.size_toArray, List.length_take, List.length_drop, Array.length_toList]
    omega
  have hj : sIx items.size items.size hi ≤ items.size := sIx_le _ _ (Nat.le_refl _) hi
  obtain ⟨os, hos, hcs, hds⟩ := id hs
  have hTs : s.TypeIs (.ref sl) "slice" := ⟨os, hos, hcs⟩
  unfold getItem
  try with_reducible refine wpAny_holding ?_
  first | refine wpAny_bind (wpAny_pure ?_) | skip
  refine wpAny_bind (wpAny_sequenceKey ht.typeIs (by decide) ?_)
  refine wpAny_bind (wpAny_callSpecial?_slot (name := Str.ofString "__getitem__") ht.typeIs PyProof.Rows.slot_tuple_getitem
    (wpAny_call_entry PyProof.Rows.slot_tuple_getitem ht.typeIs entry_tuple_getitem ?_ (args_tuple_getitem _ _)))
  show wpAny _ _ (Builtin.Tuple.tupleItemsOf (.ref t) >>= _) _ _ s
  refine wpAny_bind (tupleItemsOf_ ht ?_)
  refine wpAny_bind (wpAny_typeOf hTs ?_)
  rw [if_pos (by decide)]
  refine wpAny_bind (sliceApplied_gen hs pl pu ?_)
  have hno : ¬ ((((sIx items.size 0 lo : Nat) : Int) == 0 && (1 : Int) == 1 && (sIx items.size items.size hi - sIx items.size 0 lo) == items.size) = true) := by
    intro q
    rw [Bool.and_eq_true, Bool.and_eq_true] at q
    have q1 : ((sIx items.size 0 lo : Nat) : Int) = 0 := eq_of_beq q.1.1
    have q2 : sIx items.size items.size hi - sIx items.size 0 lo = items.size := eq_of_beq q.2
    exact hw ⟨by omega, by omega⟩
  show wpAny _ _ (if (((sIx items.size 0 lo : Nat) : Int) == 0 && (1 : Int) == 1 && (sIx items.size items.size hi - sIx items.size 0 lo) == items.size) = true then _ else _) _ _ s
  rw [if_neg hno, pick_gen]
  first
    | exact wpAny_bind (m := Builtin.Tuple.tupleExact _) (wpAny_newObj_type (wpAny_pure ⟨_, rfl, wpAny_pure h⟩) htake)
    | exact wpAny_bind (m := Builtin.Tuple.tupleExact _) (wpAny_newObj_type (wpAny_bind (wpAny_pure (wpAny_pure ⟨_, rfl, wpAny_pure h⟩))) htake)
    | exact wpAny_bind (wpAny_bind (m := Builtin.Tuple.tupleExact _) (wpAny_newObj_type (wpAny_pure (wpAny_pure ⟨_, rfl, wpAny_pure h⟩)) htake))
    | exact wpAny_bind (wpAny_bind (m := Builtin.Tuple.tupleExact _) (wpAny_newObj_type (wpAny_pure ⟨_, rfl, wpAny_pure h⟩) htake))
end
end HT

namespace L2
open PySem PySem.Spec PyProof.Rows

abbrev TO := St → Hp → (Option Int → Hp → Prop) → Prop
def PO (X : Cx) (e : Option Expr) (t : TO) : Prop :=
  ∀ (pins : List (Addr × Obj)) (s : Shared) (σ : St) (H : Hp) (Q : Option Int → Hp → Prop), Inv X pins σ H s → t σ H Q →
    wpAny (model X.prog X.w) X.A (evalPart e X.env) (fun u s' => ∃ o H', Inv X pins σ H' s' ∧ IsPart u o ∧ Q o H') X.xe s
def tNoPart : TO := fun _ H Q => Q none H
def tPart (t : TE) : TO := fun σ H Q => t σ H fun x H1 => ∃ i, x = .int i ∧ Q (some i) H1

section
variable {X : Cx} {e : Expr} {te : TE} {lo hi : Option Expr} {tl th : TO} {pos p2 : Pos}

theorem po_some (h : PE X e te) : PO X (some e) (tPart te) := by
  intro pins s σ H Q I hw
  rw [evalPart_some]
  refine thn (h pins s σ H _ I hw) fun u s1 ⟨x, H1, I1, r1, q1⟩ => ?_
  obtain ⟨i, rfl, q⟩ := q1
  obtain ⟨t, rfl⟩ := r1
  exact ⟨some i, H1, I1, .int i t, q⟩

def SlR (X : Cx) (r : V → Option Int → Option Int → Hp → VK → Prop) : Prop :=
  ∀ (pins : List (Addr × Obj)) (s : Shared) (σ : St) (H : Hp) (x : V) (v vl vu : Value) (lo hi : Option Int) (sl : Addr) (Q : VK), Inv X pins σ H s → RelV x v → s.heap.IsSliceOf sl vl vu .none → IsPart vl lo → IsPart vu hi → r x lo hi H Q →
    ∃ T id, typeLookup (.type T) "__getitem__" = pure (some (.builtin id)) ∧ s.TypeIs v T ∧ wpAny (model X.prog X.w) X.A (getItem v (.ref sl)) (EP X pins σ Q) X.xe s
theorem SlR.or {r r' : V → Option Int → Option Int → Hp → VK → Prop} (h : SlR X r) (h' : SlR X r') : SlR X (fun x lo hi H Q => r x lo hi H Q ∨ r' x lo hi H Q) := by
  intro pins s σ H x v vl vu lo hi sl Q I rx hs pl pu q
  rcases q with q | q
  · exact h pins s σ H x v vl vu lo hi sl Q I rx hs pl pu q
  · exact h' pins s σ H x v vl vu lo hi sl Q I rx hs pl pu q
def tSl (r : V → Option Int → Option Int → Hp → VK → Prop) (te : TE) (tl th : TO) : TE := fun σ H Q => te σ H fun x H1 => tl σ H1 fun l H2 => th σ H2 fun u H3 => r x l u H3 Q
theorem pe_slice {r : V → Option Int → Option Int → Hp → VK → Prop} (hr : SlR X r) (he : PE X e te) (hl : PO X lo tl) (hu : PO X hi th) : PE X (.Subscript e (.Slice lo hi none p2) pos) (tSl r te tl th) := by
  intro pins s σ H Q I h
  refine Subscript_ (thn (he pins s σ H _ I h) fun v s1 ⟨x, H1, I1, r1, q1⟩ => ?_)
  refine wpAny_Slice (thn (hl pins s1 σ H1 _ I1 q1) fun vl s2 ⟨l, H2, I2, pl, q2⟩ => thn (hu pins s2 σ H2 _ I2 q2) fun vu s3 ⟨u, H3, I3, pu, q3⟩ => ?_)
  rw [evalPart_none]
  refine wpAny_pure ?_
  have I4 : Inv X pins σ H3 { s3 with heap := s3.heap.push { cls := .type "slice", data := .fields #[vl, vu, .none] } } := I3.kept (t' := s3.toks) fun b ob q => Heap.get?_push_of_some _ q
  obtain ⟨T, id, hT, ht, hg⟩ := hr pins { s3 with heap := s3.heap.push { cls := .type "slice", data := .fields #[vl, vu, .none] } } σ H3 x v vl vu l u s3.heap.objs.size Q I4 r1 (Heap.IsSliceOf.new ..) pl pu q3
  show wpAny (model X.prog X.w) X.A (subscriptTail e (.Slice lo hi none p2) v (.ref s3.heap.objs.size)) (EP X pins σ Q) X.xe { s3 with heap := s3.heap.push { cls := .type "slice", data := .fields #[vl, vu, .none] } }
  exact tail_any (ops := [.ref s3.heap.objs.size, v]) ht hT hg (by with_unfolding_all rfl)

def cutV (xs : List V) (lo hi : Option Int) : List V := (xs.drop (HT.sIx xs.length 0 lo)).take (HT.sIx xs.length xs.length hi - HT.sIx xs.length 0 lo)
theorem cutV_length (xs : List V) (lo hi : Option Int) : (cutV xs lo hi).length ≤ xs.length := by
  unfold cutV
  rw [List.length_take, List.length_drop]
  omega
def rSlT (K : PySem.W.Frag) : V → Option Int → Option Int → Hp → VK → Prop := fun x lo hi H Q => ∃ a xs, x = .ref a ∧ SqT K H a xs ∧
  ¬ (HT.sIx xs.length 0 lo = 0 ∧ HT.sIx xs.length xs.length hi = xs.length) ∧ ∀ p, H p = none → Q (.ref p) (upd H p (.tup (cutV xs lo hi)))
theorem sl_tup : SlR X (rSlT X.K) := by
  intro pins s σ H x v vl vu lo hi sl Q I rx hs pl pu h
  obtain ⟨a, xs, rfl, hx, hw, q⟩ := h
  cases rx
  obtain ⟨its, r, ht, hz⟩ := I.tuple hx
  have hlen : its.toArray.size = xs.length := by rw [List.size_toArray]; exact r.length.symm
  refine ⟨"tuple", _, PyProof.Rows.slot_tuple_getitem.lookup, ht.typeIs, ?_⟩
  refine HT.getItem_tuple_cut ht hs pl pu (by rw [hlen]; exact hw) ?_ (by rw [hlen]; exact hz)
  rw [hlen]
  refine ⟨.ref s.heap.objs.size, _, I.laid (t' := s.toks) (o := .tup (cutV xs lo hi)) (fun b ob q => Heap.get?_push_of_some _ q) (Nat.le_refl _) ?_, rfl, q _ (I.hok.fresh (Nat.le_refl _))⟩
  exact ⟨Nat.le_trans (cutV_length xs lo hi) hz, _, (r.drop (HT.sIx xs.length 0 lo)).take (HT.sIx xs.length xs.length hi - HT.sIx xs.length 0 lo), IsTup.new _ _⟩

def rCatT (K : PySem.W.Frag) : R2 := fun x y H Q => ∃ a b xs ys, x = .ref a ∧ y = .ref b ∧ SqT K H a xs ∧ SqT K H b ys ∧ xs ≠ [] ∧ xs.length + ys.length ≤ sizeLine ∧
  (ys = [] → Q (.ref a) H) ∧ (ys ≠ [] → ∀ p, H p = none → Q (.ref p) (upd H p (.tup (xs ++ ys))))
theorem Vals.nil_iff {xs : List V} {us : List Value} (r : Vals xs us) : us = [] ↔ xs = [] := by
  cases r with
  | nil => simp
  | cons _ _ => simp
theorem op_catT : OpR X (binaryOp .Add) (rCatT X.K) := by
  intro pins s σ H x y v u Q I rx ry h
  obtain ⟨a, b, xs, ys, rfl, rfl, ha, hb, hx, hz, q1, q2⟩ := h
  cases rx
  cases ry
  obtain ⟨its, r1, p1, _⟩ := I.tuple ha
  obtain ⟨its2, r2, p2, _⟩ := I.tuple hb
  refine HT.cat_tup p1 p2 (fun z => hx (r1.nil_iff.mp z)) (fun z => ⟨.ref a, H, I, rfl, q1 (r2.nil_iff.mp z)⟩) (fun z => ?_) (by rw [← r1.length, ← r2.length]; exact hz)
  refine ⟨.ref s.heap.objs.size, _, I.laid (t' := s.toks) (o := .tup (xs ++ ys)) (fun b ob q => Heap.get?_push_of_some _ q) (Nat.le_refl _) ?_, rfl, q2 (fun w => z (r2.nil_iff.mpr w)) _ (I.hok.fresh (Nat.le_refl _))⟩
  exact ⟨by rw [List.length_append]; exact hz, _, r1.append r2, IsTup.new _ _⟩
end
end L2

namespace L2
open PySem PySem.Spec PyProof.Rows

def ixN (n : Nat) (i : Int) : Option Nat := if 0 ≤ i then (if i < n then some i.toNat else none) else if -(n : Int) ≤ i then some (i + n).toNat else none
def atI {α : Type} (xs : List α) (i : Int) : Option α := (ixN xs.length i).bind fun j => xs[j]?
theorem ixN_seq {n : Nat} {i : Int} {j : Nat} (h : ixN n i = some j) : seqIndex? i n = some j ∧ j < n ∧ -(n : Int) ≤ i ∧ i < n := by
  unfold ixN at h
  by_cases h0 : 0 ≤ i
  · rw [if_pos h0] at h
    by_cases h1 : i < n
    · rw [if_pos h1] at h
      have e : i.toNat = j := Option.some.inj h
      exact ⟨by rw [seqIndex_of h0 h1, e], by omega, by omega, h1⟩
    · rw [if_neg h1] at h; cases h
  · rw [if_neg h0] at h
    by_cases h1 : -(n : Int) ≤ i
    · rw [if_pos h1] at h
      have e : (i + n).toNat = j := Option.some.inj h
      exact ⟨by rw [seqIndex_neg (by omega) h1, e], by omega, h1, by omega⟩
    · rw [if_neg h1] at h; cases h
theorem atI_get {α : Type} {xs : List α} {i : Int} {v : α} (h : atI xs i = some v) : ∃ j, seqIndex? i xs.length = some j ∧ xs[j]? = some v ∧ j < xs.length ∧ -(xs.length : Int) ≤ i ∧ i < xs.length := by
  unfold atI at h
  cases e : ixN xs.length i with
  | none => rw [e] at h; cases h
  | some j =>
    rw [e] at h
    obtain ⟨h1, h2, h3, h4⟩ := ixN_seq e
    exact ⟨j, h1, h, h2, h3, h4⟩
theorem atI_nat {α : Type} {xs : List α} {j : Nat} {v : α} (h : xs[j]? = some v) : atI xs (j : Int) = some v := by
  have hj : j < xs.length := (List.getElem?_eq_some_iff.mp h).1
  have e : ixN xs.length (j : Int) = some j := by
    unfold ixN
    rw [if_pos (by omega), if_pos (by omega)]; simp
  unfold atI; rw [e]; exact h
def PlainIx (b : Expr) : Prop := ∀ o i, subscripted b false o i = operate [o, i] (getItem o i)
def IxR (X : Cx) (r : R2) : Prop :=
  ∀ (value slice : Expr) (pins : List (Addr × Obj)) (s : Shared) (σ : St) (H : Hp) (x y : V) (v u : Value) (Q : VK), Inv X pins σ H s → RelV x v → RelV y u → r x y H Q →
    subscripted slice false v u = operate [v, u] (getItem v u) → wpAny (model X.prog X.w) X.A (subscriptTail value slice v u) (EP X pins σ Q) X.xe s
def MtR (X : Cx) (id : String) (r : V → List V → Hp → VK → Prop) : Prop :=
  ∀ (pins : List (Addr × Obj)) (s : Shared) (σ : St) (H : Hp) (x : V) (xs : List V) (v : Value) (us : List Value) (Q : VK), Inv X pins σ H s → RelV x v → Vals xs us → r x xs H Q →
    wpAny (model X.prog X.w) X.A (call (.builtin id) (v :: us)) (EP X pins σ Q) X.xe s
section
variable {X : Cx} {a b : Expr} {ta tb : TE} {pos : Pos}
theorem IxR.or {r r' : R2} (h : IxR X r) (h' : IxR X r') : IxR X (fun x y H Q => r x y H Q ∨ r' x y H Q) := by
  intro value slice pins s σ H x y v u Q I rx ry q hs
  rcases q with q | q
  · exact h value slice pins s σ H x y v u Q I rx ry q hs
  · exact h' value slice pins s σ H x y v u Q I rx ry q hs
theorem MtR.or {id : String} {r r' : V → List V → Hp → VK → Prop} (h : MtR X id r) (h' : MtR X id r') : MtR X id (fun x xs H Q => r x xs H Q ∨ r' x xs H Q) := by
  intro pins s σ H x xs v us Q I rx rs q
  rcases q with q | q
  · exact h pins s σ H x xs v us Q I rx rs q
  · exact h' pins s σ H x xs v us Q I rx rs q
theorem pe_ix {r : R2} (hr : IxR X r) (ha : PE X a ta) (hb : PE X b tb) (hs : PlainIx b) : PE X (.Subscript a b pos) (tOp r ta tb) := by
  intro pins s σ H Q I h
  exact Subscript_ (binT ha hb I h fun v u s2 x y H2 I2 rx ry q => hr a b pins s2 σ H2 x y v u Q I2 rx ry q (hs _ _))

def rIxL (K : PySem.W.Frag) : R2 := fun x y H Q => ∃ p xs i v, x = .ref p ∧ y = .int i ∧ SqL K H p xs ∧ atI xs i = some v ∧ Q v H
def rIxT (K : PySem.W.Frag) : R2 := fun x y H Q => ∃ p xs i v, x = .ref p ∧ y = .int i ∧ SqT K H p xs ∧ atI xs i = some v ∧ Q v H
def rIxS : R2 := fun x y H Q => ∃ z i c, x = .str z ∧ y = .int i ∧ z.length ≤ sizeLine ∧ atI z.cps.toList i = some c ∧ Q (.str ⟨#[c]⟩) H
theorem ix_list : IxR X (rIxL X.K) := by
  intro value slice pins s σ H x y v u Q I rx ry h hs
  obtain ⟨p, xs, i, z, rfl, rfl, hq, he, q⟩ := h
  cases rx
  obtain ⟨t, rfl⟩ := ry
  obtain ⟨its, r, pl, hz⟩ := I.list hq
  obtain ⟨j, h1, h2, h3, h4, h5⟩ := atI_get he
  obtain ⟨w, ew, rw'⟩ := r.get h2
  have hl := r.length
  have hn := line63
  have fin : EP X pins σ Q w s := ⟨z, H, I, rw', q⟩
  by_cases h0 : 0 ≤ i
  · have hj : i.toNat = j := by
      rw [seqIndex_of h0 h5] at h1
      exact Option.some.inj h1
    exact item_listR pl.isList h0 (by omega) (by rw [hj]; simpa using ew) fin hs
  · have hj : (i + (its.toArray.size : Int)).toNat = j := by
      rw [seqIndex_neg (by omega) h4] at h1
      rw [List.size_toArray, ← hl]
      exact Option.some.inj h1
    exact subscriptTail_builtinR (x := w) pl.isList.typeIs slot_list_getitem.lookup
      (wpAny_getItem_list_neg (Q := fun r s' => r = w ∧ EP X pins σ Q r s') pl.isList (by omega) (by rw [List.size_toArray] <;> omega) (by omega) (by rw [hj]; simpa using ew) ⟨rfl, fin⟩) hs
theorem ix_tup : IxR X (rIxT X.K) := by
  intro value slice pins s σ H x y v u Q I rx ry h hs
  obtain ⟨p, xs, i, z, rfl, rfl, hq, he, q⟩ := h
  cases rx
  obtain ⟨t, rfl⟩ := ry
  obtain ⟨its, r, pl, hz⟩ := I.tuple hq
  obtain ⟨j, h1, h2, h3, h4, h5⟩ := atI_get he
  obtain ⟨w, ew, rw'⟩ := r.get h2
  have hl := r.length
  have hn := line63
  have fin : EP X pins σ Q w s := ⟨z, H, I, rw', q⟩
  exact subscriptTail_builtinR (x := w) pl.typeIs slot_tuple_getitem.lookup
    (getItem_tuple (j := j) (Q := fun r s' => r = w ∧ EP X pins σ Q r s') pl (by omega) (by omega) (by rw [List.size_toArray, ← hl]; exact h1) (by simpa using ew) ⟨rfl, fin⟩) hs
theorem ix_str : IxR X rIxS := by
  intro value slice pins s σ H x y v u Q I rx ry h hs
  obtain ⟨z, i, c, rfl, rfl, hz, he, q⟩ := h
  obtain ⟨t, rfl⟩ := rx
  obtain ⟨t', rfl⟩ := ry
  obtain ⟨j, h1, h2, h3, h4, h5⟩ := atI_get he
  have hl : z.cps.toList.length = z.length := by simp [Str.length]
  rw [hl] at h1 h4 h5
  have hn := line63
  exact tail_any (typeIs_str s z t) slot_str_getitem.lookup (getItem_str (c := c) (by
    have e1 : decide (i < -(2 ^ 63 : Int)) = false := decide_eq_false (by omega)
    have e2 : decide (i ≥ 2 ^ 63) = false := decide_eq_false (by omega)
    rw [e1, e2, Bool.or_false]) (by rw [h1]; simpa using h2) ⟨.str ⟨#[c]⟩, H, I.tok _, ⟨_, rfl⟩, q⟩) hs
def rIx (K : PySem.W.Frag) : R2 := fun x y H Q => rIxL K x y H Q ∨ rIxT K x y H Q ∨ rIxS x y H Q
theorem ix_seq : IxR X (rIx X.K) := ix_list.or (ix_tup.or ix_str)

theorem mapSeq_set (its : List Value) (n j : Nat) (u : Value) : Obj.mapSeq (·.setIfInBounds j u) { cls := .type "list", data := .seq its.toArray n } = { cls := .type "list", data := .seq (its.set j u).toArray n } := by
  simp [Obj.mapSeq]
theorem Inv.lst {pins : List (Addr × Obj)} {σ : St} {H : Hp} {s : Shared} {p : Addr} {xs : List V} (I : Inv X pins σ H s) (h : H p = some (.lst xs)) :
    ∃ (its : List Value) (n : Nat), Vals xs its ∧ s.heap.get? p = some { cls := .type "list", data := .seq its.toArray n } ∧ xs.length ≤ sizeLine := by
  obtain ⟨z, its, n, r, e⟩ := I.hok p _ h
  exact ⟨its, n, r, e, z⟩
theorem Inv.lstUpd {pins : List (Addr × Obj)} {σ : St} {H : Hp} {s : Shared} {p : Addr} {xs ys : List V} {its its' : List Value} {n n' : Nat} {f : Obj → Obj} (I : Inv X pins σ H s) (h : H p = some (.lst xs))
    (ho : s.heap.get? p = some { cls := .type "list", data := .seq its.toArray n }) (hf : f { cls := .type "list", data := .seq its.toArray n } = { cls := .type "list", data := .seq its'.toArray n' }) (r : Vals ys its') (hz : ys.length ≤ sizeLine) (t : Nat) :
    Inv X pins σ (upd H p (.lst ys)) { s with heap := s.heap.update p f, toks := t } := by
  have e : (s.heap.update p f).get? p = some { cls := .type "list", data := .seq its'.toArray n' } := by
    rw [Heap.get?_update_self f ho (by rw [hf] <;> rfl), hf]
  refine I.write (x := p) (e := p) (by rw [h]; trivial) (.inl rfl) (fun b u hb q => (Heap.get?_update_other _ _ (Ne.symm hb)).trans q) ⟨_, e⟩ ?_
  exact ⟨hz, its', n', r, e⟩
def rSetL : V → V → V → Hp → (Hp → Prop) → Prop := fun o i v H Q => ∃ p xs k j, o = .ref p ∧ i = .int k ∧ H p = some (.lst xs) ∧ ixN xs.length k = some j ∧ Q (upd H p (.lst (xs.set j v)))
theorem set_list : PSet X rSetL := by
  intro pins s σ H o i v ov iv u Q I ro ri rv h
  obtain ⟨p, xs, k, j, rfl, rfl, hp, hj, q⟩ := h
  cases ro
  obtain ⟨t, rfl⟩ := ri
  obtain ⟨its, n, r, ho, hz⟩ := I.lst hp
  obtain ⟨h1, h2, h3, h4⟩ := ixN_seq hj
  have hl := r.length
  have hn := line63
  have I' : Inv X pins σ (upd H p (.lst (xs.set j v))) { s with heap := s.heap.update p (Obj.mapSeq (·.setIfInBounds j u)) } :=
    I.lstUpd hp ho (mapSeq_set its n j u) (r.set rv j) (by rw [List.length_set]; exact hz) s.toks
  by_cases h0 : 0 ≤ k
  · have hk : k.toNat = j := by
      rw [seqIndex_of h0 h4] at h1
      exact Option.some.inj h1
    exact PySem.W.ki_setAt ho h0 (by omega) (by rw [List.size_toArray, ← hl]; exact h4) (by rw [hk]; exact ⟨_, I', q⟩)
  · have hk : (k + (its.toArray.size : Int)).toNat = j := by
      rw [seqIndex_neg (by omega) h3] at h1
      rw [List.size_toArray, ← hl]
      exact Option.some.inj h1
    exact PySem.W.ki_setBack ho (by omega) (by rw [List.size_toArray, ← hl]; exact h3) (by omega) (by rw [hk]; exact ⟨_, I', q⟩)

theorem slice_bounds (lo hi : Option Int) (n : Nat) : (sliceBounds lo hi none n).1 = ((HT.sIx n 0 lo : Nat) : Int) ∧ (sliceBounds lo hi none n).2.1 = ((HT.sIx n n hi : Nat) : Int) ∧ (sliceBounds lo hi none n).2.2 = 1 := by
  refine ⟨?_, ?_, rfl⟩
  · cases lo with
    | none => simp [sliceBounds, HT.sIx]
    | some i =>
      simp only [sliceBounds, HT.sIx, Option.getD_none, show (1 : Int) > 0 by decide, if_true]
      by_cases h : i < 0
      · simp only [h, if_true] <;> omega
      · simp only [h, if_false] <;> omega
  · cases hi with
    | none => simp [sliceBounds, HT.sIx]
    | some i =>
      simp only [sliceBounds, HT.sIx, Option.getD_none, show (1 : Int) > 0 by decide, if_true]
      by_cases h : i < 0
      · simp only [h, if_true] <;> omega
      · simp only [h, if_false] <;> omega
theorem slicePick_cut (its : List Value) (lo hi : Option Int) : slicePick its.toArray lo hi none = ((its.drop (HT.sIx its.length 0 lo)).take (HT.sIx its.length its.length hi - HT.sIx its.length 0 lo)).toArray := by
  obtain ⟨h1, h2, h3⟩ := slice_bounds lo hi its.toArray.size
  unfold slicePick
  rw [h1, h2, h3]
  simp only [sliceRange_one, pick_run, List.size_toArray] <;> rfl
def rSlL (K : PySem.W.Frag) : V → Option Int → Option Int → Hp → VK → Prop := fun x lo hi H Q => ∃ a xs, x = .ref a ∧ SqL K H a xs ∧ ∀ p, H p = none → Q (.ref p) (upd H p (.lst (cutV xs lo hi)))
theorem sl_list : SlR X (rSlL X.K) := by
  intro pins s σ H x v vl vu lo hi sl Q I rx hs pl pu h
  obtain ⟨a, xs, rfl, hx, q⟩ := h
  cases rx
  obtain ⟨its, r, ht, hz⟩ := I.list hx
  have hlen := r.length
  refine ⟨"list", _, slot_list_getitem.lookup, ht.isList.typeIs, ?_⟩
  refine wpAny_getItem_list_slice ht.isList hs pl pu .none (by simp) ?_ (by rw [List.size_toArray] <;> omega)
  rw [slicePick_cut, ← hlen]
  refine ⟨.ref s.heap.objs.size, _, I.laid (t' := s.toks) (o := .lst (cutV xs lo hi)) (fun b ob q => Heap.get?_push_of_some _ q) (Nat.le_refl _) ?_, rfl, q _ (I.hok.fresh (Nat.le_refl _))⟩
  exact ⟨Nat.le_trans (cutV_length xs lo hi) hz, _, 0, (r.drop (HT.sIx xs.length 0 lo)).take (HT.sIx xs.length xs.length hi - HT.sIx xs.length 0 lo), Heap.get?_push_size _ rfl⟩

theorem CallR.or {f : Value} {r r' : List V → Hp → VK → Prop} (h : CallR X f r) (h' : CallR X f r') : CallR X f (fun xs H Q => r xs H Q ∨ r' xs H Q) := by
  intro pins s σ H xs us Q I rs q
  rcases q with q | q
  · exact h pins s σ H xs us Q I rs q
  · exact h' pins s σ H xs us Q I rs q
theorem call_list_of : CallR X (.type "list") (fun xs H Q => ∃ p ys, xs = [.ref p] ∧ (SqL X.K H p ys ∨ SqT X.K H p ys) ∧ ∀ l, H l = none → Q (.ref l) (upd H l (.lst ys))) := by
  intro pins s σ H xs us Q I r h
  obtain ⟨p, ys, rfl, hq, q⟩ := h
  obtain ⟨u, rfl, rx⟩ := vals1 r
  cases rx
  have fin : ∀ (its : List Value), Vals ys its → ys.length ≤ sizeLine → ∀ (h' : Heap) (c' : Nat), (∀ b o', s.heap.get? b = some o' → h'.get? b = some o') →
      h'.get? s.heap.objs.size = some { cls := .type "list", dict := none, data := .seq its.toArray c', slots := #[] } → EP X pins σ Q (.ref s.heap.objs.size) { s with heap := h' } := fun its r' hz h' c' kp e =>
    ⟨.ref s.heap.objs.size, _, I.laid (t' := s.toks) kp (Nat.le_refl _) (show ObjOk X.prog X.w _ h' _ (.lst ys) from ⟨hz, its, c', r', e⟩), rfl, q _ (I.hok.fresh (Nat.le_refl _))⟩
  rcases hq with hq | hq
  · obtain ⟨its, r', pl, hz⟩ := I.list hq
    have hlen := r'.length
    obtain ⟨o, ho, hc, n, hd⟩ := pl.isList
    exact call_list_seq p (.inl rfl) ho hc hd (fun h' c' kp e => fin its r' hz h' c' kp e) (by simp only [List.size_toArray] <;> omega)
  · obtain ⟨its, r', pl, hz⟩ := I.tuple hq
    have hlen := r'.length
    obtain ⟨o, ho, hc, n, hd⟩ := pl
    exact call_list_seq p (.inr rfl) ho hc hd (fun h' c' kp e => fin its r' hz h' c' kp e) (by simp only [List.size_toArray] <;> omega)
theorem call_tuple_of : CallR X (.type "tuple") (fun xs H Q => ∃ p ys, xs = [.ref p] ∧ ((SqL X.K H p ys ∧ ∀ l, H l = none → Q (.ref l) (upd H l (.tup ys))) ∨ (SqT X.K H p ys ∧ Q (.ref p) H))) := by
  intro pins s σ H xs us Q I r h
  obtain ⟨p, ys, rfl, h⟩ := h
  obtain ⟨u, rfl, rx⟩ := vals1 r
  cases rx
  rcases h with ⟨hq, q⟩ | ⟨hq, q⟩
  · obtain ⟨its, r', pl, hz⟩ := I.list hq
    have hlen := r'.length
    refine call_tuple_list pl.isList (fun h' kp => ?_) (by simp only [List.size_toArray] <;> omega)
    have I1 : Inv X pins σ H { s with heap := h' } := I.kept (t' := s.toks) kp
    have I2 : Inv X pins σ (upd H h'.objs.size (.tup ys)) { s with heap := h'.push { cls := .type "tuple", data := .seq its.toArray } } :=
      I1.laid (t' := s.toks) (fun b o e => Heap.get?_push_of_some _ e) (Nat.le_refl _) (show ObjOk X.prog X.w _ _ _ (.tup ys) from ⟨hz, its, r', IsTup.new _ _⟩)
    exact ⟨.ref h'.objs.size, _, I2, rfl, q _ (I1.hok.fresh (Nat.le_refl _))⟩
  · obtain ⟨its, r', pl, hz⟩ := I.tuple hq
    exact call_tuple_same pl ⟨.ref p, H, I, rfl, q⟩

def tyV (K : PySem.W.Frag) (T : String) (x : V) (H : Hp) : Prop := match x with
  | .str _ => T = "str"
  | .int _ => T = "int"
  | .ref p => (T = "list" ∧ ∃ xs, SqL K H p xs) ∨ (T = "tuple" ∧ ∃ o, K.lookup p = some o ∧ o.cls = .type "tuple" ∧ o.dict = none) ∨
      (T = "dict" ∧ ((∃ kvs, H p = some (.dK kvs)) ∨ ∃ kvs, H p = some (.dT kvs))) ∨ (T = "set" ∧ ∃ S n, H p = some (.set S n))
  | _ => False
theorem tyV_is {pins : List (Addr × Obj)} {σ : St} {H : Hp} {s : Shared} {T : String} {x : V} {v : Value} (I : Inv X pins σ H s) (r : RelV x v) (ty : tyV X.K T x H) :
    s.TypeIs v T ∧ ∀ a, v = .ref a → ∃ ob, s.heap.get? a = some ob ∧ ob.dict = none := by
  cases x with
  | str z =>
    obtain ⟨t, rfl⟩ := r
    cases (show T = "str" from ty)
    exact ⟨typeIs_str s z t, fun _ e => nomatch e⟩
  | int i =>
    obtain ⟨t, rfl⟩ := r
    cases (show T = "int" from ty)
    exact ⟨typeIs_int s i t, fun _ e => nomatch e⟩
  | ref p =>
    cases r
    rcases ty with ⟨rfl, xs, hq⟩ | ⟨rfl, o, hk, hc, hd⟩ | ⟨rfl, hk⟩ | ⟨rfl, S, n, hk⟩
    · obtain ⟨its, _, pl, _⟩ := I.list hq
      refine ⟨pl.isList.typeIs, fun a e => ?_⟩
      cases e
      obtain ⟨o, n, e, c, hd, _⟩ := pl
      exact ⟨o, e, hd⟩
    · refine ⟨⟨o, I.kIn p o hk, hc⟩, fun a e => ?_⟩
      cases e
      exact ⟨o, I.kIn _ o hk, hd⟩
    · have z : ∃ o, s.heap.get? p = some o ∧ o.ExactDict := by
        rcases hk with ⟨kvs, hk⟩ | ⟨kvs, hk⟩
        · obtain ⟨_, _, _, _, o, _, _, e, ex, _⟩ := I.hok p _ hk
          exact ⟨o, e, ex⟩
        · obtain ⟨_, _, _, _, o, _, _, e, ex, _⟩ := I.hok p _ hk
          exact ⟨o, e, ex⟩
      obtain ⟨o, e, ex⟩ := z
      refine ⟨⟨o, e, ex.1⟩, fun a e2 => ?_⟩
      cases e2
      exact ⟨o, e, ex.2.1⟩
    · obtain ⟨o, _, _, _, e, ex, _⟩ := I.hok p _ hk
      refine ⟨⟨o, e, ex.1⟩, fun a e2 => ?_⟩
      cases e2
      exact ⟨o, e, ex.2.1⟩
  | _ => exact False.elim ty
def tBM0 (K : PySem.W.Frag) (T : String) (r : V → List V → Hp → VK → Prop) (to : TE) : TE := fun σ H Q => to σ H fun x H1 => tyV K T x H1 ∧ r x [] H1 Q
def tBM (K : PySem.W.Frag) (T : String) (r : V → List V → Hp → VK → Prop) (to : TE) (t : TA) : TE := fun σ H Q => to σ H fun x H1 => tyV K T x H1 ∧ t σ H1 fun xs H2 => r x xs H2 Q
variable {o e : Expr} {es : List Expr} {to : TE} {t : TA} {name : Str} {apos cpos : Pos} {T id : String} {r : V → List V → Hp → VK → Prop}
theorem pe_bm0 (pa : PlainAttrs T) (slot : Slot T name id) (hty : typeOf (.builtin id) = pure (.type "method_descriptor")) (hm : MtR X id r) (ho : PE X o to)
    (hbase : attributeBase o name X.env (eval o X.env) = eval o X.env := by rfl) (hline : (apos.endLine == cpos.line) = true := by rfl) : PE X (.Call (.Attribute o name apos) [] [] cpos) (tBM0 X.K T r to) := by
  intro pins s σ H Q I h
  refine wpAny_Call_method0_late hbase hline (thn (ho pins s σ H _ I h) fun v s1 ⟨x, H1, I1, r1, ty, q1⟩ => ?_)
  obtain ⟨h1, h2⟩ := tyV_is I1 r1 ty
  exact ⟨T, id, pa, slot, hty, h1, h2, Calls.callWith_builtin rfl (PySem.evalArgs_none (hm pins s1 σ H1 x [] v [] Q I1 r1 .nil q1))⟩
theorem pe_bm (pa : PlainAttrs T) (slot : Slot T name id) (hty : typeOf (.builtin id) = pure (.type "method_descriptor")) (hm : MtR X id r) (ho : PE X o to) (ha : PA X (e :: es) t)
    (hbase : attributeBase o name X.env (eval o X.env) = eval o X.env := by rfl)
    (hfew : ((backTo cpos (starEach (e :: es) X.env)).all (fun x => !x.1) && (backToKw cpos (keywordEach [] X.env)).all (fun x => x.1.isSome)
      && decide ((e :: es).length + ([] : List Keyword).length + (if ([] : List Keyword).isEmpty then 0 else 1) < 30)) = true := by rfl)
    (hline : (apos.endLine == cpos.line) = true := by rfl) (hs : starEach (e :: es) X.env = (false, eval e X.env) :: starEach es X.env := by rfl) (hplain : (backTo cpos (starEach es X.env)).any (·.1) = false := by rfl) :
    PE X (.Call (.Attribute o name apos) (e :: es) [] cpos) (tBM X.K T r to t) := by
  intro pins s σ H Q I h
  refine wpAny_Call_method_late hbase hfew hline rfl (thn (ho pins s σ H _ I h) fun v s1 ⟨x, H1, I1, r1, ty, q1⟩ => ?_)
  obtain ⟨h1, h2⟩ := tyV_is I1 r1 ty
  refine ⟨T, id, pa, slot, hty, h1, h2, ?_⟩
  have hA := ha cpos pins s1 σ H1 _ I1 q1
  rw [hs] at hA ⊢
  refine Calls.callWith_builtin (by show (false || (backTo cpos (starEach es X.env)).any (·.1)) = false; rw [hplain] <;> rfl) (Calls.evalArgs_plain ?_)
  exact thn hA fun us s2 ⟨vs, H2, I2, r2, q2⟩ => hm pins s2 σ H2 x vs v us Q I2 r1 r2 q2
/- xs.append(e), list.index on a module's tuple .. are MtR facts of 06m -/
end
end L2

namespace L2
open PySem PySem.Spec PyProof.Rows

def MtM (X : Cx) (id : String) (r : V → List V → Hp → VK → Prop) : Prop :=
  ∀ (pins : List (Addr × Obj)) (s : Shared) (σ : St) (H : Hp) (x : V) (xs : List V) (v : Value) (us : List Value) (Q : VK), Inv X pins σ H s → RelV x v → Vals xs us → r x xs H Q →
    wpAny (model X.prog X.w) X.A (call (.builtin id) (v :: us)) (EP X pins σ Q) X.xe s

theorem Vals.one : ∀ {x : V} {us : List Value}, Vals [x] us → ∃ u, us = [u] ∧ RelV x u
  | _, _, .cons r .nil => ⟨_, rfl, r⟩
theorem Vals.two : ∀ {x y : V} {us : List Value}, Vals [x, y] us → ∃ u v, us = [u, v] ∧ RelV x u ∧ RelV y v
  | _, _, _, .cons r (.cons q .nil) => ⟨_, _, rfl, r, q⟩
theorem Vals.zero : ∀ {us : List Value}, Vals [] us → us = []
  | _, .nil => rfl
theorem Vals.reverse {xs : List V} {us : List Value} (h : Vals xs us) : Vals xs.reverse us.reverse := by
  induction h with
  | nil => exact .nil
  | cons r t ih => rw [List.reverse_cons, List.reverse_cons]; exact Vals.append ih (.cons r .nil)
theorem Vals.rep {xs : List V} {us : List Value} (h : Vals xs us) : ∀ k : Nat, Vals (List.replicate k xs).flatten (List.replicate k us).flatten
  | 0 => .nil
  | k + 1 => by
    rw [List.replicate_succ, List.replicate_succ, List.flatten_cons, List.flatten_cons]
    exact Vals.append h (Vals.rep h k)
theorem foldl_rep (its : List Value) : ∀ (k : Nat) (acc : List Value),
    List.foldl (fun x1 x2 => x1 ++ x2) acc.toArray (List.replicate k its.toArray) = (acc ++ (List.replicate k its).flatten).toArray
  | 0, acc => by simp
  | k + 1, acc => by
    have e : acc.toArray ++ its.toArray = (acc ++ its).toArray := by simp
    have e2 : (acc ++ its) ++ (List.replicate k its).flatten = acc ++ (List.replicate (k + 1) its).flatten := by
      rw [List.replicate_succ, List.flatten_cons, List.append_assoc]
    rw [← e2, ← foldl_rep its k (acc ++ its), ← e, List.replicate_succ, List.foldl_cons]

section
variable {X : Cx} {pins : List (Addr × Obj)} {σ : St} {H : Hp} {s : Shared} {l b : Addr} {xs ys zs : List V}

theorem Inv.lset {its its' : List Value} {n : Nat} {f : Array Value → Array Value} {t' : Nat} (I : Inv X pins σ H s) (hH : H l = some (.lst xs))
    (e : s.heap.get? l = some { cls := .type "list", data := .seq its.toArray n }) (hf : f its.toArray = its'.toArray) (hv : Vals ys its') (hz : ys.length ≤ sizeLine) :
    Inv X pins σ (upd H l (.lst ys)) { s with heap := s.heap.update l (Obj.mapSeq f), toks := t' } := by
  have q := PySem.IsL.update e f
  rw [hf] at q
  refine I.write (x := l) (e := l) (by rw [hH]; exact trivial) (.inl rfl) (fun b' u hb hu => (Heap.get?_update_other s.heap (Obj.mapSeq f) (Ne.symm hb)).trans hu) ⟨_, q⟩ ?_
  exact ⟨hz, its', _, hv, q⟩
theorem Inv.lnew {its : List Value} {t' : Nat} (I : Inv X pins σ H s) (hv : Vals ys its) (hz : ys.length ≤ sizeLine) :
    Inv X pins σ (upd H s.heap.objs.size (.lst ys)) { s with heap := s.heap.push { cls := .type "list", data := .seq its.toArray }, toks := t' } :=
  I.laid (fun _ _ q => Heap.get?_push_of_some _ q) (Nat.le_refl _) ⟨hz, its, 0, hv, Heap.get?_push_size _ rfl⟩
theorem Inv.fresh (I : Inv X pins σ H s) : H s.heap.objs.size = none := I.hok.fresh (Nat.le_refl _)
theorem Inv.lstM (I : Inv X pins σ H s) (hH : H l = some (.lst xs)) : xs.length ≤ sizeLine ∧ ∃ (its : List Value) (n : Nat), Vals xs its ∧ xs.length = its.length ∧ s.heap.get? l = some { cls := .type "list", data := .seq its.toArray n } := by
  obtain ⟨z, its, n, r, e⟩ := I.hok l _ hH
  exact ⟨z, its, n, r, r.length, e⟩

theorem notLongL {n : Nat} (h : n ≤ sizeLine) : Builtin.List.listTooLong n = false := by
  unfold Builtin.List.listTooLong
  exact decide_eq_false (by omega)
end

section
variable {X : Cx}

def rAppend : V → List V → Hp → VK → Prop := fun x vs H Q => ∃ l xs y, x = .ref l ∧ vs = [y] ∧ H l = some (.lst xs) ∧ xs.length < sizeLine ∧ Q .non (upd H l (.lst (xs ++ [y])))
theorem mt_append : MtM X "list.append" rAppend := by
  intro pins s σ H x vs v us Q I rx rv h
  obtain ⟨l, xs, y, rfl, rfl, hH, hz, q⟩ := h
  cases rx
  obtain ⟨u, rfl, ru⟩ := rv.one
  obtain ⟨z, its, n, r, hl, e⟩ := I.lstM hH
  refine call_meets F.slot_list_append ⟨_, e, rfl⟩ F.entry_list_append (F.args_list_append_2 _ _) (PySem.list_append l its.toArray n u (by rw [List.size_toArray]; omega)) ⟨e, ?_⟩
  refine ⟨.non, _, I.lset (its' := its ++ [u]) hH e (by simp) (r.append (.cons ru .nil)) ?_, rfl, q⟩
  rw [List.length_append, List.length_singleton]
  omega

def rClear : V → List V → Hp → VK → Prop := fun x vs H Q => ∃ l xs, x = .ref l ∧ vs = [] ∧ H l = some (.lst xs) ∧ Q .non (upd H l (.lst []))
theorem mt_clear : MtM X "list.clear" rClear := by
  intro pins s σ H x vs v us Q I rx rv h
  obtain ⟨l, xs, rfl, rfl, hH, q⟩ := h
  cases rx
  have hus := rv.zero
  subst hus
  obtain ⟨z, its, n, r, hl, e⟩ := I.lstM hH
  refine call_meets F.slot_list_clear ⟨_, e, rfl⟩ F.entry_list_clear (F.args_list_clear_1 _) (AutoSeq1.list_clear_list_0 l its.toArray n (by rw [List.size_toArray]; omega)) ⟨e, ?_⟩
  exact ⟨.non, _, I.lset (its' := []) (ys := []) hH e rfl .nil (Nat.zero_le _), rfl, q⟩

def rCat : R2 := fun x y H Q => ∃ l b xs zs, x = .ref l ∧ y = .ref b ∧ H l = some (.lst xs) ∧ H b = some (.lst zs) ∧ xs.length + zs.length ≤ sizeLine ∧ ∀ p, H p = none → Q (.ref p) (upd H p (.lst (xs ++ zs)))
theorem op_cat : OpR X (binaryOp .Add) rCat := by
  intro pins s σ H x y v u Q I rx ry h
  obtain ⟨l, b, xs, zs, rfl, rfl, hH, hB, hz, q⟩ := h
  cases rx
  cases ry
  obtain ⟨z, its, n, r, hl, e⟩ := I.lstM hH
  obtain ⟨z2, its2, n2, r2, hl2, e2⟩ := I.lstM hB
  refine PySem.P.add_list e e2 ?_ (by rw [List.size_toArray, List.size_toArray]; omega)
  have ea : its.toArray ++ its2.toArray = (its ++ its2).toArray := by simp
  rw [ea]
  exact ⟨.ref _, _, I.lnew (t' := s.toks) (r.append r2) (by rw [List.length_append]; omega), rfl, q _ I.fresh⟩
def rRep : R2 := fun x y H Q => ∃ l k xs, x = .ref l ∧ y = .int k ∧ H l = some (.lst xs) ∧ -(2 ^ 63) ≤ k ∧ k < 2 ^ 63 ∧ xs.length * k.toNat ≤ sizeLine ∧
  ∀ p, H p = none → Q (.ref p) (upd H p (.lst (List.replicate k.toNat xs).flatten))
theorem len_rep {α : Type} (xs : List α) (k : Nat) : (List.replicate k xs).flatten.length = k * xs.length := by
  induction k with
  | zero => simp
  | succ k ih => rw [List.replicate_succ, List.flatten_cons, List.length_append, ih, Nat.succ_mul, Nat.add_comm]
theorem op_rep : OpR X (binaryOp .Mult) rRep := by
  intro pins s σ H x y v u Q I rx ry h
  obtain ⟨l, k, xs, rfl, rfl, hH, h1, h2, hz, q⟩ := h
  cases rx
  obtain ⟨t, rfl⟩ := ry
  obtain ⟨z, its, n, r, hl, e⟩ := I.lstM hH
  have hlen : its.toArray.size * k.toNat ≤ sizeLine := by rw [List.size_toArray, ← hl]; exact hz
  have hcap : ¬ its.toArray.size * k.toNat > (2 ^ 63 - 1) / 8 := by
    have : (sizeLine : Nat) ≤ (2 ^ 63 - 1) / 8 := by decide
    omega
  have hfit : ¬ (!Builtin.List.listFitsIndex k) = true := by
    rw [fitsIndex_both h1 h2]
    exact Bool.false_ne_true
  have hlong : ¬ Builtin.List.listTooLong (its.toArray.size * k.toNat) = true := by
    rw [notLongL hlen]
    exact Bool.false_ne_true
  have hnew : List.foldl (fun x1 x2 => x1 ++ x2) #[] (List.replicate (if its.toArray.isEmpty = true then 0 else k.toNat) its.toArray) = (List.replicate k.toNat its).flatten.toArray := by
    have f0 : ∀ m : Nat, List.foldl (fun x1 x2 => x1 ++ x2) #[] (List.replicate m its.toArray) = (List.replicate m its).flatten.toArray := fun m => by
      have := foldl_rep its m []
      rw [List.nil_append] at this
      exact this
    rw [f0]
    cases its with
    | nil => simp
    | cons a r' => rw [if_neg (by simp)]
  refine wpAny_binaryOp_repeat_ref (T := "list") (U := "int") (by decide) ⟨_, e, rfl⟩ (fun s' => typeIs_int s' k t) noFill_list_mul F.fills_int_mul F.slot_int_rmul repeat_list F.slot_int_index.lookup
    (call_meets F.slot_int_rmul (typeIs_int s k t) F.entry_int_rmul (F.args_int_rmul_2 _ _) (int___rmul___int_list k t l its.toArray n)
      ⟨e, rfl, ⟨_, e, rfl⟩, call_meets F.slot_list_mul ⟨_, e, rfl⟩ F.entry_list_mul (F.args_list_mul_2 _ _) (AutoListH.list___mul___list_int_3 l its.toArray n k t hfit hcap hlong) ⟨e, ?_⟩⟩)
  rw [hnew]
  exact ⟨.ref _, _, I.lnew (t' := s.toks) (r.rep k.toNat) (by rw [len_rep, Nat.mul_comm]; exact hz), rfl, q _ I.fresh⟩

end

section
variable {prog : Program} {w : World} {A : Around} {E : Value → Shared → Prop} {s : Shared}
set_option maxRecDepth 100000 in
end

section
variable {X : Cx}
end
end L2

namespace L2
open PySem PySem.Spec PyProof.Rows

section
variable {κ : Type} [DecidableEq κ]
def valV (kvs : List (κ × V)) (k : κ) : Option V := (kvs.find? fun kv => decide (kv.1 = k)).map (·.2)
def putK (kvs : List (κ × V)) (k : κ) (v : V) : List (κ × V) :=
  if (kvs.any fun kv => decide (kv.1 = k)) = true then kvs.map (fun kv => if kv.1 = k then (kv.1, v) else kv) else kvs ++ [(k, v)]
def dropK (kvs : List (κ × V)) (k : κ) : List (κ × V) := kvs.filter fun kv => decide (kv.1 ≠ k)

theorem valV_pos {p : κ × V} {r : List (κ × V)} {k : κ} (e : p.1 = k) : valV (p :: r) k = some p.2 := by simp [valV, List.find?_cons, e]
theorem valV_neg {p : κ × V} {r : List (κ × V)} {k : κ} (e : ¬ p.1 = k) : valV (p :: r) k = valV r k := by simp [valV, List.find?_cons, e]
theorem valV_any (k : κ) : ∀ kvs : List (κ × V), (kvs.any fun kv => decide (kv.1 = k)) = (valV kvs k).isSome
  | [] => rfl
  | p :: r => by
    rw [List.any_cons]
    by_cases e : p.1 = k
    · simp only [valV_pos e, decide_eq_true e, Bool.true_or, Option.isSome_some]
    · rw [valV_neg e, decide_eq_false e, Bool.false_or]; exact valV_any k r
theorem valV_map (k j : κ) (y : V) : ∀ kvs : List (κ × V), valV (kvs.map fun kv => if kv.1 = k then (kv.1, y) else kv) j = (valV kvs j).map fun x => if j = k then y else x
  | [] => rfl
  | p :: r => by
    have ih := valV_map k j y r
    rw [List.map_cons]
    by_cases h : p.1 = k
    · rw [if_pos h]
      by_cases e : p.1 = j
      · rw [valV_pos (p := (p.1, y)) e, valV_pos e, Option.map_some, if_pos (e.symm.trans h)]
      · rw [valV_neg (p := (p.1, y)) e, valV_neg e, ih]
    · rw [if_neg h]
      by_cases e : p.1 = j
      · rw [valV_pos (p := p) e, valV_pos e, Option.map_some, if_neg (fun z => h (e.trans z))]
      · rw [valV_neg (p := p) e, valV_neg e, ih]
theorem valV_snoc (k j : κ) (y : V) : ∀ kvs : List (κ × V), valV kvs k = none → valV (kvs ++ [(k, y)]) j = if j = k then some y else valV kvs j
  | [], _ => by
    by_cases e : k = j
    · rw [if_pos e.symm]; exact valV_pos (p := (k, y)) e
    · rw [if_neg (fun z => e z.symm)]; exact valV_neg (p := (k, y)) e
  | p :: r, hn => by
    rw [List.cons_append]
    have hk : ¬ p.1 = k := fun z => by rw [valV_pos z] at hn; cases hn
    rw [valV_neg hk] at hn
    have ih := valV_snoc k j y r hn
    by_cases e : p.1 = j
    · rw [valV_pos e, valV_pos e, if_neg (fun z => hk (e.trans z))]
    · rw [valV_neg e, valV_neg e, ih]
theorem valV_put (kvs : List (κ × V)) (k j : κ) (y : V) : valV (putK kvs k y) j = if j = k then some y else valV kvs j := by
  unfold putK
  by_cases a : (kvs.any fun kv => decide (kv.1 = k)) = true
  · rw [if_pos a, valV_map]
    rw [valV_any] at a
    by_cases e : j = k
    · obtain ⟨x, hx⟩ := Option.isSome_iff_exists.mp a
      rw [if_pos e, e, hx, Option.map_some, if_pos rfl]
    · rw [if_neg e]
      cases valV kvs j with
      | none => rfl
      | some x => rw [Option.map_some, if_neg e]
  · rw [if_neg a]
    refine valV_snoc k j y kvs ?_
    rw [valV_any] at a
    cases q : valV kvs k with
    | none => rfl
    | some x => rw [q] at a; exact (a rfl).elim
theorem length_putK (kvs : List (κ × V)) (k : κ) (v : V) : (putK kvs k v).length ≤ kvs.length + 1 := by
  unfold putK
  split
  · rw [List.length_map]; omega
  · rw [List.length_append, List.length_cons, List.length_nil]; omega
theorem putK_new {kvs : List (κ × V)} {k : κ} (v : V) (h : valV kvs k = none) : putK kvs k v = kvs ++ [(k, v)] := by
  unfold putK
  rw [valV_any, h]
  exact if_neg (by decide)

theorem RelO.isSome_eq {o : Option V} {u : Option Value} (r : RelO o u) : o.isSome = u.isSome := by
  cases o with
  | none => cases u with
    | none => rfl
    | some _ => exact (show False from r).elim
  | some _ => cases u with
    | none => exact (show False from r).elim
    | some _ => rfl
theorem RelO.getD {o : Option V} {u : Option Value} {d : V} {d' : Value} (r : RelO o u) (rd : RelV d d') : RelV (o.getD d) (u.getD d') := by
  cases o with
  | none => cases u with
    | none => exact rd
    | some _ => exact (show False from r).elim
  | some _ => cases u with
    | none => exact (show False from r).elim
    | some _ => exact r

theorem KV.val {kvs : List (κ × V)} {vs : List (κ × Value)} (r : KV kvs vs) (k : κ) : RelO (valV kvs k) (valueAt vs k) := by
  unfold KV at r
  induction r with
  | nil => exact True.intro
  | @cons p q ps qs h t ih =>
    obtain ⟨h1, h2⟩ := h
    by_cases e : p.1 = k
    · have e' : q.1 = k := h1.symm.trans e
      have b : valueAt (q :: qs) k = some q.2 := by simp [valueAt, List.find?_cons, e']
      rw [valV_pos e, b]; exact h2
    · have e' : ¬ q.1 = k := fun z => e (h1.trans z)
      have b : valueAt (q :: qs) k = valueAt qs k := by simp [valueAt, List.find?_cons, e']
      rw [valV_neg e, b]; exact ih
theorem KV.any {kvs : List (κ × V)} {vs : List (κ × Value)} (r : KV kvs vs) (k : κ) : (kvs.any fun kv => decide (kv.1 = k)) = vs.any fun kv => decide (kv.1 = k) := by
  unfold KV at r
  induction r with
  | nil => rfl
  | cons h t ih => rw [List.any_cons, List.any_cons, ih, h.1]
theorem KV.repl {kvs : List (κ × V)} {vs : List (κ × Value)} (r : KV kvs vs) (k : κ) {y : V} {u : Value} (ry : RelV y u) :
    KV (kvs.map fun kv => if kv.1 = k then (kv.1, y) else kv) (vs.map fun kv => if kv.1 = k then (kv.1, u) else kv) := by
  unfold KV at r ⊢
  induction r with
  | nil => exact .nil
  | @cons p q ps qs h t ih =>
    rw [List.map_cons, List.map_cons]
    refine .cons ?_ ih
    obtain ⟨h1, h2⟩ := h
    by_cases e : p.1 = k
    · rw [if_pos e, if_pos (h1.symm.trans e)]; exact ⟨h1, ry⟩
    · rw [if_neg e, if_neg (fun z => e (h1.trans z))]; exact ⟨h1, h2⟩
theorem KV.put {kvs : List (κ × V)} {vs : List (κ × Value)} (r : KV kvs vs) (k : κ) {y : V} {u : Value} (ry : RelV y u) : KV (putK kvs k y) (stored vs k u) := by
  unfold putK stored
  rw [r.any k]
  by_cases e : (vs.any fun kv => decide (kv.1 = k)) = true
  · rw [if_pos e, if_pos e]; exact r.repl k ry
  · rw [if_neg e, if_neg e]; exact Paired.snoc r ⟨rfl, ry⟩
theorem KV.drop {kvs : List (κ × V)} {vs : List (κ × Value)} (r : KV kvs vs) (k : κ) : KV (dropK kvs k) (without vs k) := by
  unfold KV at r ⊢
  unfold dropK without
  induction r with
  | nil => exact .nil
  | @cons p q ps qs h t ih =>
    obtain ⟨h1, h2⟩ := h
    rw [List.filter_cons, List.filter_cons]
    by_cases e : p.1 = k
    · have a : ¬ decide (p.1 ≠ k) = true := by simp [e]
      have b : ¬ decide (q.1 ≠ k) = true := by simp [h1.symm.trans e]
      rw [if_neg a, if_neg b]; exact ih
    · have e' : ¬ q.1 = k := fun z => e (h1.trans z)
      have a : decide (p.1 ≠ k) = true := by simp [e]
      have b : decide (q.1 ≠ k) = true := by simp [e']
      rw [if_pos a, if_pos b]; exact .cons ⟨h1, h2⟩ ih
theorem KV.keys {kvs : List (κ × V)} {vs : List (κ × Value)} (r : KV kvs vs) : kvs.map (·.1) = vs.map (·.1) := by
  unfold KV at r
  induction r with
  | nil => rfl
  | cons h t ih => rw [List.map_cons, List.map_cons, ih, h.1]
theorem KV.length {kvs : List (κ × V)} {vs : List (κ × Value)} (r : KV kvs vs) : kvs.length = vs.length := Paired.length r
end


theorem kV_is {P : Program} {w : World} {k : Key} {u : Value} (r : RelV (kV k) u) : (mixKind P w).is k u = true := by
  cases k with
  | inl i => obtain ⟨t, e⟩ := (show ∃ t, u = Value.int i t from r); subst e; exact mixKind_int P w i t
  | inr x => obtain ⟨t, e⟩ := (show ∃ t, u = Value.str x t from r); subst e; exact mixKind_str P w x t
theorem items_are {P : Program} {w : World} : ∀ {ks : List Key} {us : List Value}, Vals (ks.map kV) us → ItemsAre (mixKind P w) ks us
  | [], _, r => by rw [List.map_nil] at r; cases r; exact .nil
  | k :: ks, _, r => by
    rw [List.map_cons] at r
    cases r with
    | cons h t => exact .cons (kV_is h) (items_are t)

abbrev KT (H : Hp) : List (List Key × V) → List (List Key × Addr × Value) → Prop := Paired fun p q => p.1 = q.1 ∧ H q.2.1 = some (.tup (p.1.map kV)) ∧ RelV p.2 q.2.2
theorem KT.val {H : Hp} {kvs : List (List Key × V)} {xs : List (List Key × Addr × Value)} (r : KT H kvs xs) (k : List Key) : RelO (valV kvs k) ((atKey xs k).map (·.2)) := by
  induction r with
  | nil => exact True.intro
  | @cons p q ps qs h t ih =>
    obtain ⟨h1, _, h2⟩ := h
    by_cases e : p.1 = k
    · have e' : q.1 = k := h1.symm.trans e
      have b : atKey (q :: qs) k = some q.2 := by simp [atKey, List.find?_cons, e']
      rw [valV_pos e, b]; exact h2
    · have e' : ¬ q.1 = k := fun z => e (h1.trans z)
      have b : atKey (q :: qs) k = atKey qs k := by simp [atKey, List.find?_cons, e']
      rw [valV_neg e, b]; exact ih
theorem KT.repl {H : Hp} {kvs : List (List Key × V)} {xs : List (List Key × Addr × Value)} (r : KT H kvs xs) (k : List Key) {y : V} {u : Value} (ry : RelV y u) :
    KT H (kvs.map fun kv => if kv.1 = k then (kv.1, y) else kv) (xs.map (putAt k u)) := by
  induction r with
  | nil => exact .nil
  | @cons p q ps qs h t ih =>
    rw [List.map_cons, List.map_cons]
    refine .cons ?_ ih
    obtain ⟨h1, h2, h3⟩ := h
    unfold putAt
    by_cases e : p.1 = k
    · rw [if_pos e, if_pos (h1.symm.trans e)]; exact ⟨h1, h2, ry⟩
    · rw [if_neg e, if_neg (fun z => e (h1.trans z))]; exact ⟨h1, h2, h3⟩
theorem KT.put {H : Hp} {kvs : List (List Key × V)} {xs : List (List Key × Addr × Value)} (r : KT H kvs xs) (k : List Key) {b : Addr} {y : V} {u : Value} (hb : H b = some (.tup (k.map kV))) (ry : RelV y u) :
    KT H (putK kvs k y) (storedH xs k b u) := by
  have e : (kvs.any fun kv => decide (kv.1 = k)) = (atKey xs k).isSome := by
    rw [valV_any, (r.val k).isSome_eq, Option.isSome_map]
  unfold putK storedH
  rw [e]
  by_cases q : (atKey xs k).isSome = true
  · rw [if_pos q, if_pos q]; exact r.repl k ry
  · rw [if_neg q, if_neg q]; exact Paired.snoc r ⟨rfl, hb, ry⟩
theorem KT.keeps {H H' : Hp} {kvs : List (List Key × V)} {xs : List (List Key × Addr × Value)} (r : KT H kvs xs) (ht : ∀ b ys, H b = some (.tup ys) → H' b = some (.tup ys)) : KT H' kvs xs :=
  Paired.mapP r fun _ _ z => ⟨z.1, ht _ _ z.2.1, z.2.2⟩

section
variable {P : Program} {w : World} {H : Hp} {h : Heap} {a : Addr}
theorem rd_of {u : HO} (ok : HOk P w H h) (e : Rd H a u) : ObjOk P w H h a u := e.ok ok
theorem dk_rd {kvs : List (Key × V)} (ok : HOk P w H h) (e : Rd H a (.dK kvs)) : kvs.length ≤ sizeLine ∧ (a == sysModules) = false ∧ ∃ vs, KV kvs vs ∧ h.DictOf (mixKind P w) a vs :=
  show ObjOk P w H h a (.dK kvs) from rd_of ok e
theorem dk_of {kvs : List (Key × V)} (ok : HOk P w H h) (e : H a = some (.dK kvs)) : kvs.length ≤ sizeLine ∧ (a == sysModules) = false ∧ ∃ vs, KV kvs vs ∧ h.DictOf (mixKind P w) a vs := dk_rd ok (.inl e)
theorem key_of {ks : List Key} (ok : HOk P w H h) (e : H a = some (.tup (ks.map kV))) : (tupleKind (mixKind P w)).is h ks a := by
  obtain ⟨_, its, r, o, h1, h2, n, h3⟩ := (show ObjOk P w H h a (.tup (ks.map kV)) from ok a _ e)
  exact ⟨o, its.toArray, n, h1, h2, h3, by simpa using items_are r⟩
theorem dt_rd {kvs : List (List Key × V)} (ok : HOk P w H h) (e : Rd H a (.dT kvs)) : kvs.length ≤ sizeLine ∧ (a == sysModules) = false ∧
    ∃ xs, KT H kvs xs ∧ h.DictOfH (tupleKind (mixKind P w)) a xs := by
  obtain ⟨z, y, xs, r, o, es, ep, h1, h2, h3, h4, h5⟩ := (show ObjOk P w H h a (.dT kvs) from rd_of ok e)
  refine ⟨z, y, xs, r, o, es, ep, h1, h2, h3, h4, fun x hx => ?_, h5⟩
  have all : ∀ {l : List (List Key × V)} {m : List (List Key × Addr × Value)}, KT H l m → ∀ x ∈ m, (tupleKind (mixKind P w)).is h x.1 x.2.1 := by
    intro l m q
    induction q with
    | nil => intro x hx; exact nomatch hx
    | @cons p q ps qs hq t ih =>
      intro x hx
      rcases List.mem_cons.mp hx with e | hx
      · subst e
        exact key_of ok (by rw [← hq.1]; exact hq.2.1)
      · exact ih x hx
  exact all r x hx
theorem dt_of {kvs : List (List Key × V)} (ok : HOk P w H h) (e : H a = some (.dT kvs)) : kvs.length ≤ sizeLine ∧ (a == sysModules) = false ∧
    ∃ xs, KT H kvs xs ∧ h.DictOfH (tupleKind (mixKind P w)) a xs := dt_rd ok (.inl e)
end

def DGet (H : Hp) (a : Addr) (y : V) (r : Option V) : Prop :=
  (∃ kvs k, Rd H a (.dK kvs) ∧ y = kV k ∧ r = valV kvs k) ∨ ∃ kvs k b, Rd H a (.dT kvs) ∧ y = .ref b ∧ H b = some (.tup (k.map kV)) ∧ r = valV kvs k
def DPut (H : Hp) (a : Addr) (y v : V) (H' : Hp) : Prop :=
  (∃ kvs k, H a = some (.dK kvs) ∧ y = kV k ∧ kvs.length < sizeLine ∧ H' = upd H a (.dK (putK kvs k v))) ∨
  ∃ kvs k b, H a = some (.dT kvs) ∧ y = .ref b ∧ H b = some (.tup (k.map kV)) ∧ kvs.length < sizeLine ∧ H' = upd H a (.dT (putK kvs k v))
theorem DGet.k {H : Hp} {a : Addr} {kvs : List (Key × V)} {k : Key} (e : H a = some (.dK kvs)) : DGet H a (kV k) (valV kvs k) := .inl ⟨kvs, k, .inl e, rfl, rfl⟩
theorem DGet.t {H : Hp} {a b : Addr} {kvs : List (List Key × V)} {k : List Key} (e : H a = some (.dT kvs)) (eb : H b = some (.tup (k.map kV))) : DGet H a (.ref b) (valV kvs k) := .inr ⟨kvs, k, b, .inl e, rfl, eb, rfl⟩
theorem DPut.k {H : Hp} {a : Addr} {kvs : List (Key × V)} {k : Key} {v : V} (e : H a = some (.dK kvs)) (hl : kvs.length < sizeLine) : DPut H a (kV k) v (upd H a (.dK (putK kvs k v))) := .inl ⟨kvs, k, e, rfl, hl, rfl⟩
theorem DPut.t {H : Hp} {a b : Addr} {kvs : List (List Key × V)} {k : List Key} {v : V} (e : H a = some (.dT kvs)) (eb : H b = some (.tup (k.map kV))) (hl : kvs.length < sizeLine) :
    DPut H a (.ref b) v (upd H a (.dT (putK kvs k v))) := .inr ⟨kvs, k, b, e, rfl, eb, hl, rfl⟩


section
variable {X : Cx} {pins : List (Addr × Obj)} {σ : St} {H : Hp} {s : Shared} {a : Addr} {y v : V} {u r : Value} {o : Option V} {A : Around} {E : Value → Shared → Prop}

theorem Inv.big (I : Inv X pins σ H s) : sysModules < s.heap.objs.size := by
  have h : mainGlobals < s.heap.objs.size := (I.mod.glob.keeps I.bk).lt
  exact Nat.lt_trans (by decide) h

theorem d_getItem {Q : Value → Shared → Prop} (hu : A.units + 1 < cLine) (I : Inv X pins σ H s) (g : DGet H a y (some v)) (ry : RelV y u) (h : ∀ w' s', Inv X pins σ H s' → RelV v w' → Q w' s') :
    wpAny (model X.prog X.w) A (getItem (.ref a) u) Q E s := by
  rcases g with ⟨kvs, k, e, ey, l⟩ | ⟨kvs, k, b, e, ey, eb, l⟩
  · subst ey
    obtain ⟨z, hd, vs, rel, dd⟩ := dk_rd I.hok e
    obtain ⟨w', hw, rw'⟩ := RelO.some_of (v := v) (o := valueAt vs k) (by rw [l]; exact rel.val k)
    exact wpAny_getItem_of (kV_is ry) dd.mapOf hw (h w' _ (I.tok _) rw')
  · subst ey
    cases (show u = Value.ref b from ry)
    obtain ⟨z, hd, xs, rel, dd⟩ := dt_rd I.hok e
    obtain ⟨w', hw, rw'⟩ := RelO.some_of (v := v) (o := (atKey xs k).map (·.2)) (by rw [l]; exact rel.val k)
    obtain ⟨p, hp, hp2⟩ := Option.map_eq_some_iff.mp hw
    refine wpAny_getItem_heap (tupleKind_room_in1 hu) (key_of I.hok eb) dd hp ?_
    rw [hp2]
    exact h w' _ (I.tok _) rw'
theorem d_in {Q : Value → Shared → Prop} (hu : A.units + 1 < cLine) (I : Inv X pins σ H s) (g : DGet H a y o) (ry : RelV y u) (h : ∀ s', Inv X pins σ H s' → Q (.bool o.isSome) s') :
    wpAny (model X.prog X.w) A (compareOp .In u (.ref a)) Q E s := by
  rcases g with ⟨kvs, k, e, ey, l⟩ | ⟨kvs, k, b, e, ey, eb, l⟩
  · subst ey
    obtain ⟨z, hd, vs, rel, dd⟩ := dk_rd I.hok e
    refine wpAny_in_of (kV_is ry) hd dd.mapOf ?_
    rw [← (rel.val k).isSome_eq, ← l]
    exact h _ (I.tok _)
  · subst ey
    cases (show u = Value.ref b from ry)
    obtain ⟨z, hd, xs, rel, dd⟩ := dt_rd I.hok e
    refine wpAny_in_heap (tupleKind_room_in1 hu) (key_of I.hok eb) hd dd ?_
    have q := (rel.val k).isSome_eq
    rw [Option.isSome_map] at q
    rw [← q, ← l]
    exact h _ (I.tok _)
theorem d_notIn {Q : Value → Shared → Prop} (hu : A.units + 1 < cLine) (I : Inv X pins σ H s) (g : DGet H a y o) (ry : RelV y u) (h : ∀ s', Inv X pins σ H s' → Q (.bool (!o.isSome)) s') :
    wpAny (model X.prog X.w) A (compareOp .NotIn u (.ref a)) Q E s := by
  rcases g with ⟨kvs, k, e, ey, l⟩ | ⟨kvs, k, b, e, ey, eb, l⟩
  · subst ey
    obtain ⟨z, hd, vs, rel, dd⟩ := dk_rd I.hok e
    refine wpAny_notIn_of (kV_is ry) hd dd.mapOf ?_
    rw [← (rel.val k).isSome_eq, ← l]
    exact h _ (I.tok _)
  · subst ey
    cases (show u = Value.ref b from ry)
    obtain ⟨z, hd, xs, rel, dd⟩ := dt_rd I.hok e
    refine wpAny_notIn_heap (tupleKind_room_in1 hu) (key_of I.hok eb) hd dd ?_
    have q := (rel.val k).isSome_eq
    rw [Option.isSome_map] at q
    rw [← q, ← l]
    exact h _ (I.tok _)
theorem d_write {h' : Heap} {t' : Nat} {ob : HO} (I : Inv X pins σ H s) (mu : Mut (H a)) (hs : Heap.SameBut a s.heap h') (he : ∃ q, h'.get? a = some q) (new : ObjOk X.prog X.w (upd H a ob) h' a ob) :
    Inv X pins σ (upd H a ob) { s with heap := h', toks := t' } :=
  I.write (x := a) (e := a) mu (.inl rfl) (fun b q hb z => (hs.2 b hb).trans z) he new
theorem dk_new {P : Program} {w : World} {H' : Hp} {h' : Heap} {kvs : List (Key × V)} {vs : List (Key × Value)} (z : kvs.length ≤ sizeLine) (hd : (a == sysModules) = false) (rel : KV kvs vs) (dd : h'.DictOf (mixKind P w) a vs) :
    ObjOk P w H' h' a (.dK kvs) := ⟨z, hd, vs, rel, dd⟩
theorem d_setItem {H' : Hp} {Q : Unit → Shared → Prop} (hu : A.units + 1 < cLine) (I : Inv X pins σ H s) (g : DPut H a y v H') (ry : RelV y u) (rv : RelV v r) (h : ∀ s', Inv X pins σ H' s' → Q () s') :
    wpAny (model X.prog X.w) A (setItem (.ref a) u r) Q E s := by
  rcases g with ⟨kvs, k, e, ey, l, eH⟩ | ⟨kvs, k, b, e, ey, eb, l, eH⟩
  · subst ey eH
    obtain ⟨z, hd, vs, rel, dd⟩ := dk_of I.hok e
    have hz : vs.length ≤ sizeLine := by rw [← rel.length]; exact z
    have hl : (putK kvs k v).length ≤ sizeLine := by have := length_putK kvs k v; omega
    refine wpAny_setItem_pairs (hsz := hz) (kV_is ry) dd fun h' dd' hs => h _ ?_
    have he : ∃ q, h'.get? a = some q := let ⟨q, _, _, hq, _⟩ := dd'; ⟨q, hq⟩
    exact d_write I (by rw [e]; exact True.intro) hs he (dk_new hl hd (rel.put k rv) dd')
  · subst ey eH
    cases (show u = Value.ref b from ry)
    obtain ⟨z, hd, xs, rel, dd⟩ := dt_of I.hok e
    have hz : xs.length ≤ sizeLine := by rw [← Paired.length rel]; exact z
    have hl : (putK kvs k v).length ≤ sizeLine := by have := length_putK kvs k v; omega
    refine wpAny_setItem_heap (hsz := hz) (tupleKind_room_in1 hu) (key_of I.hok eb) dd fun h' dd' hs => h _ ?_
    obtain ⟨q, es, ep, hq, h2, h3, h4, _, h5⟩ := dd'
    refine d_write I (by rw [e]; exact True.intro) hs ⟨q, hq⟩ ⟨hl, hd, _, (rel.put k eb rv).keeps fun c ys ec => ?_, q, es, ep, hq, h2, h3, h4, h5⟩
    rw [upd_ne (ne_of ec e (fun z => nomatch z))]
    exact ec
end

section
variable {X : Cx} {pins : List (Addr × Obj)} {σ : St} {H : Hp} {s : Shared} {a : Addr} {kvs : List (Key × V)} {k : Key} {u : Value} {A : Around} {E : Value → Shared → Prop}
end


def NoSl (i : Expr) : Prop := ∀ ov iv, subscripted i false ov iv = operate [ov, iv] (getItem ov iv)
theorem subD_of {prog : Program} {w : World} {A : Around} {E : Value → Shared → Prop} {s : Shared} {env : Env} {value slice : Expr} {pos : Pos} {T id : String} {Q : Value → Shared → Prop}
    (hl : typeLookup (.type T) "__getitem__" = pure (some (.builtin id))) (hs : NoSl slice)
    (h : wpAny (model prog w) A (eval value env) (fun o s₁ => wpAny (model prog w) A (eval slice env) (fun i s₂ => s₂.TypeIs o T ∧ wpAny (model prog w) A (getItem o i) Q E s₂) E s₁) E s) :
    wpAny (model prog w) A (eval (.Subscript value slice pos) env) Q E s := by
  refine Subscript_ (wpAny_mono h (fun o s₁ h₁ => wpAny_mono h₁ (fun i s₂ h₂ => ?_) fun _ _ x => x) fun _ _ x => x)
  obtain ⟨hT, h₂⟩ := h₂
  unfold subscriptTail
  refine wpAny_bind ?_
  rw [getitemInPython_of_ne hT.not_modules]
  refine wpAny_bind (wpAny_specialOf hT hl ?_)
  have fin : wpAny (model prog w) A (subscripted slice false o i) (fun r s₃ => wpAny (model prog w) A (letTemporaryGo value o r >>= fun _ => pure r) Q E s₃) E s₂ := by
    rw [hs o i]
    exact wpAny_operating (wpAny_mono h₂ (fun r s₃ h₃ => wpAny_bind (wpAny_letTemporaryGo (wpAny_pure h₃))) fun _ _ x => x)
  first
    | exact wpAny_pure (wpAny_bind fin)
    | exact wpAny_bind (wpAny_pure (wpAny_bind fin))
    | exact wpAny_bind fin

theorem dict_typeIs {X : Cx} {pins : List (Addr × Obj)} {σ : St} {H : Hp} {s : Shared} {a : Addr} {y : V} {o : Option V} (I : Inv X pins σ H s) (g : DGet H a y o) : s.TypeIs (.ref a) "dict" := by
  rcases g with ⟨kvs, k, e, _, _⟩ | ⟨kvs, k, b, e, _, _, _⟩
  · obtain ⟨_, _, vs, _, dd⟩ := dk_rd I.hok e
    exact dd.typeIs
  · obtain ⟨_, _, xs, _, dd⟩ := dt_rd I.hok e
    exact dd.typeIs
def tDGet (td ty : TE) : TE := fun σ H Q => td σ H fun x H1 => ty σ H1 fun y H2 => ∃ a v, x = .ref a ∧ DGet H2 a y (some v) ∧ Q v H2
def tDIn (ty td : TE) : TE := fun σ H Q => ty σ H fun y H1 => td σ H1 fun x H2 => ∃ a o, x = .ref a ∧ DGet H2 a y o ∧ Q (.bl o.isSome) H2
def tDNotIn (ty td : TE) : TE := fun σ H Q => ty σ H fun y H1 => td σ H1 fun x H2 => ∃ a o, x = .ref a ∧ DGet H2 a y o ∧ Q (.bl (!o.isSome)) H2
def sDPut (td ty tv : TE) : TS := fun D σ H => tv σ H fun v H1 => td σ H1 fun x H2 => ty σ H2 fun y H3 => ∃ a H4, x = .ref a ∧ DPut H3 a y v H4 ∧ D.nx σ H4
section
variable {X : Cx} {o i e value : Expr} {pos pos' tpos : Pos} {td ty tv : TE}
theorem pe_dget (hu : X.A.units + 1 < cLine) (ho : PE X o td) (hi : PE X i ty) (hs : NoSl i) : PE X (.Subscript o i pos) (tDGet td ty) := by
  intro pins s σ H Q I h
  refine subD_of PySem.F.slot_dict_getitem.lookup hs (thn (ho pins s σ H _ I h) fun u s1 ⟨x, H1, I1, rx, q1⟩ => thn (hi pins s1 σ H1 _ I1 q1) fun iv s2 ⟨y, H2, I2, ry, a, v, ex, g, q2⟩ => ?_)
  subst ex
  obtain rfl : u = Value.ref a := rx
  exact ⟨dict_typeIs I2 g, d_getItem hu I2 g ry fun w' s3 I3 rw' => ⟨v, H2, I3, rw', q2⟩⟩
theorem pc_din (hu : X.A.units + 1 < cLine) (hi : PE X i ty) (ho : PE X o td) : PC X .In i o (tDIn ty td) := by
  intro pins s σ H Q I h
  refine thn (hi pins s σ H _ I h) fun iv s1 ⟨y, H1, I1, ry, q1⟩ => thn (ho pins s1 σ H1 _ I1 q1) fun u s2 ⟨x, H2, I2, rx, a, ov, ex, g, q2⟩ => ?_
  subst ex
  obtain rfl : u = Value.ref a := rx
  exact d_in hu I2 g ry fun s3 I3 => ⟨.bl ov.isSome, H2, I3, rfl, q2⟩
theorem pc_dnotin (hu : X.A.units + 1 < cLine) (hi : PE X i ty) (ho : PE X o td) : PC X .NotIn i o (tDNotIn ty td) := by
  intro pins s σ H Q I h
  refine thn (hi pins s σ H _ I h) fun iv s1 ⟨y, H1, I1, ry, q1⟩ => thn (ho pins s1 σ H1 _ I1 q1) fun u s2 ⟨x, H2, I2, rx, a, ov, ex, g, q2⟩ => ?_
  subst ex
  obtain rfl : u = Value.ref a := rx
  exact d_notIn hu I2 g ry fun s3 I3 => ⟨.bl (!ov.isSome), H2, I3, rfl, q2⟩
theorem ps_dput (hu : X.A.units + 1 < cLine) (ho : PE X o td) (hi : PE X i ty) (hv : PE X value tv) (hs : swapsWith value (some (.Subscript o i pos')) pos.line X.env = pure false) :
    PS X (.Assign [.Subscript o i pos'] value pos) (sDPut td ty tv) := by
  intro pins s σ H D I h
  refine wpAny_Assign_Subscript (thn (hv pins s σ H _ I h) fun r s1 ⟨v, H1, I1, rv, q1⟩ => thn (ho pins s1 σ H1 _ I1 q1) fun u s2 ⟨x, H2, I2, rx, q2⟩ => thn (hi pins s2 σ H2 _ I2 q2) fun iv s3 ⟨y, H3, I3, ry, a, H4, ex, g, q3⟩ => ?_) hs
  subst ex
  obtain rfl : u = Value.ref a := rx
  exact d_setItem hu I3 g ry rv fun s4 I4 => ⟨σ, H4, I4, q3⟩
end


theorem dk_empty {P : Program} {w : World} {H : Hp} (h : Heap) (hb : sysModules < h.objs.size) : ObjOk P w H (h.push { cls := .type "dict", data := .dict #[] }) h.objs.size (.dK []) :=
  ⟨Nat.zero_le _, beq_eq_false_iff_ne.mpr (Ne.symm (Nat.ne_of_lt hb)), [], .nil, Heap.DictOf.new h⟩
theorem dt_empty {P : Program} {w : World} {H : Hp} (h : Heap) (hb : sysModules < h.objs.size) : ObjOk P w H (h.push { cls := .type "dict", data := .dict #[] }) h.objs.size (.dT []) :=
  ⟨Nat.zero_le _, beq_eq_false_iff_ne.mpr (Ne.symm (Nat.ne_of_lt hb)), [], .nil, _, #[], 0, Heap.get?_push_size _ rfl, ⟨rfl, rfl, rfl⟩, rfl, rfl, List.nodup_nil⟩
def tDNewK : TE := fun _ H Q => ∀ p, H p = none → Q (.ref p) (upd H p (.dK []))
def tDNewT : TE := fun _ H Q => ∀ p, H p = none → Q (.ref p) (upd H p (.dT []))
section
variable {X : Cx} {pos : Pos}
theorem pe_dnewK : PE X (.Dict [] [] pos) tDNewK := fun pins s σ H Q I h =>
  wpAny_Dict_empty ⟨.ref s.heap.objs.size, _, I.laid (a := s.heap.objs.size) (o := .dK []) (t' := s.toks) (fun _ _ q => Heap.get?_push_of_some _ q) (Nat.le_refl _) (dk_empty s.heap I.big), rfl, h _ (I.hok.fresh (Nat.le_refl _))⟩
theorem pe_dnewT : PE X (.Dict [] [] pos) tDNewT := fun pins s σ H Q I h =>
  wpAny_Dict_empty ⟨.ref s.heap.objs.size, _, I.laid (a := s.heap.objs.size) (o := .dT []) (t' := s.toks) (fun _ _ q => Heap.get?_push_of_some _ q) (Nat.le_refl _) (dt_empty s.heap I.big), rfl, h _ (I.hok.fresh (Nat.le_refl _))⟩
end

def tPairs : List (TE × TE) → St → Hp → (List (V × V) → Hp → Prop) → Prop
  | [], _, H, Q => Q [] H
  | (tk, tv) :: r, σ, H, Q => tk σ H fun x H1 => tv σ H1 fun y H2 => tPairs r σ H2 fun ps H3 => Q ((x, y) :: ps) H3
abbrev VV : List (V × V) → List (Value × Value) → Prop := Paired fun p q => RelV p.1 q.1 ∧ RelV p.2 q.2
def PPs (X : Cx) (pos : Pos) (keys : List (Option Expr)) (values : List Expr) (trs : List (TE × TE)) : Prop :=
  ∀ (pins : List (Addr × Obj)) (s : Shared) (σ : St) (H : Hp) (Q : List (V × V) → Hp → Prop), Inv X pins σ H s → tPairs trs σ H Q →
    wpAny (model X.prog X.w) X.A (evalPairs (pairTrees keys values X.env pos)) (fun vs s' => ∃ ps H', Inv X pins σ H' s' ∧ VV ps vs ∧ Q ps H') X.xe s
theorem pps_nil {X : Cx} {pos : Pos} : PPs X pos [] [] [] := fun pins s σ H Q I h => pairTrees_nil_walk ⟨[], H, I, .nil, h⟩
theorem pps_cons {X : Cx} {pos : Pos} {k v : Expr} {ks : List (Option Expr)} {vs : List Expr} {tk tv : TE} {trs : List (TE × TE)} (hk : PE X k tk) (hv : PE X v tv) (hr : PPs X pos ks vs trs) :
    PPs X pos (some k :: ks) (v :: vs) ((tk, tv) :: trs) := fun pins s σ H Q I h =>
  pairTrees_cons_walk (thn (hk pins s σ H _ I h) fun u s1 ⟨x, H1, I1, rx, q1⟩ => thn (hv pins s1 σ H1 _ I1 q1) fun w2 s2 ⟨y, H2, I2, ry, q2⟩ =>
    thn (hr pins s2 σ H2 _ I2 q2) fun ws s3 ⟨ps, H3, I3, rel, q3⟩ => ⟨(x, y) :: ps, H3, I3, .cons ⟨rx, ry⟩ rel, q3⟩)

def mergeK (kvs more : List (Key × V)) : List (Key × V) := more.foldl (fun acc kv => putK acc kv.1 kv.2) kvs
theorem KV.merge : ∀ {more : List (Key × V)} {rs : List (Key × Value)} {kvs : List (Key × V)} {vs : List (Key × Value)}, KV more rs → KV kvs vs → KV (mergeK kvs more) (merged vs rs) := by
  intro more rs kvs vs r
  unfold KV at r
  induction r generalizing kvs vs with
  | nil => intro q; exact q
  | @cons p q ps qs h t ih =>
    intro r0
    have e : KV (putK kvs p.1 p.2) (stored vs q.1 q.2) := by
      have := r0.put p.1 h.2
      rw [← h.1]; exact this
    exact ih e
theorem length_mergeK : ∀ (more kvs : List (Key × V)), (mergeK kvs more).length ≤ kvs.length + more.length
  | [], kvs => by show kvs.length ≤ kvs.length + 0; omega
  | p :: r, kvs => by
    have h1 := length_mergeK r (putK kvs p.1 p.2)
    have h2 := length_putK kvs p.1 p.2
    show (mergeK (putK kvs p.1 p.2) r).length ≤ _
    rw [List.length_cons]; omega
theorem carries_of {P : Program} {w : World} : ∀ {kvs : List (Key × V)} {ws : List (Value × Value)}, VV (kvs.map fun kv => (kV kv.1, kv.2)) ws → ∃ rs, Carries (mixKind P w) ws rs ∧ KV kvs rs
  | [], _, r => by rw [List.map_nil] at r; cases r; exact ⟨[], True.intro, .nil⟩
  | p :: kvs, _, r => by
    rw [List.map_cons] at r
    cases r with
    | @cons a b as bs h t =>
      obtain ⟨rs, c, q⟩ := carries_of (P := P) (w := w) t
      obtain ⟨b1, b2⟩ := b
      exact ⟨(p.1, b2) :: rs, ⟨kV_is h.1, rfl, c⟩, .cons ⟨rfl, h.2⟩ q⟩
def tDisp (trs : List (TE × TE)) : TE := fun σ H Q => ∀ p, H p = none → tPairs trs σ (upd H p (.dK [])) fun ps H2 => H2 p = some (.dK []) ∧ ∃ kvs : List (Key × V), ps = kvs.map (fun kv => (kV kv.1, kv.2)) ∧ kvs.length ≤ 15 ∧ Q (.ref p) (upd H2 p (.dK (mergeK [] kvs)))
theorem pe_disp {X : Cx} {pos : Pos} {keys : List (Option Expr)} {values : List Expr} {trs : List (TE × TE)} (h : PPs X pos keys values trs) (hall : keys.all (·.isSome) = true) (hl : keys.length = values.length) (h0 : keys ≠ [])
    (h15 : keys.length ≤ 15) : PE X (.Dict keys values pos) (tDisp trs) := by
  intro pins s σ H Q I q
  have hn := I.hok.fresh (Nat.le_refl s.heap.objs.size)
  have I1 := I.laid (a := s.heap.objs.size) (o := .dK []) (h' := s.heap.push { cls := .type "dict", data := .dict #[] }) (t' := s.toks) (fun _ _ q => Heap.get?_push_of_some _ q) (Nat.le_refl _) (dk_empty s.heap I.big)
  refine wpAny_Dict_walk (knd := mixKind X.prog X.w) hall hl h0 h15 (thn (h pins _ σ _ _ I1 (q _ hn)) fun ws s2 ⟨ps, H2, I2, rel, e, kvs, ep, lk, q2⟩ => ?_)
  subst ep
  obtain ⟨rs, c, rk⟩ := carries_of (P := X.prog) (w := X.w) rel
  obtain ⟨z, hd, vs0, r0, dd⟩ := dk_of I2.hok e
  cases r0
  refine ⟨rs, c, dd, fun h' dd' hs => ⟨.ref s.heap.objs.size, _, ?_, rfl, q2⟩⟩
  have hz : (mergeK [] kvs).length ≤ sizeLine := by
    have h1 := length_mergeK kvs []
    rw [List.length_nil] at h1
    rw [sizeLine_eq]; omega
  have he : ∃ q, h'.get? s.heap.objs.size = some q := let ⟨q, _, _, hq, _⟩ := dd'; ⟨q, hq⟩
  exact d_write I2 (by rw [e]; exact True.intro) hs he (dk_new hz hd (rk.merge .nil) dd')


structure M1 (X : Cx) (o : Expr) (m : Str) (apos : Pos) (e : Expr) (cpos : Pos) : Prop where
  base : attributeBase o m X.env (eval o X.env) = eval o X.env
  few : ((backTo cpos (starEach [e] X.env)).all (fun x => !x.1) && (backToKw cpos (keywordEach [] X.env)).all (fun x => x.1.isSome)
    && decide (([e] : List Expr).length + ([] : List Keyword).length + (if ([] : List Keyword).isEmpty then 0 else 1) < 30)) = true
  line : (apos.endLine == cpos.line) = true
  trees : backTo cpos (starEach [e] X.env) = [(false, eval e X.env)]
structure M2 (X : Cx) (o : Expr) (m : Str) (apos : Pos) (e f : Expr) (cpos : Pos) : Prop where
  base : attributeBase o m X.env (eval o X.env) = eval o X.env
  few : ((backTo cpos (starEach [e, f] X.env)).all (fun x => !x.1) && (backToKw cpos (keywordEach [] X.env)).all (fun x => x.1.isSome)
    && decide (([e, f] : List Expr).length + ([] : List Keyword).length + (if ([] : List Keyword).isEmpty then 0 else 1) < 30)) = true
  line : (apos.endLine == cpos.line) = true
  trees : backTo cpos (starEach [e, f] X.env) = [(false, eval e X.env), (false, eval f X.env)]

def IsD (H : Hp) (a : Addr) : Prop := (∃ kvs, Rd H a (.dK kvs)) ∨ ∃ kvs, Rd H a (.dT kvs)
theorem isD_at {X : Cx} {pins : List (Addr × Obj)} {σ : St} {H : Hp} {s : Shared} {a : Addr} (I : Inv X pins σ H s) (d : IsD H a) :
    s.TypeIs (.ref a) "dict" ∧ (∀ b, Value.ref a = .ref b → ∃ ob, s.heap.get? b = some ob ∧ ob.dict = none) ∧ (a == sysModules) = false := by
  rcases d with ⟨kvs, e⟩ | ⟨kvs, e⟩
  · obtain ⟨_, hd, vs, _, dd⟩ := dk_rd I.hok e
    refine ⟨dd.typeIs, fun b q => ?_, hd⟩
    cases q
    obtain ⟨ob, _, _, h1, h2, _⟩ := dd
    exact ⟨ob, h1, h2.2.1⟩
  · obtain ⟨_, hd, xs, _, dd⟩ := dt_rd I.hok e
    refine ⟨dd.typeIs, fun b q => ?_, hd⟩
    cases q
    obtain ⟨ob, _, _, h1, h2, _⟩ := dd
    exact ⟨ob, h1, h2.2.1⟩

section
variable {X : Cx} {pins : List (Addr × Obj)} {σ : St} {H : Hp} {s : Shared} {a : Addr} {y d : V} {u r : Value} {o : Option V} {A : Around} {E : Value → Shared → Prop}
theorem d_get1 {Q : Value → Shared → Prop} (hu : A.units + 1 < cLine) (I : Inv X pins σ H s) (g : DGet H a y o) (ry : RelV y u) (h : ∀ w' s', Inv X pins σ H s' → RelV (o.getD .non) w' → Q w' s') :
    wpAny (model X.prog X.w) A (call (.builtin "dict.get") [.ref a, u]) Q E s := by
  rcases g with ⟨kvs, k, e, ey, l⟩ | ⟨kvs, k, b, e, ey, eb, l⟩
  · subst ey
    obtain ⟨z, hd, vs, rel, dd⟩ := dk_rd I.hok e
    refine call_meetsIn PySem.F.slot_dict_get dd.typeIs PySem.F.entry_dict_get (PySem.F.args_dict_get_2 _ _) (meets_dict_get (mixKind X.prog X.w) a (kV_is ry) hd) ⟨_, dd.mapOf, h _ _ (I.tok _) ?_⟩
    rw [l]
    exact (rel.val k).getD rfl
  · subst ey
    cases (show u = Value.ref b from ry)
    obtain ⟨z, hd, xs, rel, dd⟩ := dt_rd I.hok e
    refine call_meetsIn PySem.F.slot_dict_get dd.typeIs PySem.F.entry_dict_get (PySem.F.args_dict_get_2 _ _) (meetsH_dict_get (tupleKind (mixKind X.prog X.w)) a b hd) ⟨tupleKind_room_in1 hu, k, xs, key_of I.hok eb, dd, h _ _ (I.tok _) ?_⟩
    rw [l]
    exact (rel.val k).getD rfl
end

def tDGet1 (td ty : TE) : TE := fun σ H Q => td σ H fun x H1 => ∃ a, x = .ref a ∧ IsD H1 a ∧ ty σ H1 fun y H2 => ∃ o, DGet H2 a y o ∧ Q (o.getD .non) H2
section
variable {X : Cx} {o e f : Expr} {apos cpos : Pos} {td ty tx : TE}
theorem pe_dget1 (hu : X.A.units + 1 < cLine) (ho : PE X o td) (he : PE X e ty) (m : M1 X o "get" apos e cpos) : PE X (.Call (.Attribute o "get" apos) [e] [] cpos) (tDGet1 td ty) := by
  intro pins s σ H Q I h
  refine wpAny_Call_method m.base m.few m.line PySem.F.plainAttrs_dict PySem.F.slot_dict_get PySem.F.type_dict_get (thn (ho pins s σ H _ I h) fun u s1 ⟨x, H1, I1, rx, a, ex, d, q1⟩ => ?_)
  subst ex
  obtain rfl : u = Value.ref a := rx
  obtain ⟨t1, t2, _⟩ := isD_at I1 d
  refine ⟨t1, t2, ?_⟩
  rw [m.trees]
  refine Calls.callWith_builtin rfl (Calls.evalArgs_plain (Calls.spliced_cons (thn (he pins s1 σ H1 _ I1 q1) fun iv s2 ⟨y, H2, I2, ry, ov, g, q2⟩ => Calls.spliced_nil ?_)))
  exact d_get1 hu I2 g ry fun w' s3 I3 rw' => ⟨_, H2, I3, rw', q2⟩
end

section
variable {X : Cx} {pins : List (Addr × Obj)} {σ : St} {H : Hp} {s : Shared} {a : Addr} {kvs : List (Key × V)} {A : Around} {E : Value → Shared → Prop}
end


section
variable {X : Cx} {pins : List (Addr × Obj)} {σ : St} {H : Hp} {s : Shared} {a : Addr} {y : V} {u : Value} {A : Around} {E : Value → Shared → Prop}
end
end L2

namespace Att
open PySem PySem.W PySem.Calls PyProof.Rows

theorem ints_of_wellAll {P : Params} {h : Heap} : ∀ (ns : List Int) (vs : List Value), WellAll P h vs (ns.map WData.int) → IntsAre vs ns := by
  intro ns
  induction ns with
  | nil =>
    intro vs w
    rw [List.map_nil] at w
    cases w
    exact .nil
  | cons n ns ih =>
    intro vs w
    rw [List.map_cons] at w
    cases w with
    | cons a b =>
      cases a
      exact .cons _ _ (ih _ b)

theorem script_of {l : OpenLaw} {n : Nat} (hn : l.most = some n) {P : Params} {h : Heap} {args : List WData} {vals : List Value}
    (hpre : l.row.toRowW.claim.pre args = true) (hwl : WellAll P h vals args) :
    ∃ a vs ns, vals = [Value.ref a] ∧ args = [WData.list (ns.map WData.int)] ∧ h.get? a = some { cls := .type "list", data := .seq vs.toArray } ∧ IntsAre vs ns ∧ ns.length ≤ n := by
  have hsh : WShape.hasAll [] args [.list .int] = true := (pre_splitW hpre).1
  have hc : l.pre.holds [] { args := args } = true := (pre_splitW hpre).2
  obtain ⟨d, r, rfl, h1, h2⟩ := hasAllW_cons hsh
  obtain rfl := hasAllW_nil h2
  obtain ⟨xs, rfl, h3⟩ := hasW_list h1
  obtain ⟨ns, rfl⟩ := items_int h3
  have hlen : ns.length ≤ n := by
    unfold OpenLaw.pre at hc
    have h4 : (WTm.not (.lt (.lit (.int (n : Int))) (.len (.arg 0)))).holds [] { args := [.list (ns.map .int)] } = true := by
      have h4 := (holds_andW hc).1
      rw [hn] at h4
      exact h4
    have h5 := condW_of h4 (w_not (w_lt w_lit (w_len_list (w_arg rfl))))
    rw [List.length_map] at h5
    refine Nat.le_of_not_lt fun q => ?_
    have q' : (n : Int) < ((ns.length : Nat) : Int) := by omega
    first
      | (rw [decide_eq_true q'] at h5; exact absurd h5 (by decide))
      | (simp at h5; omega)
  cases hwl with
  | cons w1 w2 =>
    cases w2
    cases w1 with
    | list ho hall => exact ⟨_, _, ns, rfl, rfl, ho, ints_of_wellAll ns _ hall, hlen⟩

theorem post_true (l : OpenLaw) (args : List WData) : l.row.toRowW.claim.post args (.bool true) args = true :=
  postW_of (r := l.row.toRowW) (X := (true == true))
    (show WShape.has [] (.bool true) .bool = true by first | rfl | decide | simp [WShape.has, WShape.arms, WShape.armsAll])
    (show (WTm.eq .res (.lit (.bool true))).value [] { args := args, res := some (.bool true), after := args } = some (.bool (true == true)) from w_eq_bool (w_res rfl) w_lit) rfl

theorem attach_call {l : OpenLaw} {n : Nat} {q : Program} {loose : List Str} {XP : (Str → Option Value) → Heap → Prop} {YP : World → Heap → Prop} {d : DefRec}
    (hn : l.most = some n) (hdf : d.params.defaults = [])
    (call : ∀ (w : World) (s₀ s₁ : Shared) (mg mb : Str → Option Value) (fa : Addr) (o : Obj) (pm cd doc : Value) (a : Addr) (vs : List Value) (ns : List Int),
      Ground q loose [] XP w s₀ mg mb s₁.heap → YP w s₁.heap →
      s₁.heap.get? fa = some o → o.data = .func (docDef d.name d.params d.body d.scope pm cd doc) → s₁.heap.CodeRec cd d.name → mg d.name = some (.ref fa) →
      s₁.heap.get? a = some { cls := .type "list", data := .seq vs.toArray } → IntsAre vs ns → ns.length ≤ n → s₁.gens = #[] →
      codeAny (model l.prog w) callerA (.call (.ref fa) ⟨[.ref a], []⟩) (fun r s' => r = .ok (.ret (.bool true)) ∧ OldK s₁.heap s'.heap ∧ s'.os = s₁.os ∧ AllBare s'.gens) s₁) :
    WalkO q loose XP YP l.row.toRowW d [] (fun f vs => PySem.call f vs) := by
  intro w s₀ s₁ mg mb G Y fa o pm cd doc dV kV ho hd hcd hD hmg hg args vals as hpre hlay hrd hwl hlo
  obtain rfl : dV = .none := Dflts.none hD hdf
  obtain rfl : kV = .none := Dflts.noKw hD
  obtain ⟨a, vs, ns, rfl, rfl, hobj, hints, hlen⟩ := script_of hn hpre hwl
  refine enter_call (codeAny_mono (call w s₀ s₁ mg mb fa o pm cd doc a vs ns G Y ho (fd_plain hd) hcd hmg hobj hints hlen hg) fun r s' hq => ?_)
  obtain ⟨rfl, h2, h3, h4⟩ := hq
  exact ⟨.inl ⟨.bool true, .bool true, [], rfl, fun _ => rfl, .bool true, post_true l _, fun _ => ⟨List.Pairwise.nil, fun _ hm => (nomatch hm)⟩⟩, h2, h3, h4⟩

section
variable {prog : Program} {w : World} {A : Around} {E : Value → Shared → Prop} {s : Shared} {K : Frag}

def ledger (h : Heap) (L d : Addr) : List (Addr × Obj) := (List.range h.objs.size).filterMap fun a => if a = L ∨ a = d then none else (h.get? a).map fun o => (a, o)
end
end Att

namespace L2
open PySem PySem.Spec PyProof.Rows

theorem vals_ints : ∀ {vs : List Value} {ns : List Int}, IntsAre vs ns → Vals (ns.map V.int) vs
  | _, _, .nil => .nil
  | _, _, .cons n t h => .cons ⟨t, rfl⟩ (vals_ints h)

def Only (H : Hp) : Prop := ∀ b, H b = none ∨ ∃ o xs, H b = some (.frz o (.lst xs))

theorem law_call {P : Program} {w : World} {K : PySem.W.Frag} {mg mb : Str → Option Value} {CX : CXT} {k : Nat} {fa a : Addr} {fd : FuncData} {x : Str} {sp : Sp} {s₁ : Shared} {vs : List Value} {ns : List Int}
    (KX : K.In s₁.heap) (hns : s₁.heap.Ns mainGlobals mg) (hb : s₁.heap.Ns builtinsNs mb) (hbb : ∀ x : Str, x ≠ "__name__" → mb x = bootBuiltins x) (hlim : s₁.heap.NoLimit) (hg : s₁.gens = #[])
    (ha : s₁.heap.get? a = some { cls := .type "list", data := .seq vs.toArray }) (hi : IntsAre vs ns) (hl : ns.length ≤ sizeLine) (hr : Room k callerA)
    (F : ∀ base : Heap, K.In base → base.Ns mainGlobals mg → FnOk P w K mg base CX k fa fd [x] sp) (hbind : ∀ (s : Shared) (u : Value), BindsTo s fd ⟨[u], []⟩ [(x, u)])
    (hsp : ∀ H : Hp, Only H → SqL K H a (ns.map V.int) → sp [.ref a] H (fun v _ => v = .bl true) fun _ _ _ => False)
    (hCX : ∀ H e s', CX [] H s₁ (fun _ _ _ => False) e s' → False) :
    codeAny (model P w) callerA (.call (.ref fa) ⟨[.ref a], []⟩) (fun r s' => r = .ok (.ret (.bool true)) ∧ OldK s₁.heap s'.heap ∧ s'.os = s₁.os ∧ AllBare s'.gens) s₁ := by
  have rv := vals_ints hi
  have lenV := hi.length
  -- from an abstract heap in which nothing but the script may be tracked
  have core : ∀ H : Hp, Only H → SqL K H a (ns.map V.int) → HOk P w H s₁.heap → (∀ b, H b ≠ none → b = a) → (H a ≠ none → K.lookup a = none) →
      codeAny (model P w) callerA (.call (.ref fa) ⟨[.ref a], []⟩) (fun r s' => r = .ok (.ret (.bool true)) ∧ OldK s₁.heap s'.heap ∧ s'.os = s₁.os ∧ AllBare s'.gens) s₁ := by
    intro H hO hS hok hA hK
    have base_of : ∀ {b : Addr} {o : Obj}, s₁.heap.get? b = some o → H b = none → (hidT s₁.heap H).get? b = some o := fun e n => hidT_get e n
    have noA : ∀ {b : Addr} {o : Obj} {es : Array DictEntry} {ep : Nat}, s₁.heap.get? b = some o → o.data = .dict es ep → H b = none := fun {b o es ep} e d => by
      cases q : H b with
      | none => rfl
      | some u =>
        have e' : b = a := hA b (by rw [q]; simp)
        subst e'
        rw [ha] at e; cases e
        have d' : Data.seq vs.toArray _ = Data.dict es ep := d
        cases d'
    have nsK : ∀ {b : Addr} {m : Str → Option Value}, s₁.heap.Ns b m → (hidT s₁.heap H).Ns b m := fun {b m} ⟨o, es, ep, e, d, r⟩ => ⟨o, es, ep, base_of e (noA e d), d, r⟩
    have hKb : K.In (hidT s₁.heap H) := fun b o e => base_of (KX b o e) (by
      cases q : H b with
      | none => rfl
      | some u =>
        have e' : b = a := hA b (by rw [q]; simp)
        subst e'
        rw [hK (by rw [q]; simp)] at e; cases e)
    have hM : Mod K mg (hidT s₁.heap H) := ⟨hKb, nsK hns, ⟨mb, nsK hb, hbb⟩, let ⟨mc, h1, h2⟩ := hlim; ⟨mc, nsK h1, h2⟩⟩
    have e0 : Env0 P w K mg (hidT s₁.heap H) callerA [] s₁ H := ⟨rfl, hM, fun b o e => of_hidT e, Nat.le_of_eq (hidT_size _ _), trivial, fun b hb => absurd (show b ∈ ([] : List Addr) from hb) (by simp), hok, .of_eq hg⟩
    refine codeAny_mono ((F _ hKb (nsK hns)).run callerA [] s₁ H ⟨[.ref a], []⟩ [.ref a] [.ref a] _ _ hr e0 (hbind s₁ (.ref a)) (.cons rfl .nil) (hsp H hO hS)) fun r s' h => ?_
    cases r with
    | error e => exact (hCX H e s' h).elim
    | ok fl =>
      cases fl with
      | next => exact False.elim h
      | brk => exact False.elim h
      | cont => exact False.elim h
      | ret u =>
        obtain ⟨v, H', os, bare, un, hok', r', q⟩ := h
        have q' : v = .bl true := q
        subst q'
        obtain rfl : u = Value.bool true := r'
        refine ⟨rfl, OldK.of_keep fun b o e => ?_, os, bare⟩
        cases q : H b with
        | none => exact un.keep b o e q (by intro z; exact absurd (show b ∈ ([] : List Addr) from z) (by simp)) (by simp)
        | some u =>
          rcases hO b with z | ⟨ob, xs, z⟩
          · rw [q] at z; cases z
          · have z2 := un.frzs b ob _ z
            obtain ⟨e1, _⟩ := hok b _ z
            obtain ⟨e2, _⟩ := hok' b _ z2
            rw [e] at e1; cases e1
            exact e2
  cases hk : K.lookup a with
  | some o =>
    -- the script is one of the module's own objects
    have e := KX a o hk
    rw [ha] at e
    cases e
    refine core (fun _ => none) (fun _ => .inl rfl) (.inr ⟨_, vs.toArray, _, hk, rfl, rfl, rfl, by rw [List.size_toArray, lenV]; exact hl, by simpa using rv⟩) (fun b u z => by have z' : (none : Option HO) = some u := z; cases z') (fun b z => absurd rfl z) fun z => absurd rfl z
  | none =>
    refine core (fun b => if b = a then some (.frz { cls := .type "list", data := .seq vs.toArray } (.lst (ns.map V.int))) else none) (fun b => ?_) (.inl (.inr ⟨{ cls := .type "list", data := .seq vs.toArray }, if_pos rfl⟩)) (fun b u z => ?_) (fun b z => ?_) fun _ => hk
    · by_cases hb : b = a
      · exact .inr ⟨_, _, if_pos hb⟩
      · exact .inl (if_neg hb)
    · by_cases hb : b = a
      · have z' := (if_pos hb).symm.trans z
        cases z'
        subst hb
        exact ⟨ha, by rw [List.length_map]; exact hl, vs, _, rv, ha⟩
      · have z' := (if_neg hb).symm.trans z
        cases z'
    · by_cases hb : b = a
      · exact hb
      · exact absurd (if_neg hb) z
end L2

namespace L2
open PySem PySem.Spec PyProof.Rows

abbrev KOf {K : PySem.W.Frag} {h : Heap} (_ : K.In h) : PySem.W.Frag := K

theorem walk_of {l : PySem.W.OpenLaw} {n k : Nat} {q : Program} {loose : List Str} {XP : (Str → Option Value) → Heap → Prop} {YP : World → Heap → Prop} {d : DefRec} {K : Params → PySem.W.Frag} {CX : World → CXT} {sp : World → Sp} {x : Str}
    (hn : l.most = some n) (hn2 : n ≤ sizeLine) (hdf : d.params.defaults = []) (hr : Room k callerA)
    (hY : ∀ (w : World) (h : Heap), YP w h → (K w.params).In h)
    (F : ∀ (w : World) (mg : Str → Option Value) (fa : Addr) (h : Heap), (K w.params).In h → h.Ns mainGlobals mg → mg d.name = some (.ref fa) →
      ∃ fd : FuncData, (∀ (s : Shared) (u : Value), BindsTo s fd ⟨[u], []⟩ [(x, u)]) ∧
        ∀ base : Heap, (K w.params).In base → base.Ns mainGlobals mg → FnOk l.prog w (K w.params) mg base (CX w) k fa fd [x] (sp w))
    (hsp : ∀ (w : World) (H : Hp) (a : Addr) (ns : List Int), ns.length ≤ n → Only H → SqL (K w.params) H a (ns.map V.int) → sp w [.ref a] H (fun v _ => v = .bl true) fun _ _ _ => False)
    (hCX : ∀ (w : World) (H : Hp) (s : Shared) (e : Value) (s' : Shared), CX w [] H s (fun _ _ _ => False) e s' → False) :
    PySem.W.WalkO q loose XP YP l.row.toRowW d [] (fun f vs => PySem.call f vs) := by
  refine Att.attach_call hn hdf fun w s₀ s₁ mg mb fa o pm cd doc a vs ns G Y ho hd hcd hmg hobj hints hlen hg => ?_
  have KX := hY w _ Y
  obtain ⟨fd, hb, hF⟩ := F w mg fa _ KX G.T.g hmg
  exact law_call KX G.T.g G.T.b G.T.builtins G.T.nolimit hg hobj hints (Nat.le_trans hlen hn2) hr hF hb (fun H hO hS => hsp w H a ns hlen hO hS) fun H e s' => hCX w H s₁ e s'
end L2

/- THE LAST THEOREM (shape; LID, My.* are yours):
   My.Adr: a structure of the addresses that your layer names (classes, functions); My.Txt K t: a structure (Prop) of the equations over K;
   My.txt_mk : {K} {implicit addresses ..} (e1 : nsIn K mainGlobals "law" = some (some (.ref f))) (e2 : K.lookup f = some ⟨oc, od, .func (fnOf "law" "law" params body scope dV kV doc pm an cdv ct), sl⟩) (e3 : codeIn K cdv "law" = true) .. : ∃ t, My.Txt K t

set_option maxRecDepth 100000 in
set_option maxHeartbeats 0 in
theorem PySem.Challenge.cw_LID_holds : PySem.Challenge.rw_LID.Holds := by
  w_on; o_law; k_head; (case hw => w_witness2)
  k_fill
  refine L2.walk_of (l := PySem.Challenge.rw_LID) (n := 63) (k := 40) (x := "script") (CX := fun w => ..) (sp := fun _ => My.sp_law) rfl (by decide) rfl ⟨rfl, by decide, by decide⟩ (fun w h Y => PySem.W.kIn_of Y) ?F ?S ?C
  case F =>
    intro w mg fa h KX G hmg
    have T : ∃ t, My.Txt (L2.KOf KX) t := by
      dsimp only [L2.KOf]                          -- K must stand as «<heap const> w.params» for k_is
      refine' My.txt_mk ?e1 ?e2 ?e3 ..
      (case e1 => PySem.W.k_is)                    -- in the order: a name -> its address -> its object -> its parts
      (case e2 => PySem.W.k_is)
      ..
    obtain ⟨t, T⟩ := T
    have e0 := hmg.symm.trans (PySem.W.mg_of KX G T.law)
    cases e0                                       -- fa is the law's own address
    exact ⟨_, fun s u => .of_eq rfl, fun base kb nb => My.law_fn T kb nb⟩     -- if «.of_eq rfl» comes too early: refine' ⟨_, ?b, fun base kb nb => My.law_fn T kb nb⟩; exact fun s u => .of_eq rfl
  case S => exact fun w H a ns hl hO hS => ..
  case C => exact ..
(the tactic k_is has no namespace: write k_is) -/

namespace L2
open PySem PySem.Spec PyProof.Rows

def inClass (s : Stmt) (j : Nat) : Stmt := match s with
  | .ClassDef _ _ _ body _ _ _ _ _ _ _ => body.getD j (.Pass ⟨0, 0, 0, 0⟩)
  | _ => .Pass ⟨0, 0, 0, 0⟩
def defArgs (s : Stmt) : Arguments := match s with
  | .FunctionDef _ a _ _ _ _ _ _ _ _ => a
  | _ => { posonlyargs := [], args := [], vararg := none, kwonlyargs := [], kw_defaults := [], kwarg := none, defaults := [] }
def defBody (s : Stmt) : List Stmt := match s with
  | .FunctionDef _ _ b _ _ _ _ _ _ _ => b
  | _ => []
def defScope (s : Stmt) : Scope := match s with
  | .FunctionDef _ _ _ _ _ _ sc _ _ _ => sc
  | _ => { kind := .function, names := [], isGenerator := false, isCoroutine := false }

abbrev CX0 : CXT := fun _ _ _ _ _ _ => False
abbrev E0 : XK := fun _ _ _ => False
structure Fun (K : PySem.W.Frag) (x qual : Str) (st : Stmt) (f : Addr) (fd : FuncData) : Prop where
  ex : ∃ (oc : Value) (od : Option Addr) (kV doc pm : Value) (an : Option Addr) (cdv ct : Value) (osl : Array (Option Value)),
    fd = PySem.W.fnOf x qual (defArgs st) (defBody st) (defScope st) .none kV doc pm an cdv ct ∧ K.lookup f = some ⟨oc, od, .func fd, osl⟩ ∧ PySem.W.codeIn K cdv qual = true
  kp : PySem.W.keepIn K (.ref f) = true
section
variable {P : Program} {w : World} {K : PySem.W.Frag} {mg : Str → Option Value} {base : Heap}
theorem Fun.ok {x qual : Str} {st : Stmt} {f : Addr} {fd : FuncData} {N ps : List Str} {k : Nat} {sp : Sp} (F : Fun K x qual st f fd) (S : FnScope N ps (defScope st)) (len : ∀ vs H Q E, sp vs H Q E → vs.length = ps.length)
    (hbody : ∀ (cdv : Value) (A : Around) (outer : List Env) (s : Shared) (H : Hp) (vs : List V) (Q : VK) (E : XK), Room k (A.deeper (envOfC qual (defScope st) s.heap.objs.size f cdv)) → sp vs H Q E →
      ∃ t, PSs (cxOf CX0 P w K mg base N qual (defScope st) f cdv A outer s H E).nox (defBody st) t ∧ t { nx := fun _ H' => Q .non H', rt := Q } (start N vs) H) : FnOk P w K mg base CX0 (k + 1) f fd ps sp := by
  obtain ⟨oc, od, kV, doc, pm, an, cdv, ct, osl, rfl, lk, hcd⟩ := F.ex
  refine fn_of lk hcd S len fun A outer s H vs Q E hr hsp => ?_
  obtain ⟨t, h, q⟩ := hbody cdv A outer s H vs Q E hr hsp
  exact ⟨t, h.nox, q⟩
theorem Fun.binds {x qual : Str} {st : Stmt} {f : Addr} {fd : FuncData} {ps : List Str} (F : Fun K x qual st f fd)
    (h : ∀ (kV doc pm : Value) (an : Option Addr) (cdv ct : Value) (us : List Value), us.length = ps.length → bindArgs (PySem.W.fnOf x qual (defArgs st) (defBody st) (defScope st) .none kV doc pm an cdv ct) ⟨us, []⟩ = pure (ps.zip us)) : Binds K fd ps [] := by
  obtain ⟨oc, od, kV, doc, pm, an, cdv, ct, osl, rfl, lk, hcd⟩ := F.ex
  exact .all (h kV doc pm an cdv ct)
theorem fun_mk {x qual : Str} {st : Stmt} {f : Addr} {oc : Value} {od an : Option Addr} {osl : Array (Option Value)} {kV doc pm cdv ct : Value} (l : K.lookup f = some ⟨oc, od, .func (PySem.W.fnOf x qual (defArgs st) (defBody st) (defScope st) .none kV doc pm an cdv ct), osl⟩)
    (c : PySem.W.codeIn K cdv qual = true) (k : PySem.W.keepIn K (.ref f) = true) : Fun K x qual st f (PySem.W.fnOf x qual (defArgs st) (defBody st) (defScope st) .none kV doc pm an cdv ct) := ⟨⟨oc, od, kV, doc, pm, an, cdv, ct, osl, rfl, l, c⟩, k⟩
end
theorem hu_of {A : Around} {k : Nat} (hr : Room k A) : A.units + 1 < cLine := Nat.lt_of_le_of_lt (Nat.add_le_add_left (by decide : 1 ≤ 64) _) hr.units
section
variable {X : Cx}
end

def Same (H H' : Hp) : Prop := ∀ b o, H b = some o → H' b = some o
theorem Same.refl (H : Hp) : Same H H := fun _ _ h => h
theorem Same.trans {H H1 H2 : Hp} (a : Same H H1) (b : Same H1 H2) : Same H H2 := fun c o h => b c o (a c o h)
theorem Same.free {H H' : Hp} (e : Same H H') {l : Addr} (h : H' l = Option.none) : H l = Option.none := by
  cases q : H l with
  | none => rfl
  | some o =>
    rw [e l o q] at h
    cases h
theorem Same.seq {K : PySem.W.Frag} {H H' : Hp} {a : Addr} {xs : List V} (e : Same H H') (h : SqL K H a xs) : SqL K H' a xs := by
  rcases h with (h | ⟨o, h⟩) | h
  · exact .inl (.inl (e _ _ h))
  · exact .inl (.inr ⟨o, e _ _ h⟩)
  · exact .inr h

section
variable {κ : Type} [DecidableEq κ]
theorem valV_not {kvs : List (κ × V)} {k : κ} (h : valV kvs k = none) : ¬ k ∈ kvs.map (·.1) := by
  intro m
  obtain ⟨p, hp, e⟩ := List.mem_map.mp m
  have q : (kvs.any fun kv => decide (kv.1 = k)) = true := List.any_eq_true.mpr ⟨p, hp, decide_eq_true e⟩
  rw [valV_any, h] at q
  exact absurd q (by simp)
theorem nd_snoc : ∀ {l : List κ} {k : κ}, l.Nodup → ¬ k ∈ l → (l ++ [k]).Nodup
  | [], k, _, _ => by simp
  | a :: r, k, h, hk => by
    obtain ⟨h1, h2⟩ := List.nodup_cons.mp h
    show (a :: (r ++ [k])).Nodup
    refine List.nodup_cons.mpr ⟨fun m => ?_, nd_snoc h2 fun m => hk (List.mem_cons.mpr (Or.inr m))⟩
    rcases List.mem_append.mp m with q | q
    · exact h1 q
    · exact hk (List.mem_cons.mpr (Or.inl (List.mem_singleton.mp q).symm))
theorem nd_putK {kvs : List (κ × V)} {k : κ} (v : V) (hn : (kvs.map (·.1)).Nodup) (h : valV kvs k = none) : ((putK kvs k v).map (·.1)).Nodup := by
  rw [putK_new v h, List.map_append]
  exact nd_snoc hn (valV_not h)
end
end L2


set_option linter.all false
set_option maxHeartbeats 4000000
namespace L2
open PySem PySem.Spec PyProof.Rows

theorem closure_go {env : Env} : ∀ (names : List (Str × NameKind)) (cs : List (Str × Addr)),
    (∀ x ∈ names, x.2 = .free → ∃ c, env.cells.lookup x.1 = some c) → (∀ x c, cs.lookup x = some c → env.cells.lookup x = some c) →
    ∃ cl, (forIn names cs fun x r => (if (x.2 == NameKind.free) = true then do let a ← cellOf env x.1; pure (ForInStep.yield ((x.1, a) :: r)) else pure (ForInStep.yield r) : Sem (ForInStep (List (Str × Addr))))) = pure cl ∧
      (∀ x c, cl.lookup x = some c → env.cells.lookup x = some c) ∧ (∀ x, (cs.lookup x).isSome = true → (cl.lookup x).isSome = true) ∧
      ∀ x ∈ names, x.2 = .free → (cl.lookup x.1).isSome = true
  | [], cs, _, h => ⟨cs, rfl, h, fun _ z => z, fun _ z => nomatch z⟩
  | (n, k) :: r, cs, hf, h => by
    by_cases hk : k = .free
    · subst hk
      obtain ⟨c, hc⟩ := hf (n, .free) List.mem_cons_self rfl
      obtain ⟨cl, e, h1, h2, h3⟩ := closure_go r ((n, c) :: cs) (fun x hx => hf x (List.mem_cons_of_mem _ hx)) (fun x c' hx => by
        by_cases hxn : x = n
        · subst hxn; simp only [List.lookup_cons, beq_self_eq_true] at hx; cases hx; exact hc
        · have : (x == n) = false := beq_eq_false_iff_ne.mpr hxn
          simp only [List.lookup_cons, this] at hx; exact h x c' hx)
      refine ⟨cl, ?_, h1, fun x hx => h2 x ?_, fun x hx hxf => ?_⟩
      · rw [List.forIn_cons]
        show ((if (NameKind.free == NameKind.free) = true then _ else _) >>= _) = _
        rw [if_pos (show (NameKind.free == NameKind.free) = true from rfl)]
        unfold cellOf
        show (((match env.cells.lookup n with | some a => pure a | none => _) >>= _) >>= _) = _
        rw [hc]
        exact e
      · by_cases hxn : x = n
        · subst hxn; simp
        · have : (x == n) = false := beq_eq_false_iff_ne.mpr hxn
          simp only [List.lookup_cons, this]; exact hx
      · rcases List.mem_cons.mp hx with rfl | hx
        · exact h2 n (by simp)
        · exact h3 x hx hxf
    · obtain ⟨cl, e, h1, h2, h3⟩ := closure_go r cs (fun x hx => hf x (List.mem_cons_of_mem _ hx)) h
      refine ⟨cl, ?_, h1, h2, fun x hx hxf => ?_⟩
      · rw [List.forIn_cons]
        have hb : (k == NameKind.free) = false := by simpa using hk
        show ((if (k == NameKind.free) = true then _ else _) >>= _) = _
        rw [if_neg (by simp [hb])]
        exact e
      · rcases List.mem_cons.mp hx with rfl | hx
        · exact absurd hxf hk
        · exact h3 x hx hxf
theorem closure_get {env : Env} {scope : Scope} (hf : ∀ x ∈ scope.names, x.2 = .free → ∃ c, env.cells.lookup x.1 = some c) :
    ∃ cl, closureFor scope env = pure cl ∧ (∀ x c, cl.lookup x = some c → env.cells.lookup x = some c) ∧ ∀ x ∈ scope.names, x.2 = .free → (cl.lookup x.1).isSome = true := by
  obtain ⟨cl, e, h1, _, h3⟩ := closure_go (env := env) scope.names [] hf (fun x c h => by simp at h)
  refine ⟨cl, ?_, h1, h3⟩
  unfold closureFor
  show (forIn scope.names ([] : List (Str × Addr)) _ >>= _) = _
  have : (forIn scope.names ([] : List (Str × Addr)) fun x r => (if (x.2 == NameKind.free) = true then do let a ← cellOf env x.1; pure (ForInStep.yield ((x.1, a) :: r)) else pure (ForInStep.yield r) : Sem (ForInStep (List (Str × Addr))))) >>= (fun r => (pure r : Sem _)) = (pure cl : Sem _) := by rw [e]; rfl
  exact this
theorem relabel_free {env : Env} : ∀ {names : List (Str × NameKind)} {x : Str}, names.lookup x = some .free →
    (names.map fun (n, k) => if (k == NameKind.free && env.scope.kind == .function && env.kindOf n == some .cell) then (n, NameKind.cell) else (n, k)).lookup x = some .cell ∨
    (names.map fun (n, k) => if (k == NameKind.free && env.scope.kind == .function && env.kindOf n == some .cell) then (n, NameKind.cell) else (n, k)).lookup x = some .free
  | [], _, h => by simp at h
  | (n, k) :: r, x, h => by
    by_cases hx : x = n
    · subst hx
      simp only [List.lookup_cons, beq_self_eq_true] at h
      cases h
      show List.lookup x ((if _ then (x, NameKind.cell) else (x, NameKind.free)) :: _) = _ ∨ List.lookup x ((if _ then (x, NameKind.cell) else (x, NameKind.free)) :: _) = _
      split
      · exact .inl (by simp)
      · exact .inr (by simp)
    · have hb : (x == n) = false := beq_eq_false_iff_ne.mpr hx
      simp only [List.lookup_cons, hb] at h
      have ih := relabel_free (env := env) h
      show List.lookup x ((if _ then (n, NameKind.cell) else (n, k)) :: _) = _ ∨ List.lookup x ((if _ then (n, NameKind.cell) else (n, k)) :: _) = _
      split <;> (simp only [List.lookup_cons, hb]; exact ih)
theorem relabel_back {env : Env} : ∀ {names : List (Str × NameKind)} {x : Str},
    ((names.map fun (n, k) => if (k == NameKind.free && env.scope.kind == .function && env.kindOf n == some .cell) then (n, NameKind.cell) else (n, k)).lookup x = some .cell ∨
    (names.map fun (n, k) => if (k == NameKind.free && env.scope.kind == .function && env.kindOf n == some .cell) then (n, NameKind.cell) else (n, k)).lookup x = some .free) → (x, NameKind.free) ∈ names ∨ (x, NameKind.cell) ∈ names
  | [], _, h => by simp at h
  | (n, k) :: r, x, h => by
    by_cases hx : x = n
    · subst hx
      have h : List.lookup x ((if (k == NameKind.free && env.scope.kind == .function && env.kindOf x == some .cell) = true then (x, NameKind.cell) else (x, k)) :: _) = some .cell ∨ List.lookup x ((if (k == NameKind.free && env.scope.kind == .function && env.kindOf x == some .cell) = true then (x, NameKind.cell) else (x, k)) :: _) = some .free := h
      split at h
      · rename_i hc
        rw [Bool.and_eq_true, Bool.and_eq_true] at hc
        have : k = .free := by simpa using hc.1.1
        subst this
        exact .inl List.mem_cons_self
      · simp only [List.lookup_cons, beq_self_eq_true] at h
        rcases h with h | h
        · cases h; exact .inr List.mem_cons_self
        · cases h; exact .inl List.mem_cons_self
    · have hb : (x == n) = false := beq_eq_false_iff_ne.mpr hx
      have h : List.lookup x ((if (k == NameKind.free && env.scope.kind == .function && env.kindOf n == some .cell) = true then (n, NameKind.cell) else (n, k)) :: _) = some .cell ∨ List.lookup x ((if (k == NameKind.free && env.scope.kind == .function && env.kindOf n == some .cell) = true then (n, NameKind.cell) else (n, k)) :: _) = some .free := h
      have h' := h
      split at h'
      all_goals
        simp only [List.lookup_cons, hb] at h'
        exact (relabel_back h').imp (List.mem_cons_of_mem _) (List.mem_cons_of_mem _)

theorem ne_lt {a b : Addr} {n : Nat} (h : a < n) (h2 : n ≤ b) : a ≠ b := Nat.ne_of_lt (Nat.lt_of_lt_of_le h h2)

def Cx.block (X : Cx) (pins : List (Addr × Obj)) (s : Shared) (H : Hp) (Nc : List Str) (scope : Scope) (cl : List (Str × Addr)) (C : Addr) (fp : List Addr) : Cx where
  prog := X.prog
  w := X.w
  K := X.K
  mg := X.mg
  base := X.base
  A := X.A
  N := Nc
  s₀ := s
  H₀ := H
  env := compEnvC scope cl C X.env
  outer := X.stack
  stack := X.stack
  ex := fp
  fn := fun _ => false
  calm := X.calm
  pn := X.pn ++ pins
  xe := fun _ _ => False

structure CpScope (X : Cx) (scope : Scope) (tn cn : List Str) (cap : List Nat) : Prop where
  kind : scope.kind = .function
  nocell : ∀ y ∈ scope.names, y.2 ≠ .cell
  names : ∀ y ∈ scope.names, y.2 = .local → scope.names.lookup y.1 = some .local
  free : ∀ y ∈ scope.names, y.2 = .free → X.env.kindOf y.1 = some .cell ∨ X.env.kindOf y.1 = some .free
  drawn : ∀ x ∈ cn, scope.names.lookup x = some .free
  caps : cap.map (fun i => X.N[i]?) = cn.map some

def capSt (k : Nat) (cap : List Nat) (σ : St) : St := List.replicate k none ++ cap.map fun i => (σ[i]?).join

theorem HOk.track {P : Program} {w : World} {H : Hp} {h : Heap} {a : Addr} {o : HO} (x : HOk P w H h) (hn : H a = none) (new : ObjOk P w (upd H a o) h a o) : HOk P w (upd H a o) h := fun b u e => by
  by_cases hb : b = a
  · subst hb; rw [upd_same] at e; cases e; exact new
  · rw [upd_ne hb] at e
    refine (x b u e).stay (fun _ _ _ q => q) (fun c q => ?_) fun c xs q => ?_
    · rw [upd_ne (ne_of_none q hn)]; exact q
    · rw [upd_ne (ne_of_none q hn)]; exact q

section
variable {X : Cx} {pins : List (Addr × Obj)} {σ : St} {H : Hp} {s : Shared}
theorem Inv.pinlt (I : Inv X pins σ H s) {p : Addr × Obj} (hp : p ∈ X.pn ++ pins) : p.1 < s.heap.objs.size := Heap.lt_size (I.pin p hp).1
theorem Inv.stkne (I : Inv X pins σ H s) {b : Addr} (h1 : b ≠ X.env.locals) (h2 : b ∉ X.fs) : b ∉ frs X.stack := fun z => (List.mem_cons.mp (I.stkSub b z)).elim h1 h2
theorem Inv.stklt (I : Inv X pins σ H s) {b : Addr} (h : b ∈ frs X.stack) : b < s.heap.objs.size := by
  obtain ⟨_, o, ho, _⟩ := I.stack.mem h
  exact Heap.lt_size ho

theorem Inv.block {scope : Scope} {tn cn : List Str} {cap : List Nat} {cl : List (Str × Addr)} {C : Addr} {fp : List Addr} {pins' : List (Addr × Obj)} {s1 : Shared} (I : Inv X pins σ H s) (S : CpScope X scope tn cn cap)
    (hcl : ∀ x c, cl.lookup x = some c → X.env.cells.lookup x = some c) (hcl2 : ∀ x ∈ scope.names, x.2 = .free → (cl.lookup x.1).isSome = true)
    (hf : ∀ b ∈ fp, FpOk X pins H b) (hfl : ∀ b ∈ fp, b < s.heap.objs.size) (hC : s.heap.objs.size ≤ C) (k : ∀ b o, s.heap.get? b = some o → s1.heap.get? b = some o)
    (hos : s1.os = s.os) (hg : s1.gens = s.gens) (hns : ∃ m, s1.heap.Ns C m)
    (hp : ∀ p ∈ pins', s1.heap.get? p.1 = some p.2 ∧ H p.1 = none ∧ p.1 ≠ C ∧ p.1 ∉ frs X.stack ∧ ∀ v, p.2.data ≠ .cell v) :
    Inv (X.block pins s H (tn ++ cn) scope cl C fp) pins' (capSt tn.length cap σ) H s1 := by
  have ok : (X.block pins s H (tn ++ cn) scope cl C fp).Ok := by
    refine ⟨I.ok.mod, S.kind, I.ok.glob, I.ok.blt, hC, fun x y c h1 h2 => I.ok.inj x y c (hcl x c h1) (hcl y c h2), fun x hx => ?_, fun x c z _ => (by cases z), I.ok.hd, I.ok.frames, .inl rfl, fun b hb => ⟨?_, fun x c e => (hf b hb).2.2.2.2.1 x c (hcl x c e)⟩, I.bs, Nat.le_trans I.ok.bsz I.sz, fun b o e hb => ?_, fun b hb => I.stkne (hf b hb).2.1 (hf b hb).2.2.1, I.stack, I.stkFree⟩
    · rcases relabel_back (env := X.env) hx with z | z
      · exact Option.isSome_iff_exists.mp (hcl2 _ z rfl)
      · exact absurd rfl (S.nocell _ z)
    · exact Nat.ne_of_lt (Nat.lt_of_lt_of_le (hfl b hb) hC)
    · rcases (hf b hb).2.2.2.1 with z | z
      · exact I.ok.noex b o e z
      · have h1 : b < X.base.objs.size := Heap.lt_size e
        exact absurd (Nat.lt_of_lt_of_le h1 (Nat.le_trans I.ok.bsz z)) (Nat.lt_irrefl _)
  refine ⟨ok, hos, by rw [hg]; exact I.bare, Un.kept k, ?_, fun x c e => ?_, I.hok.fresh hC, fun x c e => I.freeC x c (hcl x c e), fun p hp' => ?_, I.hok.kept k, ?_⟩
  · obtain ⟨m, hm⟩ := hns
    refine ⟨m, hm, fun i x v h1 h2 h3 => ?_⟩
    have hi : tn.length ≤ i := by
      rcases Nat.lt_or_ge i tn.length with z | z
      · unfold capSt at h2
        rw [List.getElem?_append_left (by simpa using z), List.getElem?_replicate] at h2
        split at h2 <;> cases h2
      · exact z
    unfold capSt at h2
    rw [List.getElem?_append_right (by simpa using hi), List.length_replicate, List.getElem?_map] at h2
    have h1' : cn[i - tn.length]? = some x := by
      have : (tn ++ cn)[i]? = some x := h1
      rwa [List.getElem?_append_right hi] at this
    cases hq : cap[i - tn.length]? with
    | none => rw [hq] at h2; cases h2
    | some j =>
      rw [hq] at h2
      have hj : X.N[j]? = some x := by
        have := congrArg (fun l => l[i - tn.length]?) S.caps
        simp only [List.getElem?_map, hq, h1', Option.map_some] at this
        exact Option.some.inj this
      have hv : σ[j]? = some (some v) := by
        cases hs : σ[j]? with
        | none => simp [hs] at h2
        | some y => simp only [Option.map_some, hs, Option.join_some] at h2; cases h2; rfl
      have hxf : (x, NameKind.free) ∈ scope.names := PySem.mem_of_lookup (S.drawn x (List.mem_of_getElem? h1'))
      have hk := S.free _ hxf rfl
      obtain ⟨m0, _, hl0⟩ := I.loc
      obtain ⟨u, r, q⟩ := hl0 j x v hj hv (hk.elim (fun z => .inr (.inl z)) fun z => .inr (.inr z))
      refine ⟨u, r, .inr ⟨relabel_free (S.drawn x (List.mem_of_getElem? h1')), ?_⟩⟩
      rcases q with ⟨kl, _⟩ | ⟨_, c, hc, z⟩
      · have kl' : X.env.kindOf x = some .local := kl
        rcases hk with hk | hk <;> (rw [kl'] at hk; cases hk)
      · obtain ⟨c', hc'⟩ := Option.isSome_iff_exists.mp (hcl2 _ hxf rfl)
        have := hcl _ _ hc'
        rw [hc] at this
        cases this
        exact ⟨c, hc', z.keeps k⟩
  · obtain ⟨v, z⟩ := I.cell x c (hcl x c e)
    exact ⟨v, z.keeps k⟩
  · rcases List.mem_append.mp hp' with z | z
    · obtain ⟨e, n, ne, nf, d⟩ := I.pin p z
      exact ⟨k _ _ e, n, Nat.ne_of_lt (Nat.lt_of_lt_of_le (Heap.lt_size e) hC), I.stkne ne nf, d⟩
    · exact hp p z
  · unfold capSt
    show _ = (tn ++ cn).length
    have := congrArg List.length S.caps
    simp only [List.length_map] at this
    simp [this]
end

def tTrue : TT := fun _ H Q => Q true H
def PTs (X : Cx) (ifs : List Expr) (t : TT) : Prop :=
  ∀ (pins : List (Addr × Obj)) (s : Shared) (σ : St) (H : Hp) (Q : Bool → Hp → Prop), Inv X pins σ H s → t σ H Q →
    wpAny (model X.prog X.w) X.A (forIn ifs true fun c r => if r = true then do let ok ← isTrue c X.env (eval c X.env); pure (ForInStep.yield ok) else pure (ForInStep.yield r)) (TP X pins σ Q) X.xe s
theorem pts_nil {X : Cx} : PTs X [] tTrue := fun pins s σ H Q I h => wpAny_tests_nil ⟨H, I, h⟩
theorem pts_one {X : Cx} {c : Expr} {t : TT} (h : PT X c t) : PTs X [c] t := fun pins s σ H Q I q => wpAny_tests_one (h pins s σ H Q I q)

theorem comp_loop {prog : Program} {w : World} {A : Around} {R : Result → Shared → Prop} {s : Shared} {elt target iter : Expr} {ifs : List Expr} {scope : Scope} {pos : Pos} {it acc : Value} {env : Env} (Jn : Nat → Shared → Prop)
    (turn : ∀ n s, Jn n s → wpAny (model prog w) A (pyNext it) (fun r s₁ => match r with
      | none => R (.ok .next) s₁
      | some v => wpAny (model prog w) A (letOwnedTupleGo target it v) (fun _ s₂ => wpAny (model prog w) A (assign target env v) (fun _ s₃ =>
          wpAny (model prog w) A (forIn ifs true fun c r => if r = true then do let ok ← isTrue c env (eval c env); pure (ForInStep.yield ok) else pure (ForInStep.yield r)) (fun ok s₄ =>
            if ok = true then wpAny (model prog w) A (eval elt env) (fun x s₅ =>
              wpAny (model prog w) A (call (.builtin "list.append") [acc, x]) (fun _ s₆ => ∃ m, m < n ∧ Jn m s₆) (fun _ _ => False) s₅) (fun _ _ => False) s₄
            else ∃ m, m < n ∧ Jn m s₄) (fun _ _ => False) s₃) (fun _ _ => False) s₂) (fun _ _ => False) s₁) (fun _ _ => False) s)
    (n : Nat) (h : Jn n s) : codeAny (model prog w) A (.compLoop (.ListComp elt [⟨target, iter, ifs, 0⟩] scope pos) 0 it acc env) R s := by
  refine codeAny_loop rfl Jn (fun n' s' hJ => ?_) n h
  show wpAny _ A ((compTurn (.ListComp elt [⟨target, iter, ifs, 0⟩] scope pos) 0 it acc env).onRaise (fun x' => do noteFrame x' env; theTreesLotGoes x')) _ _ s'
  refine wpAny_noted (wpAny_noRaise ?_)
  rw [compTurn_list]
  refine wpAny_bind (wpAny_standAt (wpAny_bind (thn (turn n' s' hJ) fun r s₁ h₁ => ?_)))
  cases r with
  | none => exact wpAny_pure h₁
  | some v =>
    refine wpAny_bind (thn h₁ fun _ s₂ h₂ => ?_)
    refine wpAny_bind (thn h₂ fun _ s₃ h₃ => wpAny_bind (thn h₃ fun ok s₄ h₄ => ?_))
    cases ok with
    | false => exact wpAny_pure ⟨rfl, h₄⟩
    | true => exact wpAny_bind (wpAny_bind (thn h₄ fun x' s₅ h₅ => wpAny_bind (thn h₅ fun _ s₆ h₆ => wpAny_pure (wpAny_pure ⟨rfl, h₆⟩))))

def tComp (wi : TI) (g : TG) (tt : TT) (te : TE) (k : Nat) (cap : List Nat) : TE := fun σ H Q => wi σ H fun J H1 =>
  ∃ W : Nat → Nat → St → List V → Hp → Prop, (∃ m, W 0 m (capSt k cap σ) [] H1) ∧ ∀ i m σ' ys H, W i m σ' ys H →
    (J.stop i H ∧ ∀ p, H p = none → Q (.ref p) (upd H p (.lst ys))) ∨
    (J.go i H ∧ ys.length < sizeLine ∧ ∀ x H', J.yld i H x H' → g x σ' H' fun σ2 H2 => tt σ2 H2 fun b H3 =>
      if b = true then ∃ N : VK, (∀ y H4, N y H4 → ∃ m', m' < m ∧ W (i + 1) m' σ2 (ys ++ [y]) H4) ∧ te σ2 H3 N else ∃ m', m' < m ∧ W (i + 1) m' σ2 ys H3)

structure CompDone (X : Cx) (fp : List Addr) (H : Hp) (s : Shared) (Q : VK) (acc : Value) (C : Addr) (r : Result) (s' : Shared) : Prop where
  ok : r = .ok .next
  ex : ∃ (D : Addr) (ys : List V) (its : List Value) (n : Nat) (H' : Hp), acc = .ref D ∧ Vals ys its ∧ ys.length ≤ sizeLine ∧ s'.heap.get? D = some { cls := .type "list", data := .seq its.toArray n } ∧ s.heap.objs.size ≤ D ∧ D ≠ C ∧ H' D = none ∧ H' C = none ∧
    (∃ m, s'.heap.Ns C m) ∧ Un (frs X.stack) fp H H' s.heap s'.heap ∧ HOk X.prog X.w H' s'.heap ∧ ∀ p, H' p = none → Q (.ref p) (upd H' p (.lst ys))
  ge : s.heap.objs.size ≤ C
  os : s'.os = s.os
  bare : AllBare s'.gens

section
variable {X : Cx} {pins : List (Addr × Obj)} {σ : St} {H : Hp} {s : Shared}
theorem comp_run {tg iter elt : Expr} {ifs : List Expr} {scope : Scope} {pos : Pos} {g : TG} {tt : TT} {te : TE} {tn cn : List Str} {cap : List Nat} {cl : List (Str × Addr)} {it : Addr} {fp : List Addr} {tn' : Nat → Heap → Prop} {J : It} {Q : VK} {E : Value → Shared → Prop}
    (I : Inv X pins σ H s) (S : CpScope X scope tn cn cap) (hc : X.calm = true)
    (hcl : ∀ x c, cl.lookup x = some c → X.env.cells.lookup x = some c) (hcl2 : ∀ x ∈ scope.names, x.2 = .free → (cl.lookup x.1).isSome = true)
    (T : Turn X.prog X.w X.K tg J fp it tn') (st : tn' 0 s.heap) (hf : ∀ b ∈ fp, FpOk X pins H b)
    (hg : ∀ C, PG (X.block pins s H (tn ++ cn) scope cl C fp) tg g) (ht : ∀ C, PTs (X.block pins s H (tn ++ cn) scope cl C fp) ifs tt) (he : ∀ C, PE (X.block pins s H (tn ++ cn) scope cl C fp) elt te)
    (W : Nat → Nat → St → List V → Hp → Prop) {m0 : Nat} (w0 : W 0 m0 (capSt tn.length cap σ) [] H)
    (step : ∀ i m σ' ys H, W i m σ' ys H →
      (J.stop i H ∧ ∀ p, H p = none → Q (.ref p) (upd H p (.lst ys))) ∨
      (J.go i H ∧ ys.length < sizeLine ∧ ∀ x H', J.yld i H x H' → g x σ' H' fun σ2 H2 => tt σ2 H2 fun b H3 =>
        if b = true then ∃ N : VK, (∀ y H4, N y H4 → ∃ m', m' < m ∧ W (i + 1) m' σ2 (ys ++ [y]) H4) ∧ te σ2 H3 N else ∃ m', m' < m ∧ W (i + 1) m' σ2 ys H3)) :
    wpAny (model X.prog X.w) X.A (newList []) (fun acc s₃ => wpAny (model X.prog X.w) X.A (newFunctionEnv scope X.env.globals cl [] X.env.qual none .none (some X.env)) (fun cenv s₄ =>
      codeAny (model X.prog X.w) X.A (.compStart (.ListComp elt [⟨tg, iter, ifs, 0⟩] scope pos) 0 (.ref it) acc { cenv with scope := relabel scope X.env }) (CompDone X fp H s Q acc cenv.locals) s₄) E s₃) E s := by
  refine wpAny_newObj_type (wpAny_newFunctionEnv S.nocell (by intro y hy; simp at hy) (fun h₁ hns₁ hsb₁ => ?_) S.kind)
  dsimp only at hns₁ hsb₁ ⊢
  generalize hH2 : s.heap.push { cls := .type "list", dict := none, data := .seq ([] : List Value).toArray } = H2 at hns₁ hsb₁ ⊢
  have hCs : H2.objs.size = s.heap.objs.size + 1 := by rw [← hH2, Heap.size_push]
  generalize hCe : H2.objs.size = C at hns₁ hsb₁ ⊢
  have hC : C = s.heap.objs.size + 1 := hCe.symm.trans hCs
  generalize hD : s.heap.objs.size = D at *
  have hDC : D ≠ C := by rw [hC]; exact Nat.ne_of_lt (Nat.lt_succ_self _)
  have old : ∀ b o, s.heap.get? b = some o → h₁.get? b = some o := fun b o e => by
    have hb : b < D := by rw [← hD]; exact Heap.lt_size e
    have hbC : b ≠ C := ne_lt hb (by rw [hC]; exact Nat.le_succ _)
    exact hsb₁.extBut b o hbC (Heap.get?_push_of_some _ (hH2 ▸ Heap.get?_push_of_some _ e))
  have hDo : h₁.get? D = some { cls := .type "list", data := .seq ([] : List Value).toArray } := by
    refine hsb₁.extBut _ _ hDC (Heap.get?_push_of_some _ ?_)
    rw [← hH2, ← hD]
    exact Heap.get?_push_size _ rfl
  have hfl : ∀ b ∈ fp, b < s.heap.objs.size := fun b hb => by
    obtain ⟨o, e, _⟩ := T.obj 0 _ st b hb
    exact Heap.lt_size e
  have hDn : H D = none := by rw [← hD]; exact I.hok.fresh (Nat.le_refl _)
  have hDs : D ∉ frs X.stack := fun z => ne_lt (I.stklt z) (Nat.le_of_eq hD) rfl
  have I0 : Inv (X.block pins s H (tn ++ cn) scope cl C fp) [(D, { cls := .type "list", data := .seq ([] : List Value).toArray 0 })] (capSt tn.length cap σ) H { s with heap := h₁, toks := s.toks + ([] : List (Str × Value)).length } :=
    I.block S hcl hcl2 hf hfl (by omega) old rfl rfl ⟨_, hns₁⟩ fun p hp => by
      rw [List.mem_singleton] at hp
      subst hp
      exact ⟨hDo, hDn, hDC, hDs, fun v z => nomatch z⟩
  have fpok : ∀ {H' : Hp} {o : Obj}, (∀ b ∈ fp, H' b = none) → ∀ b ∈ fp, FpOk (X.block pins s H (tn ++ cn) scope cl C fp) [(D, o)] H' b := fun {H' o} hn b hb => by
    obtain ⟨_, f1, f2, f3, f4, f5⟩ := hf b hb
    have hbl := hfl b hb
    refine ⟨hn b hb, ?_, I.stkne f1 f2, .inl hb, fun x c e => f4 x c (hcl x c e), fun p hp => ?_⟩
    · exact ne_lt hbl (by rw [hD, hC]; exact Nat.le_succ _)
    · rcases List.mem_append.mp hp with z | z
      · exact f5 p z
      · rw [List.mem_singleton] at z; subst z; exact Ne.symm (ne_lt hbl (Nat.le_of_eq hD))
  have st1 : tn' 0 h₁ := T.keep _ _ _ st fun b _ o e => old b o e
  have loop : ∀ s₃ : Shared, s₃ = { s with heap := h₁, toks := s.toks + ([] : List (Str × Value)).length } →
      codeAny (model X.prog X.w) X.A (.compLoop (.ListComp elt [⟨tg, iter, ifs, 0⟩] scope pos) 0 (.ref it) (.ref D) (compEnvC scope cl C X.env)) (CompDone X fp H s Q (.ref D) C) s₃ := by
    rintro s₃ rfl
    refine comp_loop (fun n s' => ∃ i σ' ys its nn H', Inv (X.block pins s H (tn ++ cn) scope cl C fp) [(D, { cls := .type "list", data := .seq (its : List Value).toArray nn })] σ' H' s' ∧ tn' i s'.heap ∧ (∀ b ∈ fp, H' b = none) ∧ Vals ys its ∧ ys.length ≤ sizeLine ∧ W i n σ' ys H') ?_ m0
      ⟨0, _, [], [], 0, H, I0, st1, fun b hb => (hf b hb).1, .nil, Nat.zero_le _, w0⟩
    rintro n s4 ⟨i, σ4, ys, its, nn, H4, I4, st4, fr4, r4, l4, w4⟩
    rcases step i n σ4 ys H4 w4 with ⟨stop, qn⟩ | ⟨go, hlt, next⟩
    · refine thn (T.done (X.block pins s H (tn ++ cn) scope cl C fp) rfl rfl rfl hc i _ s4 σ4 H4 _ I4 (fpok fr4) st4 stop) fun r s5 ⟨hr, I5⟩ => ?_
      subst hr
      have hp := I5.pin (D, _) (List.mem_append_right _ List.mem_cons_self)
      obtain ⟨m5, hm5, _⟩ := I5.loc
      exact ⟨rfl, ⟨D, ys, its, nn, H4, rfl, r4, l4, hp.1, by omega, hDC, hp.2.1, I5.free, ⟨m5, hm5⟩, I5.base, I5.hok, qn⟩, by omega, I5.os, I5.bare⟩
    · refine thn (T.item (X.block pins s H (tn ++ cn) scope cl C fp) rfl rfl rfl hc i _ s4 σ4 H4 _ I4 (fpok fr4) st4 go) fun r s5 ⟨u, hr, h5⟩ => ?_
      subst hr
      refine thn h5 fun _ s6 ⟨x, H6, I6, r6, y6, st6, fr6⟩ => ?_
      have I6' := I6.pinned (fpok fr6) (T.obj _ _ st6)
      refine thn (hg C _ s6 σ4 H6 x u _ I6' r6 (next x H6 y6)) fun _ s7 ⟨σ7, H7, I7, q7⟩ => ?_
      refine thn (ht C _ s7 σ7 H7 _ I7 q7) fun ok s8 ⟨H8, I8, q8⟩ => ?_
      have keepst : ∀ {σ9 : St} {H9 : Hp} {s9 : Shared}, Inv (X.block pins s H (tn ++ cn) scope cl C fp) ([(D, { cls := .type "list", data := .seq its.toArray nn })] ++ pinsAt fp s6.heap) σ9 H9 s9 → (∀ b ∈ fp, ∀ o, s6.heap.get? b = some o → s9.heap.get? b = some o) ∧ ∀ b ∈ fp, H9 b = none := fun {σ9 H9 s9} I9 => by
        refine ⟨fun b hb o e => (I9.pin (b, o) (List.mem_append_right _ (List.mem_append_right _ (mem_pinsAt hb e)))).1, fun b hb => ?_⟩
        obtain ⟨o, e, _⟩ := T.obj _ _ st6 b hb
        exact (I9.pin (b, o) (List.mem_append_right _ (List.mem_append_right _ (mem_pinsAt hb e)))).2.1
      cases ok with
      | false =>
        obtain ⟨m', hm', w'⟩ := q8
        obtain ⟨k1, k2⟩ := keepst I8
        exact ⟨m', hm', i + 1, σ7, ys, its, nn, H8, I8.unpinned, T.keep _ _ _ st6 k1, k2, r4, l4, w'⟩
      | true =>
        obtain ⟨Nw, hN, q8⟩ := q8
        refine thn (he C _ s8 σ7 H8 Nw I8 q8) fun v s9 ⟨y, H9, I9, r9, n9⟩ => ?_
        obtain ⟨m', hm', w'⟩ := hN y H9 n9
        obtain ⟨k1, k2⟩ := keepst I9
        have hp := I9.pin (D, _) (List.mem_append_right _ (List.mem_append_left _ List.mem_cons_self))
        have e := hp.1
        have hlen := r4.length
        refine call_meets F.slot_list_append ⟨_, e, rfl⟩ F.entry_list_append (F.args_list_append_2 _ _) (PySem.list_append D its.toArray nn v (by rw [List.size_toArray]; omega)) ⟨e, ?_⟩
        have q := PySem.IsL.update e (fun xs => xs.push v)
        have Ia : Inv (X.block pins s H (tn ++ cn) scope cl C fp) [] σ7 H9 s9 := I9.pins_of fun p hp => nomatch hp
        have Ib := Ia.turned (h' := s9.heap.update D (Obj.mapSeq (·.push v))) (t' := s9.toks) (it := D) (fun b o hb eb => (Heap.get?_update_other _ _ (Ne.symm hb)).trans eb) hp.2.1 hDC (.inr (by show s.heap.objs.size ≤ D; omega))
          (fun x c ec z => by
            obtain ⟨vv, zc⟩ := I.cell x c (hcl x c ec)
            exact ne_lt zc.lt (Nat.le_of_eq hD) z)
          (fun p hp' => by
            rw [List.append_nil] at hp'
            exact ne_lt (I.pinlt hp') (Nat.le_of_eq hD))
        have q' : (s9.heap.update D (Obj.mapSeq (·.push v))).get? D = some { cls := .type "list", data := .seq (its ++ [v]).toArray (nn + 1) } := by
          rw [if_neg (by simp)] at q
          rw [← List.push_toArray]
          exact q
        refine ⟨m', hm', i + 1, σ7, ys ++ [y], its ++ [v], nn + 1, H9, Ib.pins_of (fun p hp' => ?_), T.keep _ _ _ st6 fun b hb o eb => ?_, k2, r4.append (.cons r9 .nil), ?_, w'⟩
        · rw [List.mem_singleton] at hp'
          subst hp'
          exact ⟨q', hp.2.1, hDC, hDs, fun v' z => nomatch z⟩
        · have hbl := hfl b hb
          exact (Heap.get?_update_other _ _ (Ne.symm (ne_lt hbl (Nat.le_of_eq hD)))).trans (k1 b hb o eb)
        · rw [List.length_append, List.length_singleton]
          omega
  exact codeAny_compStart_list (loop _ rfl) (T.self _ 0 _ _ _ st1 (loop _ rfl))

theorem CompDone.inv {Q : VK} {acc : Value} {C : Addr} {r : Result} {s' : Shared} {fp : List Addr} (I : Inv X pins σ H s) (hf : ∀ b ∈ fp, FpOk X pins H b) (h : CompDone X fp H s Q acc C r s') :
    ∃ D H', acc = .ref D ∧ Inv X pins σ H' s' ∧ Q (.ref D) H' ∧ H' C = none ∧ ∃ m, s'.heap.Ns C m := by
  obtain ⟨_, ⟨D, ys, its, n, H', rfl, r4, l4, e, hD, hDC, hDn, hCn, hm, u, ok, q⟩, hC, os, bare⟩ := h
  have lt : ∀ b o, s.heap.get? b = some o → b ≠ D := fun b o eb => ne_lt (Heap.lt_size eb) hD
  have ltH : ∀ b o, H b = some o → b ≠ D := fun b o eb => ne_lt (I.hok.lt eb) hD
  refine ⟨D, upd H' D (.lst ys), rfl, I.call' (ch := fp) os ⟨u.keep, u.slot, fun b o eb n' hx => ?_, u.there, fun b xs eb => ?_, fun b o x eb => ?_, fun b ps eb => ?_⟩ (ok.track hDn ⟨l4, its, n, r4, e⟩) bare (fun b hb => ?_), q D hDn, ?_, hm⟩
  · rw [upd_ne (lt b o eb)]; exact u.free b o eb n' hx
  · rw [upd_ne (ltH b _ eb)]; exact u.tups b xs eb
  · rw [upd_ne (ltH b _ eb)]; exact u.frzs b o x eb
  · rw [upd_ne (ltH b _ eb)]; exact u.tbls b ps eb
  · obtain ⟨_, f1, f2, f3, f4, f5⟩ := hf b hb
    exact ⟨f3, f1, f4, f5⟩
  · rw [upd_ne (Ne.symm hDC)]; exact hCn
theorem Inv.letgo {C : Addr} {h' : Heap} {s1 : Shared} {σ1 : St} {H1 : Hp} (I : Inv X pins σ H s) (hC : s.heap.objs.size ≤ C) (I1 : Inv X pins σ1 H1 s1) (hn : H1 C = none) (hs : Heap.SameBut C s1.heap h') : Inv X pins σ1 H1 { s1 with heap := h' } := by
  refine I1.turned (t' := s1.toks) (it := C) (fun b o hb e => (hs.2 b hb).trans e) hn (fun z => ?_) (.inr ?_) (fun x c e z => ?_) fun p hp z => ?_
  · exact ne_lt I.lt hC z.symm
  · exact Nat.le_trans I.sz hC
  · obtain ⟨v, zc⟩ := I.cell x c e
    exact ne_lt zc.lt hC z
  · exact ne_lt (I.pinlt hp) hC z

variable {tg iter elt : Expr} {ifs : List Expr} {scope : Scope} {pos : Pos} {wi : TI} {g : TG} {tt : TT} {te : TE} {tn cn : List Str} {cap : List Nat}
theorem pe_comp (S : CpScope X scope tn cn cap) (hc : X.calm = true) (hi : PI X tg iter wi)
    (hg : ∀ pins s H cl C fp, PG (X.block pins s H (tn ++ cn) scope cl C fp) tg g) (ht : ∀ pins s H cl C fp, PTs (X.block pins s H (tn ++ cn) scope cl C fp) ifs tt) (he : ∀ pins s H cl C fp, PE (X.block pins s H (tn ++ cn) scope cl C fp) elt te)
    (hs : ∀ x, foldedSetIterable iter X.env x = pure x := by intro _; rfl) : PE X (.ListComp elt [⟨tg, iter, ifs, 0⟩] scope pos) (tComp wi g tt te tn.length cap) := by
  intro pins s σ H Q I h
  obtain ⟨cl, ecl, hcl, hcl2⟩ := closure_get (env := X.env) (scope := scope) fun x hx hxf => I.ok.has x.1 (S.free x hx hxf)
  rw [eval_ListComp]
  refine wpAny_comprehension_free (use := none) rfl hs ecl S.kind S.names (thn (hi pins s σ H _ I h) fun v s1 h1 => thn h1 fun itv s2 h2 => ?_)
  obtain ⟨it, fp, tn', J, H2, e, I2, T, st2, f2, W, ⟨m0, w0⟩, turn⟩ := h2
  subst e
  refine thn (comp_run I2 S hc hcl hcl2 T st2 f2 (fun C => hg _ _ _ _ C _) (fun C => ht _ _ _ _ C _) (fun C => he _ _ _ _ C _) W w0 turn) fun acc s3 h3 => thn h3 fun cenv s4 h4 => codeAny_mono h4 fun r s5 h5 => ?_
  have hr := h5.ok
  subst hr
  obtain ⟨D, H', rfl, I5, q5, hCn, m, hm⟩ := h5.inv I2 f2
  exact ⟨m, hm, fun h' hs' => ⟨.ref D, H', I2.letgo h5.ge I5 hCn hs', rfl, q5⟩⟩
theorem ps_comp {i : Nat} {x : Str} {px spos : Pos} (S : CpScope X scope tn cn cap) (hc : X.calm = true) (hN : X.N.Nodup) (hi' : X.N[i]? = some x) (hx : X.env.scope.names.lookup x = some .local) (hi : PI X tg iter wi)
    (hg : ∀ pins s H cl C fp, PG (X.block pins s H (tn ++ cn) scope cl C fp) tg g) (ht : ∀ pins s H cl C fp, PTs (X.block pins s H (tn ++ cn) scope cl C fp) ifs tt) (he : ∀ pins s H cl C fp, PE (X.block pins s H (tn ++ cn) scope cl C fp) elt te)
    (hsw : swapsWith (.ListComp elt [⟨tg, iter, ifs, 0⟩] scope pos) (some (.Name x px)) spos.line X.env = pure true := by rfl)
    (hs : ∀ x, foldedSetIterable iter X.env x = pure x := by intro _; rfl) : PS X (.Assign [.Name x px] (.ListComp elt [⟨tg, iter, ifs, 0⟩] scope pos) spos) (tAsg (tComp wi g tt te tn.length cap) (gName i)) := by
  intro pins s σ H D I h
  obtain ⟨cl, ecl, hcl, hcl2⟩ := closure_get (env := X.env) (scope := scope) fun x hx hxf => I.ok.has x.1 (S.free x hx hxf)
  rw [exec_Assign_Name_used _ _ _ _ hsw]
  refine wpAny_bind (wpAny_standAt (wpAny_bind ?_))
  unfold evalThenUse
  refine wpAny_bind ?_
  refine wpAny_comprehension_free (use := some (assign (.Name x px) X.env)) rfl hs ecl S.kind S.names (thn (hi pins s σ H _ I h) fun v s1 h1 => thn h1 fun itv s2 h2 => ?_)
  obtain ⟨it, fp, tn', J, H2, e, I2, T, st2, f2, W, ⟨m0, w0⟩, turn⟩ := h2
  subst e
  refine thn (comp_run (Q := fun x' H1 => gName i x' σ H1 D.nx) I2 S hc hcl hcl2 T st2 f2 (fun C => hg _ _ _ _ C _) (fun C => ht _ _ _ _ C _) (fun C => he _ _ _ _ C _) W w0 turn) fun acc s3 h3 => thn h3 fun cenv s4 h4 => codeAny_mono h4 fun r s5 h5 => ?_
  have hr := h5.ok
  subst hr
  obtain ⟨Da, H', rfl, I5, q5, hCn, m, hm⟩ := h5.inv I2 f2
  show wpAny _ _ (assign (.Name x px) X.env (.ref Da)) _ _ s5
  refine wpAny_assign_Name (store_ok2 I5 hN hi' (.inl hx) (show RelV (.ref Da) (.ref Da) from rfl) (fun s6 I6 ⟨a, hsb, ha⟩ => ?_) (.inr hx))
  refine ⟨m, hm.sameBut hsb ?_, fun h' hs' => ?_⟩
  · rcases ha with z | z
    · exact Ne.symm (z ▸ ne_lt I2.lt h5.ge)
    · obtain ⟨vv, zc⟩ := I2.cell x a z
      exact Ne.symm (ne_lt zc.lt h5.ge)
  · exact wpAny_pure (wpAny_pure ⟨σ.set i (some (.ref Da)), H', I2.letgo h5.ge I6 hCn hs', q5⟩)
end
end L2

set_option linter.all false
set_option maxHeartbeats 4000000
namespace L2
open PySem PySem.Spec PyProof.Rows

theorem ObjOk.there {P : Program} {w : World} {H : Hp} {h : Heap} {a : Addr} {o : HO} (x : ObjOk P w H h a o) : ∃ ob, h.get? a = some ob := by
  cases o with
  | lst xs => obtain ⟨_, _, _, _, e⟩ := x; exact ⟨_, e⟩
  | tup xs => obtain ⟨_, _, _, ob, e, _⟩ := x; exact ⟨_, e⟩
  | dK kvs => obtain ⟨_, _, _, _, ob, _, _, e, _⟩ := x; exact ⟨_, e⟩
  | dT kvs => obtain ⟨_, _, _, _, ob, _, _, e, _⟩ := x; exact ⟨_, e⟩
  | set S n => obtain ⟨ob, _, _, _, e, _⟩ := x; exact ⟨_, e⟩
  | ins C dx fs => obtain ⟨_, _, _, e, _⟩ := x; exact ⟨_, e⟩
  | own y => exact x
  | xd fs => obtain ⟨_, ⟨ob, _, _, e, _⟩, _⟩ := x; exact ⟨_, e⟩
  | rng lo hi => obtain ⟨_, _, _, e⟩ := x; exact ⟨_, e⟩
  | frz ob u => obtain ⟨e, _⟩ := x; exact ⟨_, e⟩
  | tbl ps => exact ⟨_, show h.get? a = some _ from x⟩
  | met f y => exact ⟨_, show h.get? a = some _ from x⟩
  | ext φ => exact x.2.1
theorem HOk.nh {P : Program} {w : World} {H : Hp} {h : Heap} {a : Addr} (x : HOk P w H h) (e : h.get? a = none) : H a = none := by
  cases q : H a with
  | none => rfl
  | some o =>
    obtain ⟨ob, e'⟩ := (x a o q).there
    rw [e] at e'; cases e'

section
variable {X : Cx} {pins : List (Addr × Obj)} {σ : St} {H H' : Hp} {s : Shared} {h' : Heap}
theorem Inv.stepN {g' : Array GenState} {t' : Nat} {d' : Drawn} {ch : List Addr} (I : Inv X pins σ H s)
    (hch : ∀ b ∈ ch, (b ∈ X.ex ∨ X.s₀.heap.get? b = none) ∧ b ≠ X.env.locals ∧ (∀ x c, X.env.cells.lookup x = some c → c ≠ b) ∧ ∀ p ∈ X.pn ++ pins, p.1 ≠ b)
    (keep : ∀ b o, b ≠ X.env.locals → b ∉ X.fs → b ∉ ch → s.heap.get? b = some o → H b = none → h'.get? b = some o)
    (slot : ∀ b o, b ≠ X.env.locals → b ∈ X.fs → b ∉ ch → s.heap.get? b = some o → H b = none → ∃ sl, h'.get? b = some { o with slots := sl }) (free : ∀ b o, b ∉ ch → s.heap.get? b = some o → H b = none → H' b = none)
    (there : ∀ b o, b ∉ ch → s.heap.get? b = some o → ∃ o', h'.get? b = some o')
    (tups : ∀ b xs, H b = some (.tup xs) → H' b = some (.tup xs)) (frzs : ∀ b o u, H b = some (.frz o u) → H' b = some (.frz o u)) (tbls : ∀ b ps, H b = some (.tbl ps) → ∃ more, H' b = some (.tbl (ps ++ more)))
    (ns : ∀ m, s.heap.Ns X.env.locals m → h'.Ns X.env.locals m) (hok : HOk X.prog X.w H' h') (hg : AllBare g') :
    Inv X pins σ H' { s with heap := h', gens := g', drawn := d', toks := t' } := by
  have neL : ∀ b o, X.s₀.heap.get? b = some o → b ≠ X.env.locals := fun b o e => Nat.ne_of_lt (Nat.lt_of_lt_of_le (Heap.lt_size e) I.ok.above)
  have neC : ∀ b o, X.s₀.heap.get? b = some o → b ∉ X.ex → b ∉ ch := fun b o e hx hb => by
    rcases (hch b hb).1 with z | z
    · exact hx z
    · rw [e] at z; cases z
  have cellK : ∀ x c, X.env.cells.lookup x = some c → ∀ v, s.heap.IsCell c v → h'.IsCell c v := fun x c e v ⟨o, ho, hd⟩ => by
    have nch : c ∉ ch := fun z => (hch c z).2.2.1 x c e rfl
    by_cases hc : c ∈ X.fs
    · obtain ⟨sl, q⟩ := slot c o (I.cne x c e) hc nch ho (I.freeC x c e)
      exact ⟨_, q, hd⟩
    · exact ⟨o, keep c o (I.cne x c e) hc nch ho (I.freeC x c e), hd⟩
  refine ⟨I.ok, I.os, hg, ⟨fun b o e n hb hx => ?_, fun b o e n hb hx => ?_, fun b o e n hx => ?_, fun b o e hx => ?_, fun b xs e => tups b xs (I.base.tups b xs e), fun b o xs e => frzs b o xs (I.base.frzs b o xs e), fun b ps e => ?_⟩, ?_, fun x c e => ?_, ?_, fun x c e => ?_, fun p hp => ?_, hok, I.len⟩
  · exact keep b o (neL b o e) hb (neC b o e hx) (I.base.keep b o e n hb hx) (I.base.free b o e n hx)
  · obtain ⟨sl, e1⟩ := I.base.slot b o e n hb hx
    obtain ⟨sl', e2⟩ := slot b _ (neL b o e) hb (neC b o e hx) e1 (I.base.free b o e n hx)
    exact ⟨sl', e2⟩
  · obtain ⟨o', e1⟩ := I.base.there b o e hx
    exact free b o' (neC b o e hx) e1 (I.base.free b o e n hx)
  · obtain ⟨o', e1⟩ := I.base.there b o e hx
    exact there b o' (neC b o e hx) e1
  · obtain ⟨m1, e1⟩ := I.base.tbls b ps e
    obtain ⟨m2, e2⟩ := tbls b _ e1
    exact ⟨m1 ++ m2, by rw [e2, Array.append_assoc]⟩
  · obtain ⟨m, hn, hl⟩ := I.loc
    refine ⟨m, ns m hn, fun i x v e1 e2 e3 => ?_⟩
    obtain ⟨u, r, l⟩ := hl i x v e1 e2 e3
    refine ⟨u, r, ?_⟩
    rcases l with l | ⟨k, c, e, z⟩
    · exact .inl l
    · exact .inr ⟨k, c, e, cellK x c e _ z⟩
  · obtain ⟨v, z⟩ := I.cell x c e
    exact ⟨v, cellK x c e v z⟩
  · obtain ⟨m, ⟨o, _, _, ho, _⟩, _⟩ := I.loc
    exact free _ o (fun z => (hch _ z).2.1 rfl) ho I.free
  · obtain ⟨v, o, ho, hd⟩ := I.cell x c e
    exact free c o (fun z => (hch c z).2.2.1 x c e rfl) ho (I.freeC x c e)
  · obtain ⟨e, n, ne, nf, d⟩ := I.pin p hp
    have nch : p.1 ∉ ch := fun z => (hch p.1 z).2.2.2 p hp rfl
    exact ⟨keep p.1 p.2 ne nf nch e n, free p.1 p.2 nch e n, ne, nf, d⟩
end

structure Fly (bad : Addr → Prop) (H : Hp) (h : Heap) (e : Addr) (cls : Value) : Prop where
  nb : ¬ bad e
  free : H e = none
  ex : ∃ (oe : Obj) (vs : Array Value), h.get? e = some oe ∧ oe.cls = cls ∧ oe.dict = none ∧ oe.data = .fields vs ∧ (vs[1]? = some .none ∨
    ∃ (T : Addr) (oT : Obj) (ts : Array Value), vs[1]? = some (.ref T) ∧ ¬ bad T ∧ H T = none ∧ T ≠ e ∧ h.get? T = some oT ∧ oT.data = .fields ts ∧ ts[3]? = some .none)
theorem Fly.mono {bad bad' : Addr → Prop} {H : Hp} {h : Heap} {e : Addr} {cls : Value} (F : Fly bad H h e cls) (k : ∀ a, bad' a → bad a) : Fly bad' H h e cls := by
  obtain ⟨nb, fr, oe, vs, h1, h2, h3, h4, h5⟩ := F
  refine ⟨fun z => nb (k _ z), fr, oe, vs, h1, h2, h3, h4, ?_⟩
  rcases h5 with z | ⟨T, oT, ts, a, b, c⟩
  · exact .inl z
  · exact .inr ⟨T, oT, ts, a, fun z => b (k _ z), c⟩

section
variable {M : Model} {A : Around} {E : Value → Shared → Prop} {s : Shared}
theorem note_entry {base : Heap} {env : Env} {outer : List Env} {L e : Addr} {oe : Obj} {vs : Array Value} {hd : Value} {nx : Bool} {Q : Unit → Shared → Prop}
    (hfr : A.frames = some (env :: outer)) (hl : s.heap.FunFrames base (env :: outer)) (hf : env.frame = some L) (he : s.heap.get? e = some oe) (hdt : oe.data = .fields vs) (hsz : 1 < vs.size)
    (h : ∀ h' T oT ts, (∀ b o, s.heap.get? b = some o → b ≠ e → b ∉ frs (env :: outer) → h'.get? b = some o) → (∀ b o, s.heap.get? b = some o → b ≠ e → ∃ sl, h'.get? b = some { o with slots := sl }) →
      h'.get? e = some (oe.mapFields (·.setIfInBounds 1 (.ref T))) → s.heap.objs.size ≤ T → h'.get? T = some oT → oT.data = .fields ts → ts[3]? = some (rawInt L) → Q () { s with heap := h' }) :
    wpAny M A (do let a ← frameOf env; let pl ← entryPlaceOf L nx; let b ← EntryCells.newEntry hd a .none (rawInt L) .none pl; setField (.ref e) 1 b) Q E s := by
  have hne : e ∉ (env :: outer).filterMap (·.frame) := fun z => by
    obtain ⟨_, o, ho, hn⟩ := hl.mem z
    rw [he] at ho; cases ho
    exact hn vs hdt
  refine wpAny_bind (wpAny_frameOf_fun hfr hl hf fun h1 hs1 => ?_)
  refine wpAny_bind (wpAny_entryPlaceOf fun pl hpl => ?_)
  unfold EntryCells.newEntry newFields
  refine wpAny_bind (wpAny_newObj_type ?_ (hpl.sizeOk5 _ _ _ _ _))
  have he1 : h1.get? e = some oe := (hs1.2.1 e hne).trans he
  refine wpAny_setField (Heap.get?_push_of_some _ he1) hdt hsz ?_
  have hTe : h1.objs.size ≠ e := Nat.ne_of_gt (Heap.lt_size he1)
  have hd3 := Obj.data_mapFields hdt (·.setIfInBounds 1 (Value.ref h1.objs.size))
  have keep : ∀ b o, b ≠ e → h1.get? b = some o → ((h1.push { cls := .type "traceback", dict := none, data := .fields ([hd, .ref L, .none, rawInt L, .none] ++ (if pl.isEmpty then List.replicate 6 Value.none else pl)).toArray }).update e (Obj.mapFields (·.setIfInBounds 1 (Value.ref h1.objs.size)))).get? b = some o := fun b o hb e1 => by
    rw [Heap.get?_update_other _ _ (Ne.symm hb)]
    exact Heap.get?_push_of_some _ e1
  refine h _ h1.objs.size _ _ (fun b o e1 hb hnf => keep b o hb ((hs1.2.1 b hnf).trans e1)) (fun b o e1 hb => ?_) (Heap.get?_update_self _ (Heap.get?_push_of_some _ he1) (Obj.isFreed_of_fields hd3)) (by rw [hs1.1]; exact Nat.le_refl _)
    ((Heap.get?_update_other _ _ (Ne.symm hTe)).trans (Heap.get?_push_size _ rfl)) rfl ?_
  · obtain ⟨sl, e2⟩ := hs1.2.2 b o e1
    exact ⟨sl, keep b _ hb e2⟩
  · first | (simp; done) | (rcases hpl with rfl | ⟨_, _, _, _, _, _, _, rfl⟩ <;> simp)

structure Noted (fr : List Addr) (bad : Addr → Prop) (H : Hp) (e : Addr) (cls : Value) (h h' : Heap) : Prop where
  ch : ∃ ch : List Addr, (∀ b ∈ ch, ¬ bad b ∧ H b = none ∧ ∃ o vs, h.get? b = some o ∧ o.data = .fields vs) ∧ (∀ b o, h.get? b = some o → b ∉ ch → b ∉ fr → h'.get? b = some o) ∧
    (∀ b o, h.get? b = some o → b ∉ ch → ∃ sl, h'.get? b = some { o with slots := sl })
  fly : Fly bad H h' e cls

theorem fly_note {A2 : Around} {E2 : Value → Shared → Prop} {base : Heap} {env : Env} {outer : List Env} {L e : Addr} {cls : Value} {bad : Addr → Prop} {H : Hp} {Q : Unit → Shared → Prop}
    (hfr : A.frames = some (env :: outer)) (hl : s.heap.FunFrames base (env :: outer)) (hf : env.frame = some L) (F : Fly bad H s.heap e cls) (hb : ∀ a, s.heap.objs.size ≤ a → ¬ bad a) (hH : ∀ a, s.heap.objs.size ≤ a → H a = none)
    (h : ∀ h', Noted (frs (env :: outer)) bad H e cls s.heap h' → Q () { s with heap := h' }) :
    wpAny M A (noteFrame (.ref e) env) (fun _ s2 => wpAny M A2 (setFlight (.ref e) none) Q E2 s2) E s := by
  obtain ⟨nb, fr, oe, vs, he, hcls, hdict, hd, htb⟩ := F
  -- behind the entry: the flight's mark is taken off it
  have rest : ∀ (s1 : Shared) (ch : List Addr) (h' : Heap) (T : Addr) (oT : Obj) (ts : Array Value) (oe1 : Obj), (∀ b o, s.heap.get? b = some o → s1.heap.get? b = some o ∨ b ∈ ch) → s1.heap.objs.size = s.heap.objs.size → e ∈ ch → (∀ b ∈ ch, ¬ bad b ∧ H b = none ∧ ∃ o vs, s.heap.get? b = some o ∧ o.data = .fields vs) →
      oe1.cls = cls → oe1.dict = none → oe1.data = .fields vs → 1 < vs.size →
      (∀ b o, s1.heap.get? b = some o → b ≠ e → b ∉ frs (env :: outer) → h'.get? b = some o) → (∀ b o, s1.heap.get? b = some o → b ≠ e → ∃ sl, h'.get? b = some { o with slots := sl }) →
      h'.get? e = some (oe1.mapFields (·.setIfInBounds 1 (.ref T))) → s1.heap.objs.size ≤ T → h'.get? T = some oT → oT.data = .fields ts → ts[3]? = some (rawInt L) → wpAny M A2 (setFlight (.ref e) none) Q E2 { s with heap := h' } := by
    intro s1 ch h' T oT ts oe1 hk1 hsz hech hch hcls1 hdict1 hd1 hv k1 k2 e1 hT e2 hdT h3
    have hT' : s.heap.objs.size ≤ T := hsz ▸ hT
    have hTe : T ≠ e := Ne.symm (ne_lt (Heap.lt_size he) hT')
    have hde := Obj.data_mapFields hd1 (·.setIfInBounds 1 (Value.ref T))
    unfold setFlight
    refine wpAny_bind (wpAny_field e1 hde (x := .ref T) (by simp [hv]) ?_)
    rw [if_pos (show (Value.ref T != Value.none) = true from by simp)]
    have hs3 : 3 < ts.size := (Array.getElem?_eq_some_iff.mp h3).1
    refine wpAny_setField e2 hdT hs3 (h _ ?_)
    have oth : ∀ b, b ≠ T → (h'.update T (Obj.mapFields (·.setIfInBounds 3 ((none : Option Addr).elim Value.none fun f => rawInt f)))).get? b = h'.get? b := fun b hb' => Heap.get?_update_other _ _ (Ne.symm hb')
    have ltT : ∀ b o, s.heap.get? b = some o → b ≠ T := fun b o eb => ne_lt (Heap.lt_size eb) hT'
    refine ⟨⟨ch, hch, fun b o eb hbc hbf => ?_, fun b o eb hbc => ?_⟩, nb, fr, _, _, (oth e (Ne.symm hTe)).trans e1, (Obj.cls_mapFields _ _).trans hcls1, ?_, hde, .inr ⟨T, _, _, by simp [hv], hb T hT', hH T hT', hTe, Heap.get?_update_self _ e2 (Obj.isFreed_of_fields (Obj.data_mapFields hdT _)), Obj.data_mapFields hdT _, by simp [hs3]⟩⟩
    · rw [oth b (ltT b o eb)]
      rcases hk1 b o eb with z | z
      · exact k1 b o z (fun z' => hbc (z' ▸ hech)) hbf
      · exact absurd z hbc
    · rw [oth b (ltT b o eb)]
      rcases hk1 b o eb with z | z
      · exact k2 b o z (fun z' => hbc (z' ▸ hech))
      · exact absurd z hbc
    · obtain ⟨c1, c2, c3, c4⟩ := oe1
      dsimp only at hd1
      subst hd1
      exact hdict1
  unfold noteFrame
  simp only [hf]
  rcases htb with h1 | ⟨T0, oT0, ts0, h1, nbT, frT, neT, eT, dT, h3⟩
  · have hv : 1 < vs.size := (Array.getElem?_eq_some_iff.mp h1).1
    refine wpAny_bind (wpAny_field he hd h1 ?_)
    rw [if_neg (by decide)]
    refine note_entry hfr hl hf he hd hv fun h' T oT ts k1 k2 e1 hT e2 hdT h3 => ?_
    exact rest s [e] h' T oT ts oe (fun b o eb => .inl eb) rfl (by simp) (fun b hb' => by rw [List.mem_singleton] at hb'; subst hb'; exact ⟨nb, fr, oe, vs, he, hd⟩) hcls hdict hd hv k1 k2 e1 hT e2 hdT h3
  · have hv : 1 < vs.size := (Array.getElem?_eq_some_iff.mp h1).1
    refine wpAny_bind (wpAny_field he hd h1 ?_)
    rw [if_pos (show (Value.ref T0 != Value.none) = true from by simp)]
    refine wpAny_bind (wpAny_field eT dT h3 ?_)
    rw [if_neg (show ¬ ((Value.none == rawInt L) = true) from by simp [rawInt])]
    refine wpAny_bind (wpAny_setField eT dT (Array.getElem?_eq_some_iff.mp h3).1 ?_)
    have oth : ∀ b, b ≠ T0 → (s.heap.update T0 (Obj.mapFields (·.setIfInBounds 3 Value.none))).get? b = s.heap.get? b := fun b hb' => Heap.get?_update_other _ _ (Ne.symm hb')
    have nf : ∀ b o, s.heap.get? b = some o → (∀ vs, o.data ≠ .fields vs) → b ≠ T0 := fun b o eb hn z => by rw [z, eT] at eb; cases eb; exact hn ts0 dT
    refine note_entry hfr (hl.of_keeps fun b o eb hn => ⟨o, (oth b (nf b o eb hn)).trans eb, rfl⟩) hf ((oth e (Ne.symm neT)).trans he) hd hv fun h' T oT ts k1 k2 e1 hT e2 hdT h3' => ?_
    exact rest { s with heap := s.heap.update T0 (Obj.mapFields (·.setIfInBounds 3 Value.none)) } [e, T0] h' T oT ts oe
      (fun b o eb => by
        by_cases z : b = T0
        · exact .inr (by simp [z])
        · exact .inl ((oth b z).trans eb))
      (Heap.size_after_update ..) (by simp)
      (fun b hb' => by
        rcases List.mem_cons.mp hb' with z | z
        · subst z; exact ⟨nb, fr, oe, vs, he, hd⟩
        · rw [List.mem_singleton] at z; subst z; exact ⟨nbT, frT, oT0, ts0, eT, dT⟩)
      hcls hdict hd hv k1 k2 e1 hT e2 hdT h3'
end

def Cx.bad (X : Cx) (pins : List (Addr × Obj)) : Addr → Prop := fun a => X.s₀.heap.get? a ≠ none ∨ ∃ p ∈ X.pn ++ pins, p.1 = a
structure XOk (X : Cx) (E : St → XK) : Prop where
  po : PassesOwn (model X.prog X.w) X.A X.env X.xe
  ex : X.ex = []
  calm : X.calm = true
  go : ∀ (pins : List (Addr × Obj)) (σ : St) (H : Hp) (s : Shared) (e : Addr) (cls : Value), Inv X pins σ H s → Fly (X.bad pins) H s.heap e cls → E σ cls none H → X.xe (.ref e) s

section
variable {X : Cx} {pins : List (Addr × Obj)} {σ : St} {H : Hp} {s : Shared}
theorem Inv.notbad (I : Inv X pins σ H s) (hx : X.ex = []) {a : Addr} (h : s.heap.get? a = none) : ¬ X.bad pins a := fun z => by
  rcases z with z | ⟨p, hp, rfl⟩
  · cases q : X.s₀.heap.get? a with
    | none => exact z q
    | some o =>
      obtain ⟨o', e⟩ := I.base.there a o q (by rw [hx]; simp)
      rw [h] at e; cases e
  · have := (I.pin p hp).1
    rw [h] at this; cases this
theorem get_none {h : Heap} {a : Addr} (z : h.objs.size ≤ a) : h.get? a = none := by
  cases q : h.get? a with
  | none => rfl
  | some o => exact absurd (Nat.lt_of_lt_of_le (Heap.lt_size q) z) (Nat.lt_irrefl _)
theorem Inv.noted {e : Addr} {cls : Value} {h' : Heap} (I : Inv X pins σ H s) (N : Noted (frs X.stack) (X.bad pins) H e cls s.heap h') : Inv X pins σ H { s with heap := h' } := by
  obtain ⟨⟨ch, hch, k1, k2⟩, _⟩ := N
  obtain ⟨mL, ⟨oL, esL, epL, hoL, dL, rL⟩, _⟩ := id I.loc
  have chne : ∀ b ∈ ch, ∀ o, s.heap.get? b = some o → ∃ vs, o.data = .fields vs := fun b hb o eb => by
    obtain ⟨_, _, o', vs, e', d⟩ := hch b hb
    rw [eb] at e'; cases e'
    exact ⟨vs, d⟩
  have hL : X.env.locals ∉ ch := fun z => by
    obtain ⟨vs, d⟩ := chne _ z _ hoL
    rw [dL] at d; cases d
  refine I.stepN (g' := s.gens) (t' := s.toks) (d' := s.drawn) (ch := ch) (fun b hb => ⟨.inr ?_, fun z => hL (z ▸ hb), fun x c ec z => ?_, fun p hp z => (hch b hb).1 (.inr ⟨p, hp, z⟩)⟩)
    (fun b o hbL hbf hbc eb _ => k1 b o eb hbc fun z => (List.mem_cons.mp (I.stkSub b z)).elim hbL hbf) (fun b o _ _ hbc eb _ => k2 b o eb hbc) (fun _ _ _ _ n => n) (fun b o hbc eb => ?_) (fun _ _ q => q) (fun _ _ _ q => q) (fun b ps q => ⟨#[], by rw [q]; simp⟩) (fun m hm => ?_) (fun b o eb => ?_) I.bare
  · cases q : X.s₀.heap.get? b with
    | none => rfl
    | some o => exact absurd (.inl (by rw [q]; simp)) (hch b hb).1
  · obtain ⟨v, oc, hoc, hd⟩ := I.cell x c ec
    obtain ⟨vs, d⟩ := chne c (z ▸ hb) oc hoc
    rw [hd] at d; cases d
  · obtain ⟨sl, q⟩ := k2 b o eb hbc
    exact ⟨_, q⟩
  · obtain ⟨o', es', ep', ho', r'⟩ := hm
    rw [hoL] at ho'; cases ho'
    obtain ⟨sl, q⟩ := k2 _ _ hoL hL
    exact ⟨_, es', ep', q, r'⟩
  · refine (I.hok b o eb).stay (fun c u hc q => k1 c u q ?_ ?_) (fun _ q => q) fun _ _ q => q
    · intro z
      have fr := (hch c z).2.1
      rcases hc with rfl | hc
      · rw [eb] at fr; cases fr
      · rw [hc] at fr; cases fr
    · intro z
      have fr := I.stkFree c z
      rcases hc with rfl | hc
      · rw [eb] at fr; cases fr
      · rw [hc] at fr; cases fr

def cxE (P : Program) (w : World) : CXT := fun outer H s E e s' => ∃ (ea : Addr) (cls : Value) (H' : Hp), e = .ref ea ∧ s'.os = s.os ∧ AllBare s'.gens ∧ Un (frs outer) [] H H' s.heap s'.heap ∧ HOk P w H' s'.heap ∧ Fly (fun a => s.heap.get? a ≠ none) H' s'.heap ea cls ∧ E cls none H'
theorem cxE_no {P : Program} {w : World} {outer : List Env} {H : Hp} {s : Shared} {e : Value} {s' : Shared} (h : cxE P w outer H s (fun _ _ _ => False) e s') : False := by
  obtain ⟨_, _, _, _, _, _, _, _, _, f⟩ := h
  exact f

theorem XOk.passes {E : St → XK} (x : XOk X E) : Passes (cxE X.prog X.w) X E := fun pins σ H s e s' I h => by
  obtain ⟨ea, cls, H', rfl, os, bare, un, hok, F, q⟩ := h
  refine x.go pins σ H' s' ea cls (I.call' (ch := []) os un hok bare fun b z => absurd z (by simp)) (F.mono fun a z => ?_) q
  rcases z with z | ⟨p, hp, rfl⟩
  · cases q0 : X.s₀.heap.get? a with
    | none => exact absurd q0 z
    | some o =>
      obtain ⟨o', e⟩ := I.base.there a o q0 (by rw [x.ex]; simp)
      rw [e]; simp
  · rw [(I.pin p hp).1]; simp
theorem passesN {P : Program} {w : World} : Passes (cxE P w) X (fun _ => E0) := fun _ _ _ _ _ _ _ h => (cxE_no h).elim
end

theorem xok_fn {P : Program} {w : World} {K : PySem.W.Frag} {mg : Str → Option Value} {base : Heap} {N : List Str} {qual : Str} {scope : Scope} {f : Addr} {cd : Value} {A : Around} {outer : List Env} {s : Shared} {H : Hp} {E : XK} :
    XOk (cxOf (cxE P w) P w K mg base N qual scope f cd A outer s H E) (fun _ => E) where
  po := PassesOwn.leaving
  ex := rfl
  calm := rfl
  go := fun pins σ H' s' e cls I F q => by
    have hfr : (A.deeper (envOfC qual scope s.heap.objs.size f cd)).frames = some (envOfC qual scope s.heap.objs.size f cd :: outer) := I.ok.frames
    show wpAny _ _ (leaving _ _) _ _ _
    unfold leaving
    refine wpAny_bind (fly_note hfr I.stack rfl F (fun a z => I.notbad rfl (get_none z)) (fun a z => I.hok.fresh z) fun h' N => ?_)
    have I' := I.noted N
    exact ⟨e, cls, H', rfl, I'.os, I'.bare, I'.base, I'.hok, N.fly.mono fun a z => .inl z, q⟩

structure Exc (K : PySem.W.Frag) (C : Addr) : Prop where
  ex : PySem.W.excIn K C [.type "ValueError", .type "Exception", .type "BaseException", .type "object"] "ValueError.__new__" = true
theorem Exc.obj {K : PySem.W.Frag} {C : Addr} {h : Heap} (x : Exc K C) (X : K.In h) : ∃ (tl : List Value) (N : Addr) (nm q : Str) (bs : List Value) (hdct : Bool) (sn : List Str) (sub : List Value) (ab : Bool) (col : Option Bool) (dd : Option Addr) (k0 k1 k2 k3 k5 : Option Value) (mN : Str → Option Value),
    h.get? C = some (excClassObj nm q C N bs tl hdct sn sub ab col dd k0 k1 k2 k3 k5 "ValueError.__new__") ∧ h.Ns N mN ∧ mN "__init__" = none ∧ OwnTail h [.type "ValueError", .type "Exception", .type "BaseException", .type "object"] tl := by
  have q := x.ex
  unfold PySem.W.excIn at q
  split at q
  · rename_i dd cd sl ho
    split at q
    · rename_i C' bm k0 k1 k2 k3 n k5 hm hs
      simp only [Bool.and_eq_true, beq_iff_eq, Bool.not_eq_true'] at q
      obtain ⟨⟨⟨⟨⟨rfl, rfl⟩, hdel⟩, ht⟩, hok⟩, hni⟩ := q
      obtain ⟨nm, bs, mro, ns, qn, hd, sn, sub, ab, col, del⟩ := cd
      dsimp only at hm hdel hok hni
      subst hm hdel
      obtain ⟨l⟩ := sl
      simp only at hs
      subst hs
      exact ⟨bm, ns, nm, qn, bs, hd, sn, sub, ab, col, dd, k0, k1, k2, k3, k5, _, X _ _ ho, .of_isNs (PySem.W.isNs_of_in X hok), PySem.W.nsMap_none_of_in X hok hni, PySem.W.tail_of_in X ht⟩
    · cases q
  · cases q

def tRaise (C : Addr) (E : St → XK) (t : TA) : TS := fun _ σ H => t σ H fun vs H1 => vs.length ≤ sizeLine ∧ E σ (.ref C) none H1
section
variable {X : Cx} {E : St → XK} {C : Addr} {x : Str} {np cpos pos : Pos} {e : Expr} {es : List Expr} {t : TA}
theorem ps_raise (hx : XOk X E) (c : Exc X.K C) (hg : Gl X x) (hm : X.mg x = some (.ref C)) (ha : PA X (e :: es) t) (hdb : (x == ("__debug__" : Str)) = false := by decide)
    (he : starEach (e :: es) X.env = (false, eval e X.env) :: starEach es X.env := by rfl) (hpl : (backTo cpos (starEach es X.env)).any (·.1) = false := by rfl) :
    PS X (.Raise (some (.Call (.Name x np) (e :: es) [] cpos)) none pos) (tRaise C E t) := by
  intro pins s σ H D I h
  obtain ⟨tl, N, nm, q, bs, hdct, sn, sub, ab, col, dd, k0, k1, k2, k3, k5, mN, hC, hN, hni, T⟩ := c.obj I.mod.kin
  have hpl2 : (backTo cpos (starEach (e :: es) X.env)).any (·.1) = false := by
    rw [he]
    show (false || (backTo cpos (starEach es X.env)).any (·.1)) = false
    rw [hpl]; rfl
  refine wpAny_Raise_call_subT (C := C) (nm := nm) (q := q) (N := N) (bs := bs) (bm := tl) (hdct := hdct) (sn := sn) (sub := sub) (ab := ab) (col := col) (dd := dd) (k0 := k0) (k1 := k1) (k2 := k2) (k3 := k3) (k5 := k5)
    PySem.F.excBase_ValueError (mN := mN) (T.hasType PySem.F.excBase_ValueError.hasBase) (I.ok.hd hx.calm) hpl2 hni (ld_glob I hg hm ⟨rfl, ?_⟩ hdb)
  have hq := ha cpos pins s σ H _ I h
  rw [he] at hq ⊢
  refine Calls.evalArgs_plain (thn hq fun us s1 ⟨vs, H1, I1, r, hz, q1⟩ => ⟨rfl, ?_, I1.bk _ _ hC, hN.keeps I1.bk, T.keeps I1.bk, fun h' ea hM => ?_⟩)
  · show us.length ≤ _
    rw [← r.length]; exact hz
  · have I2 : Inv X pins σ H1 { s1 with heap := h' } := I1.kept (t' := s1.toks) hM.keeps
    obtain ⟨tt, h1, h2, h3⟩ := hM.there
    refine hx.go pins σ H1 _ ea (.ref C) I2 ⟨fun z => I1.notbad hx.ex hM.new z, I1.hok.nh hM.new, _, _, h1, rfl, rfl, rfl, .inl rfl⟩ q1
end
end L2

set_option linter.all false
set_option maxHeartbeats 4000000
namespace L2
open PySem PySem.Spec PyProof.Rows

section
variable (P : Program) (w : World) (K : PySem.W.Frag) (mg : Str → Option Value) (base : Heap)
structure Cal (k : Nat) (x : Str) (ps : List Str) (sp : Sp) : Prop where
  ex : ∃ (f : Addr) (fd : FuncData), FnOk P w K mg base (cxE P w) k f fd ps sp ∧ mg x = some (.ref f) ∧ PySem.W.keepIn K (.ref f) = true ∧ Binds K fd ps []
structure MCal (C : Addr) (k : Nat) (m : Str) (ps : List Str) (sp : Sp) : Prop where
  ex : ∃ (f : Addr) (fd : FuncData), FnOk P w K mg base (cxE P w) k f fd ps sp ∧ Meth K C m f ∧ Binds K fd ps []
structure NCal (C : Addr) (k : Nat) (x : Str) (ps : List Str) (sp : Sp) : Prop where
  ex : ∃ (f : Addr) (fd : FuncData), FnOk P w K mg base (cxE P w) k f fd ps sp ∧ Mk K C f ∧ mg x = some (.ref C) ∧ Binds K fd ps []
end
section
variable {X : Cx} {E : St → XK} {k : Nat} {x m : Str} {ps : List Str} {sp : Sp} {C : Addr} {p pos apos : Pos} {e o : Expr} {es : List Expr} {ta : TE} {t : TA}
theorem pe_callX (c : Cal X.prog X.w X.K X.mg X.base k x ps sp) (hr : Room k X.A) (hp : Passes (cxE X.prog X.w) X E) (hg : Gl X x) (ha : PA X (e :: es) t) (hdb : (x == ("__debug__" : Str)) = false := by decide)
    (he : starEach (e :: es) X.env = (false, eval e X.env) :: starEach es X.env := by rfl) (hpl : (backTo pos (starEach es X.env)).any (·.1) = false := by rfl) : PE X (.Call (.Name x p) (e :: es) [] pos) (tCall sp [] E t) := by
  obtain ⟨f, fd, F, hm, hk, hb⟩ := c.ex
  exact pe_call F hr hg hm hk hb .nil hp ha hdb he hpl
theorem pe_methX {pl : Sem Bool} (he : PE X o ta) (cl : Cls X.K C) (c : MCal X.prog X.w X.K X.mg X.base C k m ps sp) (hr : Room k X.A) (hp : Passes (cxE X.prog X.w) X E) (ha : PA X (e :: es) t)
    (hst : starEach (e :: es) X.env = (false, eval e X.env) :: starEach es X.env := by rfl) (hpl : (backTo pos (starEach es X.env)).any (·.1) = false := by rfl)
    (ht : eval (.Call (.Attribute o m apos) (e :: es) [] pos) X.env = (do
      let ov ← eval o X.env
      standAt apos.atName
      let (f, first) ← holding [ov] (getMethod ov m pl)
      callWith pos f first (backTo pos (starEach (e :: es) X.env)) (backToKw pos (keywordEach [] X.env))) := by rfl) : PE X (.Call (.Attribute o m apos) (e :: es) [] pos) (tMeth C m sp [] E ta t) := by
  obtain ⟨f, fd, F, hm, hb⟩ := c.ex
  exact pe_meth he cl hm F hr hb .nil hp ha hst hpl ht
theorem pe_methX0 {pl : Sem Bool} (he : PE X o ta) (cl : Cls X.K C) (c : MCal X.prog X.w X.K X.mg X.base C k m ps sp) (hr : Room k X.A) (hp : Passes (cxE X.prog X.w) X E)
    (ht : eval (.Call (.Attribute o m apos) [] [] pos) X.env = (do
      let ov ← eval o X.env
      standAt apos.atName
      let (f, first) ← holding [ov] (getMethod ov m pl)
      callWith pos f first (backTo pos (starEach [] X.env)) (backToKw pos (keywordEach [] X.env))) := by rfl) : PE X (.Call (.Attribute o m apos) [] [] pos) (tMeth C m sp [] E ta tNil) := by
  obtain ⟨f, fd, F, hm, hb⟩ := c.ex
  exact pe_meth0 he cl hm F hr hb .nil hp ht
theorem pe_makeX (c : NCal X.prog X.w X.K X.mg X.base C k x ps sp) (hr : Room (k + 1) X.A) (hp : Passes (cxE X.prog X.w) X E) (hg : Gl X x) (ha : PA X (e :: es) t) (hdb : (x == ("__debug__" : Str)) = false := by decide)
    (he : starEach (e :: es) X.env = (false, eval e X.env) :: starEach es X.env := by rfl) (hpl : (backTo pos (starEach es X.env)).any (·.1) = false := by rfl) : PE X (.Call (.Name x p) (e :: es) [] pos) (tMake C sp [] E t) := by
  obtain ⟨f, fd, F, M, hm, hb⟩ := c.ex
  exact pe_make M F hr hg hm hb .nil hp ha hdb he hpl
end

theorem Fun.okE {P : Program} {w : World} {K : PySem.W.Frag} {mg : Str → Option Value} {base : Heap} {x qual : Str} {st : Stmt} {f : Addr} {fd : FuncData} {N ps : List Str} {k : Nat} {sp : Sp} (F : Fun K x qual st f fd) (S : FnScope N ps (defScope st)) (len : ∀ vs H Q E, sp vs H Q E → vs.length = ps.length)
    (hbody : ∀ (cdv : Value) (A : Around) (outer : List Env) (s : Shared) (H : Hp) (vs : List V) (Q : VK) (E : XK), Room k (A.deeper (envOfC qual (defScope st) s.heap.objs.size f cdv)) → sp vs H Q E →
      ∃ t, PSs (cxOf (cxE P w) P w K mg base N qual (defScope st) f cdv A outer s H E) (defBody st) t ∧ t { nx := fun _ H' => Q .non H', rt := Q } (start N vs) H) : FnOk P w K mg base (cxE P w) (k + 1) f fd ps sp := by
  obtain ⟨oc, od, kV, doc, pm, an, cdv, ct, osl, rfl, l, c⟩ := F.ex
  exact fn_of l c S len fun A outer s H vs Q E hr h => hbody cdv A outer s H vs Q E hr h

def GV (mg : Str → Option Value) (x : Str) (v : V) : Prop := ∃ u, mg x = some u ∧ RelV v u
abbrev Cx.tri (X : Cx) (pn : List (Addr × Obj)) (xe : Value → Shared → Prop) : Cx := { X with pn := pn, xe := xe }
abbrev Cx.hand (X : Cx) (e : Addr) : Cx := { X with A := X.A.mark (some (.ref e)), calm := false, xe := fun _ _ => False }
section
variable {X : Cx} {pins : List (Addr × Obj)} {σ : St} {H : Hp} {s : Shared}
theorem Cx.Ok.tri {pn : List (Addr × Obj)} {xe : Value → Shared → Prop} (ok : X.Ok) : (X.tri pn xe).Ok :=
  ⟨ok.mod, ok.kind, ok.glob, ok.blt, ok.above, ok.inj, ok.has, ok.cab, ok.hd, ok.frames, ok.stk, ok.exf, ok.bs, ok.bsz, ok.noex, ok.exfs, ok.funs, ok.frf⟩
theorem Inv.tri {xe : Value → Shared → Prop} (I : Inv X pins σ H s) : Inv (X.tri (X.pn ++ pins) xe) [] σ H s :=
  ⟨I.ok.tri, I.os, I.bare, I.base, I.loc, I.cell, I.free, I.freeC, fun p hp => I.pin p (by simpa using hp), I.hok, I.len⟩
theorem Cx.Ok.untri {pn : List (Addr × Obj)} {xe : Value → Shared → Prop} (ok : (X.tri pn xe).Ok) : X.Ok :=
  ⟨ok.mod, ok.kind, ok.glob, ok.blt, ok.above, ok.inj, ok.has, ok.cab, ok.hd, ok.frames, ok.stk, ok.exf, ok.bs, ok.bsz, ok.noex, ok.exfs, ok.funs, ok.frf⟩
theorem Inv.untri {pl : List (Addr × Obj)} {xe : Value → Shared → Prop} (I : Inv (X.tri (X.pn ++ pins) xe) pl σ H s) : Inv X pins σ H s :=
  ⟨I.ok.untri, I.os, I.bare, I.base, I.loc, I.cell, I.free, I.freeC, fun p hp => I.pin p (List.mem_append_left _ hp), I.hok, I.len⟩
theorem Cx.Ok.hand {e : Addr} (ok : X.Ok) : (X.hand e).Ok :=
  ⟨ok.mod, ok.kind, ok.glob, ok.blt, ok.above, ok.inj, ok.has, ok.cab, (fun z => nomatch z), ok.frames, ok.stk, ok.exf, ok.bs, ok.bsz, ok.noex, ok.exfs, ok.funs, ok.frf⟩
theorem Inv.hand {e : Addr} (I : Inv X pins σ H s) : Inv (X.hand e) pins σ H s := ⟨I.ok.hand, I.os, I.bare, I.base, I.loc, I.cell, I.free, I.freeC, I.pin, I.hok, I.len⟩
theorem Inv.unhand {e : Addr} (ok : X.Ok) (I : Inv (X.hand e) pins σ H s) : Inv X pins σ H s := ⟨ok, I.os, I.bare, I.base, I.loc, I.cell, I.free, I.freeC, I.pin, I.hok, I.len⟩
end

def ExcAt (e : Addr) (cls : Value) : Heap → Prop := fun h => ∃ oe vs, h.get? e = some oe ∧ oe.cls = cls ∧ oe.dict = none ∧ oe.data = .fields vs
abbrev TH := Value → Ends → St → Hp → Prop
def Ends.drop (D : Ends) (i : Nat) : Ends := { nx := fun σ H => D.nx (σ.set i none) H, rt := D.rt, bk := fun σ H => D.bk (σ.set i none) H, ct := fun σ H => D.ct (σ.set i none) H }
def tTry (tb : (St → XK) → TS) (th : TH) : TS := fun D σ H => tb (fun σ' cls _ H' => th cls D σ' H') D σ H
section
variable {X : Cx} {hs : List ExceptHandler} {h₀ : ExceptHandler} {th : TH} {body : List Stmt} {tb : (St → XK) → TS} {pos : Pos}
theorem SP.unhand {pins : List (Addr × Obj)} {D : Ends} {e : Addr} {f : Flow} {s : Shared} (ok : X.Ok) (h : SP (X.hand e) pins D f s) : SP X pins D f s := by
  cases f with
  | next => obtain ⟨σ1, H1, I1, q⟩ := h; exact ⟨σ1, H1, I1.unhand ok, q⟩
  | brk => obtain ⟨σ1, H1, I1, q⟩ := h; exact ⟨σ1, H1, I1.unhand ok, q⟩
  | cont => obtain ⟨σ1, H1, I1, q⟩ := h; exact ⟨σ1, H1, I1.unhand ok, q⟩
  | ret u => obtain ⟨v, σ1, H1, I1, r, q⟩ := h; exact ⟨v, σ1, H1, I1.unhand ok, r, q⟩
end
end L2

set_option linter.all false
set_option maxHeartbeats 4000000
namespace L2
open PySem PySem.Spec PyProof.Rows

mutual
inductive Rep (K : PySem.W.Frag) (H : Hp) : V → PyData → Prop
  | non : Rep K H .non .none
  | bl (b : Bool) : Rep K H (.bl b) (.bool b)
  | int (i : Int) : Rep K H (.int i) (.int i)
  | str (x : Str) : Rep K H (.str x) (.str x)
  | lst {a : Addr} {xs : List V} {ds : List PyData} : SqL K H a xs → RepAll K H xs ds → Rep K H (.ref a) (.list ds)
  | tup {a : Addr} {xs : List V} {ds : List PyData} : SqT K H a xs → RepAll K H xs ds → Rep K H (.ref a) (.tuple ds)
inductive RepAll (K : PySem.W.Frag) (H : Hp) : List V → List PyData → Prop
  | nil : RepAll K H [] []
  | cons {v : V} {d : PyData} {vs : List V} {ds : List PyData} : Rep K H v d → RepAll K H vs ds → RepAll K H (v :: vs) (d :: ds)
end
section
variable {X : Cx} {pins : List (Addr × Obj)} {σ : St} {H : Hp} {s : Shared}
mutual
theorem Rep.reads (I : Inv X pins σ H s) : ∀ {v : V} {d : PyData} {u : Value}, Rep X.K H v d → RelV v u → ∃ as, Reads s.heap u d as
  | _, _, _, .non, r => by cases (show _ = Value.none from r); exact ⟨_, .none⟩
  | _, _, _, .bl b, r => by cases (show _ = Value.bool b from r); exact ⟨_, .bool b⟩
  | _, _, _, .int i, r => by obtain ⟨t, e⟩ := (show ∃ t, _ = Value.int i t from r); cases e; exact ⟨_, .int i t⟩
  | _, _, _, .str x, r => by obtain ⟨t, e⟩ := (show ∃ t, _ = Value.str x t from r); cases e; exact ⟨_, .str x t⟩
  | _, _, _, .lst (a := a) h hr, r => by
    cases (show _ = Value.ref a from r)
    obtain ⟨its, rv, p, _⟩ := I.list h
    obtain ⟨as, q⟩ := RepAll.reads I hr rv
    obtain ⟨o, e1, e2, n, e3⟩ := p.isList
    exact ⟨_, .list e1 e2 e3 q⟩
  | _, _, _, .tup (a := a) h hr, r => by
    cases (show _ = Value.ref a from r)
    obtain ⟨its, rv, p, _⟩ := I.tuple h
    obtain ⟨as, q⟩ := RepAll.reads I hr rv
    obtain ⟨o, e1, e2, n, e3⟩ := p
    exact ⟨_, .tuple e1 e2 e3 q⟩
theorem RepAll.reads (I : Inv X pins σ H s) : ∀ {vs : List V} {ds : List PyData} {us : List Value}, RepAll X.K H vs ds → Vals vs us → ∃ as, ReadsAll s.heap us ds as
  | _, _, _, .nil, .nil => ⟨_, .nil⟩
  | _, _, _, .cons h hr, .cons r rr => by
    obtain ⟨as, q⟩ := Rep.reads I h r
    obtain ⟨bs, q2⟩ := RepAll.reads I hr rr
    exact ⟨_, .cons q q2⟩
end
end
abbrev shp (d : PyData) : Prop := PySem.SeqAt.shaped d = true
def rEqA (K : PySem.W.Frag) : R2 := fun x y H Q => if scal x y = true then Q (.bl (decide (x = y))) H else ∃ d e, Rep K H x d ∧ Rep K H y e ∧ shp d ∧ shp e ∧ Q (.bl (PyData.eqv d e)) H
def rNeA (K : PySem.W.Frag) : R2 := fun x y H Q => if scal x y = true then Q (.bl (!decide (x = y))) H else ∃ d e, Rep K H x d ∧ Rep K H y e ∧ shp d ∧ shp e ∧ Q (.bl (!PyData.eqv d e)) H
section
variable {X : Cx}
theorem op_eqA (hu : X.A.units + 64 < cLine) : OpR X (compareOp .Eq) (rEqA X.K) := by
  intro pins s σ H x y v u Q I rx ry h
  unfold rEqA at h
  split at h
  · rename_i hs
    exact op_eq pins s σ H x y v u Q I rx ry ⟨hs, h⟩
  · obtain ⟨d, e, rd, re, sd, se, q⟩ := h
    obtain ⟨as, ra⟩ := rd.reads I rx
    obtain ⟨bs, rb⟩ := re.reads I ry
    exact eq_dataH ra rb sd se hu ⟨.bl _, H, I, rfl, q⟩
theorem op_neA (hu : X.A.units + 64 < cLine) : OpR X (compareOp .NotEq) (rNeA X.K) := by
  intro pins s σ H x y v u Q I rx ry h
  unfold rNeA at h
  split at h
  · rename_i hs
    exact op_ne pins s σ H x y v u Q I rx ry ⟨hs, h⟩
  · obtain ⟨d, e, rd, re, sd, se, q⟩ := h
    obtain ⟨as, ra⟩ := rd.reads I rx
    obtain ⟨bs, rb⟩ := re.reads I ry
    exact ne_dataH ra rb sd se hu ⟨.bl _, H, I, rfl, q⟩

def rCatT0 (K : PySem.W.Frag) : R2 := fun x y H Q => ∃ a b ys, x = .ref a ∧ y = .ref b ∧ SqT K H a [] ∧ SqT K H b ys ∧ Q (.ref b) H
theorem op_catT0 : OpR X (binaryOp .Add) (rCatT0 X.K) := by
  intro pins s σ H x y v u Q I rx ry h
  obtain ⟨a, b, ys, rfl, rfl, ha, hb, q⟩ := h
  cases rx
  cases ry
  obtain ⟨its, r1, ⟨⟨c1, c2, c3, c4⟩, e1, e2, n1, e3⟩, _⟩ := I.tuple ha
  obtain ⟨its2, r2, ⟨⟨d1, d2, d3, d4⟩, f1, f2, n2, f3⟩, _⟩ := I.tuple hb
  obtain rfl : c1 = _ := e2
  obtain rfl : c3 = _ := e3
  obtain rfl : d1 = _ := f2
  obtain rfl : d3 = _ := f3
  cases r1
  exact concat_meets ⟨_, e1, rfl⟩ ⟨_, f1, rfl⟩ noFill_tuple_add seq_tuple_add PySem.F.slot_tuple_add PySem.F.entry_tuple_add (PySem.F.args_tuple_add_2 _ _) (tuple_addW0 a b #[] its2.toArray n1 n2 c2 d2 c4 d4 rfl) ⟨e1, f1, .ref b, H, I, rfl, q⟩
def rAddA (K : PySem.W.Frag) : R2 := fun x y H Q => match x, y with
  | .int i, .int j => Q (.int (i + j)) H
  | .str i, .str j => i.length + j.length ≤ sizeLine ∧ Q (.str (i ++ j)) H
  | .ref _, .ref _ => rCat x y H Q ∨ rCatT K x y H Q ∨ rCatT0 K x y H Q
  | _, _ => False
theorem op_addA : OpR X (binaryOp .Add) (rAddA X.K) := by
  intro pins s σ H x y v u Q I rx ry h
  cases x <;> cases y <;> simp only [rAddA] at h
  · exact op_add pins s σ H _ _ v u Q I rx ry ⟨_, _, rfl, rfl, h⟩
  · exact op_add_str pins s σ H _ _ v u Q I rx ry ⟨_, _, rfl, rfl, h⟩
  · rcases h with h | h
    · exact op_cat pins s σ H _ _ v u Q I rx ry h
    rcases h with h | h
    · exact op_catT pins s σ H _ _ v u Q I rx ry h
    · exact op_catT0 pins s σ H _ _ v u Q I rx ry h
def rLtA : R2 := fun x y H Q => match x, y with
  | .int i, .int j => Q (.bl (decide (i < j))) H
  | .str i, .str j => Q (.bl (decide (i.cps.toList < j.cps.toList))) H
  | _, _ => False
def rLeA : R2 := fun x y H Q => match x, y with
  | .int i, .int j => Q (.bl (decide (i ≤ j))) H
  | .str i, .str j => Q (.bl (!decide (j.cps.toList < i.cps.toList))) H
  | _, _ => False
end
end L2

set_option linter.all false
set_option maxRecDepth 100000
set_option maxHeartbeats 4000000
namespace L2
open PySem PySem.Spec PyProof.Rows

theorem noFill_tuple_mul : fillsNumberSlot (.type "tuple") "mul" = pure false :=
  PySem.fillsNumberSlot_seq (id := "tuple.__mul__") (r := some (.builtin "tuple.__rmul__")) F.slot_tuple_mul.lookup (by decide +kernel) F.slot_tuple_rmul.lookup (by decide +kernel)
theorem repeat_tuple : seqRepeat? (.type "tuple") = pure (some (.builtin "tuple.__mul__")) := by
  unfold seqRepeat?
  rw [PySem.seqSlot_of (T := "tuple") (name := "__mul__") (id := "tuple.__mul__") F.slot_tuple_mul.lookup (by decide +kernel), PySem.seqSlot_of (T := "tuple") (name := "__rmul__") (id := "tuple.__rmul__") F.slot_tuple_rmul.lookup (by decide +kernel)]
  rfl
theorem rmul_int_tuple (a : Int) (t : Tok) (l : Addr) (items : Array Value) (dd : Option Addr) (n : Nat) (sl : Array (Option Value)) :
    Meets (Builtin.«int.__rmul__» ⟨[.int a t, .ref l], []⟩) (fun _ R s => s.heap.get? l = some ⟨.type "tuple", dd, .seq items n, sl⟩ ∧ R (.ok (.ret Value.notImplemented)) s) :=
  .of_wp fun prog w A R s h => by obtain ⟨hp, g, d, tk, os⟩ := s; obtain ⟨hl, h⟩ := h; wp_walk; exact ⟨_, rfl, h⟩
theorem mul_tuple_pos (l : Addr) (items : Array Value) (dd : Option Addr) (n : Nat) (sl : Array (Option Value)) (x : Int) (u : Tok) (h1 : 1 < x) (h2 : x < 2 ^ 63) (hne : items.isEmpty = false) (hz : items.size * x.toNat ≤ sizeLine) :
    Meets (Builtin.«tuple.__mul__» ⟨[.ref l, .int x u], []⟩) (fun _ R s => s.heap.get? l = some ⟨.type "tuple", dd, .seq items n, sl⟩ ∧
      R (.ok (.ret (Value.ref s.heap.objs.size))) { s with heap := s.heap.push { cls := Value.type "tuple", data := Data.seq (List.foldl (fun x1 x2 => x1 ++ x2) #[] (List.replicate x.toNat items)) } }) :=
  .of_wp fun prog w A R s h => by
    obtain ⟨hp, g, d, tk, os⟩ := s; obtain ⟨hl, h⟩ := h
    have hsl : (sizeLine : Nat) ≤ (2 ^ 63 - 1) / 8 := by decide
    have hlen : (List.foldl (fun x1 x2 => x1 ++ x2) #[] (List.replicate x.toNat items)).size ≤ sizeLine := by
      have := foldl_rep items.toList x.toNat []
      simp only [List.nil_append, Array.toArray_toList] at this
      rw [this]
      simp only [List.size_toArray, List.length_flatten, List.map_replicate, List.sum_replicate_nat, Array.length_toList]
      rw [Nat.mul_comm]; exact hz
    have hx : ∃ N : Nat, (items.size : Int) * x = (N : Int) ∧ N ≤ sizeLine := ⟨items.size * x.toNat, by rw [Int.natCast_mul, Int.toNat_of_nonneg (by omega)], hz⟩
    obtain ⟨N, hx, hN⟩ := hx
    unfold Builtin.«tuple.__mul__»
    wp_walk
    refine wpAny_ite_false (by simp; omega) ?_
    wp_walk
    refine wpAny_ite_false (by simp only [hne, Bool.false_or]; simp; omega) ?_
    refine wpAny_ite_false (by simp only [hne, Bool.or_false]; simp; omega) ?_
    refine wpAny_ite_false (by rw [hx]; exact decide_eq_false (by omega)) ?_
    refine wpAny_ite_false (by rw [hx]; unfold Builtin.Tuple.tupleTooMany; simp; omega) ?_
    wp_walk
    exact ⟨_, rfl, h⟩
theorem mul_tuple_one (l : Addr) (items : Array Value) (dd : Option Addr) (n : Nat) (sl : Array (Option Value)) (u : Tok) :
    Meets (Builtin.«tuple.__mul__» ⟨[.ref l, .int 1 u], []⟩) (fun _ R s => s.heap.get? l = some ⟨.type "tuple", dd, .seq items n, sl⟩ ∧ R (.ok (.ret (Value.ref l))) s) :=
  .of_wp fun prog w A R s h => by
    obtain ⟨hp, g, d, tk, os⟩ := s; obtain ⟨hl, h⟩ := h
    unfold Builtin.«tuple.__mul__»
    wp_walk
    exact ⟨_, rfl, h⟩
def rRepT (K : PySem.W.Frag) : R2 := fun x y H Q => ∃ a k xs, x = .ref a ∧ y = .int k ∧ SqT K H a xs ∧ xs ≠ [] ∧ 1 ≤ k ∧ k < 2 ^ 63 ∧ xs.length * k.toNat ≤ sizeLine ∧
  (k = 1 → Q (.ref a) H) ∧ (k ≠ 1 → ∀ p, H p = none → Q (.ref p) (upd H p (.tup (List.replicate k.toNat xs).flatten)))
section
variable {X : Cx}
theorem Inv.tnew {pins : List (Addr × Obj)} {σ : St} {H : Hp} {s : Shared} {ys : List V} {its : List Value} (I : Inv X pins σ H s) (hv : Vals ys its) (hz : ys.length ≤ sizeLine) :
    Inv X pins σ (upd H s.heap.objs.size (.tup ys)) { s with heap := s.heap.push { cls := .type "tuple", data := .seq its.toArray } } :=
  I.laid (t' := s.toks) (fun _ _ q => Heap.get?_push_of_some _ q) (Nat.le_refl _) ⟨hz, its, hv, _, Heap.get?_push_size _ rfl, rfl, 0, rfl⟩
theorem op_repT : OpR X (binaryOp .Mult) (rRepT X.K) := by
  intro pins s σ H x y v u Q I rx ry h
  obtain ⟨a, k, xs, rfl, rfl, hx, hne, h1, h2, hz, q1, q2⟩ := h
  cases rx
  obtain ⟨t, rfl⟩ := ry
  obtain ⟨its, r, ⟨⟨c1, c2, c3, c4⟩, e1, e2, n, e3⟩, _⟩ := I.tuple hx
  obtain rfl : c1 = _ := e2
  obtain rfl : c3 = _ := e3
  have hl := r.length
  have he : its.toArray.isEmpty = false := by
    cases its with
    | nil => exact absurd (List.length_eq_zero_iff.mp hl) hne
    | cons b t => rfl
  refine wpAny_binaryOp_repeat_ref (T := "tuple") (U := "int") (by decide) ⟨_, e1, rfl⟩ (fun s' => typeIs_int s' k t) noFill_tuple_mul F.fills_int_mul F.slot_int_rmul repeat_tuple F.slot_int_index.lookup
    (call_meets F.slot_int_rmul (typeIs_int s k t) F.entry_int_rmul (F.args_int_rmul_2 _ _) (rmul_int_tuple k t a its.toArray c2 n c4) ⟨e1, rfl, ⟨_, e1, rfl⟩, ?_⟩)
  by_cases hk : k = 1
  · subst hk
    exact call_meets F.slot_tuple_mul ⟨_, e1, rfl⟩ F.entry_tuple_mul (F.args_tuple_mul_2 _ _) (mul_tuple_one a its.toArray c2 n c4 t) ⟨e1, .ref a, H, I, rfl, q1 rfl⟩
  · refine call_meets F.slot_tuple_mul ⟨_, e1, rfl⟩ F.entry_tuple_mul (F.args_tuple_mul_2 _ _) (mul_tuple_pos a its.toArray c2 n c4 k t (by omega) h2 he (by rw [List.size_toArray, ← hl]; exact hz)) ⟨e1, ?_⟩
    have f0 := foldl_rep its k.toNat []
    rw [List.nil_append] at f0
    rw [f0]
    exact ⟨.ref _, _, I.tnew (r.rep k.toNat) (by rw [len_rep, Nat.mul_comm]; exact hz), rfl, q2 hk _ I.fresh⟩

abbrev rSubI : R2 := rI0 fun i j => .int (i - j)
abbrev rModI : R2 := rI (fun _ j => 0 < j) fun i j => .int (i % j)
abbrev rDivI : R2 := rI CDiv fun i j => .int (i / j)
abbrev rPowI : R2 := rI CPow fun i j => .int (i ^ j.toNat)
abbrev rNegI : V → Hp → VK → Prop := rU fun i => .int (-i)
abbrev ipAddI : TIp := ipI fun i j => i + j
def repS (z : Str) (k : Int) : Str := if k < 1 then Str.empty else if (k == 1 || z.length == 0) = true then z else ⟨(List.replicate k.toNat z.cps).foldl (· ++ ·) #[]⟩
theorem rep_len (z : Str) (k : Nat) : (Str.mk ((List.replicate k z.cps).foldl (· ++ ·) #[])).length = k * z.length := by
  have e : ∀ (m : Nat) (acc : Array Nat), ((List.replicate m z.cps).foldl (· ++ ·) acc).size = acc.size + m * z.cps.size := fun m => by
    induction m with
    | zero => intro acc; simp
    | succ m ih => intro acc; rw [List.replicate_succ, List.foldl_cons, ih, Array.size_append, Nat.succ_mul]; omega
  have := e k #[]
  simpa [Str.length] using this
def rRepS : R2 := fun x y H Q => ∃ z k, x = .str z ∧ y = .int k ∧ 0 ≤ k ∧ k ≤ 1000 ∧ z.length ≤ 1000 ∧ Q (.str (repS z k)) H
theorem op_repS : OpR X (binaryOp .Mult) rRepS := by
  intro pins s σ H x y v u Q I rx ry h
  obtain ⟨z, k, rfl, rfl, h1, h2, h3, q⟩ := h
  obtain ⟨t, rfl⟩ := rx
  obtain ⟨t', rfl⟩ := ry
  refine PySem.P.mul_str (by simp; omega) (fun a _ => ?_) (fun a _ => ?_) ?_
  · have : (1000 : Int) ≤ (2 ^ 63 - 1) / k := (Int.le_ediv_iff_mul_le (by omega)).mpr (by omega)
    omega
  · have h4 : z.length * k.toNat ≤ 1000 * 1000 := Nat.mul_le_mul h3 (by omega)
    have h5 : (1000 * 1000 : Nat) ≤ sizeLine := by decide
    unfold Builtin.Str.tooLong
    exact decide_eq_false (by omega)
  · unfold repS at q
    split
    · rename_i c
      rw [if_pos c] at q
      exact ⟨by show (0 : Nat) ≤ sizeLine; omega, .str _, H, I.tok _, ⟨_, rfl⟩, q⟩
    · rename_i c
      rw [if_neg c] at q
      split
      · rename_i d
        rw [if_pos d] at q
        exact ⟨.str _, H, I, ⟨_, rfl⟩, q⟩
      · rename_i d
        rw [if_neg d] at q
        exact ⟨by rw [rep_len]; have := Nat.mul_le_mul (show k.toNat ≤ 1000 by omega) h3; show _ ≤ 2 ^ 24; omega, .str _, H, I.tok _, ⟨_, rfl⟩, q⟩
def rMulA (K : PySem.W.Frag) : R2 := fun x y H Q => match x, y with
  | .int i, .int j => CMul i j ∧ Q (.int (i * j)) H
  | .str z, .int k => 0 ≤ k ∧ k ≤ 1000 ∧ z.length ≤ 1000 ∧ Q (.str (repS z k)) H
  | .ref _, .int _ => rRep x y H Q ∨ rRepT K x y H Q
  | _, _ => False
theorem op_mulA : OpR X (binaryOp .Mult) (rMulA X.K) := by
  intro pins s σ H x y v u Q I rx ry h
  cases x <;> cases y <;> simp only [rMulA] at h
  · exact op_mul pins s σ H _ _ v u Q I rx ry ⟨_, _, rfl, rfl, h⟩
  · exact op_repS pins s σ H _ _ v u Q I rx ry ⟨_, _, rfl, rfl, h⟩
  · rcases h with h | h
    · exact op_rep pins s σ H _ _ v u Q I rx ry h
    · exact op_repT pins s σ H _ _ v u Q I rx ry h
def rGtA : R2 := fun x y H Q => match x, y with
  | .int i, .int j => Q (.bl (decide (j < i))) H
  | _, _ => False
def rGeA : R2 := fun x y H Q => match x, y with
  | .int i, .int j => Q (.bl (decide (j ≤ i))) H
  | _, _ => False
theorem op_ltA : OpR X (compareOp .Lt) rLtA := by
  intro pins s σ H x y v u Q I rx ry h
  cases x <;> cases y <;> simp only [rLtA] at h
  · exact op_lt pins s σ H _ _ v u Q I rx ry ⟨_, _, rfl, rfl, h⟩
  · obtain ⟨t, rfl⟩ := rx
    obtain ⟨t', rfl⟩ := ry
    exact PySem.P.lt_str ⟨.bl _, H, I, rfl, h⟩
theorem op_leA : OpR X (compareOp .LtE) rLeA := by
  intro pins s σ H x y v u Q I rx ry h
  cases x <;> cases y <;> simp only [rLeA] at h
  · exact op_le pins s σ H _ _ v u Q I rx ry ⟨_, _, rfl, rfl, h⟩
  · obtain ⟨t, rfl⟩ := rx
    obtain ⟨t', rfl⟩ := ry
    exact PySem.P.le_str ⟨.bl _, H, I, rfl, h⟩
theorem op_gtA : OpR X (compareOp .Gt) rGtA := by
  intro pins s σ H x y v u Q I rx ry h
  cases x <;> cases y <;> simp only [rGtA] at h
  exact op_gt pins s σ H _ _ v u Q I rx ry ⟨_, _, rfl, rfl, h⟩
abbrev rIsN : R2 := fun x y H Q => y = .non ∧ Q (.bl (decide (x = .non))) H
abbrev rNotN : R2 := fun x y H Q => y = .non ∧ Q (.bl (!decide (x = .non))) H

variable {a : Expr} {ta : TE} {tA : TT} {pos : Pos}
abbrev tTru (K : PySem.W.Frag) (ta : TE) : TT := fun σ H Q => ta σ H fun x H' => ∃ k, TruV K x H' k ∧ Q k H'

def rIxA (K : PySem.W.Frag) : R2 := rIx K
theorem ix_any : IxR X (rIxA X.K) := ix_seq
def rSlS : V → Option Int → Option Int → Hp → VK → Prop := fun x lo hi H Q => ∃ z, x = .str z ∧ z.length ≤ sizeLine ∧ Q (.str (Txt.slice z lo hi)) H
theorem part_of {v : Value} {lo : Option Int} (p : IsPart v lo) : ∃ l : Option (Int × Tok), v = partValue l ∧ l.map (·.1) = lo := by
  cases p with
  | none => exact ⟨none, rfl, rfl⟩
  | int i t => exact ⟨some (i, t), rfl, rfl⟩
theorem sl_str : SlR X rSlS := by
  intro pins s σ H x v vl vu lo hi sl Q I rx hs pl pu h
  obtain ⟨z, rfl, hz, q⟩ := h
  obtain ⟨t, rfl⟩ := rx
  obtain ⟨l, rfl, rfl⟩ := part_of pl
  obtain ⟨u, rfl, rfl⟩ := part_of pu
  refine ⟨"str", _, PySem.F.slot_str_getitem.lookup, typeIs_str _ _ _, ?_⟩
  exact wpAny_getItem_str_slice (l := l) (u := u) (st := none) hs rfl (post_val_or_str ⟨Nat.le_trans (Txt.slice_le z _ _) hz, fun t' k => ⟨.str _, H, I.tok k, ⟨t', rfl⟩, q⟩⟩)
def rSlA (K : PySem.W.Frag) : V → Option Int → Option Int → Hp → VK → Prop := fun x lo hi H Q => match x with
  | .str z => z.length ≤ sizeLine ∧ Q (.str (Txt.slice z lo hi)) H
  | _ => rSlL K x lo hi H Q ∨ rSlT K x lo hi H Q
theorem sl_any : SlR X (rSlA X.K) := by
  intro pins s σ H x v vl vu lo hi sl Q I rx hs pl pu h
  cases x <;> first
    | exact sl_str pins s σ H _ v vl vu lo hi sl Q I rx hs pl pu ⟨_, rfl, h⟩
    | exact (SlR.or sl_list sl_tup) pins s σ H _ v vl vu lo hi sl Q I rx hs pl pu h
abbrev rSetA : V → V → V → Hp → (Hp → Prop) → Prop := rSetL
theorem set_any : PSet X rSetA := set_list

def iSeq (K : PySem.W.Frag) (tl : TE) : TI := fun σ H R => tl σ H fun x H1 => ∃ a, x = .ref a ∧ (((∃ xs, SqL K H1 a xs) ∧ R (Itl K a) H1) ∨ ((∃ xs, SqT K H1 a xs) ∧ R (Itt K a) H1))
theorem PI.or {tg it : Expr} {w1 w2 : TI} (h1 : PI X tg it w1) (h2 : PI X tg it w2) : PI X tg it (fun σ H R => w1 σ H R ∨ w2 σ H R) := fun pins s σ H R I h => h.elim (h1 pins s σ H R I) (h2 pins s σ H R I)

def r_call_lenA (K : PySem.W.Frag) : List V → Hp → VK → Prop := fun xs H Q => ∃ x n, xs = [x] ∧ LenV K x H n ∧ Q (.int n) H
theorem call_lenA : CallR X (.builtin "len") (r_call_lenA X.K) := call_len
def r_call_listA (K : PySem.W.Frag) : List V → Hp → VK → Prop := fun xs H Q => ∃ p ys, xs = [.ref p] ∧ (SqL K H p ys ∨ SqT K H p ys) ∧ ∀ l, H l = none → Q (.ref l) (upd H l (.lst ys))
theorem call_listA : CallR X (.type "list") (r_call_listA X.K) := call_list_of
def r_call_tupleA (K : PySem.W.Frag) : List V → Hp → VK → Prop := fun xs H Q => ∃ p ys, xs = [.ref p] ∧ ((SqL K H p ys ∧ ∀ l, H l = none → Q (.ref l) (upd H l (.tup ys))) ∨ (SqT K H p ys ∧ Q (.ref p) H))
theorem call_tupleA : CallR X (.type "tuple") (r_call_tupleA X.K) := call_tuple_of
def r_call_int1 (K : PySem.W.Frag) : List V → Hp → VK → Prop := fun xs H Q => (∃ i, xs = [.int i] ∧ Q (.int i) H) ∨ ∃ k, xs = [.bl k] ∧ Q (.int (if k then 1 else 0)) H
abbrev r_mt_append := rAppend
abbrev r_mt_clear := rClear
end
end L2

set_option linter.all false
set_option maxRecDepth 100000
set_option maxHeartbeats 4000000
namespace L2
open PySem PySem.Spec PyProof.Rows

section
variable {X : Cx} {tg a : Expr} {ta : TE} {pos : Pos}
theorem pi_seq {l : Expr} {tl : TE} (hl : PE X l tl) : PI X tg l (iSeq X.K tl) := by
  intro pins s σ H R I h
  refine thn (hl pins s σ H _ I h) fun v s1 ⟨x, H1, I1, r1, q1⟩ => ?_
  obtain ⟨a, e, q1⟩ := q1
  subst e
  cases r1
  have fp1 : ∀ b ∈ [s1.heap.objs.size], FpOk X pins H1 b := fun b hb => by
    have e : b = s1.heap.objs.size := by simpa using hb
    subst e
    exact I1.fpOk (Nat.le_refl _) (I1.hok.fresh (Nat.le_refl _))
  rcases q1 with ⟨⟨xs, hq⟩, q⟩ | ⟨⟨xs, hq⟩, q⟩
  · obtain ⟨its, rv, p, hz⟩ := I1.list hq
    refine wpAny_pyIter_list p.isList ?_
    exact ⟨s1.heap.objs.size, [s1.heap.objs.size], _, _, H1, rfl, I1.kept (t' := s1.toks) fun b o e => Heap.get?_push_of_some _ e, turn_list a _, ⟨_, Heap.get?_push_size _ rfl, rfl, rfl⟩, fp1, q⟩
  · obtain ⟨its, rv, p, hz⟩ := I1.tuple hq
    refine wpAny_pyIter_tuple (show s1.heap.IsTuple a its.toArray from p) ?_
    exact ⟨s1.heap.objs.size, [s1.heap.objs.size], _, _, H1, rfl, I1.kept (t' := s1.toks) fun b o e => Heap.get?_push_of_some _ e, turn_tuple a _, ⟨_, Heap.get?_push_size _ rfl, rfl, rfl⟩, fp1, q⟩
def tNotT (K : PySem.W.Frag) (ta : TE) : TE := fun σ H Q => ta σ H fun x H1 => ∃ k, TruV K x H1 k ∧ Q (.bl (!k)) H1
theorem pe_notT (ha : PE X a ta) : PE X (.UnaryOp .Not a pos) (tNotT X.K ta) := by
  intro pins s σ H Q I h
  refine UnaryOp_ (thn (ha pins s σ H _ I h) fun v s1 ⟨x, H1, I1, r1, k, t1, q1⟩ => ?_)
  exact not_of (thn (tru_ok pins s1 σ H1 x v (fun c H2 => c = k ∧ H2 = H1) I1 r1 ⟨k, t1, rfl, rfl⟩) fun c s2 ⟨H2, I2, e1, e2⟩ => by
    subst e1; subst e2; exact ⟨.bl (!c), _, I2, rfl, q1⟩)
end

def cpOk (scope outer : Scope) (N cn : List Str) (cap : List Nat) : Bool :=
  scope.kind == .function && scope.names.all (fun y => y.2 != .cell) && scope.names.all (fun y => y.2 != .local || scope.names.lookup y.1 == some .local) &&
  scope.names.all (fun y => y.2 != .free || outer.names.lookup y.1 == some .cell || outer.names.lookup y.1 == some .free) && cn.all (fun x => scope.names.lookup x == some .free) && (cap.map (fun i => N[i]?) == cn.map some)
theorem cps_of {X : Cx} {scope outer : Scope} {N tn cn : List Str} {cap : List Nat} (h1 : X.env.scope = outer) (h2 : X.N = N) (h : cpOk scope outer N cn cap = true) : CpScope X scope tn cn cap := by
  unfold cpOk at h
  simp only [Bool.and_eq_true, List.all_eq_true, Bool.or_eq_true, bne_iff_ne, beq_iff_eq] at h
  obtain ⟨⟨⟨⟨⟨k1, k2⟩, k3⟩, k4⟩, k5⟩, k6⟩ := h
  refine ⟨k1, k2, fun y hy hl => (k3 y hy).resolve_left fun z => z hl, fun y hy hf => ?_, k5, by rw [h2]; exact k6⟩
  have z := k4 y hy
  show X.env.scope.names.lookup y.1 = _ ∨ X.env.scope.names.lookup y.1 = _
  rw [h1]
  rcases z with (z | z) | z
  · exact absurd hf z
  · exact .inl z
  · exact .inr z

structure ExcC (K : PySem.W.Frag) (C : Addr) : Prop where
  ga : PySem.W.findIn K (.ref C) "__getattribute__" = some (some (.builtin "BaseException.__getattribute__"))
  gt : PySem.W.findIn K (.ref C) "__getattr__" = some none
  be : PySem.W.mroIn K C (.type "BaseException") = some true
  cl : PySem.W.isClsIn K C = true
  ha : PySem.W.findIn K (.ref C) "__class__" = some (some (.builtin "object.__class__"))
  hn : PySem.W.specialIn K (.builtin "object.__class__") "__get__" = some (some (.builtin "getset_descriptor.__get__"))
  tk : PySem.W.takesIn K (.builtin "object.__class__") = some true
  mr : PySem.W.mroIn K C (.type "object") = some true
theorem findObj_dataN {K : PySem.W.Frag} {C : Addr} {od : Option Obj} {name : Str} {a g : Value} (hc : (PySem.W.clsIn K C).isSome = true) (ha : PySem.W.findIn K (.ref C) name = some (some a)) (hg : PySem.W.specialIn K a "__get__" = some (some g)) (ht : PySem.W.takesIn K a = some true) :
    PySem.W.findObj K C od name = some (.bind g a) := by
  obtain ⟨cd, hc⟩ := Option.isSome_iff_exists.mp hc
  unfold PySem.W.findObj
  rw [hc, Option.bind_some, ha, Option.bind_some]
  simp [hg, ht]
theorem exc_check {K : PySem.W.Frag} {M : Model} {A : Around} {E : Value → Shared → Prop} {Q : Unit → Shared → Prop} {s : Shared} {x D : Addr} {ox : Obj} {nm : Value} (c : ExcC K D) (X : K.In s.heap) (I : PySem.W.InstAt s.heap x ox D none) (k : Q () s) :
    wpAny M A (checkBuiltinCall "BaseException.__getattribute__" ⟨[.ref x, nm], []⟩) Q E s := by
  have e1 : builtinKind "BaseException.__getattribute__" = some .slot := by decide +kernel
  have e2 : splitId "BaseException.__getattribute__" = some ("BaseException", "__getattribute__") := by decide +kernel
  have L : PySem.W.Looks M s.heap (isInstance (.ref x) (.type "BaseException")) true := (I.type (M := M)).andThen (PySem.W.looks_mroIn (M := M) X c.be)
  have ar := PySem.F.args_bexc_ga (.ref x) nm
  obtain ⟨hh, g, d, t, os⟩ := s
  simp only [checkBuiltinCall, e1, e2]
  refine wpAny_bind (L.at ?_)
  simp only [Bool.not_true, Bool.false_eq_true, if_false]
  cases hs : Manifest.signature? "BaseException.__getattribute__" with
  | none => exact wpAny_pure k
  | some sig =>
    simp only [argsOk, hs] at ar
    have z : Bind.checkArgs "BaseException.__getattribute__" sig ⟨[.ref x, nm], []⟩ = pure () := ar
    show wpAny M A (Bind.checkArgs "BaseException.__getattribute__" sig ⟨[.ref x, nm], []⟩) Q E _
    rw [z]; exact wpAny_pure k
theorem exc_class {K : PySem.W.Frag} {prog : Program} {w : World} {A : Around} {E : Value → Shared → Prop} {Q : Option Value → Shared → Prop} {s : Shared} {x D : Addr} {ox : Obj} (c : ExcC K D) (X : K.In s.heap) (I : PySem.W.InstAt s.heap x ox D none)
    (k : Q (some (.ref D)) { s with toks := s.toks + 1 }) : wpAny (model prog w) A (getAttr? (.ref x) "__class__") Q E s := by
  obtain ⟨hh, g, d, t, os⟩ := s
  have L0 := I.type (M := model prog w)
  have L1 := PySem.W.looks_findIn (M := model prog w) X c.ga
  have L2 := PySem.W.looks_findIn (M := model prog w) X c.gt
  have L3 := PySem.W.looks_find (M := model prog w) X I (findObj_dataN (name := "__class__") c.cl c.ha c.hn c.tk)
  unfold getAttr? getAttrBy? getAttrBy
  refine wpAny_bind (wpAny_mkText (wpAny_bind (wpAny_attempt (wpAny_holding (wpAny_bind (L0.at (wpAny_bind (L1.at ?_))))))))
  show wpAny _ _ (getAttrByItsOwn _ _ _ _ _ _) _ _ _
  unfold getAttrByItsOwn
  refine wpAny_bind (L2.at (wpAny_bind (wpAny_attempt (wpAny_holding ?_))))
  show wpAny _ _ (boundAndCalled _ _ _) _ _ _
  unfold boundAndCalled
  rw [PySem.F.attr_ValueError.ga.bind (.ref x)]
  refine wpAny_bind (wpAny_pure (wpAny_call (codeAny_call_builtin PySem.F.attr_ValueError.ga.plain PySem.F.entry_bexc_ga (exc_check c X I ?_))))
  refine wpAny_bind (wpAny_pure (wpAny_bind (wpAny_pure (wpAny_bind (L0.at (wpAny_bind (L3.at ?_)))))))
  show wpAny _ _ (holding [_] (call _ _) >>= ret) _ _ _
  refine wpAny_bind (wpAny_holding (wpAny_call (PySem.W.class_get (ox := ox) (od := none) X I c.mr (wpAny_pure ?_))))
  exact PySem.W.handed_on rfl (wpAny_pure k)
theorem kitx_exc {K : PySem.W.Frag} {x D : Addr} (c : ExcC K D) : PySem.W.KitX K (.ref x) (.ref D) (ExcAt x (.ref D)) := by
  have inst : ∀ {h : Heap}, ExcAt x (.ref D) h → ∃ ox, PySem.W.InstAt h x ox D none := fun {h} ⟨oe, vs, e1, e2, e3, e4⟩ => by
    refine ⟨oe, e1, e2, ?_, ?_⟩
    · unfold PySem.W.notCls; rw [e4]
    · rw [e3]; trivial
  have cls : ∃ cd, PySem.W.clsIn K D = some cd := Option.isSome_iff_exists.mp c.cl
  refine ⟨fun M h _ p => (inst p).elim fun _ I => I.type, fun M h X p => ?_, fun h tp dd its n sl X htp => ?_, fun {prog w A E Q s} X p k => ?_⟩
  · obtain ⟨cd, hc⟩ := cls
    unfold PySem.W.clsIn at hc
    split at hc
    · rename_i c' d' cd' sl' ho
      intro A' Q' E' s' k q
      unfold isType loadHead
      exact wpAny_bind (wpAny_loadPart (k _ _ (X _ _ ho)) (wpAny_pure q))
    · cases hc
  · obtain ⟨cd, hc⟩ := cls
    refine Bool.eq_false_iff.mpr fun q => ?_
    have e : D = tp := Value.ref.inj (beq_iff_eq.mp q)
    subst e
    unfold PySem.W.clsIn at hc
    split at hc
    · rename_i c' d' cd' sl' ho
      have z := (X _ _ ho).symm.trans htp
      cases z
    · cases hc
  · obtain ⟨ox, I⟩ := inst p
    exact exc_class c X I k

def TyX (K : PySem.W.Frag) (H : Hp) (x : V) (t : Value) : Prop := TyOf K H x t ∨ ∃ a C, x = .ref a ∧ t = .ref C ∧ H a = some (.ext (ExcAt a (.ref C))) ∧ ExcC K C
inductive ClsV : V → Value → Prop
  | own (C : Addr) : ClsV (.ref C) (.ref C)
  | ty (n : String) : ClsV (.ty n) (.type n)
theorem ClsV.rel {y : V} {c u : Value} (h : ClsV y c) (r : RelV y u) : u = c := by
  cases h <;> exact r
theorem clsVs_rel : ∀ {ys : List V} {cs us : List Value}, Paired ClsV ys cs → Vals ys us → us = cs
  | _, _, _, .nil, .nil => rfl
  | _, _, _, .cons h t, .cons r rr => by rw [h.rel r, clsVs_rel t rr]
def r_call_isinst (K : PySem.W.Frag) : List V → Hp → VK → Prop := fun xs H Q => ∃ x y t b, xs = [x, y] ∧ TyX K H x t ∧
  ((∃ c, ClsV y c ∧ PySem.W.kitOne K t c = some b) ∨ ∃ p ys cs, y = .ref p ∧ SqT K H p ys ∧ Paired ClsV ys cs ∧ PySem.W.kitAny K t cs = some b) ∧ Q (.bl b) H
section
variable {X : Cx}
theorem TyX.kit {pins : List (Addr × Obj)} {σ : St} {H : Hp} {s : Shared} {x : V} {t u : Value} (I : Inv X pins σ H s) (h : TyX X.K H x t) (r : RelV x u) : ∃ φ : Heap → Prop, PySem.W.KitX X.K u t φ ∧ φ s.heap ∧ u ≠ .builtin "__main__.__loader__#opaque" := by
  rcases h with h | ⟨a, C, rfl, rfl, e, c⟩
  · cases h with
    | non => cases (show u = Value.none from r); exact ⟨_, PySem.W.kitx_none, trivial, fun z => nomatch z⟩
    | bl y => cases (show u = Value.bool y from r); exact ⟨_, PySem.W.kitx_bool, trivial, fun z => nomatch z⟩
    | int i => obtain ⟨t, q⟩ := (show ∃ t, u = Value.int i t from r); cases q; exact ⟨_, PySem.W.kitx_int, trivial, fun z => nomatch z⟩
    | str y => obtain ⟨t, q⟩ := (show ∃ t, u = Value.str y t from r); cases q; exact ⟨_, PySem.W.kitx_str, trivial, fun z => nomatch z⟩
    | flt y => obtain ⟨t, q⟩ := (show ∃ t, u = Value.float y t from r); cases q; exact ⟨_, PySem.W.kitx_float, trivial, fun z => nomatch z⟩
    | @lst a xs ea =>
      cases (show u = Value.ref a from r)
      obtain ⟨_, _, n, _, h1⟩ := (show ObjOk X.prog X.w H s.heap a (.lst xs) from I.hok a _ ea)
      exact ⟨_, PySem.W.kitx_list, ⟨_, h1, rfl⟩, fun z => nomatch z⟩
    | @frz a ob xs ea =>
      cases (show u = Value.ref a from r)
      obtain ⟨_, _, _, n, _, h1⟩ := (show ObjOk X.prog X.w H s.heap a (.frz ob (.lst xs)) from I.hok a _ ea)
      exact ⟨_, PySem.W.kitx_list, ⟨_, h1, rfl⟩, fun z => nomatch z⟩
    | @tup a xs ea =>
      cases (show u = Value.ref a from r)
      obtain ⟨_, _, _, p⟩ := (show ObjOk X.prog X.w H s.heap a (.tup xs) from I.hok a _ ea)
      obtain ⟨o, h1, h2, _⟩ := p
      exact ⟨_, PySem.W.kitx_tuple, ⟨o, h1, h2⟩, fun z => nomatch z⟩
    | @dK a kvs ea =>
      cases (show u = Value.ref a from r)
      obtain ⟨_, _, vs, _, p⟩ := (show ObjOk X.prog X.w H s.heap a (.dK kvs) from I.hok a _ ea)
      obtain ⟨o, es, ep, h1, h2, _⟩ := p
      exact ⟨_, PySem.W.kitx_dict, ⟨o, h1, h2.1⟩, fun z => nomatch z⟩
    | @dT a kvs ea =>
      cases (show u = Value.ref a from r)
      obtain ⟨_, _, xs, _, o, es, ep, h1, h2, _⟩ := (show ObjOk X.prog X.w H s.heap a (.dT kvs) from I.hok a _ ea)
      exact ⟨_, PySem.W.kitx_dict, ⟨o, h1, h2.1⟩, fun z => nomatch z⟩
    | @ins a C dx fs ea cl ha hn htk hm =>
      cases (show u = Value.ref a from r)
      obtain ⟨mA, O, _⟩ := ins_get I.hok ea
      obtain ⟨od, J, _⟩ := O.look
      exact ⟨_, PySem.W.kitx_own (cl.get _) cl.hd ha hn htk hm, J, fun z => nomatch z⟩
  · cases (show u = Value.ref a from r)
    have p : ExcAt a (.ref C) s.heap := (show ObjOk X.prog X.w H s.heap a (.ext (ExcAt a (.ref C))) from I.hok a _ e).1
    exact ⟨_, kitx_exc c, p, fun z => nomatch z⟩
theorem call_isinst : CallR X (.builtin "isinstance") (r_call_isinst X.K) := by
  intro pins s σ H xs us Q I r h
  obtain ⟨x, y, t, b, rfl, ty, hc, q⟩ := h
  obtain ⟨u, v, rfl, rx, ry⟩ := Vals.two r
  obtain ⟨φ, Z, p, ne⟩ := ty.kit I rx
  rcases hc with ⟨c, hy, e⟩ | ⟨pt, ys, cs, rfl, hs, hcs, e⟩
  · have := hy.rel ry
    subst this
    exact PySem.W.kia_one Z I.kIn p e ne fun tk => ⟨.bl b, H, I.tok tk, rfl, q⟩
  · cases (show v = Value.ref pt from ry)
    obtain ⟨its, rv, ⟨⟨c1, c2, c3, c4⟩, e1, e2, n, e3⟩, _⟩ := I.tuple hs
    obtain rfl : c1 = _ := e2
    obtain rfl : c3 = _ := e3
    have := clsVs_rel hcs rv
    subst this
    exact PySem.W.kia_tup Z I.kIn p e1 e ne fun tk => ⟨.bl b, H, I.tok tk, rfl, q⟩
end
end L2

set_option linter.all false
namespace L2
open PySem PySem.Spec PyProof.Rows
def cBody (J : It) (g : TG) (tt : TT) (te : TE) (k : Nat) (cap : List Nat) (σ : St) (H1 : Hp) (Q : VK) : Prop :=
  ∃ W : Nat → Nat → St → List V → Hp → Prop, (∃ m, W 0 m (capSt k cap σ) [] H1) ∧ ∀ i m σ' ys H, W i m σ' ys H →
    (J.stop i H ∧ ∀ p, H p = none → Q (.ref p) (upd H p (.lst ys))) ∨
    (J.go i H ∧ ys.length < sizeLine ∧ ∀ x H', J.yld i H x H' → g x σ' H' fun σ2 H2 => tt σ2 H2 fun b H3 =>
      if b = true then ∃ N : VK, (∀ y H4, N y H4 → ∃ m', m' < m ∧ W (i + 1) m' σ2 (ys ++ [y]) H4) ∧ te σ2 H3 N else ∃ m', m' < m ∧ W (i + 1) m' σ2 ys H3)
def fBody (J : It) (g : TG) (tb : TS) (D : Ends) (σ : St) (H1 : Hp) : Prop :=
  ∃ W : Nat → Nat → St → Hp → Prop, (∃ m, W 0 m σ H1) ∧ ∀ i m σ H, W i m σ H →
    (J.stop i H ∧ D.nx σ H) ∨ (J.go i H ∧ ∃ N : St → Hp → Prop, (∀ σ' H', N σ' H' → ∃ m', m' < m ∧ W (i + 1) m' σ' H') ∧ ∀ x H', J.yld i H x H' → g x σ H' fun σ2 H2 => tb { D with nx := N, ct := N, bk := D.nx } σ2 H2)
section
variable {K : PySem.W.Frag} {ta tb tc to ti tv tl : TE} {tt tA tB' tu : TT} {s1 s2 : TS} {r r' : R2} {σ : St} {H : Hp} {Q : VK} {D : Ends} {QB : Bool → Hp → Prop} {as : TA} {g : TG} {gs : TGs} {te : TE} {k i : Nat} {cap : List Nat} {f m : Str} {C : Addr} {sp : Sp} {dvs : List V} {E : St → XK} {v : V} {vs : List V} {QA : List V → Hp → Prop} {QG : St → Hp → Prop} {QO : Option Int → Hp → Prop}
theorem tSeq_ap : tSeq s1 s2 D σ H = (s1 { D with nx := s2 D } σ H) := rfl
theorem tNext_ap : tNext D σ H = (D.nx σ H) := rfl
theorem tBreak_ap : tBreak D σ H = (D.bk σ H) := rfl
theorem tCont_ap : tCont D σ H = (D.ct σ H) := rfl
theorem tAsg_ap : tAsg ta g D σ H = (ta σ H fun x H1 => g x σ H1 D.nx) := rfl
theorem tDrop_ap : tDrop ta D σ H = (ta σ H fun _ H1 => D.nx σ H1) := rfl
theorem tRet_ap : tRet ta D σ H = (ta σ H D.rt) := rfl
theorem tRetN_ap : tRetN D σ H = (D.rt .non H) := rfl
theorem tIfS_ap : tIfS tt s1 s2 D σ H = (tt σ H fun b H1 => if b = true then s1 D σ H1 else s2 D σ H1) := rfl
theorem tC_ap : tC v σ H Q = (Q v H) := rfl
theorem tOp_ap : tOp r ta tb σ H Q = (ta σ H fun x H1 => tb σ H1 fun y H2 => r x y H2 Q) := rfl
theorem tTest_ap : tTest ta σ H QB = (ta σ H fun x H' => ∃ k, x = .bl k ∧ QB k H') := rfl
theorem tChain_ap : tChain r r' ta tb tc σ H Q = (ta σ H fun x H1 => tb σ H1 fun y H2 => r x y H2 fun z H3 => ∃ k, z = .bl k ∧ (if k = true then tc σ H3 fun w' H4 => r' y w' H4 Q else Q (.bl false) H3)) := rfl
theorem tNot_ap : tNot tt σ H QB = (tt σ H fun c H1 => QB (!c) H1) := rfl
theorem tAnd_ap : tAnd tt tu σ H QB = (tt σ H fun c H1 => if c = true then tu σ H1 QB else QB false H1) := rfl
theorem tOr_ap : tOr tt tu σ H QB = (tt σ H fun c H1 => if c = true then QB true H1 else tu σ H1 QB) := rfl
theorem tAndV_ap : tAndV ta tb σ H Q = (ta σ H fun x H1 => ∃ c, x = .bl c ∧ if c = true then tb σ H1 Q else Q (.bl false) H1) := rfl
theorem tOrV_ap : tOrV ta tb σ H Q = (ta σ H fun x H1 => ∃ c, x = .bl c ∧ if c = true then Q (.bl true) H1 else tb σ H1 Q) := rfl
theorem tNotT_ap : tNotT K ta σ H Q = (ta σ H fun x H1 => ∃ k, TruV K x H1 k ∧ Q (.bl (!k)) H1) := rfl
theorem tTru_ap : tTru K ta σ H QB = (ta σ H fun x H' => ∃ k, TruV K x H' k ∧ QB k H') := rfl
theorem tIf_ap : tIf tt ta tb σ H Q = (tt σ H fun c H1 => if c = true then ta σ H1 Q else tb σ H1 Q) := rfl
theorem tNil_ap : tNil σ H QA = (QA [] H) := rfl
theorem tCons_ap : tCons ta as σ H QA = (ta σ H fun x H1 => as σ H1 fun xs H2 => QA (x :: xs) H2) := rfl
theorem tTup_ap : tTup as σ H Q = (as σ H fun xs H1 => xs.length ≤ sizeLine ∧ ∀ p, H1 p = none → Q (.ref p) (upd H1 p (.tup xs))) := rfl
theorem tLst_ap : tLst as σ H Q = (as σ H fun xs H1 => xs.length ≤ sizeLine ∧ ∀ p, H1 p = none → Q (.ref p) (upd H1 p (.lst xs))) := rfl
theorem tCall_ap : tCall sp dvs E as σ H Q = (as σ H fun vs H1 => sp (vs ++ dvs) H1 Q (E σ)) := rfl
theorem tMeth_ap : tMeth C m sp dvs E ta as σ H Q = (ta σ H fun x H1 => ∃ a dx fs, x = .ref a ∧ H1 a = some (.ins C dx fs) ∧ fs.lookup m = none ∧ as σ H1 fun vs H2 => sp (x :: (vs ++ dvs)) H2 Q (E σ)) := rfl
theorem tMake_ap : tMake C sp dvs E as σ H Q = (as σ H fun vs H1 => ∀ x dx, H1 x = none → H1 dx = none → dx ≠ x → sp (.ref x :: (vs ++ dvs)) (upd (upd H1 dx (.own x)) x (.ins C dx [])) (fun v H2 => v = .non ∧ Q (.ref x) H2) (E σ)) := rfl
theorem tFld_ap : tFld K ta f σ H Q = (ta σ H fun x H1 => ∃ a C dx fs v, x = .ref a ∧ H1 a = some (.ins C dx fs) ∧ Cls K C ∧ NoAttr K C f ∧ fs.lookup f = some v ∧ Q v H1) := rfl
theorem sFld_ap : sFld K ta tv f D σ H = (tv σ H fun y H1 => ta σ H1 fun x H2 => ∃ a C dx fs, x = .ref a ∧ H2 a = some (.ins C dx fs) ∧ Cls K C ∧ NoAttr K C f ∧ fs.length < 1000 ∧ D.nx σ (upd H2 a (.ins C dx (putF f y fs)))) := rfl
theorem tUn_ap {ru : V → Hp → VK → Prop} : tUn ru ta σ H Q = ta σ H fun x H1 => ru x H1 Q := rfl
theorem tCB_ap {rc : List V → Hp → VK → Prop} : tCB rc as σ H Q = as σ H fun vs H1 => rc vs H1 Q := rfl
theorem tRaise_ap : tRaise C E as D σ H = (as σ H fun vs H1 => vs.length ≤ sizeLine ∧ E σ (.ref C) none H1) := rfl
theorem tTry_ap {sb : (St → XK) → TS} {th : TH} : tTry sb th D σ H = sb (fun σ' cls _ H' => th cls D σ' H') D σ H := rfl
theorem gName_ap : gName i v σ H QG = (QG (σ.set i (some v)) H) := rfl
theorem gSub_ap {rs : TSet} : gSub to ti rs v σ H QG = to σ H fun o H1 => ti σ H1 fun i H2 => rs o i v H2 fun H3 => QG σ H3 := rfl
theorem gTup_ap : gTup K k gs v σ H QG = (∃ a xs, v = .ref a ∧ SqT K H a xs ∧ xs.length = k ∧ gs xs σ H QG) := rfl
theorem gNil_ap : gNil vs σ H QG = ((vs = [] ∧ QG σ H)) := rfl
theorem gCons_ap : gCons g gs vs σ H QG = (∃ v r, vs = v :: r ∧ g v σ H fun σ' H' => gs r σ' H' QG) := rfl
theorem tSl_ap {rs : V → Option Int → Option Int → Hp → VK → Prop} {ol oh : TO} : tSl rs ta ol oh σ H Q = ta σ H fun x H1 => ol σ H1 fun l H2 => oh σ H2 fun u H3 => rs x l u H3 Q := rfl
theorem tNoPart_ap : tNoPart σ H QO = (QO none H) := rfl
theorem tPart_ap : tPart ta σ H QO = (ta σ H fun x H1 => ∃ i, x = .int i ∧ QO (some i) H1) := rfl
theorem tBM_ap {T : String} {rm : V → List V → Hp → VK → Prop} : tBM K T rm ta as σ H Q = ta σ H fun x H1 => tyV K T x H1 ∧ as σ H1 fun xs H2 => rm x xs H2 Q := rfl
theorem tBM0_ap {T : String} {rm : V → List V → Hp → VK → Prop} : tBM0 K T rm ta σ H Q = ta σ H fun x H1 => tyV K T x H1 ∧ rm x [] H1 Q := rfl
theorem tAug_ap {tip : TIp} : tAug i ta tip D σ H = ∃ x, σ[i]? = some (some x) ∧ ta σ H fun y H1 => tip x y H1 fun z H2 => D.nx (σ.set i (some z)) H2 := rfl
theorem tTrue_ap : tTrue σ H QB = (QB true H) := rfl
theorem tComp_rng1_ap : tComp (iRng1 as) g tt te k cap σ H Q = (as σ H fun vs H1 => ∃ j : Int, vs = [.int j] ∧ -(2 ^ 62) ≤ j ∧ j < 2 ^ 62 ∧ cBody (Itr 0 j.toNat) g tt te k cap σ H1 Q) := rfl
theorem tComp_rng2_ap : tComp (iRng2 as) g tt te k cap σ H Q = (as σ H fun vs H1 => ∃ i j : Int, vs = [.int i, .int j] ∧ (-(2 ^ 62) ≤ i ∧ i < 2 ^ 62 ∧ -(2 ^ 62) ≤ j ∧ j < 2 ^ 62) ∧ cBody (Itr i (j - i).toNat) g tt te k cap σ H1 Q) := rfl
theorem tComp_seq_ap : tComp (iSeq K tl) g tt te k cap σ H Q = (tl σ H fun x H1 => ∃ a, x = .ref a ∧ (((∃ xs, SqL K H1 a xs) ∧ cBody (Itl K a) g tt te k cap σ H1 Q) ∨ ((∃ xs, SqT K H1 a xs) ∧ cBody (Itt K a) g tt te k cap σ H1 Q))) := rfl
theorem tFor_rng1_ap : tFor (iRng1 as) g s1 D σ H = (as σ H fun vs H1 => ∃ j : Int, vs = [.int j] ∧ -(2 ^ 62) ≤ j ∧ j < 2 ^ 62 ∧ fBody (Itr 0 j.toNat) g s1 D σ H1) := rfl
theorem tFor_rng2_ap : tFor (iRng2 as) g s1 D σ H = (as σ H fun vs H1 => ∃ i j : Int, vs = [.int i, .int j] ∧ (-(2 ^ 62) ≤ i ∧ i < 2 ^ 62 ∧ -(2 ^ 62) ≤ j ∧ j < 2 ^ 62) ∧ fBody (Itr i (j - i).toNat) g s1 D σ H1) := rfl
theorem tFor_seq_ap : tFor (iSeq K tl) g s1 D σ H = (tl σ H fun x H1 => ∃ a, x = .ref a ∧ (((∃ xs, SqL K H1 a xs) ∧ fBody (Itl K a) g s1 D σ H1) ∨ ((∃ xs, SqT K H1 a xs) ∧ fBody (Itt K a) g s1 D σ H1))) := rfl
theorem sFldAug_ap {rd : V → V → Hp → VK → Prop} : sFldAug K ta tv rd f D σ H = (ta σ H fun x H1 => ∃ a C dx fs v, x = .ref a ∧ H1 a = some (.ins C dx fs) ∧ Cls K C ∧ NoAttr K C f ∧ fs.lookup f = some v ∧ tv σ H1 fun y H2 => rd v y H2 fun z H3 => ∃ dx' fs', H3 a = some (.ins C dx' fs') ∧ fs'.length < 1000 ∧ D.nx σ (upd H3 a (.ins C dx' (putF f z fs')))) := rfl
end
end L2


set_option linter.all false
namespace L2
open PySem PySem.Spec PyProof.Rows
section
variable {K : PySem.W.Frag} {σ : St} {H : Hp} {Q : VK} {P : Bool → Prop} {PI' : Int → Prop} {PV : V → Prop} {QB : Bool → Hp → Prop} {v : V} {x : Option V} {i j : Int} {n : Nat} {b b' : Bool} {s s' : Str} {p q : Addr} {f : Int → Int → V} {C : Int → Int → Prop}
def tVr (i : Nat) : TE := fun σ H Q => match σ[i]? with
  | some (some v) => Q v H
  | _ => False
theorem tVr_0 : tVr 0 (some v :: σ) H Q = Q v H := rfl
theorem tVr_s : tVr (n + 1) (x :: σ) H Q = tVr n σ H Q := rfl
theorem tVr_eq (i : Nat) : tVr i = tVar i := by
  funext σ H Q
  unfold tVr tVar
  cases σ[i]? with
  | none => simp
  | some o => cases o <;> simp
theorem ex_bl {P : Bool → Prop} : (∃ k, V.bl b = V.bl k ∧ P k) = P b := by simp
theorem ex_int {P : Int → Prop} : (∃ k, V.int i = V.int k ∧ P k) = P i := by simp
theorem ex_ref {P : Addr → Prop} : (∃ k, V.ref p = V.ref k ∧ P k) = P p := by simp
theorem ex_tru_bl {P : Bool → Prop} : (∃ k, TruV K (.bl b) H k ∧ P k) = P b := by simp [TruV]
theorem ex_tru_int {P : Bool → Prop} : (∃ k, TruV K (.int i) H k ∧ P k) = P (i != 0) := by simp [TruV]
theorem ex_tru_non {P : Bool → Prop} : (∃ k, TruV K .non H k ∧ P k) = P false := by simp [TruV]
theorem rAddA_i : rAddA K (.int i) (.int j) H Q = Q (.int (i + j)) H := rfl
theorem rAddA_s : rAddA K (.str s) (.str s') H Q = (s.length + s'.length ≤ sizeLine ∧ Q (.str (s ++ s')) H) := rfl
theorem rAddA_r : rAddA K (.ref p) (.ref q) H Q = (rCat (.ref p) (.ref q) H Q ∨ rCatT K (.ref p) (.ref q) H Q ∨ rCatT0 K (.ref p) (.ref q) H Q) := rfl
theorem rLeA_s {x y : Str} : rLeA (.str x) (.str y) H Q = Q (.bl (!decide (y.cps.toList < x.cps.toList))) H := rfl
theorem rLtA_s {x y : Str} : rLtA (.str x) (.str y) H Q = Q (.bl (decide (x.cps.toList < y.cps.toList))) H := rfl
theorem rSlA_s {x : Str} {lo hi : Option Int} : rSlA K (.str x) lo hi H Q = (x.length ≤ sizeLine ∧ Q (.str (Txt.slice x lo hi)) H) := rfl
theorem rMulA_i : rMulA K (.int i) (.int j) H Q = (CMul i j ∧ Q (.int (i * j)) H) := rfl
theorem rMulA_s {z : Str} {j : Int} : rMulA K (.str z) (.int j) H Q = (0 ≤ j ∧ j ≤ 1000 ∧ z.length ≤ 1000 ∧ Q (.str (repS z j)) H) := rfl
theorem rMulA_r : rMulA K (.ref p) (.int j) H Q = (rRep (.ref p) (.int j) H Q ∨ rRepT K (.ref p) (.int j) H Q) := rfl
theorem rI0_i : rI0 f (.int i) (.int j) H Q = Q (f i j) H := by simp [rI0]
theorem rI_i : rI C f (.int i) (.int j) H Q = (C i j ∧ Q (f i j) H) := by simp [rI]
theorem rU_i {g : Int → V} : rU g (.int i) H Q = Q (g i) H := by simp [rU]
theorem rLtA_i : rLtA (.int i) (.int j) H Q = Q (.bl (decide (i < j))) H := rfl
theorem rLeA_i : rLeA (.int i) (.int j) H Q = Q (.bl (decide (i ≤ j))) H := rfl
theorem rGtA_i : rGtA (.int i) (.int j) H Q = Q (.bl (decide (j < i))) H := rfl
theorem rGeA_i : rGeA (.int i) (.int j) H Q = Q (.bl (decide (j ≤ i))) H := rfl
theorem rEqA_i : rEqA K (.int i) (.int j) H Q = Q (.bl (decide (i = j))) H := by simp [rEqA, scal]
theorem rEqA_s : rEqA K (.str s) (.str s') H Q = Q (.bl (decide (s = s'))) H := by simp [rEqA, scal]
theorem rEqA_b : rEqA K (.bl b) (.bl b') H Q = Q (.bl (decide (b = b'))) H := by simp [rEqA, scal]
theorem rEqA_ni : rEqA K .non (.int j) H Q = Q (.bl false) H := by simp [rEqA, scal]
theorem rEqA_in : rEqA K (.int j) .non H Q = Q (.bl false) H := by simp [rEqA, scal]
theorem rEqA_nn : rEqA K .non .non H Q = Q (.bl true) H := by simp [rEqA, scal]
theorem rNeA_i : rNeA K (.int i) (.int j) H Q = Q (.bl (!decide (i = j))) H := by simp [rNeA, scal]
theorem rNeA_s : rNeA K (.str s) (.str s') H Q = Q (.bl (!decide (s = s'))) H := by simp [rNeA, scal]
theorem rNeA_b : rNeA K (.bl b) (.bl b') H Q = Q (.bl (!decide (b = b'))) H := by simp [rNeA, scal]
theorem rNeA_ni : rNeA K .non (.int j) H Q = Q (.bl true) H := by simp [rNeA, scal]
theorem rNeA_in : rNeA K (.int j) .non H Q = Q (.bl true) H := by simp [rNeA, scal]
theorem rNeA_nn : rNeA K .non .non H Q = Q (.bl false) H := by simp [rNeA, scal]
theorem rIsN_ap : rIsN v .non H Q = Q (.bl (decide (v = .non))) H := by simp [rIsN]
theorem rNotN_ap : rNotN v .non H Q = Q (.bl (!decide (v = .non))) H := by simp [rNotN]
theorem ipI_i {g : Int → Int → Int} : ipI g (.int i) (.int j) H Q = Q (.int (g i j)) H := by simp [ipI]
theorem rAdd_i : rAdd (.int i) (.int j) H Q = Q (.int (i + j)) H := by simp [rAdd]
theorem len_i : r_call_lenA K [v] H Q = ∃ n : Nat, LenV K v H n ∧ Q (.int n) H := by simp [r_call_lenA]
theorem int_b : r_call_int1 K [.bl b] H Q = Q (.int (if b then 1 else 0)) H := by simp [r_call_int1]
theorem int_i : r_call_int1 K [.int i] H Q = Q (.int i) H := by simp [r_call_int1]
theorem list_r : r_call_listA K [.ref p] H Q = ∃ ys, (SqL K H p ys ∨ SqT K H p ys) ∧ ∀ l, H l = none → Q (.ref l) (upd H l (.lst ys)) := by simp [r_call_listA]
theorem tuple_r : r_call_tupleA K [.ref p] H Q = ∃ ys, ((SqL K H p ys ∧ ∀ l, H l = none → Q (.ref l) (upd H l (.tup ys))) ∨ (SqT K H p ys ∧ Q (.ref p) H)) := by simp [r_call_tupleA]
end
theorem pvr {X : Cx} (i : Nat) {x : Str} {pos : Pos} (hN : X.N[i]? = some x := by rfl) (hv : Vis X.env.scope x := by first | exact Or.inl rfl | exact Or.inr (Or.inl rfl) | exact Or.inr (Or.inr rfl)) (hd : (x == ("__debug__" : Str)) = false := by decide)
    (hcd : (x == ("__classdict__" : Str)) = false := by decide) : PE X (.Name x pos) (tVr i) := by
  rw [tVr_eq]
  exact pe_var hN hv hd hcd
end L2

set_option linter.all false
namespace L2
open PySem PySem.Spec PyProof.Rows
abbrev ends (Q : VK) : Ends := { nx := fun _ H' => Q .non H', rt := Q }
abbrev capV (cap : List Nat) (σ : St) : St := cap.map fun i => (σ[i]?).join
section
variable {K : PySem.W.Frag} {te : TE} {cap : List Nat} {σ : St} {H : Hp} {Q : VK}
theorem comp_range {lo : Int} {n : Nat} (hn : n ≤ sizeLine) (Pv : Nat → List V → Hp → Prop) (h0 : Pv 0 [] H) (hs : ∀ i ys H, i < n → ys.length = i → Pv i ys H → te (some (.int (lo + i)) :: capV cap σ) H fun y H2 => Pv (i + 1) (ys ++ [y]) H2)
    (hd : ∀ ys H, ys.length = n → Pv n ys H → ∀ p, H p = none → Q (.ref p) (upd H p (.lst ys))) :
    cBody (Itr lo n) (gName 0) tTrue te 1 cap σ H Q := by
  refine ⟨fun i m σ' ys H => m = n - i ∧ i ≤ n ∧ ys.length = i ∧ (∃ x0, σ' = x0 :: capV cap σ) ∧ Pv i ys H, ⟨n, by simp, Nat.zero_le _, rfl, ⟨none, rfl⟩, h0⟩, ?_⟩
  rintro i m σ' ys H ⟨rfl, hi, hl, ⟨x0, rfl⟩, p⟩
  by_cases hlt : i < n
  · refine .inr ⟨hlt, by omega, fun x H' y => ?_⟩
    obtain ⟨e, y⟩ := y
    subst e y
    simp only [gName, tTrue, if_true]
    refine ⟨_, fun y H4 q => ⟨n - (i + 1), by omega, rfl, hlt, ?_, ⟨_, rfl⟩, q⟩, hs i ys _ hlt hl p⟩
    rw [List.length_append, List.length_singleton, hl]
  · have e : i = n := by omega
    subst e
    exact .inl ⟨Nat.le_refl _, hd ys H hl p⟩
theorem comp_range_map {lo : Int} {n : Nat} (hn : n ≤ sizeLine) (f : Nat → V) (hs : ∀ i, i < n → ∀ Q' : VK, Q' (f i) H → te (some (.int (lo + i)) :: capV cap σ) H Q')
    (hd : ∀ p, H p = none → Q (.ref p) (upd H p (.lst ((List.range n).map f)))) :
    cBody (Itr lo n) (gName 0) tTrue te 1 cap σ H Q := by
  refine comp_range hn (fun i ys H' => H' = H ∧ ys = (List.range i).map f) ⟨rfl, rfl⟩ (fun i ys H' hi hl ⟨e1, e2⟩ => ?_) (fun ys H' hl ⟨e1, e2⟩ => ?_)
  · subst e1
    refine hs i hi _ ⟨rfl, ?_⟩
    rw [e2, List.range_succ, List.map_append]; rfl
  · subst e1; subst e2; exact hd
theorem for_listB {b : Addr} {xs : List V} {g : TG} {tb : TS} {D : Ends} (Pv : Nat → St → Hp → Prop) (h0 : Pv 0 σ H) (hl : ∀ i σ H, i ≤ xs.length → Pv i σ H → SqL K H b xs)
    (hs : ∀ i x σ H, xs[i]? = some x → Pv i σ H → g x σ H fun σ2 H2 => tb { D with nx := Pv (i + 1), ct := Pv (i + 1), bk := D.nx } σ2 H2) (hd : ∀ σ H, Pv xs.length σ H → D.nx σ H) : fBody (Itl K b) g tb D σ H := for_list Pv h0 hl hs hd
theorem for_rangeB {lo : Int} {n : Nat} {g : TG} {tb : TS} {D : Ends} (Pv : Nat → St → Hp → Prop) (h0 : Pv 0 σ H)
    (hs : ∀ i σ H, i < n → Pv i σ H → g (.int (lo + i)) σ H fun σ2 H2 => tb { D with nx := Pv (i + 1), ct := Pv (i + 1), bk := D.nx } σ2 H2) (hd : ∀ σ H, Pv n σ H → D.nx σ H) : fBody (Itr lo n) g tb D σ H := for_range Pv h0 hs hd
end
theorem isinst_one {K : PySem.W.Frag} {H : Hp} {x y : V} {t c : Value} {b : Bool} {Q : VK} (ty : TyX K H x t) (cv : ClsV y c) (k : PySem.W.kitOne K t c = some b) (q : Q (.bl b) H) : r_call_isinst K [x, y] H Q := ⟨x, y, t, b, rfl, ty, .inl ⟨c, cv, k⟩, q⟩
theorem same_upd {H : Hp} {p : Addr} {o : HO} (h : H p = none) : Same H (upd H p o) := fun b u e => by rw [upd_ne (ne_of_none e h)]; exact e
theorem paired_at {α β : Type} {F : α → β → Prop} : ∀ {l : List α} {m : List β} {i : Nat} {y : β}, Paired F l m → m[i]? = some y → ∃ x, l[i]? = some x ∧ F x y
  | _, _, _, _, .nil, e => by simp at e
  | _, _, 0, _, .cons r _, e => by simp at e; subst e; exact ⟨_, rfl, r⟩
  | _, _, i + 1, y, .cons _ t, e => by
    obtain ⟨u, h1, h2⟩ := paired_at (i := i) (y := y) t (by simpa using e)
    exact ⟨u, by simpa using h1, h2⟩
theorem paired_set {α β : Type} {F : α → β → Prop} {x : α} {y : β} (r : F x y) : ∀ {l : List α} {m : List β} (i : Nat), Paired F l m → Paired F (l.set i x) (m.set i y)
  | _, _, _, .nil => .nil
  | _, _, 0, .cons _ t => .cons r t
  | _, _, i + 1, .cons q t => .cons q (paired_set r i t)
theorem ix_sq {K : PySem.W.Frag} {H : Hp} {p : Addr} {xs : List V} {i : Int} {n : Nat} {v : V} {Q : VK} (h : SqL K H p xs) (hi : i = n) (hx : xs[n]? = some v) (q : Q v H) : rIxA K (.ref p) (.int i) H Q :=
  .inl ⟨p, xs, i, v, rfl, rfl, h, hi ▸ atI_nat hx, q⟩
theorem small (n : Nat) (h : n ≤ 100000) : n ≤ sizeLine := Nat.le_trans h (by decide)
theorem flat1 {α : Type} (x : α) : ∀ w : Nat, (List.replicate w [x]).flatten = List.replicate w x
  | 0 => rfl
  | w + 1 => by rw [List.replicate_succ, List.flatten_cons, flat1 x w]; rfl
theorem length_putF_lt {f : Str} {v : V} {fs : List (Str × V)} {n : Nat} (h : fs.length + 1 < n) : (putF f v fs).length < n := Nat.lt_of_le_of_lt (length_putF f v fs) h
theorem cpow30 : CPow 10 30 := ⟨by decide, by decide, by decide⟩
theorem shp_refl {d : PyData} (h : shp d) : PyData.eqv d d = true := PySem.SeqAt.eqv_refl d (PySem.SeqAt.canLay_of_shaped h)
def vD : V → PyData
  | .bl b => .bool b
  | .int i => .int i
  | .str x => .str x
  | _ => .none
def flatOk : V → Bool
  | .non => true
  | .bl _ => true
  | .int _ => true
  | .str x => PyData.strOk x
  | _ => false
theorem rep_flat {K : PySem.W.Frag} {H : Hp} {v : V} (h : flatOk v = true) : Rep K H v (vD v) := by
  cases v <;> first | exact .non | exact .bl _ | exact .int _ | exact .str _ | cases h
theorem repAll_flat {K : PySem.W.Frag} {H : Hp} : ∀ {vs : List V}, (∀ v ∈ vs, flatOk v = true) → RepAll K H vs (vs.map vD)
  | [], _ => .nil
  | v :: r, h => .cons (rep_flat (h v List.mem_cons_self)) (repAll_flat fun x hx => h x (List.mem_cons_of_mem _ hx))
theorem lay_flat {v : V} (h : flatOk v = true) : (vD v).canLay0 = true ∧ (vD v).depth = 0 := by
  cases v <;> first | exact ⟨rfl, rfl⟩ | exact ⟨h, rfl⟩ | cases h
theorem layAll_flat : ∀ {vs : List V}, (∀ v ∈ vs, flatOk v = true) → PyData.canLayAll0 (vs.map vD) = true ∧ PyData.depthAll (vs.map vD) = 0
  | [], _ => ⟨rfl, rfl⟩
  | v :: r, h => by
    obtain ⟨a, b⟩ := lay_flat (h v List.mem_cons_self)
    obtain ⟨c, d⟩ := layAll_flat fun x hx => h x (List.mem_cons_of_mem _ hx)
    simp [PyData.canLayAll0, PyData.depthAll, a, b, c, d]
theorem shp_flat {vs : List V} (h : ∀ v ∈ vs, flatOk v = true) : shp (.list (vs.map vD)) := by
  obtain ⟨c, d⟩ := layAll_flat h
  unfold shp PySem.SeqAt.shaped
  simp [PyData.canLay0, PyData.depth, c, d]
theorem ne_same {K : PySem.W.Frag} {H : Hp} {p q : Addr} {xs : List V} {Q : VK} (h1 : SqL K H p xs) (h2 : SqL K H q xs) (hf : ∀ v ∈ xs, flatOk v = true) (hq : Q (.bl false) H) : rNeA K (.ref p) (.ref q) H Q := by
  unfold rNeA
  rw [if_neg (by simp [scal])]
  refine ⟨_, _, .lst h1 (repAll_flat hf), .lst h2 (repAll_flat hf), shp_flat hf, shp_flat hf, ?_⟩
  rw [shp_refl (shp_flat hf)]
  exact hq
end L2

set_option linter.all false
set_option maxRecDepth 100000
set_option maxHeartbeats 4000000
namespace L2
open PySem PySem.Spec PyProof.Rows

def ItK (k : Bool) (h : Heap) (j a : Addr) (i : Nat) : Prop := if k then h.IsListIter j a i else h.IsTupleIter j a i
def SeqK (k : Bool) (h : Heap) (a : Addr) (xs : Array Value) : Prop := if k then h.IsList a xs else h.IsTuple a xs
theorem ItK.up {k : Bool} {h h' : Heap} {j a : Addr} {i : Nat} (x : ItK k h j a i) (q : ∀ o, h.get? j = some o → h'.get? j = some o) : ItK k h' j a i := by
  cases k <;> exact (let ⟨o, e, r⟩ := x; ⟨o, q o e, r⟩)
theorem SeqK.up {k : Bool} {h h' : Heap} {a : Addr} {xs : Array Value} (x : SeqK k h a xs) (q : ∀ o, h.get? a = some o → h'.get? a = some o) : SeqK k h' a xs := by
  cases k <;> exact (let ⟨o, e, r⟩ := x; ⟨o, q o e, r⟩)
theorem ItK.ob {k : Bool} {h : Heap} {j a : Addr} {i : Nat} (x : ItK k h j a i) : ∃ o, h.get? j = some o ∧ o.data = .fields #[.ref a, .int i 0] := by
  cases k <;> exact (let ⟨o, e, _, r⟩ := x; ⟨o, e, r⟩)
section
variable {P : Program} {w : World} {A : Around} {E : Value → Shared → Prop} {s : Shared}
theorem tupNext {j t : Addr} {i : Nat} {its : Array Value} {x : Value} {Q : Value → Shared → Prop} (c : s.heap.IsTupleIter j t i) (d : s.heap.IsTuple t its) (e : its[i]? = some x)
    (q : ∀ h', h'.IsTupleIter j t (i + 1) → Heap.SameBut j s.heap h' → Q x { s with heap := h' }) : wpAny (model P w) A (Builtin.SmallTypes.nextOf (.ref j)) Q E s := by
  obtain ⟨oj, e1, e2, e3⟩ := id c
  obtain ⟨ot, f1, _, n, f2⟩ := d
  unfold Builtin.SmallTypes.nextOf
  refine wpAny_bind (wpAny_callSpecial?_slot (name := Str.ofString "__next__") c.typeIs F.slot_tuple_iterator_next (wpAny_call_entry F.slot_tuple_iterator_next c.typeIs F.entry_tuple_iterator_next ?_ (F.args_tuple_iterator_next_1 _)))
  show wpAny (model P w) _ (field (.ref j) 0 >>= _) _ _ s
  refine wpAny_bind (wpAny_field e1 e3 (x := .ref t) rfl ?_)
  show wpAny (model P w) _ (field (.ref j) 1 >>= _) _ _ s
  refine wpAny_bind (wpAny_field e1 e3 (x := .int i 0) rfl ?_)
  show wpAny (model P w) _ (seqItems? (.ref t) >>= _) _ _ s
  refine wpAny_bind (wpAny_seqItems f1 f2 ?_)
  simp only [Int.toNat_natCast, e]
  refine wpAny_bind (wpAny_setField e1 e3 (by simp) (wpAny_pure ⟨x, rfl, wpAny_pure (q _ ⟨_, Heap.get?_update_self _ e1 (Obj.isFreed_of_fields (Obj.data_mapFields e3 _)), (Obj.cls_mapFields ..).trans e2, ?_⟩ (Heap.SameBut.update ..))⟩))
  rw [Obj.data_mapFields e3]
  simp [rawInt]
theorem tupStop {j t : Addr} {i : Nat} {its : Array Value} {Q : Value → Shared → Prop} (z : A.handled = none) (c : s.heap.IsTupleIter j t i) (d : s.heap.IsTuple t its) (e : its[i]? = none)
    (q : ∀ h' x, Heap.ExtBut j s.heap h' → (∃ o, h'.get? x = some o ∧ o.cls = .type "StopIteration") → E (.ref x) { s with heap := h' }) : wpAny (model P w) A (Builtin.SmallTypes.nextOf (.ref j)) Q E s := by
  obtain ⟨oj, e1, e2, e3⟩ := id c
  obtain ⟨ot, f1, _, n, f2⟩ := d
  unfold Builtin.SmallTypes.nextOf
  refine wpAny_bind (wpAny_callSpecial?_slot (name := Str.ofString "__next__") c.typeIs F.slot_tuple_iterator_next (wpAny_call_entry F.slot_tuple_iterator_next c.typeIs F.entry_tuple_iterator_next ?_ (F.args_tuple_iterator_next_1 _)))
  show wpAny (model P w) _ (field (.ref j) 0 >>= _) _ _ s
  refine wpAny_bind (wpAny_field e1 e3 (x := .ref t) rfl ?_)
  show wpAny (model P w) _ (field (.ref j) 1 >>= _) _ _ s
  refine wpAny_bind (wpAny_field e1 e3 (x := .int i 0) rfl ?_)
  show wpAny (model P w) _ (seqItems? (.ref t) >>= _) _ _ s
  refine wpAny_bind (wpAny_seqItems f1 f2 ?_)
  simp only [Int.toNat_natCast, e]
  refine wpAny_bind (wpAny_rule (wpAny_bind (wpAny_setField e1 e3 (by simp) ?_)))
  show wpAny (model P w) _ (newExc (.type "StopIteration") [] >>= _) _ _ _
  refine wpAny_bind ?_
  simp only [newExc, newTuple]
  refine wpAny_bind (wpAny_newObj_type (wpAny_bind (m := firstArgMember _ _) (wpAny_of_eq (a := Value.none) (by first | rfl | (simp only [firstArgMember]; rfl)) (wpAny_newObj_type ?_ (by size_fits)))) (by size_fits))
  simp only [raiseNew]
  refine wpAny_bind (wpAny_handled ?_)
  rw [show A.in1.handled = none from z]
  exact wpAny_bind (wpAny_pure (wpAny_throw (q _ _ (((Heap.SameBut.update ..).extBut.push _).push _) ⟨_, Heap.get?_push_size _ rfl, rfl⟩)))
theorem nextK {k : Bool} {j t : Addr} {i : Nat} {its : Array Value} {x : Value} {Q : Value → Shared → Prop} (c : ItK k s.heap j t i) (d : SeqK k s.heap t its) (e : its[i]? = some x)
    (q : ∀ h', ItK k h' j t (i + 1) → Heap.SameBut j s.heap h' → Q x { s with heap := h' }) : wpAny (model P w) A (Builtin.SmallTypes.nextOf (.ref j)) Q E s := by
  cases k
  · exact tupNext c d e q
  · exact wpAny_nextOf_list_item c d e q
theorem stopK {k : Bool} {j t : Addr} {i : Nat} {its : Array Value} {Q : Value → Shared → Prop} (z : A.handled = none) (c : ItK k s.heap j t i) (d : SeqK k s.heap t its) (e : its[i]? = none)
    (q : ∀ h' x, Heap.ExtBut j s.heap h' → (∃ o, h'.get? x = some o ∧ o.cls = .type "StopIteration") → E (.ref x) { s with heap := h' }) : wpAny (model P w) A (Builtin.SmallTypes.nextOf (.ref j)) Q E s := by
  cases k
  · exact tupStop z c d e q
  · exact wpAny_nextOf_list_end z c d e q
theorem zipNext {k1 k2 : Bool} {z T U i1 i2 l1 l2 : Addr} {n1 n2 : Nat} {xs ys : Array Value} {x y a b : Value} {Q : Value → Shared → Prop} (D : ZipApart z T U i1 i2 l1 l2) (hz : IsZip s.heap z T U .none) (hT : IsPair s.heap T (.ref i1) (.ref i2)) (hU : IsPair s.heap U a b)
    (c1 : ItK k1 s.heap i1 l1 n1) (c2 : ItK k2 s.heap i2 l2 n2) (d1 : SeqK k1 s.heap l1 xs) (d2 : SeqK k2 s.heap l2 ys) (ex : xs[n1]? = some x) (ey : ys[n2]? = some y)
    (q : ∀ h', IsZip h' z T U (rawInt s.heap.objs.size) → IsPair h' U x y → ItK k1 h' i1 l1 (n1 + 1) → ItK k2 h' i2 l2 (n2 + 1) → IsPair h' s.heap.objs.size x y →
      (∀ c o, c ≠ z → c ≠ U → c ≠ i1 → c ≠ i2 → s.heap.get? c = some o → h'.get? c = some o) → Q (.ref s.heap.objs.size) { s with heap := h' }) :
    wpAny (model P w) A (Builtin.«zip.__next__» ⟨[.ref z], []⟩) (fun fin s' => ∃ v, fin = .done (.ret v) ∧ Q v s') E s := by
  show wpAny (model P w) A (field (.ref z) 2 >>= _) _ _ s
  refine wpAny_bind (wpAny_field hz rfl (x := .bool false) rfl ?_)
  show wpAny (model P w) A (field (.ref z) 3 >>= _) _ _ s
  refine wpAny_bind (wpAny_field hz rfl (x := .ref T) rfl (wpAny_bind (wpAny_seqItems hT rfl ?_)))
  show wpAny (model P w) A (Builtin.SmallTypes.ownedTupleIsFree (.ref z) >>= _) _ _ s
  unfold Builtin.SmallTypes.ownedTupleIsFree
  refine wpAny_bind (wpAny_bind (wpAny_field hz rfl (x := .none) rfl (wpAny_pure ?_)))
  simp only [if_true]
  refine wpAny_bind (wpAny_rule (wpAny_bind (wpAny_field hz rfl (x := .ref U) rfl (wpAny_bind (wpAny_setField_rec hz (by simp) fun h1 g1 b1 => ?_)))))
  have g1 : IsZip h1 z T U .ellipsis := g1
  refine wpAny_bind ?_
  simp only [List.zipIdx_cons, List.zipIdx_nil, List.forIn_cons, List.forIn_nil]
  refine wpAny_bind (wpAny_bind (wpAny_onRaise ?_))
  show wpAny (model P w) A (Builtin.SmallTypes.nextOf (.ref i1) >>= _) _ _ _
  refine wpAny_bind (nextK (c1.up fun o e => b1.extBut _ o D.i1z e) (d1.up fun o e => b1.extBut _ o D.l1z e) ex fun h2 g2 b2 => wpAny_pure ?_)
  have u2 : IsPair h2 U a b := b2.extBut _ _ D.TOi1 (b1.extBut _ _ D.TOz hU)
  refine wpAny_bind (wpAny_seqItems u2 rfl (wpAny_bind (wpAny_updateSeq_pair u2 fun h3 u3 b3 => wpAny_bind (wpAny_letGo (wpAny_pure ?_)))))
  have u3 : IsPair h3 U x b := u3
  refine wpAny_bind (wpAny_bind (wpAny_onRaise ?_))
  show wpAny (model P w) A (Builtin.SmallTypes.nextOf (.ref i2) >>= _) _ _ _
  refine wpAny_bind (nextK (c2.up fun o e => b3.extBut _ o D.TOi2.symm (b2.extBut _ o D.i12.symm (b1.extBut _ o D.i2z e))) (d2.up fun o e => b3.extBut _ o D.l2TO (b2.extBut _ o D.l2i1 (b1.extBut _ o D.l2z e))) ey fun h4 g4 b4 => wpAny_pure ?_)
  have u4 : IsPair h4 U x b := b4.extBut _ _ D.TOi2 u3
  refine wpAny_bind (wpAny_seqItems u4 rfl (wpAny_bind (wpAny_updateSeq_pair u4 fun h5 u5 b5 => wpAny_bind (wpAny_letGo (wpAny_pure (wpAny_pure ?_))))))
  have u5 : IsPair h5 U x y := u5
  refine wpAny_bind (wpAny_seqItems u5 rfl (wpAny_bind (wpAny_newTuple ?_)))
  have sz : h5.objs.size = s.heap.objs.size := by rw [b5.1, b4.1, b3.1, b2.1, b1.1]
  have z5 : IsZip h5 z T U .ellipsis := b5.extBut _ _ D.TOz.symm (b4.extBut _ _ D.i2z.symm (b3.extBut _ _ D.TOz.symm (b2.extBut _ _ D.i1z.symm g1)))
  have k5 : ∀ c o, c ≠ z → c ≠ U → c ≠ i1 → c ≠ i2 → s.heap.get? c = some o → h5.get? c = some o := fun c o n1 n2 n3 n4 e => b5.extBut _ _ n2 (b4.extBut _ _ n4 (b3.extBut _ _ n2 (b2.extBut _ _ n3 (b1.extBut _ _ n1 e))))
  have j1 : ItK k1 h5 i1 l1 (n1 + 1) := g2.up fun o e => b5.extBut _ o D.TOi1.symm (b4.extBut _ o D.i12 (b3.extBut _ o D.TOi1.symm e))
  have j2 : ItK k2 h5 i2 l2 (n2 + 1) := g4.up fun o e => b5.extBut _ o D.TOi2.symm e
  have ltz : z < h5.objs.size := Heap.lt_size z5
  show wpAny (model P w) A (Builtin.SmallTypes.ownedTupleHandOut (.ref z) (.ref h5.objs.size) >>= _) _ _ _
  unfold Builtin.SmallTypes.ownedTupleHandOut
  have z6 : IsZip (h5.push { cls := .type "tuple", data := .seq #[x, y] }) z T U .ellipsis := Heap.get?_push_of_some _ z5
  refine wpAny_bind (wpAny_bind (wpAny_setField_rec z6 (by simp) fun h7 z7 b7 => ?_))
  have z7 : IsZip h7 z T U (rawInt h5.objs.size) := z7
  refine wpAny_setField_rec z7 (by simp) fun h8 z8 b8 => ?_
  have z8 : IsZip h8 z T U (rawInt h5.objs.size) := z8
  have up : ∀ c o, c ≠ z → h5.get? c = some o → h8.get? c = some o := fun c o n1 e => b8.extBut _ _ n1 (b7.extBut _ _ n1 (Heap.get?_push_of_some _ e))
  have t8 : IsPair h8 h5.objs.size x y := b8.extBut _ _ (Nat.ne_of_gt ltz) (b7.extBut _ _ (Nat.ne_of_gt ltz) (Heap.get?_push_size _ rfl))
  rw [sz] at z8 t8
  refine wpAny_pure ⟨_, rfl, ?_⟩
  show Q (.ref h5.objs.size) _
  rw [sz]
  exact q h8 z8 (up _ _ D.TOz u5) (j1.up fun o e => up _ o D.i1z e) (j2.up fun o e => up _ o D.i2z e) t8 fun c o n1 n2 n3 n4 e => up c o n1 (k5 c o n1 n2 n3 n4 e)
theorem zipStop {k1 k2 : Bool} {z T U i1 i2 l1 l2 : Addr} {n1 n2 : Nat} {xs ys : Array Value} {a b : Value} {Q : Fin → Shared → Prop} (hh : A.handled = none) (D : ZipApart z T U i1 i2 l1 l2) (hz : IsZip s.heap z T U .none) (hT : IsPair s.heap T (.ref i1) (.ref i2)) (hU : IsPair s.heap U a b)
    (c1 : ItK k1 s.heap i1 l1 n1) (c2 : ItK k2 s.heap i2 l2 n2) (d1 : SeqK k1 s.heap l1 xs) (d2 : SeqK k2 s.heap l2 ys) (en : xs[n1]? = none ∨ ys[n2]? = none)
    (q : ∀ h' x, (∀ c o, c ≠ z → c ≠ U → c ≠ i1 → c ≠ i2 → s.heap.get? c = some o → h'.get? c = some o) → (∃ o, h'.get? x = some o ∧ o.cls = .type "StopIteration") → E (.ref x) { s with heap := h' }) :
    wpAny (model P w) A (Builtin.«zip.__next__» ⟨[.ref z], []⟩) Q E s := by
  show wpAny (model P w) A (field (.ref z) 2 >>= _) _ _ s
  refine wpAny_bind (wpAny_field hz rfl (x := .bool false) rfl ?_)
  show wpAny (model P w) A (field (.ref z) 3 >>= _) _ _ s
  refine wpAny_bind (wpAny_field hz rfl (x := .ref T) rfl (wpAny_bind (wpAny_seqItems hT rfl ?_)))
  show wpAny (model P w) A (Builtin.SmallTypes.ownedTupleIsFree (.ref z) >>= _) _ _ s
  unfold Builtin.SmallTypes.ownedTupleIsFree
  refine wpAny_bind (wpAny_bind (wpAny_field hz rfl (x := .none) rfl (wpAny_pure ?_)))
  simp only [if_true]
  refine wpAny_bind (wpAny_rule (wpAny_bind (wpAny_field hz rfl (x := .ref U) rfl (wpAny_bind (wpAny_setField_rec hz (by simp) fun h1 g1 b1 => ?_)))))
  have g1 : IsZip h1 z T U .ellipsis := g1
  refine wpAny_bind ?_
  simp only [List.zipIdx_cons, List.zipIdx_nil, List.forIn_cons, List.forIn_nil]
  refine wpAny_bind (wpAny_bind (wpAny_onRaise ?_))
  show wpAny (model P w) A (Builtin.SmallTypes.nextOf (.ref i1) >>= _) _ _ _
  cases ex : xs[n1]? with
  | none =>
    refine wpAny_bind (stopK hh (c1.up fun o e => b1.extBut _ o D.i1z e) (d1.up fun o e => b1.extBut _ o D.l1z e) ex fun h2 x b2 ⟨ox, o1, o2⟩ => ?_)
    have z2 : IsZip h2 z T U .ellipsis := b2 _ _ D.i1z.symm g1
    have ne : x ≠ z := fun e => by subst e; rw [z2] at o1; cases o1; simp at o2
    exact wpAny_setField_rec z2 (by simp) fun h3 _ b3 => q h3 x (fun c o m1 _ m3 _ e => b3.extBut _ _ m1 (b2 _ _ m3 (b1.extBut _ _ m1 e))) ⟨ox, b3.extBut _ _ ne o1, o2⟩
  | some x =>
    have ey : ys[n2]? = none := en.elim (fun e => by rw [ex] at e; cases e) id
    refine wpAny_bind (nextK (c1.up fun o e => b1.extBut _ o D.i1z e) (d1.up fun o e => b1.extBut _ o D.l1z e) ex fun h2 g2 b2 => wpAny_pure ?_)
    have u2 : IsPair h2 U a b := b2.extBut _ _ D.TOi1 (b1.extBut _ _ D.TOz hU)
    refine wpAny_bind (wpAny_seqItems u2 rfl (wpAny_bind (wpAny_updateSeq_pair u2 fun h3 u3 b3 => wpAny_bind (wpAny_letGo (wpAny_pure ?_)))))
    refine wpAny_bind (wpAny_bind (wpAny_onRaise ?_))
    show wpAny (model P w) A (Builtin.SmallTypes.nextOf (.ref i2) >>= _) _ _ _
    refine wpAny_bind (stopK hh (c2.up fun o e => b3.extBut _ o D.TOi2.symm (b2.extBut _ o D.i12.symm (b1.extBut _ o D.i2z e))) (d2.up fun o e => b3.extBut _ o D.l2TO (b2.extBut _ o D.l2i1 (b1.extBut _ o D.l2z e))) ey fun h4 x' b4 ⟨ox, o1, o2⟩ => ?_)
    have z4 : IsZip h4 z T U .ellipsis := b4 _ _ D.i2z.symm (b3.extBut _ _ D.TOz.symm (b2.extBut _ _ D.i1z.symm g1))
    have ne : x' ≠ z := fun e => by subst e; rw [z4] at o1; cases o1; simp at o2
    exact wpAny_setField_rec z4 (by simp) fun h5 _ b5 => q h5 x' (fun c o m1 m2 m3 m4 e => b5.extBut _ _ m1 (b4 _ _ m4 (b3.extBut _ _ m2 (b2.extBut _ _ m3 (b1.extBut _ _ m1 e))))) ⟨ox, b5.extBut _ _ ne o1, o2⟩

theorem pyNextZip {k1 k2 : Bool} {z T U i1 i2 l1 l2 : Addr} {n1 n2 : Nat} {xs ys : Array Value} {x y a b : Value} {Q : Option Value → Shared → Prop} (D : ZipApart z T U i1 i2 l1 l2) (hz : IsZip s.heap z T U .none) (hT : IsPair s.heap T (.ref i1) (.ref i2)) (hU : IsPair s.heap U a b)
    (c1 : ItK k1 s.heap i1 l1 n1) (c2 : ItK k2 s.heap i2 l2 n2) (d1 : SeqK k1 s.heap l1 xs) (d2 : SeqK k2 s.heap l2 ys) (ex : xs[n1]? = some x) (ey : ys[n2]? = some y)
    (q : ∀ h', IsZip h' z T U (rawInt s.heap.objs.size) → IsPair h' U x y → ItK k1 h' i1 l1 (n1 + 1) → ItK k2 h' i2 l2 (n2 + 1) → IsPair h' s.heap.objs.size x y →
      (∀ c o, c ≠ z → c ≠ U → c ≠ i1 → c ≠ i2 → s.heap.get? c = some o → h'.get? c = some o) → Q (some (.ref s.heap.objs.size)) { s with heap := h' }) : wpAny (model P w) A (pyNext (.ref z)) Q E s := by
  have ty : s.TypeIs (.ref z) "zip" := ⟨_, hz, rfl⟩
  unfold pyNext
  exact wpAny_bind (wpAny_attempt (wpAny_callSpecial?_slot (name := Str.ofString "__next__") ty F.slot_zip_next (wpAny_call_entry F.slot_zip_next ty F.entry_zip_next
    (zipNext D hz hT hU c1 c2 d1 d2 ex ey fun h' a1 a2 a3 a4 a5 a6 => wpAny_pure (q h' a1 a2 a3 a4 a5 a6)) (F.args_zip_next_1 _))))
theorem pyStopZip {k1 k2 : Bool} {z T U i1 i2 l1 l2 : Addr} {n1 n2 : Nat} {xs ys : Array Value} {a b : Value} {Q : Option Value → Shared → Prop} (hh : A.handled = none) (D : ZipApart z T U i1 i2 l1 l2) (hz : IsZip s.heap z T U .none) (hT : IsPair s.heap T (.ref i1) (.ref i2)) (hU : IsPair s.heap U a b)
    (c1 : ItK k1 s.heap i1 l1 n1) (c2 : ItK k2 s.heap i2 l2 n2) (d1 : SeqK k1 s.heap l1 xs) (d2 : SeqK k2 s.heap l2 ys) (en : xs[n1]? = none ∨ ys[n2]? = none)
    (q : ∀ h', (∀ c o, c ≠ z → c ≠ U → c ≠ i1 → c ≠ i2 → s.heap.get? c = some o → h'.get? c = some o) → Q none { s with heap := h' }) : wpAny (model P w) A (pyNext (.ref z)) Q E s := by
  have ty : s.TypeIs (.ref z) "zip" := ⟨_, hz, rfl⟩
  unfold pyNext
  refine wpAny_bind (wpAny_attempt (wpAny_callSpecial?_slot (name := Str.ofString "__next__") ty F.slot_zip_next (wpAny_call_entry F.slot_zip_next ty F.entry_zip_next (zipStop hh D hz hT hU c1 c2 d1 d2 en fun h' x kk ⟨o, e1, e2⟩ => ?_) (F.args_zip_next_1 _))))
  exact wpAny_bind (wpAny_isInstance (T := "StopIteration") (b := true) ⟨o, e1, e2⟩ isSubtype_stop (wpAny_pure (q _ kk)))
end
def clsK (k : Bool) : String := if k then "list_iterator" else "tuple_iterator"
abbrev itO (k : Bool) (l : Addr) : Obj := { cls := .type (clsK k), data := .fields #[.ref l, .int 0 0] }
theorem itK_new {k : Bool} {h : Heap} {j l : Addr} (e : h.get? j = some (itO k l)) : ItK k h j l 0 := by
  cases k <;> exact ⟨_, e, rfl, rfl⟩
theorem iterK2 {P : Program} {w : World} {A : Around} {E : Value → Shared → Prop} {s : Shared} {k : Bool} {t : Addr} {its : Array Value} {Q : Value → Shared → Prop} (d : SeqK k s.heap t its)
    (q : Q (.ref s.heap.objs.size) { s with heap := s.heap.push (itO k t) }) : wpAny (model P w) A (pyIter (.ref t)) Q E s := by
  cases k
  · exact wpAny_pyIter_tuple d q
  · exact wpAny_pyIter_list d q
abbrev zh1 (h : Heap) (k : Bool) (l : Addr) : Heap := h.push (itO k l)
abbrev zh2 (h : Heap) (k k' : Bool) (l l' : Addr) : Heap := (zh1 h k l).push (itO k' l')
abbrev zh3 (h : Heap) (k k' : Bool) (l l' : Addr) : Heap := (zh2 h k k' l l').push { cls := .type "tuple", data := .seq #[.ref h.objs.size, .ref (zh1 h k l).objs.size] }
abbrev zh4 (h : Heap) (k k' : Bool) (l l' : Addr) : Heap := (zh3 h k k' l l').push { cls := .type "tuple", data := .seq #[.none, .none] }
abbrev zh5 (h : Heap) (k k' : Bool) (l l' : Addr) : Heap := (zh4 h k k' l l').push { cls := .type "zip", data := .fields #[.none, .bool false, .bool false, .ref (zh2 h k k' l l').objs.size, .ref (zh3 h k k' l l').objs.size] }
theorem zip_made (k k' : Bool) (l l' : Addr) (xs ys : Array Value) : Meets (Builtin.«zip.__new__» ⟨[.type "zip", .ref l, .ref l'], []⟩)
    (fun _ R s => SeqK k s.heap l xs ∧ SeqK k' s.heap l' ys ∧ R (.ok (.ret (.ref (zh4 s.heap k k' l l').objs.size))) { s with heap := zh5 s.heap k k' l l' }) :=
  .of_wp fun prog w A R s h => by
    obtain ⟨hp, g, d, tk, os⟩ := s; obtain ⟨d1, d2, h⟩ := h
    have sub := sub_zip
    have e1 : SeqK k (Shared.heap ⟨hp, g, d, tk, os⟩) l xs := d1
    have e2 : SeqK k' (Shared.heap ⟨hp.push (itO k l), g, d, tk, os⟩) l' ys := d2.up fun o e => Heap.get?_push_of_some _ e
    wp_walk using iterK2 e1, iterK2 e2
    exact ⟨_, rfl, h⟩
section
variable {P : Program} {w : World} {A : Around} {E : Value → Shared → Prop} {s : Shared}
theorem call_zipK {k k' : Bool} {l l' : Addr} {xs ys : Array Value} {Q : Value → Shared → Prop} (d1 : SeqK k s.heap l xs) (d2 : SeqK k' s.heap l' ys)
    (q : ∀ h', IsZip h' (s.heap.objs.size + 4) (s.heap.objs.size + 2) (s.heap.objs.size + 3) .none → IsPair h' (s.heap.objs.size + 2) (.ref s.heap.objs.size) (.ref (s.heap.objs.size + 1)) → IsPair h' (s.heap.objs.size + 3) .none .none →
      ItK k h' s.heap.objs.size l 0 → ItK k' h' (s.heap.objs.size + 1) l' 0 → (∀ c o, s.heap.get? c = some o → h'.get? c = some o) → Q (.ref (s.heap.objs.size + 4)) { s with heap := h' }) :
    wpAny (model P w) A (call (.type "zip") [.ref l, .ref l']) Q E s := by
  refine callType_new F.called_zip (by decide) (F.typeCall_zip_2 _ _) (F.newCall_zip_2 _ _) (fun ob => F.args_object_init_3 ob _ _) F.entry_zip_new (zip_made k k' l l' xs ys) ⟨d1, d2, ?_⟩
  have s1 : (zh1 s.heap k l).objs.size = s.heap.objs.size + 1 := Heap.size_push ..
  have s2 : (zh2 s.heap k k' l l').objs.size = s.heap.objs.size + 2 := by rw [Heap.size_push, s1]
  have s3 : (zh3 s.heap k k' l l').objs.size = s.heap.objs.size + 3 := by rw [Heap.size_push, s2]
  have s4 : (zh4 s.heap k k' l l').objs.size = s.heap.objs.size + 4 := by rw [Heap.size_push, s3]
  have p5 : (zh5 s.heap k k' l l').get? (zh4 s.heap k k' l l').objs.size = some _ := Heap.get?_push_size _ rfl
  have p4 : (zh5 s.heap k k' l l').get? (zh3 s.heap k k' l l').objs.size = some _ := Heap.get?_push_of_some _ (Heap.get?_push_size _ rfl)
  have p3 : (zh5 s.heap k k' l l').get? (zh2 s.heap k k' l l').objs.size = some _ := Heap.get?_push_of_some _ (Heap.get?_push_of_some _ (Heap.get?_push_size _ rfl))
  have p2 : (zh5 s.heap k k' l l').get? (zh1 s.heap k l).objs.size = some _ := Heap.get?_push_of_some _ (Heap.get?_push_of_some _ (Heap.get?_push_of_some _ (Heap.get?_push_size _ rfl)))
  have p1 : (zh5 s.heap k k' l l').get? s.heap.objs.size = some _ := Heap.get?_push_of_some _ (Heap.get?_push_of_some _ (Heap.get?_push_of_some _ (Heap.get?_push_of_some _ (Heap.get?_push_size _ rfl))))
  show _ ∧ _
  rw [s2, s3, s4] at p5
  rw [s1, s2] at p3
  rw [s3] at p4
  rw [s1] at p2
  rw [s4]
  exact ⟨⟨_, p5, rfl⟩, q _ p5 p3 p4 (itK_new p1) (itK_new p2) fun c o e => Heap.get?_push_of_some _ (Heap.get?_push_of_some _ (Heap.get?_push_of_some _ (Heap.get?_push_of_some _ (Heap.get?_push_of_some _ e))))⟩
end

theorem Inv.turnedS {X : Cx} {pins : List (Addr × Obj)} {σ : St} {H : Hp} {s : Shared} {h' : Heap} {t' : Nat} {fp : List Addr} (I : Inv X pins σ H s) (k : ∀ b o, b ∉ fp → s.heap.get? b = some o → h'.get? b = some o) (hf : ∀ b ∈ fp, FpOk X pins H b) : Inv X pins σ H { s with heap := h', toks := t' } := by
  have nit : ∀ b u, H b = some u → b ∉ fp := fun b u e z => by rw [(hf b z).1] at e; cases e
  refine I.step (g' := s.gens) (d' := s.drawn) (ch := fp) (fun b hb => ?_) (fun b o _ _ hc e _ => k b o hc e) (fun b o _ _ hc e _ => ⟨o.slots, k b o hc e⟩) (fun _ _ _ _ n => n)
    (fun b o hc e => ⟨o, k b o hc e⟩) (fun _ _ e => e) (fun _ _ _ e => e) (fun b ps e => ⟨#[], by rw [e]; simp⟩) (fun m hm => ?_) (fun b u e => ?_) I.bare
  · obtain ⟨_, f1, _, f3, f4, f5⟩ := hf b hb
    exact ⟨f3, f1, f4, f5⟩
  · obtain ⟨o, es, ep, ho, r⟩ := hm
    exact ⟨o, es, ep, k _ o (fun z => (hf _ z).2.1 rfl) ho, r⟩
  · refine (I.hok b u e).stay (fun c v hc q => k c v ?_ q) (fun _ q => q) fun _ _ q => q
    rcases hc with z | z
    · rw [z]; exact nit b u e
    · exact nit c _ z
def SqB (K : PySem.W.Frag) (k : Bool) (H : Hp) (a : Addr) (xs : List V) : Prop := if k then SqL K H a xs else SqT K H a xs
def Itz (K : PySem.W.Frag) (k k' : Bool) (a b : Addr) : It :=
  ⟨fun i H => ∃ xs ys x y, SqB K k H a xs ∧ SqB K k' H b ys ∧ xs[i]? = some x ∧ ys[i]? = some y,
   fun i H v H' => ∃ t, H t = none ∧ v = .ref t ∧ ∃ x y, H' = upd H t (.tup [x, y]) ∧ (∀ xs, SqB K k H a xs → xs[i]? = some x) ∧ ∀ ys, SqB K k' H b ys → ys[i]? = some y,
   fun i H => ∃ xs ys, SqB K k H a xs ∧ SqB K k' H b ys ∧ (xs.length ≤ i ∨ ys.length ≤ i)⟩
theorem Inv.seqK {X : Cx} {pins : List (Addr × Obj)} {σ : St} {H : Hp} {s : Shared} {k : Bool} {a : Addr} {xs : List V} (I : Inv X pins σ H s) (q : SqB X.K k H a xs) : ∃ its, Vals xs its ∧ SeqK k s.heap a its.toArray := by
  cases k
  · obtain ⟨its, rv, p, _⟩ := I.tuple q
    exact ⟨its, rv, p⟩
  · obtain ⟨its, rv, p, _⟩ := I.list q
    exact ⟨its, rv, p.isList⟩
theorem Inv.seqK_inj {X : Cx} {pins : List (Addr × Obj)} {σ : St} {H : Hp} {s : Shared} {k : Bool} {a : Addr} {xs ys : List V} (I : Inv X pins σ H s) (p : SqB X.K k H a xs) (q : SqB X.K k H a ys) : xs = ys := by
  cases k
  · exact I.tuple_inj p q
  · exact I.list_inj p q
theorem SeqK.lt {k : Bool} {h : Heap} {a : Addr} {xs : Array Value} (x : SeqK k h a xs) : a < h.objs.size := by
  cases k <;> exact (let ⟨_, e, _⟩ := x; Heap.lt_size e)
theorem SeqK.nit {k : Bool} {h : Heap} {a b : Addr} {xs : Array Value} (x : SeqK k h a xs) {o : Obj} (e : h.get? b = some o) (n : ∀ its m, o.data ≠ .seq its m) : a ≠ b := by
  intro z
  subst z
  cases k <;> (obtain ⟨o', e', _, m, d⟩ := x; rw [e] at e'; cases e'; exact n _ _ d)
def ZipSt (k k' : Bool) (z l l' : Addr) (f : Value) (i : Nat) (h : Heap) (T U j j' : Addr) : Prop :=
  IsZip h z T U f ∧ IsPair h T (.ref j) (.ref j') ∧ (∃ a b, IsPair h U a b) ∧ ItK k h j l i ∧ ItK k' h j' l' i
structure Five (z T U j j' : Addr) : Prop where
  a1 : T ≠ z
  a2 : U ≠ z
  a3 : j ≠ z
  a4 : j' ≠ z
  a5 : T ≠ U
  a6 : T ≠ j
  a7 : T ≠ j'
  a8 : U ≠ j
  a9 : U ≠ j'
  a10 : j ≠ j'
theorem SqB.off {X : Cx} {pins : List (Addr × Obj)} {σ : St} {H : Hp} {s : Shared} {k : Bool} {m b : Addr} {zs : List V} (I : Inv X pins σ H s) (q : SqB X.K k H m zs) (f : FpOk X pins H b) : m ≠ b := by
  intro e
  subst e
  obtain ⟨f0, _, _, f3, _⟩ := f
  have no : ∀ o, X.K.lookup m = some o → False := fun o hk => by
    have e := I.mod.kin m o hk
    rcases f3 with z | z
    · exact I.ok.noex _ _ e z
    · exact absurd (Heap.lt_size (I.ok.bs _ _ e).1) (Nat.not_lt.mpr z)
  have nr : ∀ u, Rd H m u → False := fun u r => by
    rcases r with r | ⟨o, r⟩ <;> (rw [f0] at r; cases r)
  cases k
  · rcases q with q | ⟨o, _, _, hk, _⟩
    · exact nr _ q
    · exact no o hk
  · rcases q with q | ⟨o, _, _, hk, _⟩
    · exact nr _ q
    · exact no o hk
theorem FpOk.upd {X : Cx} {pins : List (Addr × Obj)} {H : Hp} {a b : Addr} {o : HO} (f : FpOk X pins H b) (n : b ≠ a) : FpOk X pins (upd H a o) b := ⟨(upd_ne n).trans f.1, f.2⟩
theorem ZipSt.lt {k k' : Bool} {z l l' T U j j' : Addr} {f : Value} {i : Nat} {h : Heap} (q : ZipSt k k' z l l' f i h T U j j') : ∀ b ∈ [z, T, U, j, j'], b < h.objs.size := by
  obtain ⟨h1, h2, ⟨a, b', h3⟩, h4, h5⟩ := q
  obtain ⟨o4, e4, _⟩ := h4.ob
  obtain ⟨o5, e5, _⟩ := h5.ob
  intro b hb
  simp only [List.mem_cons, List.not_mem_nil, or_false] at hb
  rcases hb with rfl | rfl | rfl | rfl | rfl
  · exact Heap.lt_size h1
  · exact Heap.lt_size h2
  · exact Heap.lt_size h3
  · exact Heap.lt_size e4
  · exact Heap.lt_size e5
theorem Five.apart {z T U j j' l l' : Addr} (D : Five z T U j j') (n : ∀ b ∈ [z, T, U, j, j'], l ≠ b) (n' : ∀ b ∈ [z, T, U, j, j'], l' ≠ b) : ZipApart z T U j j' l l' :=
  ⟨D.a1, D.a2, D.a3, D.a4, D.a5, D.a6, D.a7, D.a8, D.a9, D.a10, n _ (by simp), n _ (by simp), n _ (by simp), n _ (by simp), n' _ (by simp), n' _ (by simp), n' _ (by simp), n' _ (by simp)⟩
theorem turn_zip {P : Program} {w : World} {K : PySem.W.Frag} {elts : List Expr} {kn : Nat} {pos : Pos} {k k' : Bool} {z T U j j' l l' : Addr} (D : Five z T U j j') :
    Turn P w K (.Tuple elts kn pos) (Itz K k k' l l') [z, T, U, j, j'] z (fun i h => ZipSt k k' z l l' .none i h T U j j') where
  mem := by simp
  obj := fun i h st b hb => by
    obtain ⟨h1, h2, ⟨a, b', h3⟩, h4, h5⟩ := st
    obtain ⟨o4, e4, d4⟩ := h4.ob
    obtain ⟨o5, e5, d5⟩ := h5.ob
    simp only [List.mem_cons, List.not_mem_nil, or_false] at hb
    rcases hb with rfl | rfl | rfl | rfl | rfl
    · exact ⟨_, h1, fun v q => by cases q⟩
    · exact ⟨_, h2, fun v q => by cases q⟩
    · exact ⟨_, h3, fun v q => by cases q⟩
    · exact ⟨_, e4, fun v q => by rw [d4] at q; cases q⟩
    · exact ⟨_, e5, fun v q => by rw [d5] at q; cases q⟩
  keep := fun i h h' ⟨h1, h2, ⟨a, b, h3⟩, h4, h5⟩ q => ⟨q z (by simp) _ h1, q T (by simp) _ h2, ⟨a, b, q U (by simp) _ h3⟩, h4.up fun o e => q j (by simp) o e, h5.up fun o e => q j' (by simp) o e⟩
  item := by
    intro X hP hw hK hc i pins s σ H E I hf st hg
    subst hP hw hK
    obtain ⟨xs, ys, x, y, hx, hy, ex, ey⟩ := hg
    obtain ⟨its, rv, d1⟩ := I.seqK hx
    obtain ⟨jts, rw', d2⟩ := I.seqK hy
    obtain ⟨u, hu, ru⟩ := rv.get ex
    obtain ⟨v, hv, rv'⟩ := rw'.get ey
    have lt := ZipSt.lt st
    obtain ⟨h1, h2, ⟨a, b, h3⟩, h4, h5⟩ := st
    have AP : ZipApart z T U j j' l l' := D.apart (fun b hb => hx.off I (hf b hb)) fun b hb => hy.off I (hf b hb)
    refine pyNextZip AP h1 h2 h3 h4 h5 d1 d2 (x := u) (y := v) (by simpa using hu) (by simpa using hv) fun h' g1 g2 g3 g4 g5 kk => ⟨_, rfl, ?_⟩
    refine wpAny_letOwnedTupleGo_zip g1 fun h2' z2 sb => ?_
    have I1 := I.tnew (.cons ru (.cons rv' .nil)) (by show 2 ≤ sizeLine; decide)
    have f' : ∀ b ∈ [z, T, U, j, j'], b ≠ s.heap.objs.size := fun b hb => Nat.ne_of_lt (lt b hb)
    have nz : s.heap.objs.size ≠ z := (f' z (by simp)).symm
    have I2 : Inv X pins σ (upd H s.heap.objs.size (.tup [x, y])) { s with heap := h2' } := by
      refine Inv.turnedS (s := { s with heap := s.heap.push { cls := Value.type "tuple", data := Data.seq #[u, v] } }) (t' := s.toks) (fp := [z, T, U, j, j']) I1 (fun b o hb e => ?_) fun b hb => (hf b hb).upd (f' b hb)
      simp only [List.mem_cons, List.not_mem_nil, or_false, not_or] at hb
      rcases Heap.get?_push_cases e with ⟨e1, e2⟩ | e1
      · subst e1 e2
        exact sb.extBut _ _ nz g5
      · exact sb.extBut _ _ hb.1 (kk _ _ hb.1 hb.2.2.1 hb.2.2.2.1 hb.2.2.2.2 e1)
    exact ⟨.ref s.heap.objs.size, _, I2, rfl, ⟨s.heap.objs.size, I.fresh, rfl, x, y, rfl, fun ys' q => by rw [I.seqK_inj q hx]; exact ex, fun ys' q => by rw [I.seqK_inj q hy]; exact ey⟩,
      ⟨z2, sb.extBut _ _ D.a1 (kk _ _ D.a1 D.a5 D.a6 D.a7 h2), ⟨_, _, sb.extBut _ _ D.a2 g2⟩, g3.up fun o e => sb.extBut _ _ D.a3 e, g4.up fun o e => sb.extBut _ _ D.a4 e⟩, fun b hb => ((hf b hb).upd (f' b hb)).1⟩
  done := by
    intro X hP hw hK hc i pins s σ H E I hf st hg
    subst hP hw hK
    obtain ⟨xs, ys, hx, hy, en⟩ := hg
    obtain ⟨its, rv, d1⟩ := I.seqK hx
    obtain ⟨jts, rw', d2⟩ := I.seqK hy
    obtain ⟨h1, h2, ⟨a, b, h3⟩, h4, h5⟩ := st
    have e1 := rv.length
    have e2 := rw'.length
    refine pyStopZip (I.ok.hd hc) (D.apart (fun b hb => hx.off I (hf b hb)) fun b hb => hy.off I (hf b hb)) h1 h2 h3 h4 h5 d1 d2 (by simp; omega) fun h' kk => ⟨rfl, I.turnedS (t' := s.toks) (fp := [z, T, U, j, j']) (fun b o hb e => ?_) hf⟩
    simp only [List.mem_cons, List.not_mem_nil, or_false, not_or] at hb
    exact kk _ _ hb.1 hb.2.2.1 hb.2.2.2.1 hb.2.2.2.2 e
  self := fun _ _ _ _ _ st h => wpAny_pyIter_zip st.1 h
section
variable {X : Cx} {tg : Expr}
def iZip (K : PySem.W.Frag) (ta : TA) : TI := fun σ H R => ta σ H fun vs H1 => ∃ (k k' : Bool) (a b : Addr), vs = [.ref a, .ref b] ∧ (∃ xs, SqB K k H1 a xs) ∧ (∃ ys, SqB K k' H1 b ys) ∧ R (Itz K k k' a b) H1
theorem pi_zip {a b : Expr} {ta : TA} {p pos p2 : Pos} {elts : List Expr} {kn : Nat} (hg : Gl X "zip") (hm : X.mg "zip" = none) (ha : PA X [a, b] ta) (hs : starEach [a, b] X.env = [(false, eval a X.env), (false, eval b X.env)] := by rfl) (hs2 : starEach [b] X.env = [(false, eval b X.env)] := by rfl) :
    PI X (.Tuple elts kn p2) (.Call (.Name "zip" p) [a, b] [] pos) (iZip X.K ta) := by
  intro pins s σ H R I h
  refine Call_ (ld_blt I hg hm boot_zip (PyProof.Rows.callWith_type1 (thn (ha pos pins s σ H _ I h) fun us s1 ⟨vs, H1, I1, r1, q1⟩ => ?_) (by rw [hs, hs2]) (by rw [hs2]; rfl)))
  obtain ⟨k, k', l, l', e, ⟨xs, hx⟩, ⟨ys, hy⟩, q⟩ := q1
  subst e
  obtain ⟨u, v, rfl, rx, ry⟩ := Vals.two r1
  cases rx
  cases ry
  obtain ⟨its, rv, d1⟩ := I1.seqK hx
  obtain ⟨jts, rw', d2⟩ := I1.seqK hy
  refine call_zipK d1 d2 fun h' z1 z2 z3 z4 z5 kk => wpAny_pyIter_zip z1 ?_
  have I2 : Inv X pins σ H1 { s1 with heap := h' } := I1.kept (t' := s1.toks) kk
  refine ⟨_, [s1.heap.objs.size + 4, s1.heap.objs.size + 2, s1.heap.objs.size + 3, s1.heap.objs.size, s1.heap.objs.size + 1], _, _, H1, rfl, I2, turn_zip ⟨?_, ?_, ?_, ?_, ?_, ?_, ?_, ?_, ?_, ?_⟩, ⟨z1, z2, ⟨_, _, z3⟩, z4, z5⟩, fun b hb => I1.fpOk ?_ (I1.hok.fresh ?_), q⟩
  all_goals first | exact Nat.ne_of_lt (by omega) | exact Nat.ne_of_gt (by omega) | skip
  all_goals
    simp only [List.mem_cons, List.not_mem_nil, or_false] at hb
    rcases hb with rfl | rfl | rfl | rfl | rfl <;> omega
end
theorem Fun.none {P : Program} {w : World} {K : PySem.W.Frag} {mg : Str → Option Value} {base : Heap} {x qual : Str} {st : Stmt} {f : Addr} {fd : FuncData} {N ps : List Str} {k : Nat} {sp : Sp} (F : Fun K x qual st f fd) (S : FnScope N ps (defScope st)) (no : ∀ vs H Q E, sp vs H Q E → False) : FnOk P w K mg base (cxE P w) (k + 1) f fd ps sp :=
  F.okE S (fun vs H Q E h => (no vs H Q E h).elim) fun _ _ _ _ H vs Q E _ h => (no vs H Q E h).elim
theorem tFor_zip_ap {K : PySem.W.Frag} {as : TA} {g : TG} {s1 : TS} {D : Ends} {σ : St} {H : Hp} : tFor (iZip K as) g s1 D σ H = (as σ H fun vs H1 => ∃ (k k' : Bool) (a b : Addr), vs = [.ref a, .ref b] ∧ (∃ xs, SqB K k H1 a xs) ∧ (∃ ys, SqB K k' H1 b ys) ∧ fBody (Itz K k k' a b) g s1 D σ H1) := rfl
theorem for_zipB {K : PySem.W.Frag} {σ : St} {H : Hp} {k k' : Bool} {a b : Addr} {xs ys : List V} {g : TG} {tb : TS} {D : Ends} (hl : xs.length = ys.length) (Pv : Nat → St → Hp → Prop) (h0 : Pv 0 σ H) (ha : ∀ i σ H, i ≤ xs.length → Pv i σ H → SqB K k H a xs ∧ SqB K k' H b ys)
    (hs : ∀ i x y σ H t, xs[i]? = some x → ys[i]? = some y → Pv i σ H → H t = none → g (.ref t) σ (upd H t (.tup [x, y])) fun σ2 H2 => tb { D with nx := Pv (i + 1), ct := Pv (i + 1), bk := D.nx } σ2 H2) (hd : ∀ σ H, Pv xs.length σ H → D.nx σ H) : fBody (Itz K k k' a b) g tb D σ H := by
  refine ⟨fun i m σ H => i + m = xs.length ∧ Pv i σ H, ⟨xs.length, by omega, h0⟩, fun i m σ H ⟨e, p⟩ => ?_⟩
  obtain ⟨h1, h2⟩ := ha i σ H (by omega) p
  by_cases hi : i < xs.length
  · refine .inr ⟨⟨xs, ys, xs[i], ys[i], h1, h2, List.getElem?_eq_getElem hi, List.getElem?_eq_getElem (by omega)⟩, Pv (i + 1), fun σ' H' q => ⟨m - 1, by omega, by omega, q⟩, fun v H' ⟨t, ht, e, x, y, e', q1, q2⟩ => ?_⟩
    subst e e'
    exact hs i x y σ H t (q1 _ h1) (q2 _ h2) p ht
  · have e : i = xs.length := by omega
    subst e
    exact .inl ⟨⟨xs, ys, h1, h2, .inl (Nat.le_refl _)⟩, hd _ _ p⟩
end L2

set_option linter.all false
set_option maxRecDepth 100000
set_option maxHeartbeats 4000000
namespace L2
open PySem PySem.Spec PyProof.Rows
section
variable {X : Cx} {tg : Expr}
def r_call_maxA (K : PySem.W.Frag) : List V → Hp → VK → Prop := fun xs H Q => ∃ i j, xs = [.int i, .int j] ∧ Q (.int (if j > i then j else i)) H
end
theorem max_i {K : PySem.W.Frag} {i j : Int} {H : Hp} {Q : VK} : r_call_maxA K [.int i, .int j] H Q = Q (.int (if j > i then j else i)) H := propext ⟨fun ⟨_, _, e, q⟩ => by cases e; exact q, fun q => ⟨_, _, rfl, q⟩⟩
section
variable {P : Program} {w : World} {A : Around} {E : Value → Shared → Prop} {s : Shared}
end
section
variable {X : Cx}
def ups (k : Nat) : List V := (List.range k).map fun (i : Nat) => V.int (i : Int)
theorem vals_of {ys : List V} {us : List Value} (hl : ys.length = us.length) (h : ∀ (i : Nat) y u, ys[i]? = some y → us[i]? = some u → RelV y u) : Vals ys us := by
  induction ys generalizing us with
  | nil => cases us with
    | nil => exact .nil
    | cons u t => simp at hl
  | cons y t ih => cases us with
    | nil => simp at hl
    | cons u us => exact .cons (h 0 y u rfl rfl) (ih (by simpa using hl) fun i y' u' e1 e2 => h (i + 1) y' u' (by simpa using e1) (by simpa using e2))
theorem vals_ups {acc : Array Value} {k : Nat} (h : ItemsOf (fun i x => ∃ t, x = .int (0 + (i : Int) * 1) t) acc k) : Vals (ups k) acc.toList := by
  obtain ⟨h1, h2⟩ := h
  refine vals_of (by simp [ups, h1]) fun i y u e1 e2 => ?_
  obtain ⟨t, rfl⟩ := h2 i u (by simpa using e2)
  unfold ups at e1
  rw [List.getElem?_map] at e1
  obtain ⟨j, ej, rfl⟩ := Option.map_eq_some_iff.mp e1
  have : i < k ∧ i = j := by
    obtain ⟨h3, h4⟩ := List.getElem?_eq_some_iff.mp ej
    rw [List.getElem_range] at h4
    exact ⟨by simpa using h3, h4⟩
  obtain ⟨_, rfl⟩ := this
  exact ⟨t, by simp⟩
end
end L2

set_option linter.all false
namespace L2
open PySem
abbrev Rising (l : List Nat) : Prop := l.Pairwise (· < ·)
theorem rising_lt {l : List Nat} (R : Rising l) {i k a b : Nat} (h : i < k) (ha : l[i]? = some a) (hb : l[k]? = some b) : a < b := by
  obtain ⟨h1, rfl⟩ := List.getElem?_eq_some_iff.mp ha
  obtain ⟨h2, rfl⟩ := List.getElem?_eq_some_iff.mp hb
  exact List.pairwise_iff_getElem.mp R i k h1 h2 h
structure Below (xs : Array Nat) (j r : Nat) : Prop where
  le : r ≤ xs.size
  lo : ∀ i v, i < r → xs.toList[i]? = some v → v < j
  hi : ∀ i v, r ≤ i → xs.toList[i]? = some v → j ≤ v
theorem below_go {xs : Array Nat} {j : Nat} (R : Rising xs.toList) : ∀ (fuel lo hi : Nat), lo ≤ hi → hi ≤ xs.size → hi - lo ≤ fuel → (∀ i v, i < lo → xs.toList[i]? = some v → v < j) → (∀ i v, hi ≤ i → xs.toList[i]? = some v → j ≤ v) →
    Below xs j (SetTable.below.go xs j fuel lo hi)
  | 0, lo, hi, h1, h2, h3, a, b => by
    have e : lo = hi := by omega
    subst e
    exact ⟨h2, a, b⟩
  | fuel + 1, lo, hi, h1, h2, h3, a, b => by
    unfold SetTable.below.go
    by_cases hlt : lo < hi
    · rw [if_pos hlt]
      have hm : (lo + hi) / 2 < xs.size := by omega
      have em : xs.toList[(lo + hi) / 2]? = some (xs[(lo + hi) / 2]) := by simp [hm]
      have ed : xs.getD ((lo + hi) / 2) j = xs[(lo + hi) / 2] := by simp [hm]
      simp only [ed]
      split
      · rename_i hv
        refine below_go R fuel _ _ (by omega) h2 (by omega) (fun i v hi' e => ?_) b
        by_cases q : i = (lo + hi) / 2
        · subst q; rw [em] at e; cases e; exact hv
        · exact Nat.lt_trans (rising_lt R (show i < (lo + hi) / 2 by omega) e em) hv
      · rename_i hv
        refine below_go R fuel _ _ (by omega) (by omega) (by omega) a fun i v hi' e => ?_
        by_cases q : i = (lo + hi) / 2
        · subst q; rw [em] at e; cases e; omega
        · have := rising_lt R (show (lo + hi) / 2 < i by omega) em e
          omega
    · rw [if_neg hlt]
      have e : lo = hi := by omega
      subst e
      exact ⟨h2, a, b⟩
theorem below_is {xs : Array Nat} {j : Nat} (R : Rising xs.toList) : Below xs j (SetTable.below xs j) :=
  below_go R _ _ _ (Nat.zero_le _) (Nat.le_refl _) (by omega) (fun _ _ h => absurd h (Nat.not_lt_zero _)) fun i v h e => by
    rw [List.getElem?_eq_none (by simpa using h)] at e; cases e
theorem Below.uniq {xs : Array Nat} {j r r' : Nat} (a : Below xs j r) (b : Below xs j r') : r = r' := by
  rcases Nat.lt_trichotomy r r' with h | h | h
  · have hs : r < xs.size := Nat.lt_of_lt_of_le h b.le
    have e : xs.toList[r]? = some (xs[r]) := by simp [hs]
    have := b.lo _ _ h e
    have := a.hi _ _ (Nat.le_refl _) e
    omega
  · exact h
  · have hs : r' < xs.size := Nat.lt_of_lt_of_le h a.le
    have e : xs.toList[r']? = some (xs[r']) := by simp [hs]
    have := a.lo _ _ h e
    have := b.hi _ _ (Nat.le_refl _) e
    omega
def NotIn (t : SetTable) (j : Nat) : Prop := t.place[SetTable.below t.place j]? ≠ some j
theorem notin_empty {t : SetTable} {j : Nat} (h : t.slot j = .empty) : NotIn t j := fun e => by
  unfold SetTable.slot at h
  simp only [e, beq_self_eq_true, if_true] at h
  cases h
theorem notin_dummy {t : SetTable} {j : Nat} (h : t.slot j = .dummy) : NotIn t j := fun e => by
  unfold SetTable.slot at h
  simp only [e, beq_self_eq_true, if_true] at h
  cases h
theorem advance_dummy (t : SetTable) (p : SetTable.Probe) : (t.advance p).dummy = p.dummy := by
  unfold SetTable.advance
  split <;> rfl
theorem probe_go {t : SetTable} {f : Nat → Int} {h : Int} : ∀ (fuel : Nat) (p : SetTable.Probe) (j : Nat) (d : Option Nat), SetTable.probe.go t f h fuel p = some (.empty j d) → (∀ x, p.dummy = some x → NotIn t x) → NotIn t (d.getD j)
  | 0, p, j, d, e, _ => by cases e
  | fuel + 1, p, j, d, e, hd => by
    unfold SetTable.probe.go at e
    split at e
    · rename_i hs
      cases e
      cases q : p.dummy with
      | none => exact notin_empty hs
      | some x => exact hd x q
    · rename_i hs
      refine probe_go fuel _ j d e fun x hx => ?_
      rw [advance_dummy] at hx
      cases hx
      exact notin_dummy hs
    · rename_i i hs
      split at e
      · cases e
      · exact probe_go fuel _ j d e fun x hx => by rw [advance_dummy] at hx; exact hd x hx
theorem freeSlot_notin {t : SetTable} {h : Int} {s : Nat} {b : Bool} (e : t.freeSlot h = some (s, b)) : NotIn t s := by
  unfold SetTable.freeSlot at e
  split at e
  · rename_i j d hp
    cases e
    refine probe_go _ _ _ _ hp fun x hx => ?_
    cases hx
  · cases e
theorem rising_range (n : Nat) : Rising (Array.range n).toList := by
  rw [Array.toList_range]
  exact List.pairwise_lt_range
theorem put_rising {t : SetTable} {j : Nat} (R : Rising t.place.toList) (h : NotIn t j) : Rising (t.put j).1.place.toList := by
  have b := below_is (j := j) R
  show Rising (SetTable.insertAt t.place (SetTable.below t.place j) j).toList
  rw [SetTable.toList_insertAt]
  have hlo : ∀ v ∈ t.place.toList.take (SetTable.below t.place j), v < j := fun v hv => by
    obtain ⟨i, hi, e⟩ := List.getElem_of_mem hv
    have hi' : i < SetTable.below t.place j := by rw [List.length_take] at hi; omega
    refine b.lo i v hi' ?_
    rw [← e]; simp only [List.getElem_take]; exact List.getElem?_eq_getElem _
  have hhi : ∀ v ∈ t.place.toList.drop (SetTable.below t.place j), j < v := fun v hv => by
    obtain ⟨i, hi, e⟩ := List.getElem_of_mem hv
    have e2 : t.place.toList[SetTable.below t.place j + i]? = some v := by
      rw [← List.getElem?_drop, List.getElem?_eq_getElem hi, e]
    have := b.hi _ _ (Nat.le_add_right _ _) e2
    by_cases q : j = v
    · subst q
      have z : i = 0 := by
        by_cases z : i = 0
        · exact z
        · have hl : SetTable.below t.place j < t.place.toList.length := by
            rw [List.length_drop] at hi; omega
          have e3 := List.getElem?_eq_getElem hl
          have := rising_lt R (show SetTable.below t.place j < SetTable.below t.place j + i by omega) e3 e2
          have := b.hi _ _ (Nat.le_refl _) e3
          omega
      subst z
      rw [Nat.add_zero, Array.getElem?_toList] at e2
      exact absurd e2 h
    · omega
  refine List.pairwise_append.mpr ⟨R.sublist (List.take_sublist ..), List.pairwise_cons.mpr ⟨hhi, R.sublist (List.drop_sublist ..)⟩, fun x hx y hy => ?_⟩
  rcases List.mem_cons.mp hy with rfl | hy
  · exact hlo x hx
  · exact Nat.lt_trans (hlo x hx) (hhi y hy)
structure Led (led : Bool) (t : SetTable) : Prop where
  rise : Rising t.place.toList
  led : t.led = led
theorem Led.standIn {led : Bool} {t : SetTable} (h : t.led = led) (n : Nat) : Led led (t.standIn n) := ⟨rising_range n, h⟩
theorem Led.or {led : Bool} {t : SetTable} (h : Led led t) (n : Nat) : Led led (t.orStandIn n) := by
  unfold SetTable.orStandIn
  split
  · exact h
  · exact .standIn h.led n
theorem Led.layNew {led : Bool} {t : SetTable} (L : Led led t) (es : Array (Int × Value)) (h : Int) (x : Value) : Led led (layNew t es h x).2.1 := by
  unfold PySem.layNew
  split
  · rename_i slot b e
    exact Led.or ⟨put_rising L.rise (freeSlot_notin e), L.led⟩ _
  · exact .standIn L.led _
theorem rising_live (owner : Array (Option Nat)) (m : Nat) : Rising (((List.range m).filterMap fun j => (owner.getD j none).map (j, ·)).map (·.1)) := by
  rw [List.map_filterMap]
  refine (List.pairwise_lt_range (n := m)).filterMap _ fun a b hab x hx y hy => ?_
  simp only [Option.mem_def, Option.map_map, Option.map_eq_some_iff, Function.comp_apply] at hx hy
  obtain ⟨_, _, rfl⟩ := hx
  obtain ⟨_, _, rfl⟩ := hy
  exact hab
theorem Led.relayAll {led : Bool} {t : SetTable} (h : t.led = led) (L : Led led t) (es : Array (Int × Value)) (wanted : Nat) : Led led (relayAll t es wanted).2.1 := by
  unfold PySem.relayAll
  split
  · rename_i t' order e
    dsimp only
    split
    · unfold SetTable.relaid SetTable.laid at e
      simp only [Option.bind_eq_bind, Option.bind_eq_some_iff, Option.pure_def, Option.some.injEq, Prod.mk.injEq] at e
      obtain ⟨owner, _, rfl, _⟩ := e
      exact ⟨by simpa using rising_live owner _, h⟩
    · exact .standIn h _
  · exact .standIn h _
theorem Led.plainOff {led : Bool} {t : SetTable} (L : Led led t) : Led led { t with plain := false } := ⟨L.rise, L.led⟩
theorem Led.fresh (led : Bool) : Led led (.fresh 0 0 led) := ⟨List.Pairwise.nil, rfl⟩
def slotAt (xs : Array Nat) : Nat → Nat
  | 0 => 0
  | i + 1 => xs.getD i 0 + 1
theorem below_slotAt {xs : Array Nat} (R : Rising xs.toList) : ∀ {i : Nat}, i ≤ xs.size → SetTable.below xs (slotAt xs i) = i
  | 0, _ => (below_is R).uniq ⟨Nat.zero_le _, fun _ _ h => absurd h (Nat.not_lt_zero _), fun _ _ _ _ => Nat.zero_le _⟩
  | i + 1, hi => (below_is R).uniq ⟨hi, fun k v hk e => by
      have hi' : i < xs.size := by omega
      have ei : xs.toList[i]? = some xs[i] := by simp [hi']
      have ed : xs.getD i 0 = xs[i] := by simp [hi']
      show v < xs.getD i 0 + 1
      rw [ed]
      by_cases q : k = i
      · subst q; rw [ei] at e; cases e; omega
      · have := rising_lt R (show k < i by omega) e ei
        omega, fun k v hk e => by
      have hi' : i < xs.size := by omega
      have ei : xs.toList[i]? = some xs[i] := by simp [hi']
      have ed : xs.getD i 0 = xs[i] := by simp [hi']
      show xs.getD i 0 + 1 ≤ v
      rw [ed]
      exact rising_lt R (show i < k by omega) ei e⟩
theorem pick_go {α : Type} (next : Nat → Nat) : ∀ (fuel k : Nat) (left : List α) (out : Array α), left.length = fuel → List.Perm (pickOrder.go next fuel k left out).toList (out.toList ++ left)
  | 0, k, left, out, h => by
    rw [List.length_eq_zero_iff.mp h]
    unfold pickOrder.go
    simp
  | fuel + 1, k, left, out, h => by
    unfold pickOrder.go
    have hl : next k % left.length < left.length := Nat.mod_lt _ (by omega)
    rw [List.getElem?_eq_getElem hl]
    dsimp only
    refine (pick_go next fuel (k + 1) _ _ (by rw [List.length_eraseIdx_of_lt hl]; omega)).trans ?_
    rw [Array.toList_push, List.append_assoc]
    refine List.Perm.append_left _ ?_
    rw [List.eraseIdx_eq_take_drop_succ]
    show List.Perm (left[next k % left.length] :: (left.take (next k % left.length) ++ left.drop (next k % left.length + 1))) left
    refine List.perm_middle.symm.trans ?_
    rw [← List.drop_eq_getElem_cons hl, List.take_append_drop]
theorem pick_perm {α : Type} (next : Nat → Nat) (xs : Array α) : List.Perm (pickOrder next xs).toList xs.toList := by
  have := pick_go next xs.size 0 xs.toList #[] (by simp)
  simpa [pickOrder] using this
end L2

set_option linter.all false
set_option maxRecDepth 100000
namespace L2
open PySem PyProof.Rows
def leads (w : World) : Bool := !w.params.followText "set-order"
def iv : Value → Int
  | .int n _ => n
  | _ => 0
def IntSet (P : Program) (w : World) (h : Heap) (a : Addr) (ms : List Int) : Prop :=
  ∃ (o : Obj) (es : Array (Int × Value)) (ep : Nat) (t : SetTable), h.get? a = some o ∧ o.ExactSet ∧ o.data = .set es ep t ∧ ElemsOf (intKind P w) es.toList ∧
    List.Perm (es.toList.map fun e => iv e.2) ms ∧ es.size < scanBound ∧ t.fits es.size = true ∧ Led (leads w) t
section
variable {P : Program} {w : World} {A : Around} {E : Value → Shared → Prop} {s : Shared}
theorem elem_int {es : List (Int × Value)} (h : ElemsOf (intKind P w) es) {e : Int × Value} (he : e ∈ es) : ∃ t, e.2 = .int (iv e.2) t := by
  obtain ⟨⟨k, hk, _⟩, _⟩ := h e he
  obtain ⟨t, z⟩ := Value.isInt_shape hk
  exact ⟨t, by rw [z]; rfl⟩
theorem elem_is {es : List (Int × Value)} (h : ElemsOf (intKind P w) es) {e : Int × Value} (he : e ∈ es) {k : Int} : (intKind P w).is k e.2 = true ↔ iv e.2 = k := by
  obtain ⟨t, z⟩ := elem_int h he
  rw [z]
  refine ⟨fun q => ?_, fun q => ?_⟩
  · have q' : Value.isInt k (.int (iv e.2) t) = true := q
    obtain ⟨t', z'⟩ := Value.isInt_shape q'
    cases z'; rfl
  · rw [← q]; exact intKind_is ..
theorem mem_elems {es : List (Int × Value)} {ms : List Int} (h : ElemsOf (intKind P w) es) (p : List.Perm (es.map fun e => iv e.2) ms) (k : Int) : k ∈ ms ↔ ∃ e ∈ es, (intKind P w).is k e.2 = true := by
  rw [← p.mem_iff, List.mem_map]
  exact ⟨fun ⟨e, he, q⟩ => ⟨e, he, (elem_is h he).mpr q⟩, fun ⟨e, he, q⟩ => ⟨e, he, (elem_is h he).mp q⟩⟩
theorem set_lay {h : Heap} {a : Addr} {o : Obj} {es es' : Array (Int × Value)} {ep : Nat} {t t' : SetTable} {ms : List Int} (ho : h.get? a = some o) (hex : o.ExactSet) (hd : o.data = .set es ep t)
    (hel : ElemsOf (intKind P w) es'.toList) (hp : List.Perm (es'.toList.map fun e => iv e.2) ms) (hb : es'.size < scanBound) (hf : t'.fits es'.size = true) (L : Led (leads w) t') :
    (h.update a (Obj.putSet es' t')).get? a = some { o with data := .set es' (ep + 1) t' } ∧ IntSet P w (h.update a (Obj.putSet es' t')) a ms := by
  have g := (SetOf_store (knd := intKind P w) (S' := fun k => es'.toList.any fun e => (intKind P w).is k e.2) ho hex hd hel (fun k => by rw [List.any_eq_true]) hb hf).1
  exact ⟨g, _, es', ep + 1, t', g, hex, rfl, hel, hp, hb, hf, L⟩
theorem lay_tail {g : Bool → Sem Unit} (hg : ∀ (b : Bool) (s1 : Shared) (R : Unit → Shared → Prop), R () s1 → wpAny (model P w) A (g b) R E s1) {a : Addr} {o : Obj} {es e1 : Array (Int × Value)} {ep : Nat} {t t1 : SetTable} {ms : List Int} {wd : Bool}
    (ho : s.heap.get? a = some o) (hex : o.ExactSet) (hd : o.data = .set es ep t) (hel : ElemsOf (intKind P w) e1.toList) (hp : List.Perm (e1.toList.map fun e => iv e.2) ms) (hb : e1.size < scanBound) (hf : t1.fits e1.size = true) (L : Led (leads w) t1)
    {R : Option Bool → Shared → Prop} (h : ∀ h', Heap.SameBut a s.heap h' → IntSet P w h' a ms → R (some true) { s with heap := h' }) :
    wpAny (model P w) A (do
      storeSet a e1 t1
      if (!wd && t1.tooFull) = true then do
        g (relayAll t1 e1 (SetTable.grown e1.size)).2.2
        storeSet a (relayAll t1 e1 (SetTable.grown e1.size)).1 (relayAll t1 e1 (SetTable.grown e1.size)).2.1
        pure (some true)
      else pure (some true)) R E s := by
  refine wpAny_bind (wpAny_storeSet_of ho hd ?_ (fits_of_scanBound hb))
  obtain ⟨g1, S1⟩ := set_lay ho hex hd hel hp hb hf L
  have sb1 := Heap.SameBut.update s.heap a (Obj.putSet e1 t1)
  split
  · have p2 := relayAll_perm t1 e1 (SetTable.grown e1.size)
    have f2 := relayAll_fits t1 e1 (SetTable.grown e1.size)
    have L2 := Led.relayAll L.led L e1 (SetTable.grown e1.size)
    revert p2 f2 L2
    generalize relayAll t1 e1 (SetTable.grown e1.size) = r
    obtain ⟨e2, t2, gv⟩ := r
    intro p2 f2 L2
    dsimp only at p2 f2 L2 ⊢
    have z2 : e2.size = e1.size := by rw [← Array.length_toList, p2.length_eq, Array.length_toList]
    have b2 : e2.size < scanBound := z2 ▸ hb
    refine wpAny_bind (hg _ _ _ ?_)
    refine wpAny_bind (wpAny_storeSet_of g1 rfl ?_ (fits_of_scanBound b2))
    obtain ⟨_, S2⟩ := set_lay (P := P) (w := w) g1 hex rfl (hel.perm p2) ((p2.map _).trans hp) b2 f2 L2
    exact wpAny_pure (h _ (sb1.trans (Heap.SameBut.update ..)) S2)
  · exact wpAny_pure (h _ sb1 S1)
theorem dedup_old {ms : List Int} {k : Int} (h : k ∈ ms) : step_dedup ms k = ms := by
  unfold step_dedup
  have e : (ms.any fun x => x == k) = true := List.any_eq_true.mpr ⟨k, h, beq_self_eq_true k⟩
  rw [if_pos e]
theorem dedup_new {ms : List Int} {k : Int} (h : ¬ k ∈ ms) : step_dedup ms k = ms ++ [k] := by
  unfold step_dedup
  rw [if_neg fun z => ?_]
  obtain ⟨x, hx, q⟩ := List.any_eq_true.mp z
  rw [beq_iff_eq] at q
  exact h (q ▸ hx)
theorem add_is {a : Addr} {ms : List Int} {k : Int} {tk : Tok} {Q : Bool → Shared → Prop} (hS : IntSet P w s.heap a ms) (hr : ms.length + 1 < scanBound)
    (h : ∀ (b : Bool) h', Heap.SameBut a s.heap h' → IntSet P w h' a (step_dedup ms k) → Q b { s with heap := h' }) : wpAny (model P w) A (setAddHashed a (.int k tk) ((intKind P w).hash k)) Q E s := by
  have hk : (intKind P w).is k (.int k tk) = true := intKind_is ..
  have hsc : (Value.int k tk).scannable = true := rfl
  generalize Value.int k tk = x at hk hsc
  obtain ⟨o, es, ep, t, ho, hex, hd, hel, hp, hb, hf, L⟩ := hS
  have hlen : es.size = ms.length := by rw [← hp.length_eq, List.length_map, Array.length_toList]
  have hivx : iv x = k := by obtain ⟨_, z⟩ := Value.isInt_shape hk; rw [z]; rfl
  unfold setAddHashed setAddHashedIn
  refine wpAny_holding (wpAny_bind (wpAny_setState_of ho hd hf ?_))
  dsimp only
  rw [byScan_of hsc hb hel, if_pos rfl]
  unfold setAddByScan
  refine wpAny_bind (wpAny_bind (wpAny_rule (wpAny_bind (wpAny_setScan_of hk ho hd hf hel ?_))))
  cases hx : es.toList.findIdx? (fun e => (intKind P w).is k e.2) with
  | some j =>
    dsimp only
    obtain ⟨hj, pj, _⟩ := List.findIdx?_eq_some_iff_getElem.mp hx
    have hm : k ∈ ms := (mem_elems hel hp k).mpr ⟨_, List.getElem_mem hj, pj⟩
    refine wpAny_pure (wpAny_pure ?_)
    have := h false s.heap (Heap.SameBut.refl a s.heap) ⟨o, es, ep, t, ho, hex, hd, hel, by rw [dedup_old hm]; exact hp, hb, hf, L⟩
    exact this
  | none =>
    dsimp only
    have hm : ¬ k ∈ ms := fun z => by
      obtain ⟨e, he, q⟩ := (mem_elems hel hp k).mp z
      have := List.findIdx?_eq_none_iff.mp hx e he
      rw [q] at this; cases this
    have p1 := layNew_perm t es ((intKind P w).hash k) x
    have f1 := layNew_fits t es ((intKind P w).hash k) x
    have L1 := L.layNew es ((intKind P w).hash k) x
    revert p1 f1 L1
    generalize layNew t es ((intKind P w).hash k) x = r
    obtain ⟨e1, t1, wd, gv⟩ := r
    intro p1 f1 L1
    dsimp only at p1 f1 L1 ⊢
    rw [Array.toList_push] at p1
    have hel1 : ElemsOf (intKind P w) e1.toList := (hel.push hk hsc).perm p1
    have hp1 : List.Perm (e1.toList.map fun e => iv e.2) (step_dedup ms k) := by
      rw [dedup_new hm]
      refine (p1.map _).trans ?_
      rw [List.map_append, List.map_cons, List.map_nil, hivx]
      exact List.Perm.append_right _ hp
    have hb1 : e1.size < scanBound := by
      rw [← Array.length_toList, p1.length_eq, List.length_append, Array.length_toList, hlen]
      exact hr
    have gw : ∀ (b : Bool) (s1 : Shared) (R : Unit → Shared → Prop), R () s1 →
        wpAny (model P w) A (match b with
          | true => rule "set.scan.the-table-gave-way"
          | false => pure ()) R E s1 := fun b s1 R q => by
      cases b
      · exact wpAny_pure q
      · exact wpAny_rule q
    refine wpAny_bind (gw _ _ _ ?_)
    split
    · refine wpAny_bind ?_
      rw [hashByValue_scannable 8 hsc]
      refine wpAny_pure (lay_tail ?_ ho hex hd hel1 hp1 hb1 ?_ ?_ fun h' sb S' => ?_)
      · intro b s1 R q
        cases b
        · exact wpAny_pure q
        · exact wpAny_rule q
      · split
        · exact f1
        · exact SetTable.fits_plain_off f1
      · split
        · exact L1
        · exact L1.plainOff
      · dsimp only; exact wpAny_pure (h _ h' sb S')
    · refine wpAny_bind (wpAny_pure ?_)
      rw [if_pos rfl]
      refine lay_tail ?_ ho hex hd hel1 hp1 hb1 f1 L1 fun h' sb S' => ?_
      · intro b s1 R q
        cases b
        · exact wpAny_pure q
        · exact wpAny_rule q
      · dsimp only; exact wpAny_pure (h _ h' sb S')
theorem IntSet.at {h h' : Heap} {a : Addr} {ms : List Int} (x : IntSet P w h a ms) (k : ∀ o, h.get? a = some o → h'.get? a = some o) : IntSet P w h' a ms := by
  obtain ⟨o, es, ep, t, ho, r⟩ := x
  exact ⟨o, es, ep, t, k _ ho, r⟩
end
section
variable {P : Program} {w : World} {A : Around} {R : Result → Shared → Prop} {I : Addr} {fp wr : List Addr} {G : Array GenState → Array GenState → Prop} {n : Nat} {T : Nat → Value → Prop} {St : Nat → Shared → Prop}
theorem fill_loop (W : WalksS P w A.in1 I fp wr G n T St) (a : Addr) (ha : a ∉ fp) (val : Nat → Int) (hv : ∀ i v, T i v → ∃ t, v = .int (val i) t) (hb : n + 1 < scanBound) : ∀ (k i : Nat) (s : Shared), n - i = k → i ≤ n → St i s →
    IntSet P w s.heap a (firstMet val i) → (∀ s', Moved (a :: wr) G s s' → IntSet P w s'.heap a (firstMet val n) → R (.ok (.ret .none)) s') →
    codeAny (model P w) A (.builtin "set.update.loop" ⟨[.ref a, .ref I], []⟩) R s := by
  have haw : a ∉ wr := fun z => ha (W.sub _ z)
  have up : ∀ b ∈ wr, b ∈ a :: wr := fun b q => List.mem_cons_of_mem _ q
  intro k
  induction k with
  | zero =>
    intro i s e1 e2 st S q
    obtain rfl : i = n := by omega
    refine codeAny_builtin PyProof.Rows.F.entry_set_update_loop ?_
    rw [Around.under_plainId PyProof.Rows.F.plain_set_update_loop _]
    show wpAny _ A.in1 (pyNext (.ref I) >>= _) _ _ s
    refine wpAny_bind (W.done s _ _ st fun s' m => ?_)
    show wpAny _ A.in1 (ret Value.none) _ _ s'
    exact wpAny_pure (q s' (m.mono up) (S.at fun o e => m.heap a o haw e))
  | succ k ih =>
    intro i s e1 e2 st S q
    have hi : i < n := by omega
    refine codeAny_builtin PyProof.Rows.F.entry_set_update_loop ?_
    rw [Around.under_plainId PyProof.Rows.F.plain_set_update_loop _]
    show wpAny _ A.in1 (pyNext (.ref I) >>= _) _ _ s
    refine wpAny_bind (W.item i s _ _ hi st fun v s1 tv st1 m => ?_)
    obtain ⟨t, rfl⟩ := hv i v tv
    have S1 := S.at fun o e => m.heap a o haw e
    show wpAny _ A.in1 (holding [Value.int (val i) t] (setAdd a (.int (val i) t)) >>= _) _ _ s1
    refine wpAny_bind (wpAny_holding ?_)
    unfold setAdd
    refine wpAny_holding (wpAny_bind ((intKind P w).pyHash (k := val i) (intKind_is ..) ?_))
    refine add_is (s := { s1 with toks := s1.toks + 1 }) S1 (by have := firstMet_length_le val i; omega) fun b h' sb S2 => ?_
    rw [← firstMet_succ] at S2
    refine wpAny_pure ⟨plainId_quiet PyProof.Rows.F.plain_set_update_loop _, ih (i + 1) _ (by omega) hi (W.frame _ s1 _ _ st1 (Nat.le_succ _) fun b hb o e => ?_) S2 fun s2 m2 S3 => ?_⟩
    · rw [sb.2 b fun z : b = a => ha (z ▸ hb)]; exact e
    · refine q s2 (Moved.trans W.gtrans ((m.mono up).then_heap (Nat.le_succ _) fun b o hb e => ?_) m2) S3
      rw [sb.2 b fun z : b = a => hb (z ▸ List.mem_cons_self)]; exact e
end
section
variable {P : Program} {w : World} {A : Around} {E : Value → Shared → Prop} {s : Shared}
theorem set_new {x : Value} {Q : Value → Shared → Prop} (h : Q (.ref s.heap.objs.size) { s with heap := s.heap.push { cls := .type "set", dict := none, data := .set #[] 0 (.fresh 0 0 (leads w)) } }) :
    codeAny (model P w) A (.call (.builtin "set.__new__") ⟨[.type "set", x], []⟩) (wants Q E) s := by
  refine codeAny_of_tree ?_
  show wpAny _ A.in1 (checkBuiltinCall "set.__new__" ⟨[.type "set", x], []⟩ >>= fun _ => again (.builtin "set.__new__" ⟨[.type "set", x], []⟩)) _ _ s
  refine wpAny_bind (wpAny_of_eq (PySem.F.newCall_set_1 x) (wpAny_pure ⟨plainId_quiet PySem.F.plain_set_new _, codeAny_builtin PySem.F.entry_set_new ?_⟩))
  rw [Around.under_plainId PySem.F.plain_set_new _]
  unfold Builtin.«set.__new__» Builtin.Frozenset.newClass
  have e := sub_set_self
  obtain ⟨hp, g, d, tk, os⟩ := s
  dsimp only
  wp_walk
  refine wpAny_askSetting (wpAny_pure ?_)
  dsimp only
  simp only [newObj]
  exact wpAny_bind (wpAny_alloc (wpAny_pure (wpAny_pure h)))
end
end L2

set_option linter.all false
set_option maxRecDepth 100000
namespace L2
open PySem PyProof.Rows
abbrev itObj (f : Value) (i : Nat) (a : Addr) (n ep : Nat) : Obj := { cls := .type "set_iterator", dict := none, data := .fields #[f, rawInt i, .ref a, rawInt n, rawInt ep], slots := #[] }
theorem slot_sit_next : Slot "set_iterator" "__next__" "set_iterator.__next__" :=
  .of (owner := "set_iterator") (n := "__next__") (by rw [typeLookup_type, builtinLookup_eq_fast]; kernel_rfl) (by decide +kernel) (by decide +kernel) (by decide +kernel)
    (by first | exact .inl (by decide +kernel) | exact .inr (by decide +kernel))
    (by rw [isSubtype_type]; kernel_rfl)
theorem entry_sit_next : entryFor table "set_iterator.__next__" = some Builtin.«set_iterator.__next__» := entryFor_of_fast (by kernel_rfl)
theorem args_sit_next (a : Value) : argsOk "set_iterator.__next__" ⟨[a], []⟩ := by
  unfold argsOk
  kernel_rfl
theorem slot_sit_iter : Slot "set_iterator" "__iter__" "set_iterator.__iter__" :=
  .of (owner := "set_iterator") (n := "__iter__") (by rw [typeLookup_type, builtinLookup_eq_fast]; kernel_rfl) (by decide +kernel) (by decide +kernel) (by decide +kernel)
    (by first | exact .inl (by decide +kernel) | exact .inr (by decide +kernel))
    (by rw [isSubtype_type]; kernel_rfl)
section
variable {P : Program} {w : World} {A : Around} {E : Value → Shared → Prop} {s : Shared}
theorem next_item {it a : Addr} {sl i n ep nx : Nat} {x : Value} {o : Obj} {es : Array (Int × Value)} {ep' : Nat} {t : SetTable} {Q : Option Value → Shared → Prop} (hit : s.heap.get? it = some (itObj (rawInt sl) i a n ep))
    (ho : s.heap.get? a = some o) (hd : o.data = .set es ep' t) (hf : t.fits es.size = true) (hn : es.size = n)
    (hs : ∀ (A' : Around) (E' : Value → Shared → Prop) (Q' : Option (Value × Nat) → Shared → Prop), Q' (some (x, nx)) s → wpAny (model P w) A' (setNext a sl i ep) Q' E' s)
    (q : ∀ h', h'.get? it = some (itObj (rawInt nx) (i + 1) a n ep) → Heap.SameBut it s.heap h' → Q (some x) { s with heap := h' }) : wpAny (model P w) A (pyNext (.ref it)) Q E s := by
  have T : s.TypeIs (.ref it) "set_iterator" := ⟨_, hit, rfl⟩
  unfold pyNext
  refine wpAny_bind (wpAny_attempt (wpAny_callSpecial?_slot (name := Str.ofString "__next__") T slot_sit_next (wpAny_call_entry slot_sit_next T entry_sit_next ?_ (args_sit_next _))))
  unfold Builtin.«set_iterator.__next__»
  refine wpAny_bind (wpAny_pure ?_)
  refine wpAny_bind (wpAny_fieldsOf hit rfl ?_)
  show wpAny _ _ (setEntries a >>= _) _ _ s
  refine wpAny_bind (wpAny_setEntries_of ho hd hf ?_)
  rw [if_neg (by rw [hn]; simp)]
  show wpAny _ _ (setNext a (sl : Int).toNat (i : Int).toNat (ep : Int).toNat >>= _) _ _ s
  rw [Int.toNat_natCast, Int.toNat_natCast, Int.toNat_natCast]
  refine wpAny_bind (hs _ _ _ ?_)
  dsimp only
  refine wpAny_bind (wpAny_setField_rec hit (by simp) fun h1 g1 b1 => ?_)
  refine wpAny_bind (wpAny_setField_rec g1 (by simp) fun h2 g2 b2 => ?_)
  exact wpAny_pure ⟨_, rfl, wpAny_pure (q h2 g2 (b1.trans b2))⟩
theorem stop_at {it : Addr} {h1 : Heap} {Q : Except Value (Option Value) → Shared → Prop} (hh : A.handled = none) (hx : Heap.ExtBut it s.heap h1)
    (q : ∀ h' e, Heap.ExtBut it s.heap h' → ({ s with heap := h' } : Shared).TypeIs e "StopIteration" → Q (.error e) { s with heap := h' }) :
    wpAny (model P w) A (newExc (.type "StopIteration") [] >>= raiseNew (α := Fin)) (fun _ _ => False) (fun e => Q (.error e)) { s with heap := h1 } := by
  refine wpAny_bind ?_
  simp only [newExc, newTuple]
  refine wpAny_bind (wpAny_newObj_type ?_ (by size_fits))
  refine wpAny_bind (m := firstArgMember _ _) (wpAny_of_eq (a := Value.none) (by first | rfl | (simp only [firstArgMember]; rfl)) ?_)
  refine wpAny_newObj_type ?_ (by size_fits)
  simp only [raiseNew]
  refine wpAny_bind (wpAny_handled ?_)
  rw [hh]
  refine wpAny_bind (wpAny_pure (wpAny_throw ?_))
  exact q _ _ ((hx.push _).push _) ⟨_, Heap.get?_push_size _ rfl, rfl⟩
theorem next_done {it a : Addr} {sl i n ep : Nat} {o : Obj} {es : Array (Int × Value)} {ep' : Nat} {t : SetTable} {Q : Option Value → Shared → Prop} (hh : A.handled = none) (hit : s.heap.get? it = some (itObj (rawInt sl) i a n ep))
    (ho : s.heap.get? a = some o) (hd : o.data = .set es ep' t) (hf : t.fits es.size = true) (hn : es.size = n)
    (hs : ∀ (A' : Around) (E' : Value → Shared → Prop) (Q' : Option (Value × Nat) → Shared → Prop), Q' none s → wpAny (model P w) A' (setNext a sl i ep) Q' E' s)
    (q : ∀ h', Heap.ExtBut it s.heap h' → Q none { s with heap := h' }) : wpAny (model P w) A (pyNext (.ref it)) Q E s := by
  have T : s.TypeIs (.ref it) "set_iterator" := ⟨_, hit, rfl⟩
  unfold pyNext
  refine wpAny_bind (wpAny_attempt (wpAny_callSpecial?_slot (name := Str.ofString "__next__") T slot_sit_next (wpAny_call_entry slot_sit_next T entry_sit_next ?_ (args_sit_next _))))
  unfold Builtin.«set_iterator.__next__»
  refine wpAny_bind (wpAny_pure ?_)
  refine wpAny_bind (wpAny_fieldsOf hit rfl ?_)
  show wpAny _ _ (setEntries a >>= _) _ _ s
  refine wpAny_bind (wpAny_setEntries_of ho hd hf ?_)
  rw [if_neg (by rw [hn]; simp)]
  show wpAny _ _ (setNext a (sl : Int).toNat (i : Int).toNat (ep : Int).toNat >>= _) _ _ s
  rw [Int.toNat_natCast, Int.toNat_natCast, Int.toNat_natCast]
  refine wpAny_bind (hs _ _ _ ?_)
  dsimp only
  refine wpAny_bind (wpAny_setField_rec hit (by simp) fun h1 g1 b1 => ?_)
  refine wpAny_mono (stop_at (s := s) (it := it) (A := A.in1) (Q := fun r s' => match r with
    | .error e => wpAny (model P w) A (isInstance e (.type "StopIteration") >>= fun b => if b = true then pure none else throw e) Q E s'
    | _ => False) (by simpa using hh) b1.extBut fun h' e hx te => ?_) (fun _ _ z => z.elim) (fun e s' z => z)
  refine wpAny_bind (wpAny_isInstance (T := "StopIteration") (b := true) te isSubtype_stop ?_)
  exact wpAny_pure (q _ hx)
theorem drawn_item {it a tp : Addr} {i n ep pl : Nat} {ot : Obj} {ps : Array Value} {k : Nat} {x : Int × Value} {o : Obj} {es : Array (Int × Value)} {t : SetTable} {Q : Option Value → Shared → Prop} (hit : s.heap.get? it = some (itObj (.ref tp) i a n ep))
    (ho : s.heap.get? a = some o) (hd : o.data = .set es ep t) (hf : t.fits es.size = true) (hn : es.size = n) (ht : s.heap.get? tp = some ot) (hdt : ot.data = .seq ps k) (hp : ps[i]? = some (rawInt pl)) (hx : es[pl]? = some x)
    (q : ∀ h', h'.get? it = some (itObj (.ref tp) (i + 1) a n ep) → Heap.SameBut it s.heap h' → Q (some x.2) { s with heap := h' }) : wpAny (model P w) A (pyNext (.ref it)) Q E s := by
  have T : s.TypeIs (.ref it) "set_iterator" := ⟨_, hit, rfl⟩
  unfold pyNext
  refine wpAny_bind (wpAny_attempt (wpAny_callSpecial?_slot (name := Str.ofString "__next__") T slot_sit_next (wpAny_call_entry slot_sit_next T entry_sit_next ?_ (args_sit_next _))))
  unfold Builtin.«set_iterator.__next__»
  refine wpAny_bind (wpAny_pure ?_)
  refine wpAny_bind (wpAny_fieldsOf hit rfl ?_)
  show wpAny _ _ (setEntries a >>= _) _ _ s
  refine wpAny_bind (wpAny_setEntries_of ho hd hf ?_)
  rw [if_neg (by rw [hn]; simp)]
  show wpAny _ _ (seqItems? (.ref tp) >>= _) _ _ s
  refine wpAny_bind (wpAny_seqItems ht hdt ?_)
  dsimp only
  rw [Int.toNat_natCast, hp]
  show wpAny _ _ (setNextDrawn a (pl : Int).toNat (ep : Int).toNat >>= _) _ _ s
  rw [Int.toNat_natCast, Int.toNat_natCast]
  unfold setNextDrawn
  refine wpAny_bind (wpAny_bind (wpAny_setState_of ho hd hf ?_))
  dsimp only
  rw [if_neg (by simp)]
  obtain ⟨x1, x2⟩ := x
  rw [hx]
  refine wpAny_pure ?_
  refine wpAny_bind (wpAny_setField_rec hit (by simp) fun h2 g2 b2 => ?_)
  exact wpAny_pure ⟨_, rfl, wpAny_pure (q h2 g2 b2)⟩
theorem drawn_done {it a tp : Addr} {i n ep : Nat} {ot : Obj} {ps : Array Value} {k : Nat} {o : Obj} {es : Array (Int × Value)} {t : SetTable} {Q : Option Value → Shared → Prop} (hh : A.handled = none) (hit : s.heap.get? it = some (itObj (.ref tp) i a n ep))
    (ho : s.heap.get? a = some o) (hd : o.data = .set es ep t) (hf : t.fits es.size = true) (hn : es.size = n) (ht : s.heap.get? tp = some ot) (hdt : ot.data = .seq ps k) (hp : ps[i]? = none)
    (q : ∀ h', Heap.ExtBut it s.heap h' → Q none { s with heap := h' }) : wpAny (model P w) A (pyNext (.ref it)) Q E s := by
  have T : s.TypeIs (.ref it) "set_iterator" := ⟨_, hit, rfl⟩
  unfold pyNext
  refine wpAny_bind (wpAny_attempt (wpAny_callSpecial?_slot (name := Str.ofString "__next__") T slot_sit_next (wpAny_call_entry slot_sit_next T entry_sit_next ?_ (args_sit_next _))))
  unfold Builtin.«set_iterator.__next__»
  refine wpAny_bind (wpAny_pure ?_)
  refine wpAny_bind (wpAny_fieldsOf hit rfl ?_)
  show wpAny _ _ (setEntries a >>= _) _ _ s
  refine wpAny_bind (wpAny_setEntries_of ho hd hf ?_)
  rw [if_neg (by rw [hn]; simp)]
  show wpAny _ _ (seqItems? (.ref tp) >>= _) _ _ s
  refine wpAny_bind (wpAny_seqItems ht hdt ?_)
  dsimp only
  rw [Int.toNat_natCast, hp]
  dsimp only
  refine wpAny_bind (wpAny_setField_rec hit (by simp) fun h1 g1 b1 => ?_)
  refine wpAny_bind (wpAny_setField_rec g1 (by simp) fun h2 g2 b2 => ?_)
  refine wpAny_mono (stop_at (s := s) (it := it) (A := A.in1) (Q := fun r s' => match r with
    | .error e => wpAny (model P w) A (isInstance e (.type "StopIteration") >>= fun b => if b = true then pure none else throw e) Q E s'
    | _ => False) (by simpa using hh) (b1.trans b2).extBut fun h' e hx te => ?_) (fun _ _ z => z.elim) (fun e s' z => z)
  refine wpAny_bind (wpAny_isInstance (T := "StopIteration") (b := true) te isSubtype_stop ?_)
  exact wpAny_pure (q _ hx)
theorem setNext_text {a : Addr} {o : Obj} {es : Array (Int × Value)} {ep : Nat} {t : SetTable} {i : Nat} {Q : Option (Value × Nat) → Shared → Prop} (ft : w.params.followText "set-order" = true) (ho : s.heap.get? a = some o) (hd : o.data = .set es ep t) (hf : t.fits es.size = true)
    (q : Q (((pickOrder (w.params.setOrder a ep) es)[i]?).map fun e => (e.2, 0)) s) : wpAny (model P w) A (setNext a 0 i ep) Q E s := by
  unfold setNext
  refine wpAny_bind (wpAny_setState_of ho hd hf ?_)
  dsimp only
  refine wpAny_bind ?_
  unfold setsByText
  refine wpAny_bind (wpAny_askSetting (wpAny_pure ?_))
  show wpAny _ _ (if w.params.followText "set-order" = true then _ else _) _ _ s
  rw [if_pos ft, if_neg (by simp)]
  refine wpAny_bind ?_
  unfold setWalk
  refine wpAny_bind (wpAny_setState_of ho hd hf ?_)
  dsimp only
  refine wpAny_bind ?_
  unfold setsByText
  refine wpAny_bind (wpAny_askSetting (wpAny_pure ?_))
  show wpAny _ _ (if w.params.followText "set-order" = true then _ else _) _ _ s
  rw [if_pos ft]
  refine wpAny_bind (wpAny_askSetting (wpAny_pure ?_))
  exact wpAny_pure q
theorem setNext_led {a : Addr} {o : Obj} {es : Array (Int × Value)} {ep : Nat} {t : SetTable} {i : Nat} {Q : Option (Value × Nat) → Shared → Prop} (ft : w.params.followText "set-order" = false) (ho : s.heap.get? a = some o) (hd : o.data = .set es ep t) (hf : t.fits es.size = true)
    (L : Led (leads w) t) (pl : (!t.plain && decide (es.size > 1)) = false) (hi : i ≤ es.size) (q : Q ((es[i]?).map fun e => (e.2, slotAt t.place (i + 1))) s) : wpAny (model P w) A (setNext a (slotAt t.place i) i ep) Q E s := by
  have hz : t.place.size = es.size := by
    unfold SetTable.fits at hf
    simp only [Bool.and_eq_true, beq_iff_eq] at hf
    exact hf.1
  unfold setNext
  refine wpAny_bind (wpAny_setState_of ho hd hf ?_)
  dsimp only
  refine wpAny_bind ?_
  unfold setsByText
  refine wpAny_bind (wpAny_askSetting (wpAny_pure ?_))
  show wpAny _ _ (if w.params.followText "set-order" = true then _ else _) _ _ s
  rw [if_neg (show ¬ w.params.followText "set-order" = true by rw [ft]; exact Bool.false_ne_true)]
  have ld : t.led = true := by rw [L.led]; unfold leads; rw [ft]; rfl
  show wpAny _ _ (if (!t.plain && decide (es.size > 1)) = true then _ else _) _ _ s
  rw [if_neg (by rw [pl]; exact Bool.false_ne_true)]
  refine wpAny_bind (m := if (!t.led && !es.isEmpty) = true then _ else _) ?_
  rw [if_neg (by rw [ld]; simp)]
  refine wpAny_pure (wpAny_pure ?_)
  rw [below_slotAt L.rise (by omega)]
  by_cases hlt : i < es.size
  · have h2 : i < t.place.size := by omega
    rw [Array.getElem?_eq_getElem hlt, Array.getElem?_eq_getElem h2]
    rw [Array.getElem?_eq_getElem hlt] at q
    have : slotAt t.place (i + 1) = t.place[i] + 1 := by simp [slotAt, h2]
    rw [Option.map_some, this] at q
    exact q
  · rw [Array.getElem?_eq_none (by omega)]
    rw [Array.getElem?_eq_none (by omega), Option.map_none] at q
    exact q
end
end L2

set_option linter.all false
set_option maxRecDepth 100000
set_option maxHeartbeats 4000000
namespace L2
open PySem PyProof.Rows
theorem entry_set_iter : entryFor table "set.__iter__" = some Builtin.«frozenset.__iter__» := entryFor_alias (id' := "frozenset.__iter__") (by kernel_rfl) rfl (by decide +kernel) (by kernel_rfl)
theorem entry_sit_iter : entryFor table "set_iterator.__iter__" = some Builtin.«dict_keyiterator.__iter__» := entryFor_alias (id' := "dict_keyiterator.__iter__") (by kernel_rfl) rfl (by decide +kernel) (by kernel_rfl)
theorem args_sit_iter (a : Value) : argsOk "set_iterator.__iter__" ⟨[a], []⟩ := by
  unfold argsOk
  kernel_rfl
structure SetWalk (P : Program) (w : World) (A : Around) (h h1 : Heap) (a I : Addr) (ms : List Int) : Prop where
  ex : ∃ (fp : List Addr) (ord : List Value) (ks : List Int) (St : Nat → Heap → Prop), (∀ b ∈ fp, b = a ∨ h.objs.size ≤ b) ∧ Walks P w A I fp [I] ord.length (fun i v => ord[i]? = some v) St ∧ St 0 h1 ∧ IntsAre ord ks ∧ ks.Perm ms
  new : h.objs.size ≤ I
section
variable {P : Program} {w : World} {A : Around} {E : Value → Shared → Prop} {s : Shared}
theorem ints_of_elems : ∀ {es : List (Int × Value)}, ElemsOf (intKind P w) es → IntsAre (es.map (·.2)) (es.map fun e => iv e.2)
  | [], _ => .nil
  | e :: r, h => by
    obtain ⟨t, z⟩ := elem_int h (List.mem_cons_self ..)
    have := ints_of_elems h.tail
    rw [List.map_cons, List.map_cons, z]
    exact .cons _ _ this
theorem self_sit {it : Addr} {f : Value} {i : Nat} {a : Addr} {n ep : Nat} {Q : Value → Shared → Prop} (hit : s.heap.get? it = some (itObj f i a n ep)) (q : Q (.ref it) s) : wpAny (model P w) A (pyIter (.ref it)) Q E s := by
  have T : s.TypeIs (.ref it) "set_iterator" := ⟨_, hit, rfl⟩
  refine wpAny_pyIter_slot T slot_sit_iter (wpAny_call_entry slot_sit_iter T entry_sit_iter ?_ (args_sit_iter _))
  show wpAny _ _ (ret (.ref it)) _ _ s
  exact wpAny_pure ⟨_, rfl, "set_iterator", _, T, slot_sit_next.lookup, q⟩
theorem walks_slots {a I : Addr} {es : Array (Int × Value)} {ep : Nat} {t : SetTable} {o : Obj} {f : Nat → Nat} {ord : List Value} (hh : A.handled = none) (hne : a ≠ I) (hd : o.data = .set es ep t) (hf : t.fits es.size = true) (hl : ord.length = es.size)
    (nx : ∀ (s : Shared), s.heap.get? a = some o → ∀ (i : Nat), i ≤ es.size → ∀ (A' : Around) (E' : Value → Shared → Prop) (Q' : Option (Value × Nat) → Shared → Prop), Q' ((ord[i]?).map fun v => (v, f (i + 1))) s → wpAny (model P w) A' (setNext a (f i) i ep) Q' E' s) :
    Walks P w A I [I, a] [I] ord.length (fun i v => ord[i]? = some v) (fun i h => h.get? I = some (itObj (rawInt (f i)) i a es.size ep) ∧ h.get? a = some o) where
  sub := fun b hb => by simp at hb; simp [hb]
  frame := fun _ _ _ st k => ⟨k I (by simp) _ st.1, k a (by simp) _ st.2⟩
  item := fun i s Q E hi st q => by
    have e : ord[i]? = some ord[i] := List.getElem?_eq_getElem hi
    refine next_item st.1 st.2 hd hf rfl (fun A' E' Q' q' => nx s st.2 i (by omega) A' E' Q' (by rw [e]; exact q')) fun h' g b => ?_
    exact q _ h' s.toks e ⟨g, b.extBut a _ hne st.2⟩ fun c u hc z => b.extBut c u (fun y => hc (by simp [y])) z
  done := fun s Q E st q => by
    refine next_done hh st.1 st.2 hd hf rfl (fun A' E' Q' q' => nx s st.2 ord.length (by omega) A' E' Q' (by rw [List.getElem?_eq_none (Nat.le_refl _)]; exact q')) fun h' x => ?_
    exact q h' s.toks fun c u hc z => x c u (fun y => hc (by simp [y])) z
  self := fun _ _ _ _ st q => self_sit st.1 q
theorem walks_drawn {a I tp : Addr} {es : Array (Int × Value)} {ep k : Nat} {t : SetTable} {o ot : Obj} {pl : List Nat} {ord : List Value} (hh : A.handled = none) (hne : a ≠ I) (hnt : tp ≠ I) (hd : o.data = .set es ep t) (hf : t.fits es.size = true)
    (hdt : ot.data = .seq (pl.map fun (i : Nat) => rawInt i).toArray k) (hl : ord.length = pl.length) (hx : ∀ (i p : Nat), pl[i]? = some p → ∃ e : Int × Value, es[p]? = some e ∧ ord[i]? = some e.2) :
    Walks P w A I [I, a, tp] [I] ord.length (fun i v => ord[i]? = some v) (fun i h => h.get? I = some (itObj (.ref tp) i a es.size ep) ∧ h.get? a = some o ∧ h.get? tp = some ot) where
  sub := fun b hb => by simp at hb; simp [hb]
  frame := fun _ _ _ st k => ⟨k I (by simp) _ st.1, k a (by simp) _ st.2.1, k tp (by simp) _ st.2.2⟩
  item := fun i s Q E hi st q => by
    have hi' : i < pl.length := by omega
    have e := List.getElem?_eq_getElem hi'
    obtain ⟨x, e1, e2⟩ := hx i _ e
    refine drawn_item st.1 st.2.1 hd hf rfl st.2.2 hdt (by rw [List.getElem?_toArray, List.getElem?_map, e]; rfl) e1 fun h' g b => ?_
    exact q _ h' s.toks e2 ⟨g, b.extBut a _ hne st.2.1, b.extBut tp _ hnt st.2.2⟩ fun c u hc z => b.extBut c u (fun y => hc (by simp [y])) z
  done := fun s Q E st q => by
    refine drawn_done hh st.1 st.2.1 hd hf rfl st.2.2 hdt (by rw [List.getElem?_toArray, List.getElem?_map, List.getElem?_eq_none (by omega)]; rfl) fun h' x => ?_
    exact q h' s.toks fun c u hc z => x c u (fun y => hc (by simp [y])) z
  self := fun _ _ _ _ st q => self_sit st.1 q
theorem wpAny_draw {n : Nat} {Q : Nat → Shared → Prop} (hn : n ≠ 0) (q : ∀ i d, i < n → Q i { s with drawn := d }) : wpAny (model P w) A (choose .order n) Q E s := fun Γ p hΓ => by
  show Sem.wp _ _ (.choose .order n .pure) _ _ _ _
  rw [Sem.wp_choose]
  refine ⟨hn, ?_⟩
  show Sem.wp _ _ (.pure _) _ _ _ _
  rw [Sem.wp]
  exact q _ _ (Nat.mod_lt _ (Nat.pos_of_ne_zero hn))
theorem draw_order {α : Type} : ∀ (n : Nat) (xs : List α) (s : Shared) (Q : List α → Shared → Prop), xs.length = n → (∀ ys d, List.Perm ys xs → Q ys { s with drawn := d }) → wpAny (model P w) A (drawOrder n xs) Q E s
  | 0, xs, s, Q, hn, q => by
    have : xs = [] := List.length_eq_zero_iff.mp hn
    subst this
    unfold drawOrder
    exact wpAny_pure (q [] s.drawn .nil)
  | n + 1, [], s, Q, hn, q => by cases hn
  | n + 1, x :: r, s, Q, hn, q => by
    unfold drawOrder
    refine wpAny_bind (wpAny_draw (by simp) fun i d hi => ?_)
    rw [List.getElem?_eq_getElem hi]
    dsimp only
    refine wpAny_bind (draw_order n _ _ _ (by rw [List.length_eraseIdx_of_lt hi, hn]; rfl) fun ys d' p => ?_)
    refine wpAny_pure (q _ d' ?_)
    refine (List.Perm.cons _ p).trans ?_
    rw [List.eraseIdx_eq_take_drop_succ]
    refine List.perm_middle.symm.trans ?_
    rw [← List.drop_eq_getElem_cons hi, List.take_append_drop]
theorem set_iter {a : Addr} {ms : List Int} {Q : Value → Shared → Prop} (hh : A.handled = none) (S : IntSet P w s.heap a ms)
    (q : ∀ I h1 d1, (∀ b o, s.heap.get? b = some o → h1.get? b = some o) → SetWalk P w A s.heap h1 a I ms → Q (.ref I) { s with heap := h1, drawn := d1 }) : wpAny (model P w) A (pyIter (.ref a)) Q E s := by
  obtain ⟨o, es, ep, t, ho, hex, hd, hel, hp, hb, hf, L⟩ := S
  have T : s.TypeIs (.ref a) "set" := ⟨o, ho, hex.1⟩
  have hlt : a < s.heap.objs.size := Heap.lt_size ho
  refine wpAny_pyIter_slot T PySem.F.slot_set_iter (wpAny_call_entry PySem.F.slot_set_iter T entry_set_iter ?_ (PySem.F.args_set_iter_1 _))
  unfold Builtin.«frozenset.__iter__»
  show wpAny _ _ ((pure a : Sem Addr) >>= _) _ _ s
  refine wpAny_bind (wpAny_pure ?_)
  refine wpAny_bind ?_
  unfold Builtin.Frozenset.sizeOf
  refine wpAny_bind (wpAny_setEntries_of ho hd hf (wpAny_pure ?_))
  refine wpAny_bind ?_
  unfold setDrawn
  refine wpAny_bind (wpAny_setState_of ho hd hf ?_)
  dsimp only
  refine wpAny_bind ?_
  unfold setsByText
  refine wpAny_bind (wpAny_askSetting (wpAny_pure (wpAny_pure ?_)))
  show wpAny _ _ (if (!w.params.followText "set-order" && (!t.plain && decide (es.size > 1))) = true then _ else _) _ _ s
  have plain : ∀ (f : Nat → Nat) (ord : List Value), f 0 = 0 → ord.length = es.size → (∃ ks, IntsAre ord ks ∧ ks.Perm ms) →
      (∀ (s : Shared), s.heap.get? a = some o → ∀ (i : Nat), i ≤ es.size → ∀ (A' : Around) (E' : Value → Shared → Prop) (Q' : Option (Value × Nat) → Shared → Prop), Q' ((ord[i]?).map fun v => (v, f (i + 1))) s → wpAny (model P w) A' (setNext a (f i) i ep) Q' E' s) →
      SetWalk P w A s.heap (s.heap.push (itObj (rawInt 0) 0 a es.size ep)) a s.heap.objs.size ms := fun f ord f0 hl ⟨ks, hi, pk⟩ nx =>
    ⟨⟨_, ord, ks, _, fun b hb => by
        simp only [List.mem_cons, List.not_mem_nil, or_false] at hb
        rcases hb with rfl | rfl
        · exact .inr (Nat.le_refl _)
        · exact .inl rfl, walks_slots hh (Nat.ne_of_lt hlt) hd hf hl nx, ⟨by rw [f0]; exact Heap.get?_push_size _ rfl, Heap.get?_push_of_some _ ho⟩, hi, pk⟩, Nat.le_refl _⟩
  have fin : ∀ (W : SetWalk P w A s.heap (s.heap.push (itObj (rawInt 0) 0 a es.size ep)) a s.heap.objs.size ms),
      wpAny (model P w) A.in1 (do
        let first ← (pure (rawInt 0) : Sem Value)
        ret (← newFields "set_iterator" [first, rawInt 0, .ref a, rawInt es.size, rawInt (← setEpoch a)])) (fun fin s' => ∃ v, fin = .done (.ret v) ∧ ∃ T' r, s'.TypeIs v T' ∧ typeLookup (.type T') "__next__" = pure (some r) ∧ Q v s') E s := fun W => by
    refine wpAny_bind (wpAny_pure ?_)
    refine wpAny_bind (wpAny_setEpoch_of ho hd hf ?_)
    refine wpAny_bind (wpAny_newObj_type (wpAny_pure ⟨_, rfl, "set_iterator", _, ⟨_, Heap.get?_push_size _ rfl, rfl⟩, slot_sit_next.lookup, ?_⟩))
    exact q _ _ s.drawn (fun b u e => Heap.get?_push_of_some _ e) W
  cases ft : w.params.followText "set-order" with
  | true =>
    rw [if_neg (by simp)]
    have pk := pick_perm (w.params.setOrder a ep) es
    have hl : (pickOrder (w.params.setOrder a ep) es).size = es.size := by rw [← Array.length_toList, pk.length_eq, Array.length_toList]
    refine fin (plain (fun _ => 0) ((pickOrder (w.params.setOrder a ep) es).toList.map (·.2)) rfl (by rw [List.length_map, Array.length_toList, hl]) ⟨_, ints_of_elems (hel.perm pk), (pk.map _).trans hp⟩ fun s1 h1 i hi A' E' Q' q' => ?_)
    refine setNext_text ft h1 hd hf ?_
    rw [List.getElem?_map, Array.getElem?_toList, Option.map_map] at q'
    exact q'
  | false =>
    cases pl : (!t.plain && decide (es.size > 1)) with
    | false =>
      rw [if_neg (by simp)]
      refine fin (plain (slotAt t.place) (es.toList.map (·.2)) rfl (by rw [List.length_map, Array.length_toList]) ⟨_, ints_of_elems hel, hp⟩ fun s1 h1 i hi A' E' Q' q' => ?_)
      refine setNext_led ft h1 hd hf L pl hi ?_
      rw [List.getElem?_map, Array.getElem?_toList, Option.map_map] at q'
      exact q'
    | true =>
      rw [if_pos (by simp)]
      refine wpAny_bind (draw_order es.size (List.range es.size) s _ (List.length_range) fun ys d p => ?_)
      have hy : ys.length = es.size := by rw [p.length_eq, List.length_range]
      have hys : ∀ x ∈ ys, x < es.size := fun x hx => List.mem_range.mp (p.mem_iff.mp hx)
      refine wpAny_bind (wpAny_newTuple ?_ (by rw [List.length_map, hy]; exact fits_of_scanBound hb))
      refine wpAny_bind (wpAny_setEpoch_of (o := o) (Heap.get?_push_of_some _ ho) hd hf ?_)
      refine wpAny_bind (wpAny_newObj_type (wpAny_pure ⟨_, rfl, "set_iterator", _, ⟨_, Heap.get?_push_size _ rfl, rfl⟩, slot_sit_next.lookup, ?_⟩))
      refine q _ _ d (fun b u e => Heap.get?_push_of_some _ (Heap.get?_push_of_some _ e)) ⟨⟨_, ys.map fun p => (es[p]?.map (·.2)).getD .none, ys.map fun p => (es[p]?.map fun e => iv e.2).getD 0, _, fun b hb => ?_,
        walks_drawn hh ?_ ?_ hd hf rfl (by rw [List.length_map]) fun i p e => ?_, ⟨Heap.get?_push_size _ rfl, Heap.get?_push_of_some _ (Heap.get?_push_of_some _ ho), Heap.get?_push_of_some _ (Heap.get?_push_size _ rfl)⟩, ?_, ?_⟩, ?_⟩
      · simp only [List.mem_cons, List.not_mem_nil, or_false] at hb
        rcases hb with rfl | rfl | rfl
        · right; rw [size_push']; exact Nat.le_succ _
        · exact .inl rfl
        · exact .inr (Nat.le_refl _)
      · rw [size_push']; exact Nat.ne_of_lt (Nat.lt_succ_of_lt hlt)
      · rw [size_push']; exact Nat.ne_of_lt (Nat.lt_succ_self _)
      · have hp' : p < es.size := hys p (List.mem_of_getElem? e)
        exact ⟨es[p], Array.getElem?_eq_getElem hp', by rw [List.getElem?_map, e]; simp [hp']⟩
      · have all : ∀ (l : List Nat), (∀ x ∈ l, x < es.size) → IntsAre (l.map fun p => (es[p]?.map (·.2)).getD .none) (l.map fun p => (es[p]?.map fun e => iv e.2).getD 0) := by
          intro l
          induction l with
          | nil => exact fun _ => .nil
          | cons x r ih =>
            intro hl
            have hx := hl x (List.mem_cons_self ..)
            obtain ⟨tk, z⟩ := elem_int hel (e := es[x]) (by simp)
            have e1 : (es[x]?.map (·.2)).getD Value.none = Value.int (iv es[x].2) tk := by rw [Array.getElem?_eq_getElem hx]; exact z
            have e2 : (es[x]?.map fun e => iv e.2).getD 0 = iv es[x].2 := by rw [Array.getElem?_eq_getElem hx]; rfl
            rw [List.map_cons, List.map_cons, e1, e2]
            exact .cons _ _ (ih fun y hy => hl y (List.mem_cons_of_mem _ hy))
        exact all ys hys
      · refine (p.map _).trans (List.Perm.trans (List.Perm.of_eq ?_) hp)
        refine List.ext_getElem (by simp) fun i h1 h2 => ?_
        have hi : i < es.size := by simpa using h1
        simp [hi]
      · rw [size_push']; exact Nat.le_succ _
theorem hint_set {a : Addr} {Q : Bool → Shared → Prop} (T : s.TypeIs (.ref a) "set") (q : Q false s) : wpAny (model P w) A (Builtin.List.listLengthHint (.ref a)) Q E s := by
  unfold Builtin.List.listLengthHint
  refine wpAny_bind (wpAny_specialOf T PySem.F.slot_set_len.lookup ?_)
  generalize hid : ("set.__len__" : String) = id0
  wp_delta
  rw [show splitId id0 = some ("set", "__len__") from by subst hid; decide +kernel]
  subst hid
  refine wpAny_bind (wpAny_isInstance (T := "set") (b := true) T (by rw [isSubtype_type]; kernel_rfl) ?_)
  refine wpAny_ite_split (fun z => absurd z (by decide)) (fun _ => ?_)
  refine wpAny_ite_split (fun _ => ?_) (fun z => absurd (by decide +kernel) z)
  exact wpAny_bind (wpAny_typeOf T (wpAny_pure q))
theorem set_collect {a : Addr} {ms : List Int} {R : List Value → Shared → Prop} (hh : A.handled = none) (S : IntSet P w s.heap a ms) (hn : ms.length ≤ sizeLine)
    (q : ∀ h' tk d vs ks, (∀ b o, s.heap.get? b = some o → h'.get? b = some o) → s.heap.objs.size ≤ h'.objs.size → IntsAre vs ks → ks.Perm ms → R vs { s with heap := h', toks := tk, drawn := d }) : wpAny (model P w) A (collect (.ref a)) R E s := by
  have hlt : a < s.heap.objs.size := let ⟨_, _, _, _, ho, _⟩ := S; Heap.lt_size ho
  unfold collect
  refine wpAny_bind (wpAny_runValue (codeAny_builtin entry_proto_collect' ?_))
  rw [Around.under_plainId PySem.F.plain_proto_collect _]
  show wpAny _ A.in1 (newList [] >>= fun l => again (.builtin "list.__iadd__" ⟨[l, .ref a], []⟩)) _ _ s
  refine wpAny_bind (wpAny_newObj_type ?_)
  refine wpAny_pure ⟨plainId_quiet PySem.F.plain_list_iadd _, codeAny_builtin entry_list_iadd' ?_⟩
  rw [Around.under_plainId PySem.F.plain_list_iadd _]
  show wpAny _ A.in1 (Builtin.List.listExtendWith (.ref s.heap.objs.size) (.ref a) (.ref s.heap.objs.size)) _ _ _
  generalize eN : s.heap.objs.size = N at hlt ⊢
  have gN : (s.heap.push { cls := .type "list", data := .seq ([] : List Value).toArray }).get? N = some { cls := .type "list", data := .seq #[] } := eN ▸ Heap.get?_push_size _ rfl
  have keep1 : ∀ b o, s.heap.get? b = some o → (s.heap.push { cls := .type "list", data := .seq ([] : List Value).toArray }).get? b = some o := fun b o e => Heap.get?_push_of_some _ e
  have S1 := S.at fun o e => keep1 a o e
  have big : (s.heap.push { cls := .type "list", data := .seq ([] : List Value).toArray }).objs.size = N + 1 := by rw [size_push', eN]
  revert gN keep1 S1 big
  generalize s.heap.push { cls := .type "list", data := .seq ([] : List Value).toArray } = h0
  intro gN keep1 S1 big
  have T1 : ∀ h' : Heap, (∀ b o, h0.get? b = some o → h'.get? b = some o) → ∀ tk d, ({ s with heap := h', toks := tk, drawn := d } : Shared).TypeIs (.ref a) "set" := fun h' k tk d => by
    obtain ⟨o, _, _, _, ho, hex, _⟩ := S1
    exact ⟨o, k _ _ ho, hex.1⟩
  unfold Builtin.List.listExtendWith
  refine wpAny_bind (wpAny_typeOf (T := "set") (T1 h0 (fun _ _ e => e) s.toks s.drawn) ?_)
  have ne : Builtin.List.listSameRef (.ref N) (.ref a) = false := by
    simp only [Builtin.List.listSameRef, beq_eq_false_iff_ne]
    exact Nat.ne_of_gt hlt
  have n1 : (Value.type "set" == Value.type "list") = false := by decide
  have n2 : (Value.type "set" == Value.type "tuple") = false := by decide
  simp only [ne, n1, n2, Bool.or_false, Bool.false_eq_true, if_false]
  refine wpAny_bind (set_iter (A := A.in1) (s := { s with heap := h0 }) (by simpa using hh) S1 fun I h1 d1 k1 W => ?_)
  obtain ⟨⟨fp, ord, ks, St, hfp, W, st, hi, pk⟩, hI⟩ := W
  have hI : N + 1 ≤ I := big ▸ hI
  have hlen : ord.length = ms.length := by rw [IntsAre.length hi, pk.length_eq]
  refine wpAny_bind (wpAny_holding (hint_set (T1 h1 k1 s.toks d1) ?_))
  rw [if_pos (by decide)]
  refine wpAny_bind (wpAny_rule ?_)
  refine wpAny_bind ?_
  show wpAny _ _ (updateSeq N (·.push .none) >>= fun _ => updateSeq N (·.pop)) _ _ _
  have g1 := k1 _ _ gN
  refine wpAny_bind (wpAny_updateSeq (s := { s with heap := h1, drawn := d1 }) g1 rfl ?_)
  have g2 := Heap.get?_update_self (Obj.mapSeq (·.push Value.none)) g1 rfl
  refine wpAny_updateSeq (hz := by seq_fits) g2 rfl ?_
  have g3 := Heap.get?_update_self (Obj.mapSeq (·.pop)) g2 rfl
  have oth : ∀ b o, b ≠ N → h1.get? b = some o → ((h1.update N (Obj.mapSeq (·.push Value.none))).update N (Obj.mapSeq (·.pop))).get? b = some o := fun b o hb e =>
    (Heap.get?_update_other _ _ (Ne.symm hb)).trans ((Heap.get?_update_other _ _ (Ne.symm hb)).trans e)
  have Nfp : N ∉ fp := fun z => by
    rcases hfp N z with y | y
    · exact Nat.ne_of_gt hlt y
    · have y' : h0.objs.size ≤ N := y
      rw [big] at y'
      exact absurd y' (Nat.not_succ_le_self _)
  refine wpAny_pure ⟨plainId_quiet PySem.F.plain_extend_loop _, ?_⟩
  refine codeAny_extend_loopS W.toS (by rw [hlen]; exact hn) N Nfp (.ref N) ord.length 0 _ #[] _ rfl (Nat.zero_le _) (W.frame 0 _ _ st fun b hb o e => oth b o (fun z => Nfp (z ▸ hb)) e) g3 (ItemsOf.nil _) fun s' acc c m g4 hacc => ?_
  show wpAny _ A (load N >>= _) _ _ _
  refine wpAny_bind (wpAny_load g4 ?_)
  refine wpAny_pure ?_
  have eacc : acc.toList = ord := by
    refine List.ext_getElem? fun i => ?_
    by_cases hlt' : i < ord.length
    · have h3 : i < acc.size := by rw [hacc.1]; exact hlt'
      have := hacc.2 i acc[i] (Array.getElem?_eq_getElem h3)
      rw [Array.getElem?_toList, Array.getElem?_eq_getElem h3, this]
    · have e1 : acc.toList[i]? = none := List.getElem?_eq_none (by rw [Array.length_toList, hacc.1]; omega)
      have e2 : ord[i]? = none := List.getElem?_eq_none (by omega)
      rw [e1, e2]
  show R acc.toList s'
  rw [eacc]
  obtain ⟨h3, gn3, dr3, tk3, os3⟩ := s'
  have a1 : gn3 = s.gens := m.gens
  have a2 : dr3 = d1 := m.drawn
  have a3 : os3 = s.os := m.os
  subst a1; subst a2; subst a3
  refine q _ _ dr3 ord ks (fun b o e => ?_) (by rw [eN]; exact Nat.le_of_lt (Heap.lt_size g4)) hi pk
  have hb : b < N := eN ▸ Heap.lt_size e
  refine m.heap b o (fun z => ?_) (oth b o (Nat.ne_of_lt hb) (k1 _ _ (keep1 _ _ e)))
  simp only [List.mem_cons, List.not_mem_nil, or_false] at z
  rcases z with z | z
  · exact Nat.ne_of_lt hb z
  · exact Nat.ne_of_lt (Nat.lt_of_lt_of_le (Nat.lt_succ_of_lt hb) hI) z
theorem sorted_set {a : Addr} {ms : List Int} {Q : Value → Shared → Prop} (hh : A.handled = none) (S : IntSet P w s.heap a ms) (hn : ms.length < 64)
    (q : ∀ D h' tk d c out ks, (∀ b o, s.heap.get? b = some o → h'.get? b = some o) → s.heap.objs.size ≤ D → h'.get? D = some (seqObj "list" out c) → IntsAre out.toList ks → ks.Perm ms → ks.Pairwise (· ≤ ·) → Q (.ref D) { s with heap := h', toks := tk, drawn := d }) :
    wpAny (model P w) A (call (.builtin "sorted") [.ref a]) Q E s := by
  refine Calls.call_function_entry kind_sorted plain_sorted entry_sorted (args_sorted1 _) ?_
  unfold Builtin.«sorted»
  refine wpAny_bind (m := checkCount "sorted" 1 1 _) (wpAny_pure ?_)
  refine wpAny_bind (set_collect (A := A.in1) (by simpa using hh) S (by rw [sizeLine_eq]; omega) fun h1 tk d vs ks k1 size_le hi pk => ?_)
  have hl : vs.length < 64 := by rw [IntsAre.length hi, pk.length_eq]; exact hn
  refine wpAny_bind (wpAny_newList ?_ (by rw [sizeLine_eq]; omega))
  have g : (h1.push (seqObj "list" vs.toArray 0)).get? h1.objs.size = some (seqObj "list" vs.toArray 0) := Heap.get?_push_size _ rfl
  show wpAny _ _ _ _ _ { s with heap := h1.push (seqObj "list" vs.toArray 0), toks := tk, drawn := d }
  refine wpAny_bind (wpAny_holding (wpAny_call_entry slot_list_sort ⟨_, g, rfl⟩ entry_list_sort (list_sort_tree g hi hl fun out ks' i1 p1 r1 => ⟨_, rfl, ?_⟩) (args_list_sort _)))
  obtain ⟨c, gc⟩ := sortedHeap_at (n := 0) (out := out) g
  refine wpAny_pure ⟨_, rfl, q _ _ tk d c out ks' (fun b o e => ?_) size_le gc i1 (p1.trans pk) r1⟩
  have hb := Heap.lt_size (k1 _ _ e)
  rw [sortedHeap_old (Nat.ne_of_lt hb) (by rw [size_push']; exact Nat.lt_succ_of_lt hb)]
  exact Heap.get?_push_of_some _ (k1 _ _ e)
end
end L2

set_option linter.all false
set_option maxRecDepth 100000
set_option maxHeartbeats 4000000
namespace L2
open PySem PyProof.Rows
section
variable {P : Program} {w : World} {A : Around} {E : Value → Shared → Prop} {s : Shared}
theorem set_call {l : Addr} {its : Array Value} {ns : List Int} {Q : Value → Shared → Prop} (hh : A.handled = none) (hl : s.heap.IsList l its) (hi : IntsAre its.toList ns) (hb : its.size + 1 < scanBound)
    (q : ∀ h' tk, IntSet P w h' s.heap.objs.size (firstMet (fun i => ns.getD i 0) its.size) → (∀ b o, s.heap.get? b = some o → h'.get? b = some o) → Q (.ref s.heap.objs.size) { s with heap := h', toks := tk }) :
    wpAny (model P w) A (call (.type "set") [.ref l]) Q E s := by
  obtain ⟨c, tl, mro⟩ := PySem.F.called_set.mro
  have made := PySem.F.called_set.made
  have sub := PySem.F.called_set.sub
  refine wpAny_call (codeAny_of_tree ?_)
  show wpAny _ _ (callAny (.type "set") _) _ _ _
  refine wpAny_pure ⟨Code.quiet_builtin _ (by decide +kernel), codeAny_builtin PySem.F.entry_type_call ?_⟩
  rw [Around.under_plain (weight_type_call_type "set" [.ref l] []) rfl]
  have n1 := PySem.F.called_set.notType
  have n2 := PySem.F.called_set.canCreate
  have n3 := PySem.F.typeCall_set_1 (.ref l)
  repeat (any_goals (first | assumption | wp_step))
  generalize eS : ({ cls := .type "set", dict := none, data := .set #[] 0 (.fresh 0 0 (leads w)) } : Obj) = oS
  refine codeAny_mono (set_new (E := E) (Q := fun x s1 => x = .ref s.heap.objs.size ∧ s1 = { s with heap := s.heap.push oS }) ⟨rfl, by rw [← eS]⟩) fun r s1 hr => ?_
  cases r with
  | error e => exact hr
  | ok fl =>
    cases fl with
    | ret x =>
      obtain ⟨rfl, rfl⟩ := hr
      have g0 : (s.heap.push oS).get? s.heap.objs.size = some oS := Heap.get?_push_size _ (by rw [← eS]; rfl)
      have T0 : Shared.TypeIs { s with heap := s.heap.push oS } (.ref s.heap.objs.size) "set" := ⟨_, g0, by rw [← eS]⟩
      have i1 := PySem.F.called_set.init.lookup
      have i2 := PySem.F.called_set.init.bind (.ref s.heap.objs.size)
      repeat (any_goals (first | assumption | wp_step))
      refine codeAny_mono (codeAny_call_builtin (R := wants (fun r s2 => r = .none ∧ ∃ h' tk, s2 = { s with heap := h', toks := tk } ∧ IntSet P w h' s.heap.objs.size (firstMet (fun i => ns.getD i 0) its.size) ∧
        (∀ b o, s.heap.get? b = some o → h'.get? b = some o)) E) PySem.F.called_set.init.plain PySem.F.entry_set_init (check_set_init_1 T0 ?_)) fun r2 s2 hr2 => ?_
      · obtain ⟨ol, gl, cl, nl, dl⟩ := hl
        obtain ⟨c1, d1, dt1, sl1⟩ := ol
        simp only at cl dl
        subst cl; subst dl
        have gl' := Heap.get?_push_of_some oS gl
        have e1 := PySem.F.sub_list_set
        have e2 := PySem.F.sub_list_frozenset
        have e3 : (Value.type "list" == Value.type "dict") = false := by decide
        have hl1 : (s.heap.push oS).IsList l its := ⟨_, gl', rfl, nl, rfl⟩
        have hlt : l < s.heap.objs.size := Heap.lt_size gl
        have big := size_push' s.heap oS
        revert gl' hl1 g0 T0 big
        have keep0 : ∀ b o, s.heap.get? b = some o → (s.heap.push oS).get? b = some o := fun b o e => Heap.get?_push_of_some _ e
        revert keep0
        generalize s.heap.push oS = h0
        intro keep0 g0 T0 gl' hl1 big
        subst eS
        unfold Builtin.«set.__init__» noKeywords Builtin.Frozenset.updateFrom
        generalize hPI : pyIter = PI
        wp_walk
        subst hPI
        refine wpAny_pyIter_list hl1 ?_
        refine wpAny_bind (wpAny_runValue ?_)
        have hh3 : A.in1.in1.in1.handled = none := by simp [hh]
        have ne1 : l ≠ h0.objs.size := Nat.ne_of_lt (by rw [big]; exact Nat.lt_succ_of_lt hlt)
        have nin : s.heap.objs.size ∉ [h0.objs.size, l] := by
          simp only [List.mem_cons, List.not_mem_nil, or_false, not_or]
          exact ⟨Nat.ne_of_lt (by rw [big]; exact Nat.lt_succ_self _), Nat.ne_of_gt hlt⟩
        refine fill_loop ((Walks.list hh3 _ l ne1 its).toS) s.heap.objs.size nin (fun i => ns.getD i 0) (fun i v e => IntsAre.int_at hi i v (by rw [Array.getElem?_toList]; exact e)) hb (its.size - 0) 0 _ (by omega) (Nat.zero_le _)
          ⟨⟨_, Heap.get?_push_size _ rfl, rfl, rfl⟩, hl1.push _⟩ ⟨_, #[], 0, _, Heap.get?_push_of_some _ g0, ⟨rfl, rfl, rfl⟩, rfl, fun e he => by simp at he, by exact .nil, by decide, by rfl, Led.fresh _⟩ fun s3 m S3 => ?_
        obtain ⟨h3, g3, d3, tk3, os3⟩ := s3
        have a1 : g3 = s.gens := m.gens
        have a2 : d3 = s.drawn := m.drawn
        have a3 : os3 = s.os := m.os
        subst a1; subst a2; subst a3
        show wpAny _ _ _ _ _ _
        refine wpAny_pure ?_
        show wpAny _ _ (ret Value.none) _ _ _
        refine wpAny_pure ⟨rfl, h3, tk3, rfl, S3, fun b o e => ?_⟩
        have hb := Heap.lt_size e
        refine m.heap b o ?_ (Heap.get?_push_of_some _ (keep0 _ _ e))
        simp only [List.mem_cons, List.not_mem_nil, or_false, not_or]
        exact ⟨Nat.ne_of_lt hb, Nat.ne_of_lt (by rw [big]; exact Nat.lt_succ_of_lt hb)⟩
      · cases r2 with
        | error e => exact hr2
        | ok fl2 =>
          cases fl2 with
          | ret r =>
            obtain ⟨rfl, h', tk, rfl, S', k'⟩ := hr2
            repeat (any_goals (first | assumption | wp_step))
            exact q _ _ S' k'
          | _ => exact hr2.elim
    | _ => exact hr.elim
end
end L2

set_option linter.all false
set_option maxRecDepth 100000
namespace L2
open PySem PySem.Spec PyProof.Rows
section
variable {X : Cx}
theorem Inv.drawn {pins : List (Addr × Obj)} {σ : St} {H : Hp} {s : Shared} (I : Inv X pins σ H s) (d) : Inv X pins σ H { s with drawn := d } :=
  { ok := I.ok, os := I.os, bare := I.bare, base := I.base, loc := I.loc, cell := I.cell, free := I.free, freeC := I.freeC, pin := I.pin, hok := I.hok, len := I.len }
theorem ints_of_vals : ∀ {ns : List Int} {us : List Value}, Vals (ns.map V.int) us → IntsAre us ns
  | [], _, .nil => .nil
  | n :: r, _, .cons h t => by
    obtain ⟨tk, rfl⟩ := h
    exact .cons _ _ (ints_of_vals t)
abbrev setX (X : Cx) (a : Addr) (ms : List Int) : HO := .ext fun h => IntSet X.prog X.w h a ms
theorem call_set_of (hc : X.calm = true) : CallR X (.type "set") (fun xs H Q => ∃ (p : Addr) (ns : List Int), xs = [.ref p] ∧ SqL X.K H p (ns.map V.int) ∧ ns.length ≤ 1000 ∧
    ∀ (a : Addr), H a = none → Q (.ref a) (upd H a (setX X a (firstMet (fun i => ns.getD i 0) ns.length)))) := by
  intro pins s σ H xs us Q I r h
  obtain ⟨p, ns, rfl, hq, hn, q⟩ := h
  obtain ⟨u, rfl, rx⟩ := vals1 r
  cases rx
  obtain ⟨its, r', pl, hz⟩ := I.list hq
  have hi := ints_of_vals r'
  have hlen : its.length = ns.length := IntsAre.length hi
  refine set_call (I.ok.hd hc) pl.isList hi (by rw [List.size_toArray, hlen]; exact Nat.lt_of_le_of_lt (Nat.succ_le_succ hn) (by decide)) fun h' tk S k => ?_
  have hz2 : its.toArray.size = ns.length := by rw [List.size_toArray, hlen]
  rw [hz2] at S
  refine ⟨.ref s.heap.objs.size, _, I.laid k (Nat.le_refl _) ?_, rfl, q _ (I.hok.fresh (Nat.le_refl _))⟩
  exact ⟨S, ⟨_, S.choose_spec.choose_spec.choose_spec.choose_spec.1⟩, fun h1 h2 z e => z.at e⟩
theorem call_sorted_of (hc : X.calm = true) : CallR X (.builtin "sorted") (fun xs H Q => ∃ (a : Addr) (ms : List Int), xs = [.ref a] ∧ H a = some (setX X a ms) ∧ ms.length < 64 ∧
    ∀ (D : Addr) (ks : List Int), H D = none → List.Perm ks ms → ks.Pairwise (· ≤ ·) → Q (.ref D) (upd H D (.lst (ks.map V.int)))) := by
  intro pins s σ H xs us Q I r h
  obtain ⟨a, ms, rfl, ha, hn, q⟩ := h
  obtain ⟨u, rfl, rx⟩ := vals1 r
  cases rx
  obtain ⟨S, _, _⟩ := I.hok a _ ha
  refine sorted_set (I.ok.hd hc) S hn fun D h' tk d c out ks k hD g hi pk hr => ?_
  have hl : ks.length < 64 := by rw [pk.length_eq]; exact hn
  refine ⟨.ref D, _, (I.laid (t' := tk) k hD ?_).drawn d, rfl, q D ks (I.hok.fresh hD) pk hr⟩
  exact ⟨by rw [List.length_map, sizeLine_eq]; omega, out.toList, c, vals_ints hi, g⟩
theorem firstMet_mem (val : Nat → Int) (n : Nat) (x : Int) : x ∈ firstMet val n ↔ ∃ i, i < n ∧ val i = x := by
  have h := firstMet_any val n x
  rw [Bool.eq_iff_iff, List.any_eq_true, List.any_eq_true] at h
  constructor
  · intro hx
    obtain ⟨y, hy, e⟩ := h.mp ⟨x, hx, beq_self_eq_true x⟩
    obtain ⟨i, hi, rfl⟩ := List.mem_map.mp hy
    exact ⟨i, List.mem_range.mp hi, eq_of_beq e⟩
  · rintro ⟨i, hi, rfl⟩
    obtain ⟨y, hy, e⟩ := h.mpr ⟨val i, List.mem_map.mpr ⟨i, List.mem_range.mpr hi, rfl⟩, beq_self_eq_true _⟩
    exact eq_of_beq e ▸ hy
theorem firstMet_nodup (val : Nat → Int) : ∀ n, (firstMet val n).Nodup
  | 0 => by rw [firstMet_zero]; exact List.nodup_nil
  | n + 1 => by
    rw [firstMet_succ]
    by_cases h : val n ∈ firstMet val n
    · rw [dedup_old h]; exact firstMet_nodup val n
    · rw [dedup_new h]
      exact List.nodup_append.mpr ⟨firstMet_nodup val n, by simp, fun a ha b hb e => by rw [List.mem_singleton] at hb; subst hb; subst e; exact h ha⟩
theorem rise_of : ∀ {l : List Int}, l.Pairwise (· ≤ ·) → l.Nodup → l.Pairwise (· < ·)
  | [], _, _ => .nil
  | x :: r, h, n => by
    obtain ⟨h1, h2⟩ := List.pairwise_cons.mp h
    obtain ⟨n1, n2⟩ := List.nodup_cons.mp n
    refine List.pairwise_cons.mpr ⟨fun y hy => ?_, rise_of h2 n2⟩
    have := h1 y hy
    have : x ≠ y := fun z => n1 (z ▸ hy)
    omega
def tSortSet (K : PySem.W.Frag) (te : TE) : TE := fun σ H Q => te σ H fun x H1 => ∃ (p : Addr) (ns : List Int), x = .ref p ∧ SqL K H1 p (ns.map V.int) ∧ ns.length < 64 ∧
  ∀ (a : Addr) (o : HO) (D : Addr) (ks : List Int), H1 a = none → upd H1 a o D = none → ks.Pairwise (· < ·) → (∀ x, x ∈ ks ↔ x ∈ ns) → ks.length ≤ ns.length → Q (.ref D) (upd (upd H1 a o) D (.lst (ks.map V.int)))
def clo (te : TE) : TE := fun σ H Q => ∃ C : VK, te σ H C ∧ ∀ x H1, C x H1 → Q x H1
theorem PE.clo {e : Expr} {te : TE} (h : PE X e te) : PE X e (clo te) := fun pins s σ H Q I ⟨C, q, m⟩ => thn (h pins s σ H C I q) fun v s' ⟨x, H1, I1, r1, q1⟩ => ⟨x, H1, I1, r1, m _ _ q1⟩
theorem pe_sortset {e : Expr} {te : TE} {p1 p2 p3 p4 : Pos} (hc : X.calm = true) (g1 : Gl X "sorted") (m1 : X.mg "sorted" = none) (g2 : Gl X "set") (m2 : X.mg "set" = none) (h : PE X e te)
    (he : starEach [e] X.env = [(false, eval e X.env)] := by rfl) :
    PE X (.Call (.Name "sorted" p1) [.Call (.Name "set" p2) [e] [] p3] [] p4) (tSortSet X.K te) := fun pins s σ H Q I q => by
  refine (pe_callB (call_sorted_of hc) g1 m1 (by rfl) (pa_cons (pe_callTy (call_set_of hc) g2 m2 (by rfl) (pa_cons h.clo pa_nil he) (he := he)) pa_nil)) pins s σ H Q I ?_
  refine ⟨_, q, fun x H1 ⟨p, ns, e1, hq, hn, q1⟩ => ?_⟩
  subst e1
  refine ⟨p, ns, rfl, hq, by omega, fun a ha => ⟨a, _, rfl, upd_same, ?_, fun D ks hD pk hr => ?_⟩⟩
  · exact Nat.lt_of_le_of_lt (firstMet_length_le ..) hn
  · have nd := firstMet_nodup (fun i => ns.getD i 0) ns.length
    refine q1 a _ D ks ha hD (rise_of hr (pk.nodup_iff.mpr nd)) (fun x => ?_) (by rw [pk.length_eq]; exact firstMet_length_le ..)
    rw [pk.mem_iff, firstMet_mem]
    refine ⟨fun ⟨i, hi, e⟩ => ?_, fun hx => ?_⟩
    · rw [← e]
      simp [List.getD, hi]
    · obtain ⟨i, hi, e⟩ := List.getElem_of_mem hx
      exact ⟨i, hi, by simp [List.getD, hi, e]⟩
end
end L2

set_option linter.all false
set_option maxRecDepth 100000
namespace L2
open PySem PySem.Spec PyProof.Rows
def Itv (K : PySem.W.Frag) (a : Addr) (n : Nat) : It :=
  ⟨fun i H => i < n ∧ ∃ xs, SqL K H a xs ∧ xs.length = n, fun i H x H' => H' = H ∧ ∀ xs, SqL K H a xs → xs[n - 1 - i]? = some x, fun i _ => n ≤ i⟩
def iRev (K : PySem.W.Frag) (ta : TA) : TI := fun σ H R => ta σ H fun vs H1 => ∃ a xs, vs = [.ref a] ∧ SqL K H1 a xs ∧ R (Itv K a xs.length) H1
section
variable {X : Cx} {tg : Expr}
def tRevSl (K : PySem.W.Frag) (te : TE) (ts : TO) : TE := fun σ H Q => te σ H fun x H1 => ts σ H1 fun k H2 => k = some (-1) ∧ ∃ a xs, x = .ref a ∧ SqL K H2 a xs ∧ ∀ p, H2 p = none → Q (.ref p) (upd H2 p (.lst xs.reverse))
theorem tRevSl_ap {K : PySem.W.Frag} {te : TE} {ts : TO} {σ : St} {H : Hp} {Q : VK} : tRevSl K te ts σ H Q = (te σ H fun x H1 => ts σ H1 fun k H2 => k = some (-1) ∧ ∃ a xs, x = .ref a ∧ SqL K H2 a xs ∧ ∀ p, H2 p = none → Q (.ref p) (upd H2 p (.lst xs.reverse))) := rfl
def tLstR (ta : TA) : TE := fun σ H Q => ta σ H fun vs H1 => ∃ k : Nat, vs = [.int k] ∧ k ≤ 100000 ∧ ∀ p, H1 p = none → Q (.ref p) (upd H1 p (.lst (ups k)))
theorem tLstR_ap {ta : TA} {σ : St} {H : Hp} {Q : VK} : tLstR ta σ H Q = (ta σ H fun vs H1 => ∃ k : Nat, vs = [.int k] ∧ k ≤ 100000 ∧ ∀ p, H1 p = none → Q (.ref p) (upd H1 p (.lst (ups k)))) := rfl
theorem boot_listT : bootBuiltins "list" = some (.type "list") := by rfl
theorem pe_lstR {a : Expr} {ta : TA} {p p2 pos pos2 : Pos} (hc : X.calm = true) (hg : Gl X "list") (hm : X.mg "list" = none) (hg2 : Gl X "range") (hm2 : X.mg "range" = none) (ha : PA X [a] ta) (hs : starEach [a] X.env = [(false, eval a X.env)] := by rfl)
    (hs2 : starEach [.Call (.Name "range" p2) [a] [] pos2] X.env = [(false, eval (.Call (.Name "range" p2) [a] [] pos2) X.env)] := by rfl) : PE X (.Call (.Name "list" p) [.Call (.Name "range" p2) [a] [] pos2] [] pos) (tLstR ta) := by
  intro pins s σ H Q I h
  refine Call_ (ld_blt I hg hm boot_listT (PyProof.Rows.callWith_type1 ?_ hs2 rfl))
  rw [hs2]
  show wpAny _ _ (spliced ((false, eval (.Call (.Name "range" p2) [a] [] pos2) X.env) :: backTo pos [])) _ _ s
  refine Calls.spliced_cons ?_
  refine Call_ (ld_blt I hg2 hm2 boot_range (PyProof.Rows.callWith_type1 (thn (ha pos2 pins s σ H _ I h) fun us s1 ⟨vs, H1, I1, r1, q1⟩ => ?_) hs rfl))
  obtain ⟨k, rfl, hk, q⟩ := q1
  obtain ⟨u, rfl, ru⟩ := vals1 r1
  obtain ⟨t, rfl⟩ := ru
  have hsm : Builtin.Range.small 0 (k : Int) 1 = true := small_one (by omega) (by omega) (by omega) (by omega)
  have hsz : Builtin.Range.rangeSize 0 (k : Int) 1 = k := by rw [rangeSize_one]; split <;> omega
  refine call_range_1 ?_
  refine wpAny_pure ?_
  refine call_list_range (I.ok.hd hc) (Heap.get?_push_size _ rfl) hsm hsz (by omega) fun h' tk acc c' kk g hacc => ?_
  have kk' : ∀ b o, s1.heap.get? b = some o → h'.get? b = some o := fun b o e => kk _ _ (Heap.get?_push_of_some _ e)
  rw [show ({ s1 with heap := s1.heap.push { cls := Value.type "range", data := Data.fields #[Value.int 0 s1.toks, Value.int (↑k) t, Value.int 1 (s1.toks + 1)] }, toks := s1.toks + 1 + 1 } : Shared).heap.objs.size = s1.heap.objs.size + 1 from size_push' _ _] at g ⊢
  have I3 := I1.laid (t' := tk) (o := .lst (ups k)) (a := s1.heap.objs.size + 1) kk' (Nat.le_succ _) ⟨by simp [ups]; exact small _ hk, acc.toList, c', vals_ups hacc, by simpa using g⟩
  exact ⟨.ref _, _, I3, rfl, q _ (I1.hok.fresh (Nat.le_succ _))⟩
def r_call_dictA (K : PySem.W.Frag) : List V → Hp → VK → Prop := fun xs H Q => ∃ (p : Addr) (kvs : List (Key × V)), xs = [.ref p] ∧ H p = some (.dK kvs) ∧ ∀ l, H l = none → Q (.ref l) (upd H l (.dK kvs))
theorem dict_r {K : PySem.W.Frag} {p : Addr} {H : Hp} {Q : VK} : r_call_dictA K [.ref p] H Q = ∃ kvs, H p = some (.dK kvs) ∧ ∀ l, H l = none → Q (.ref l) (upd H l (.dK kvs)) := by simp [r_call_dictA]
end
theorem tFor_rev_ap {K : PySem.W.Frag} {as : TA} {g : TG} {s1 : TS} {D : Ends} {σ : St} {H : Hp} : tFor (iRev K as) g s1 D σ H = (as σ H fun vs H1 => ∃ a xs, vs = [.ref a] ∧ SqL K H1 a xs ∧ fBody (Itv K a xs.length) g s1 D σ H1) := rfl
section
variable {K : PySem.W.Frag} {tt : TT} {cap : List Nat} {σ : St} {H : Hp} {Q : VK}
theorem comp_rangeF {n : Nat} (p : Nat → Bool) (hn : n ≤ sizeLine) (ht : ∀ i, i < n → ∀ QB : Bool → Hp → Prop, QB (p i) H → tt (some (.int (i : Int)) :: capV cap σ) H QB)
    (hd : ∀ q, H q = none → Q (.ref q) (upd H q (.lst (((List.range n).filter p).map fun (i : Nat) => V.int i)))) : cBody (Itr 0 n) (gName 0) tt (tVr 0) 1 cap σ H Q := by
  refine ⟨fun i m σ' ys H' => m = n - i ∧ i ≤ n ∧ H' = H ∧ (∃ x0, σ' = x0 :: capV cap σ) ∧ ys = ((List.range i).filter p).map fun (i : Nat) => V.int i, ⟨n, by simp, Nat.zero_le _, rfl, ⟨none, rfl⟩, rfl⟩, ?_⟩
  rintro i m σ' ys H' ⟨rfl, hi, rfl, ⟨x0, rfl⟩, rfl⟩
  by_cases hlt : i < n
  · refine .inr ⟨hlt, ?_, fun x H2 y => ?_⟩
    · rw [List.length_map]
      have := List.length_filter_le p (List.range i)
      rw [List.length_range] at this
      omega
    · obtain ⟨e, y⟩ := y
      subst e y
      rw [Int.zero_add]
      simp only [gName, List.set_cons_zero]
      refine ht i hlt _ ?_
      cases hp : p i with
      | true =>
        rw [if_pos rfl]
        refine ⟨fun v H4 => v = .int i ∧ H4 = H2, fun y H4 ⟨e1, e2⟩ => ⟨n - (i + 1), by omega, rfl, hlt, e2, ⟨_, rfl⟩, ?_⟩, ?_⟩
        · rw [e1, List.range_succ, List.filter_append, List.map_append]
          simp [hp]
        · simp [tVr]
      | false =>
        rw [if_neg Bool.false_ne_true]
        refine ⟨n - (i + 1), by omega, rfl, hlt, rfl, ⟨_, rfl⟩, ?_⟩
        rw [List.range_succ, List.filter_append, List.map_append]
        simp [hp]
  · have e : i = n := by omega
    subst e
    exact .inl ⟨Nat.le_refl _, hd⟩
end
section
variable {K : PySem.W.Frag} {td ty tv te : TE} {D : Ends} {σ : St} {H : Hp} {Q : VK} {QB : Bool → Hp → Prop}
theorem tDGet_ap : tDGet td ty σ H Q = (td σ H fun x H1 => ty σ H1 fun y H2 => ∃ a v, x = .ref a ∧ DGet H2 a y (some v) ∧ Q v H2) := rfl
theorem tDIn_ap : tDIn ty td σ H Q = (ty σ H fun y H1 => td σ H1 fun x H2 => ∃ a o, x = .ref a ∧ DGet H2 a y o ∧ Q (.bl o.isSome) H2) := rfl
theorem tDNotIn_ap : tDNotIn ty td σ H Q = (ty σ H fun y H1 => td σ H1 fun x H2 => ∃ a o, x = .ref a ∧ DGet H2 a y o ∧ Q (.bl (!o.isSome)) H2) := rfl
theorem sDPut_ap : sDPut td ty tv D σ H = (tv σ H fun v H1 => td σ H1 fun x H2 => ty σ H2 fun y H3 => ∃ a H4, x = .ref a ∧ DPut H3 a y v H4 ∧ D.nx σ H4) := rfl
theorem tDGet1_ap : tDGet1 td ty σ H Q = (td σ H fun x H1 => ∃ a, x = .ref a ∧ IsD H1 a ∧ ty σ H1 fun y H2 => ∃ o, DGet H2 a y o ∧ Q (o.getD .non) H2) := rfl
theorem tDNewK_ap : tDNewK σ H Q = (∀ p, H p = none → Q (.ref p) (upd H p (.dK []))) := rfl
theorem tDNewT_ap : tDNewT σ H Q = (∀ p, H p = none → Q (.ref p) (upd H p (.dT []))) := rfl
theorem tB_ap : tB te σ H QB = (te σ H fun x H1 => ∃ c, x = .bl c ∧ QB c H1) := rfl
theorem tSortSet_ap : tSortSet K te σ H Q = (te σ H fun x H1 => ∃ (p : Addr) (ns : List Int), x = .ref p ∧ SqL K H1 p (ns.map V.int) ∧ ns.length < 64 ∧
  ∀ (a : Addr) (o : HO) (D : Addr) (ks : List Int), H1 a = none → upd H1 a o D = none → ks.Pairwise (· < ·) → (∀ x, x ∈ ks ↔ x ∈ ns) → ks.length ≤ ns.length → Q (.ref D) (upd (upd H1 a o) D (.lst (ks.map V.int)))) := rfl
variable {a b : Addr} {i j : Int} {z : Str} {kvs : List (Key × V)} {kvt : List (List Key × V)} {v : V}
theorem dI (e : H a = some (.dK kvs)) : DGet H a (.int i) (valV kvs (.inl i)) := DGet.k (k := .inl i) e
theorem dS (e : H a = some (.dK kvs)) : DGet H a (.str z) (valV kvs (.inr z)) := DGet.k (k := .inr z) e
theorem dT2 (e : H a = some (.dT kvt)) (eb : H b = some (.tup [.int i, .int j])) : DGet H a (.ref b) (valV kvt [.inl i, .inl j]) := DGet.t (k := [.inl i, .inl j]) e eb
theorem dS' (e : H a = some (.dK kvs)) (h : valV kvs (.inr z) = some v) : DGet H a (.str z) (some v) := h ▸ dS e
theorem dT2' (e : H a = some (.dT kvt)) (eb : H b = some (.tup [.int i, .int j])) (h : valV kvt [.inl i, .inl j] = some v) : DGet H a (.ref b) (some v) := h ▸ dT2 e eb
theorem pS (e : H a = some (.dK kvs)) (hl : kvs.length < 100000) : DPut H a (.str z) v (upd H a (.dK (putK kvs (.inr z) v))) := DPut.k (k := .inr z) e (Nat.lt_of_lt_of_le hl (by decide))
theorem pT2 (e : H a = some (.dT kvt)) (eb : H b = some (.tup [.int i, .int j])) (hl : kvt.length < 100000) : DPut H a (.ref b) v (upd H a (.dT (putK kvt [.inl i, .inl j] v))) := DPut.t (k := [.inl i, .inl j]) e eb (Nat.lt_of_lt_of_le hl (by decide))
end
end L2

set_option linter.all false
set_option maxRecDepth 100000
namespace L2
open PySem PySem.Spec PyProof.Rows
section
variable {X : Cx}
def rIsT : R2 := fun x y H Q => ∃ c, y = .bl c ∧ (∀ p, x ≠ .ref p) ∧ (∀ T, x ≠ .ty T) ∧ Q (.bl (decide (x = .bl c))) H
end
theorem SqT.same {K : PySem.W.Frag} {H H' : Hp} {a : Addr} {xs : List V} (e : Same H H') (h : SqT K H a xs) : SqT K H' a xs := by
  rcases h with (h | ⟨o, h⟩) | h
  · exact .inl (.inl (e _ _ h))
  · exact .inl (.inr ⟨o, e _ _ h⟩)
  · exact .inr h
mutual
theorem Rep.same {K : PySem.W.Frag} {H H' : Hp} (s : Same H H') : ∀ {v : V} {d : PyData}, Rep K H v d → Rep K H' v d
  | _, _, .non => .non
  | _, _, .bl b => .bl b
  | _, _, .int i => .int i
  | _, _, .str x => .str x
  | _, _, .lst h r => .lst (s.seq h) (RepAll.same s r)
  | _, _, .tup h r => .tup (SqT.same s h) (RepAll.same s r)
theorem RepAll.same {K : PySem.W.Frag} {H H' : Hp} (s : Same H H') : ∀ {vs : List V} {ds : List PyData}, RepAll K H vs ds → RepAll K H' vs ds
  | _, _, .nil => .nil
  | _, _, .cons h r => .cons (Rep.same s h) (RepAll.same s r)
end
def Dat (K : PySem.W.Frag) (H : Hp) (n : Nat) (v : V) (d : PyData) : Prop := Rep K H v d ∧ d.canLay0 = true ∧ d.depth ≤ n
section
variable {K : PySem.W.Frag} {H : Hp} {n : Nat} {Q : VK}
theorem Dat.int (i : Int) : Dat K H n (.int i) (.int i) := ⟨.int i, rfl, Nat.zero_le _⟩
theorem Dat.non : Dat K H n .non .none := ⟨.non, rfl, Nat.zero_le _⟩
theorem dat_all : ∀ {xs : List V} {ds : List PyData}, Paired (Dat K H n) xs ds → RepAll K H xs ds ∧ PyData.canLayAll0 ds = true ∧ PyData.depthAll ds ≤ n
  | _, _, .nil => ⟨.nil, rfl, Nat.zero_le _⟩
  | _, _, .cons h t => by
    obtain ⟨a1, a2, a3⟩ := dat_all t
    refine ⟨.cons h.1 a1, ?_, ?_⟩
    · simp [PyData.canLayAll0, h.2.1, a2]
    · simp only [PyData.depthAll]; exact Nat.max_le.mpr ⟨h.2.2, a3⟩
theorem Dat.lst {p : Addr} {xs : List V} {ds : List PyData} (h : SqL K H p xs) (hs : Paired (Dat K H n) xs ds) : Dat K H (n + 1) (.ref p) (.list ds) := by
  obtain ⟨a1, a2, a3⟩ := dat_all hs
  exact ⟨.lst h a1, by simpa [PyData.canLay0] using a2, by simpa [PyData.depth] using a3⟩
theorem Dat.tup {p : Addr} {xs : List V} {ds : List PyData} (h : SqT K H p xs) (hs : Paired (Dat K H n) xs ds) : Dat K H (n + 1) (.ref p) (.tuple ds) := by
  obtain ⟨a1, a2, a3⟩ := dat_all hs
  exact ⟨.tup h a1, by simpa [PyData.canLay0] using a2, by simpa [PyData.depth] using a3⟩
theorem Dat.shp {v : V} {d : PyData} (h : Dat K H n v d) (hn : n ≤ 64) : shp d := by
  unfold L2.shp PySem.SeqAt.shaped
  rw [h.2.1]
  simpa using Nat.le_trans h.2.2 hn
end
end L2
namespace L2
open PySem PySem.Spec PyProof.Rows
theorem rIsT_i {i : Int} {c : Bool} {H : Hp} {Q : VK} : rIsT (.int i) (.bl c) H Q = Q (.bl false) H := by simp [rIsT]
theorem rIsT_n {c : Bool} {H : Hp} {Q : VK} : rIsT .non (.bl c) H Q = Q (.bl false) H := by simp [rIsT]
def cpOk0 (scope : Scope) : Bool :=
  scope.kind == .function && scope.names.all (fun y => y.2 != .cell) && scope.names.all (fun y => y.2 != .local || scope.names.lookup y.1 == some .local) && scope.names.all (fun y => y.2 != .free)
theorem cps_in {X : Cx} {scope : Scope} {tn : List Str} (h : cpOk0 scope = true) : CpScope X scope tn [] [] := by
  unfold cpOk0 at h
  refine cps_of (outer := X.env.scope) (N := X.N) rfl rfl ?_
  unfold cpOk
  simp only [Bool.and_eq_true] at h ⊢
  obtain ⟨⟨⟨k1, k2⟩, k3⟩, k4⟩ := h
  refine ⟨⟨⟨⟨⟨k1, k2⟩, k3⟩, ?_⟩, rfl⟩, rfl⟩
  rw [List.all_eq_true] at k4 ⊢
  intro y hy
  rw [k4 y hy]
  rfl
end L2

set_option linter.all false
set_option maxRecDepth 100000
namespace L2
open PySem PySem.Spec PyProof.Rows
section
variable {prog : Program} {w : World} {A : Around} {E : Value → Shared → Prop} {s : Shared} {d it : Addr} {od : Obj} {es : Array DictEntry} {ep i : Nat}
end
end L2

set_option linter.all false
set_option maxRecDepth 100000
namespace L2
open PySem PySem.Spec PyProof.Rows
theorem strs_of_vals : ∀ {ys : List Str} {us : List Value}, Vals (ys.map V.str) us → StrsAre us ys
  | [], _, .nil => .nil
  | y :: r, _, .cons h t => by
    obtain ⟨tk, rfl⟩ := h
    exact .cons _ _ (strs_of_vals t)
section
variable {X : Cx}
def r_mt_join (K : PySem.W.Frag) : V → List V → Hp → VK → Prop := fun x vs H Q => ∃ (z : Str) (p : Addr) (ys : List Str), x = .str z ∧ vs = [.ref p] ∧ SqL K H p (ys.map V.str) ∧ z.length ≤ 16 ∧ (ys.map (·.length)).sum + ys.length ≤ 1048576 ∧ Q (.str (Txt.join z ys)) H
theorem mt_join : MtR X "str.join" (r_mt_join X.K) := by
  intro pins s σ H x vs v us Q I rx rv h
  obtain ⟨z, p, ys, rfl, rfl, hp, hz, hw, q⟩ := h
  obtain ⟨t, rfl⟩ := rx
  obtain ⟨u, rfl, ru⟩ := rv.one
  cases ru
  obtain ⟨its, r, pl, hz'⟩ := I.list hp
  exact join_listW pl.isList (strs_of_vals r) hz hw fun t' k => ⟨.str _, H, I.tok k, ⟨t', rfl⟩, q⟩
end
section
variable {K : PySem.W.Frag} {tt : TT} {te : TE} {cap : List Nat} {σ : St} {H : Hp} {Q : VK}
end
end L2

set_option linter.all false
set_option maxRecDepth 100000
set_option maxHeartbeats 4000000
namespace L2
open PySem PySem.Spec PyProof.Rows
section
variable {X : Cx} {tg : Expr}
end
section
variable {K : PySem.W.Frag} {tt : TT} {cap : List Nat} {σ : St} {H : Hp} {Q : VK}
def falls (lo : Int) (n : Nat) : List Int := (List.range n).map fun (i : Nat) => lo - (i : Int)
end
section
variable {P : Program} {w : World} {A : Around} {E : Value → Shared → Prop} {s : Shared}
end
section
variable {X : Cx}
end
end L2

set_option linter.all false
namespace L2
open PySem PySem.Spec PyProof.Rows
abbrev Ad := String → Addr

def SameBut (F : Addr → Prop) (H H' : Hp) : Prop := ∀ b o, H b = some o → ¬ F b → H' b = some o
structure TPlank (K : PySem.W.Frag) (a : Ad) : Prop where
  cl : Cls K (a "Plank")
  nC : NoAttr K (a "Plank") "contents"
  nW : NoAttr K (a "Plank") "width"
  nN : NoAttr K (a "Plank") "written"
def pf (cl : Addr) (w n : Int) : List (Str × V) := [("contents", .ref cl), ("width", .int w), ("written", .int n)]
theorem ne_cw : ¬ ("contents" : Str) = "width" := by decide +kernel
theorem ne_cn : ¬ ("contents" : Str) = "written" := by decide +kernel
theorem ne_wn : ¬ ("width" : Str) = "written" := by decide +kernel
theorem pf_c (cl : Addr) (w n : Int) : (pf cl w n).lookup ("contents" : Str) = some (V.ref cl) := by simp [pf]
theorem pf_w (cl : Addr) (w n : Int) : (pf cl w n).lookup ("width" : Str) = some (V.int w) := by
  have h : (("width" : Str) == "contents") = false := beq_eq_false_iff_ne.mpr (Ne.symm ne_cw)
  simp [pf, List.lookup_cons, h]
theorem pf_n (cl : Addr) (w n : Int) : (pf cl w n).lookup ("written" : Str) = some (V.int n) := by
  have h : (("written" : Str) == "contents") = false := beq_eq_false_iff_ne.mpr (Ne.symm ne_cn)
  have h2 : (("written" : Str) == "width") = false := beq_eq_false_iff_ne.mpr (Ne.symm ne_wn)
  simp [pf, List.lookup_cons, h, h2]
theorem pf_new (cl : Addr) (w n : Int) : putF "written" (.int n) (putF "width" (.int w) (putF "contents" (.ref cl) [])) = pf cl w n := by
  simp only [putF, pf]
  rw [if_neg ne_cw]
  simp only [putF]
  rw [if_neg ne_cn, if_neg ne_wn]
theorem pf_put (cl : Addr) (w n m : Int) : putF "written" (.int m) (pf cl w n) = pf cl w m := by
  simp only [putF, pf]
  rw [if_neg ne_cn, if_neg ne_wn]
  simp
theorem pf_no (cl : Addr) (w n : Int) {m : Str} (h1 : ¬ m = "contents") (h2 : ¬ m = "width") (h3 : ¬ m = "written") : (pf cl w n).lookup m = none := by
  have e1 := beq_eq_false_iff_ne.mpr h1
  have e2 := beq_eq_false_iff_ne.mpr h2
  have e3 := beq_eq_false_iff_ne.mpr h3
  simp [pf, List.lookup_cons, e1, e2, e3]
structure PlankAt (a : Ad) (H : Hp) (p cl : Addr) (w : Nat) (rows : List (List V)) (n : Nat) : Prop where
  ob : ∃ dx, H p = some (.ins (a "Plank") dx (pf cl w n))
  ls : ∃ ts : List Addr, H cl = some (.lst (ts.map V.ref)) ∧ Paired (fun t r => H t = some (.tup r)) ts rows
  wd : ∀ r ∈ rows, r.length = w
  sz : rows.length ≤ 1000
  sw : w ≤ 1000
theorem PlankAt.ne {a : Ad} {H : Hp} {p cl : Addr} {w : Nat} {rows : List (List V)} {n : Nat} (P : PlankAt a H p cl w rows n) : p ≠ cl := by
  obtain ⟨⟨dx, h1⟩, ⟨ts, h2, _⟩, _⟩ := P
  exact ne_of h1 h2 (by intro z; cases z)
theorem PlankAt.keep {a : Ad} {H H' : Hp} {p cl : Addr} {w : Nat} {rows : List (List V)} {n : Nat} (P : PlankAt a H p cl w rows n) (h1 : H' p = H p) (h2 : H' cl = H cl) (h3 : ∀ b xs, H b = some (.tup xs) → H' b = some (.tup xs)) : PlankAt a H' p cl w rows n := by
  obtain ⟨⟨dx, e1⟩, ⟨ts, e2, e3⟩, r1, r2, r3⟩ := P
  exact ⟨⟨dx, h1.trans e1⟩, ⟨ts, h2.trans e2, Paired.mapP e3 fun t r q => h3 t r q⟩, r1, r2, r3⟩
theorem PlankAt.same {a : Ad} {H H' : Hp} {p cl : Addr} {w : Nat} {rows : List (List V)} {n : Nat} (P : PlankAt a H p cl w rows n) (s : Same H H') : PlankAt a H' p cl w rows n := by
  obtain ⟨⟨dx, e1⟩, ⟨ts, e2, e3⟩, r1, r2, r3⟩ := P
  exact ⟨⟨dx, s _ _ e1⟩, ⟨ts, s _ _ e2, Paired.mapP e3 fun t r q => s _ _ q⟩, r1, r2, r3⟩

def sp_Plank_init (K : PySem.W.Frag) (a : Ad) : Sp := fun vs H Q _ => ∃ (p dx : Addr) (m w : Nat), vs = [.ref p, .int m, .int w] ∧ TPlank K a ∧ H p = some (.ins (a "Plank") dx []) ∧ m ≤ 1000 ∧ 1 ≤ w ∧ w ≤ 1000 ∧
  ∀ cl H', H cl = none → PlankAt a H' p cl w (List.replicate m (List.replicate w .non)) 0 → SameBut (· = p) H H' → Q .non H'
def sp_Plank_blocks (K : PySem.W.Frag) (a : Ad) : Sp := fun vs H Q _ => ∃ p cl w rows n, vs = [.ref p] ∧ TPlank K a ∧ PlankAt a H p cl w rows n ∧ Q (.int rows.length) H
def sp_Plank_cells (K : PySem.W.Frag) (a : Ad) : Sp := fun vs H Q _ => ∃ (p cl : Addr) (w : Nat) (rows : List (List V)) (n : Nat), vs = [.ref p] ∧ TPlank K a ∧ PlankAt a H p cl w rows n ∧ Q (.int w) H
def sp_Plank_writings (K : PySem.W.Frag) (a : Ad) : Sp := fun vs H Q _ => ∃ (p cl : Addr) (w : Nat) (rows : List (List V)) (n : Nat), vs = [.ref p] ∧ TPlank K a ∧ PlankAt a H p cl w rows n ∧ Q (.int n) H
def sp_Plank_ask_for_block (K : PySem.W.Frag) (a : Ad) : Sp := fun vs H Q E => ∃ (p cl : Addr) (w : Nat) (rows : List (List V)) (n : Nat) (b : Int), vs = [.ref p, .int b] ∧ TPlank K a ∧ PlankAt a H p cl w rows n ∧
  (0 ≤ b → b < rows.length → Q .non H) ∧ (b < 0 ∨ rows.length ≤ b → E (.ref (a "NoBlock")) none H)
def sp_Plank_read (K : PySem.W.Frag) (a : Ad) : Sp := fun vs H Q E => ∃ (p cl : Addr) (w : Nat) (rows : List (List V)) (n : Nat) (b : Int), vs = [.ref p, .int b] ∧ TPlank K a ∧ PlankAt a H p cl w rows n ∧
  (∀ (i : Nat) row, b = i → rows[i]? = some row → ∀ l, H l = none → Q (.ref l) (upd H l (.lst row))) ∧ (b < 0 ∨ rows.length ≤ b → E (.ref (a "NoBlock")) none H)
def sp_Plank_write (K : PySem.W.Frag) (a : Ad) : Sp := fun vs H Q E => ∃ (p cl : Addr) (w : Nat) (rows : List (List V)) (n : Nat) (b : Int) (v : Addr) (xs : List V), vs = [.ref p, .int b, .ref v] ∧ TPlank K a ∧ PlankAt a H p cl w rows n ∧ SqL K H v xs ∧ xs.length ≤ 2000 ∧
  (∀ (i : Nat), b = i → i < rows.length → xs.length = w → ∀ H', PlankAt a H' p cl w (rows.set i xs) (n + 1) → SameBut (fun x => x = p ∨ x = cl) H H' → Q .non H') ∧
  (b < 0 ∨ rows.length ≤ b ∨ xs.length ≠ w → E (.ref (a "NoBlock")) none H)
end L2

set_option linter.all false
namespace L2
open PySem PySem.Spec PyProof.Rows
theorem ix_tpl {K : PySem.W.Frag} {H : Hp} {p : Addr} {xs : List V} {i : Int} {n : Nat} {v : V} {Q : VK} (h : H p = some (.tup xs)) (hi : i = n) (hx : xs[n]? = some v) (q : Q v H) : rIxA K (.ref p) (.int i) H Q :=
  .inr (.inl ⟨p, xs, i, v, rfl, rfl, SqT.of h, by rw [hi]; exact atI_nat hx, q⟩)
theorem ins_ne {C C' dx dx' : Addr} {fs fs' : List (Str × V)} (h : fs ≠ fs') : HO.ins C dx fs ≠ HO.ins C' dx' fs' := by
  intro z
  injection z with _ _ z
  exact h z
theorem sl_l {K : PySem.W.Frag} {H : Hp} {p : Addr} {xs : List V} {lo hi : Option Int} {Q : VK} (h : SqL K H p xs) (q : ∀ r, H r = none → Q (.ref r) (upd H r (.lst (cutV xs lo hi)))) : rSlA K (.ref p) lo hi H Q := .inl ⟨p, xs, rfl, h, q⟩
theorem SameBut.refl {F : Addr → Prop} (H : Hp) : SameBut F H H := fun _ _ e _ => e
theorem SameBut.trans {F : Addr → Prop} {H H' H2 : Hp} (s : SameBut F H H') (t : SameBut F H' H2) : SameBut F H H2 := fun b o e n => t _ _ (s _ _ e n) n
theorem SameBut.wide {F G : Addr → Prop} {H H' : Hp} (s : SameBut F H H') (i : ∀ x, F x → G x) : SameBut G H H' := fun b o e n => s _ _ e fun z => n (i _ z)
theorem Same.sb {F : Addr → Prop} {H H' : Hp} (s : Same H H') : SameBut F H H' := fun b o e _ => s b o e
theorem SqL.on {K : PySem.W.Frag} {H H' : Hp} {x : Addr} {xs : List V} (h : SqL K H x xs) (k : ∀ o, H x = some o → H' x = some o) : SqL K H' x xs := by
  rcases h with (h | ⟨o, h⟩) | h
  · exact .inl (.inl (k _ h))
  · exact .inl (.inr ⟨o, k _ h⟩)
  · exact .inr h
theorem SqL.sb {K : PySem.W.Frag} {F : Addr → Prop} {H H' : Hp} {x : Addr} {xs : List V} (h : SqL K H x xs) (s : SameBut F H H') (f : ∀ o, H x = some o → ¬ F x) : SqL K H' x xs := by
  rcases h with (h | ⟨o, h⟩) | h
  · exact .inl (.inl (s _ _ h (f _ h)))
  · exact .inl (.inr ⟨o, s _ _ h (f _ h)⟩)
  · exact .inr h
theorem SameBut.upd {F : Addr → Prop} {H H' : Hp} {p : Addr} {o : HO} (s : SameBut F H H') (h : F p ∨ H p = none) : SameBut F H (upd H' p o) := fun b u e n => by
  have : b ≠ p := by
    rcases h with h | h
    · exact fun z => n (z ▸ h)
    · exact ne_of_none e h
  rw [upd_ne this]; exact s _ _ e n
structure Ch where
  blk : Nat
  cell : Nat
  val : V
  nd : List Int
def newestR : List Ch → Int → Int → Option Nat
  | [], _, _ => none
  | c :: r, i, j => if (c.blk : Int) = i ∧ (c.cell : Int) = j then some r.length else newestR r i j
def newestOf (cs : List Ch) (i j : Int) : Option Nat := newestR cs.reverse i j
def inBlkR : List Ch → Nat → List Nat
  | [], _ => []
  | c :: r, b => if c.blk = b then inBlkR r b ++ [r.length] else inBlkR r b
def inBlk (cs : List Ch) (b : Nat) : List Nat := inBlkR cs.reverse b
theorem newestOf_snoc (cs : List Ch) (c : Ch) (i j : Int) : newestOf (cs ++ [c]) i j = if (c.blk : Int) = i ∧ (c.cell : Int) = j then some cs.length else newestOf cs i j := by
  simp [newestOf, newestR]
theorem inBlk_snoc (cs : List Ch) (c : Ch) (b : Nat) : inBlk (cs ++ [c]) b = if c.blk = b then inBlk cs b ++ [cs.length] else inBlk cs b := by
  simp [inBlk, inBlkR]
theorem newestR_lt : ∀ {l : List Ch} {i j : Int} {k : Nat}, newestR l i j = some k → k < l.length
  | [], _, _, _, h => by cases h
  | c :: r, i, j, k, h => by
    unfold newestR at h
    split at h
    · cases h; simp
    · have := newestR_lt h
      simp only [List.length_cons]; omega
theorem newestOf_lt {cs : List Ch} {i j : Int} {k : Nat} (h : newestOf cs i j = some k) : k < cs.length := by
  have := newestR_lt h
  rwa [List.length_reverse] at this
theorem inBlkR_len : ∀ (l : List Ch) (b : Nat), (inBlkR l b).length ≤ l.length
  | [], _ => Nat.le_refl _
  | c :: r, b => by
    have := inBlkR_len r b
    unfold inBlkR
    split <;> simp <;> omega
theorem inBlk_len (cs : List Ch) (b : Nat) : (inBlk cs b).length ≤ cs.length := by
  have := inBlkR_len cs.reverse b
  rwa [List.length_reverse] at this
def chf (pl : Addr) (v : V) (nt : Addr) : List (Str × V) := [("place", .ref pl), ("value", v), ("needs", .ref nt)]
def bf (gp m mi lt ou : Addr) : List (Str × V) := [("ground", .ref gp), ("made", .ref m), ("made_in", .ref mi), ("latest", .ref lt), ("outs", .ref ou)]
def strEq (a b : Str) : Bool := a == b
section
variable {pl nt gp m mi lt ou : Addr} {v : V}
theorem s_ne {a b : Str} (h : strEq a b = false) : (a == b) = false := h
theorem chf_v : (chf pl v nt).lookup ("value" : Str) = some v := by
  simp [chf, List.lookup_cons, s_ne (a := "value") (b := "place") (by decide +kernel)]
theorem putF_ne {f g : Str} {x y : V} {r : List (Str × V)} (h : strEq g f = false) : putF f y ((g, x) :: r) = (g, x) :: putF f y r := by
  have : ¬ g = f := fun e => by rw [e] at h; simp [strEq] at h
  simp [putF, this]
theorem putF_nil {f : Str} {y : V} : putF f y [] = [(f, y)] := rfl
theorem chf_new : putF "needs" (.ref nt) (putF "value" v (putF "place" (.ref pl) [])) = chf pl v nt := by
  rw [putF_nil, putF_ne (by decide +kernel), putF_nil, putF_ne (by decide +kernel), putF_ne (by decide +kernel), putF_nil]
  rfl
theorem bf_g : (bf gp m mi lt ou).lookup ("ground" : Str) = some (V.ref gp) := by simp [bf]
theorem bf_m : (bf gp m mi lt ou).lookup ("made" : Str) = some (V.ref m) := by
  simp [bf, List.lookup_cons, s_ne (a := "made") (b := "ground") (by decide +kernel)]
theorem bf_i : (bf gp m mi lt ou).lookup ("made_in" : Str) = some (V.ref mi) := by
  simp [bf, List.lookup_cons, s_ne (a := "made_in") (b := "ground") (by decide +kernel), s_ne (a := "made_in") (b := "made") (by decide +kernel)]
theorem bf_l : (bf gp m mi lt ou).lookup ("latest" : Str) = some (V.ref lt) := by
  simp [bf, List.lookup_cons, s_ne (a := "latest") (b := "ground") (by decide +kernel), s_ne (a := "latest") (b := "made") (by decide +kernel), s_ne (a := "latest") (b := "made_in") (by decide +kernel)]
theorem bf_o : (bf gp m mi lt ou).lookup ("outs" : Str) = some (V.ref ou) := by
  simp [bf, List.lookup_cons, s_ne (a := "outs") (b := "ground") (by decide +kernel), s_ne (a := "outs") (b := "made") (by decide +kernel), s_ne (a := "outs") (b := "made_in") (by decide +kernel), s_ne (a := "outs") (b := "latest") (by decide +kernel)]
theorem bf_no {x : Str} (h : (strEq x "ground" || strEq x "made" || strEq x "made_in" || strEq x "latest" || strEq x "outs") = false) : (bf gp m mi lt ou).lookup x = none := by
  simp only [Bool.or_eq_false_iff] at h
  obtain ⟨⟨⟨⟨h1, h2⟩, h3⟩, h4⟩, h5⟩ := h
  simp [bf, List.lookup_cons, s_ne h1, s_ne h2, s_ne h3, s_ne h4, s_ne h5]
theorem bf_new : putF "outs" (.ref ou) (putF "latest" (.ref lt) (putF "made_in" (.ref mi) (putF "made" (.ref m) (putF "ground" (.ref gp) [])))) = bf gp m mi lt ou := by
  repeat (first | rw [putF_nil] | rw [putF_ne (by decide +kernel)])
  rfl
end
structure TBook (K : PySem.W.Frag) (C D : Addr) : Prop where
  cl : Cls K C
  nG : NoAttr K C "ground"
  nM : NoAttr K C "made"
  nI : NoAttr K C "made_in"
  nL : NoAttr K C "latest"
  nO : NoAttr K C "outs"
  cc : Cls K D
  nP : NoAttr K D "place"
  nV : NoAttr K D "value"
  nN : NoAttr K D "needs"
def ChAt (D : Addr) (H : Hp) (x : Addr) (c : Ch) : Prop := ∃ dx pl nt, H x = some (.ins D dx (chf pl c.val nt)) ∧ H pl = some (.tup [.int c.blk, .int c.cell]) ∧ H nt = some (.tup (c.nd.map V.int))
structure BA where
  b : Addr
  gp : Addr
  m : Addr
  mi : Addr
  lt : Addr
  ou : Addr
  ls : List Addr
  cl : Addr
def BA.F (A : BA) (x : Addr) : Prop := x = A.m ∨ x = A.mi ∨ x ∈ A.ls ∨ x = A.lt ∨ x = A.ou ∨ x = A.cl
def KeysOk (kvo : List (Key × V)) (n : Nat) : Prop := (kvo.map (·.1)).Nodup ∧ ∀ p ∈ kvo, ∃ x : Nat, p.1 = Sum.inl (x : Int) ∧ x < n
theorem KeysOk.mono {kvo : List (Key × V)} {n m : Nat} (h : KeysOk kvo n) (hm : n ≤ m) : KeysOk kvo m := ⟨h.1, fun p hp => by obtain ⟨x, e, hx⟩ := h.2 p hp; exact ⟨x, e, by omega⟩⟩
theorem KeysOk.len {kvo : List (Key × V)} {n : Nat} (h : KeysOk kvo n) : kvo.length ≤ n := by
  have := List.Nodup.length_le_of_subset (l₂ := (List.range n).map fun (k : Nat) => (Sum.inl (k : Int) : Key)) h.1 fun k hk => by
    obtain ⟨p, hp, rfl⟩ := List.mem_map.mp hk
    obtain ⟨x, e, hx⟩ := h.2 p hp
    rw [e]
    exact List.mem_map.mpr ⟨x, List.mem_range.mpr hx, rfl⟩
  simpa using this
theorem KeysOk.put {kvo : List (Key × V)} {n : Nat} (h : KeysOk kvo n) {k : Nat} (hk : k < n) (hn : valV kvo (.inl (k : Int)) = none) (v : V) : KeysOk (putK kvo (.inl (k : Int)) v) n := by
  refine ⟨nd_putK v h.1 hn, fun p hp => ?_⟩
  rw [putK_new v hn] at hp
  rcases List.mem_append.mp hp with hp | hp
  · exact h.2 p hp
  · rw [List.mem_singleton.mp hp]; exact ⟨k, rfl, hk⟩
structure BookIn (C D : Addr) (H : Hp) (A : BA) (w : Nat) (cs : List Ch) (outs : Int → Bool) : Prop where
  ob : ∃ dx, H A.b = some (.ins C dx (bf A.gp A.m A.mi A.lt A.ou))
  made : ∃ chs : List Addr, H A.m = some (.lst (chs.map V.ref)) ∧ Paired (ChAt D H) chs cs
  mil : H A.mi = some (.lst (A.ls.map V.ref))
  mic : ∀ (i : Nat) l, A.ls[i]? = some l → H l = some (.lst ((inBlk cs i).map fun (k : Nat) => V.int k))
  nd : A.ls.Nodup
  lat : ∃ kvs, H A.lt = some (.dT kvs) ∧ (∀ i j : Int, valV kvs [.inl i, .inl j] = (newestOf cs i j).map fun (k : Nat) => V.int k) ∧ kvs.length ≤ cs.length
  out : ∃ kvo, H A.ou = some (.dK kvo) ∧ (∀ k : Int, (valV kvo (.inl k)).isSome = outs k) ∧ KeysOk kvo cs.length
  sz : cs.length ≤ 500
  inn : ∀ c ∈ cs, c.blk < A.ls.length ∧ c.cell < w
  need : ∀ (k : Nat) c, cs[k]? = some c → (∀ x ∈ c.nd, 0 ≤ x ∧ x < k) ∧ c.nd.Pairwise (· < ·) ∧ c.nd.length ≤ 100
  ap : A.m ≠ A.mi ∧ A.m ∉ A.ls ∧ A.mi ∉ A.ls ∧ A.cl ≠ A.m ∧ A.cl ≠ A.mi ∧ A.cl ∉ A.ls
  chn : ∀ (k : Nat) c, cs[k]? = some c → ∀ j, newestOf (cs.take k) c.blk c.cell = some j → (j : Int) ∈ c.nd
structure BookAt (a : Ad) (C : Addr) (H : Hp) (A : BA) (w : Nat) (rows : List (List V)) (n : Nat) (cs : List Ch) (outs : Int → Bool) : Prop where
  bk : BookIn C (a "Change") H A w cs outs
  pk : PlankAt a H A.gp A.cl w rows n
  nb : A.ls.length = rows.length
def Loose (o : Option HO) : Prop := (∀ xs, o ≠ some (.tup xs)) ∧ ∀ C dx fs, o ≠ some (.ins C dx fs)
theorem ChAt.sb {D : Addr} {G : Addr → Prop} {H H' : Hp} (s : SameBut G H H') (g : ∀ x, G x → Loose (H x)) {x : Addr} {c : Ch} (h : ChAt D H x c) : ChAt D H' x c := by
  obtain ⟨dx, pl, nt, e1, e2, e3⟩ := h
  exact ⟨dx, pl, nt, s _ _ e1 fun z => (g _ z).2 _ _ _ e1, s _ _ e2 fun z => (g _ z).1 _ e2, s _ _ e3 fun z => (g _ z).1 _ e3⟩
theorem BookIn.sb {C D : Addr} {G : Addr → Prop} {H H' : Hp} {A : BA} {w : Nat} {cs : List Ch} {outs : Int → Bool} (B : BookIn C D H A w cs outs) (s : SameBut G H H') (g : ∀ x, G x → Loose (H x)) (f : ∀ x, G x → ¬ A.F x) : BookIn C D H' A w cs outs := by
  obtain ⟨⟨dx, e1⟩, ⟨chs, e2, e3⟩, e4, e5, e6, ⟨kvs, e7, e8⟩, ⟨kvo, e9, e10⟩, r1, r2, r3, r4, r5⟩ := B
  refine ⟨⟨dx, s _ _ e1 fun z => (g _ z).2 _ _ _ e1⟩, ⟨chs, s _ _ e2 fun z => f _ z (.inl rfl), Paired.mapP e3 fun x c h => h.sb s g⟩, s _ _ e4 fun z => f _ z (.inr (.inl rfl)), fun i l h => s _ _ (e5 i l h) fun z => f _ z (.inr (.inr (.inl (List.mem_of_getElem? h)))), e6,
    ⟨kvs, s _ _ e7 fun z => f _ z (.inr (.inr (.inr (.inl rfl)))), e8⟩, ⟨kvo, s _ _ e9 fun z => f _ z (.inr (.inr (.inr (.inr (.inl rfl))))), e10⟩, r1, r2, r3, r4, r5⟩
theorem PlankAt.sbL {a : Ad} {G : Addr → Prop} {H H' : Hp} {p cl : Addr} {w : Nat} {rows : List (List V)} {n : Nat} (P : PlankAt a H p cl w rows n) (s : SameBut G H H') (g : ∀ x, G x → Loose (H x)) (h : ¬ G cl) : PlankAt a H' p cl w rows n := by
  obtain ⟨⟨dx, e1⟩, ⟨ts, e2, e3⟩, r1, r2, r3⟩ := P
  exact ⟨⟨dx, s _ _ e1 fun z => (g _ z).2 _ _ _ e1⟩, ⟨ts, s _ _ e2 h, Paired.mapP e3 fun t r q => s _ _ q fun z => (g _ z).1 _ q⟩, r1, r2, r3⟩
theorem BookAt.sb {a : Ad} {C : Addr} {G : Addr → Prop} {H H' : Hp} {A : BA} {w : Nat} {rows : List (List V)} {n : Nat} {cs : List Ch} {outs : Int → Bool} (B : BookAt a C H A w rows n cs outs) (s : SameBut G H H') (g : ∀ x, G x → Loose (H x)) (f : ∀ x, G x → ¬ A.F x) : BookAt a C H' A w rows n cs outs :=
  ⟨B.bk.sb s g f, B.pk.sbL s g fun z => f _ z (.inr (.inr (.inr (.inr (.inr rfl))))), B.nb⟩
theorem BookAt.same {a : Ad} {C : Addr} {H H' : Hp} {A : BA} {w : Nat} {rows : List (List V)} {n : Nat} {cs : List Ch} {outs : Int → Bool} (B : BookAt a C H A w rows n cs outs) (s : Same H H') : BookAt a C H' A w rows n cs outs :=
  B.sb (G := fun _ => False) (Same.sb s) (fun _ z => z.elim) fun _ z => z.elim
theorem BookAt.off {a : Ad} {C : Addr} {H : Hp} {A : BA} {w : Nat} {rows : List (List V)} {n : Nat} {cs : List Ch} {outs : Int → Bool} (B : BookAt a C H A w rows n cs outs) {x : Addr} (h : H x = none) : ¬ A.F x := by
  obtain ⟨⟨_, ⟨chs, e2, _⟩, e4, e5, _, ⟨kvs, e7, _⟩, ⟨kvo, e9, _⟩, _⟩, ⟨_, ⟨ts, e11, _⟩, _⟩, _⟩ := B
  rintro (z | z | z | z | z | z)
  · rw [z, e2] at h; cases h
  · rw [z, e4] at h; cases h
  · obtain ⟨i, hi, e⟩ := List.getElem_of_mem z
    have := e5 i x (by rw [← e]; exact List.getElem?_eq_getElem hi)
    rw [this] at h; cases h
  · rw [z, e7] at h; cases h
  · rw [z, e9] at h; cases h
  · rw [z, e11] at h; cases h
theorem mem_at {α : Type} {l : List α} {x : α} (h : x ∈ l) : ∃ i : Nat, l[i]? = some x := by
  obtain ⟨i, hi, e⟩ := List.getElem_of_mem h
  exact ⟨i, by rw [← e]; exact List.getElem?_eq_getElem hi⟩
theorem loose_l {H : Hp} {x : Addr} {xs : List V} (h : H x = some (.lst xs)) : Loose (H x) := by
  rw [h]; exact ⟨fun _ z => (by cases z), fun _ _ _ z => (by cases z)⟩
theorem loose_k {H : Hp} {x : Addr} {xs : List (Key × V)} (h : H x = some (.dK xs)) : Loose (H x) := by
  rw [h]; exact ⟨fun _ z => (by cases z), fun _ _ _ z => (by cases z)⟩
theorem loose_t {H : Hp} {x : Addr} {xs : List (List Key × V)} (h : H x = some (.dT xs)) : Loose (H x) := by
  rw [h]; exact ⟨fun _ z => (by cases z), fun _ _ _ z => (by cases z)⟩
theorem BookAt.loose {a : Ad} {C : Addr} {H : Hp} {A : BA} {w : Nat} {rows : List (List V)} {n : Nat} {cs : List Ch} {outs : Int → Bool} (B : BookAt a C H A w rows n cs outs) {x : Addr} (h : A.F x) : Loose (H x) := by
  obtain ⟨⟨_, ⟨chs, e2, _⟩, e4, e5, _, ⟨kvs, e7, _⟩, ⟨kvo, e9, _⟩, _⟩, ⟨_, ⟨ts, e11, _⟩, _⟩, _⟩ := B
  rcases h with z | z | z | z | z | z
  · exact loose_l (z ▸ e2)
  · exact loose_l (z ▸ e4)
  · obtain ⟨i, e⟩ := mem_at z
    exact loose_l (e5 i x e)
  · exact loose_t (z ▸ e7)
  · exact loose_k (z ▸ e9)
  · exact loose_l (z ▸ e11)
structure CloR (cs : List Ch) (outs : Int → Bool) (ns : List Int) (R : Int → Bool) : Prop where
  all : ∀ x ∈ ns, R x = true
  up : ∀ (k : Nat) (c : Ch), cs[k]? = some c → outs k = false → R k = true → ∀ y ∈ c.nd, R y = true
  only : ∀ x, R x = true → x ∈ ns ∨ ∃ (k : Nat) (c : Ch), cs[k]? = some c ∧ outs k = false ∧ R k = true ∧ x ∈ c.nd
end L2

set_option linter.all false
namespace L2
open PySem PySem.Spec PyProof.Rows
abbrev bkC (a : Ad) : Addr := a "Book"
def pick (c p m : Int) : Int := ((c + p / 3) % p) * ((c + p / 3) % p) % p * ((c + p / 3) % p) % p % m
def cellAt (ns : List Int) (k : Nat) : Int := ns.getD k 0
def sp_law_pick (K : PySem.W.Frag) (a : Ad) : Sp := fun vs H Q _ => ∃ c p m : Int, vs = [.int c, .int p, .int m] ∧ 0 < p ∧ p ≤ 20000 ∧ 0 < m ∧ Q (.int (pick c p m)) H
theorem sp_law_pick_ap {K : PySem.W.Frag} {a : Ad} {c p m : Int} {H : Hp} {Q : VK} {E : XK} : sp_law_pick K a [.int c, .int p, .int m] H Q E = (0 < p ∧ p ≤ 20000 ∧ 0 < m ∧ Q (.int (pick c p m)) H) := by simp [sp_law_pick, and_assoc]
theorem pick_nn {c p m : Int} (h : 0 < m) : 0 ≤ pick c p m := Int.emod_nonneg _ (by omega)
theorem pick_lt {c p m : Int} (h : 0 < m) : pick c p m < m := Int.emod_lt_of_pos _ h
def sp_law_cell_at (K : PySem.W.Frag) (a : Ad) : Sp := fun vs H Q _ => ∃ (s : Addr) (ns : List Int) (k : Nat), vs = [.ref s, .int k] ∧ SqL K H s (ns.map V.int) ∧ ns.length ≤ 1000 ∧ Q (.int (cellAt ns k)) H
theorem sp_law_cell_at_ap {K : PySem.W.Frag} {a : Ad} {s : Addr} {k : Int} {H : Hp} {Q : VK} {E : XK} : sp_law_cell_at K a [.ref s, .int k] H Q E = ∃ (ns : List Int) (n : Nat), k = n ∧ SqL K H s (ns.map V.int) ∧ ns.length ≤ 1000 ∧ Q (.int (cellAt ns n)) H := by simp [sp_law_cell_at, and_assoc]
abbrev TB (K : PySem.W.Frag) (a : Ad) : Prop := TBook K (bkC a) (a "Change")
abbrev BkAt (a : Ad) (H : Hp) (A : BA) (w : Nat) (rows : List (List V)) (n : Nat) (cs : List Ch) (outs : Int → Bool) : Prop := BookAt a (bkC a) H A w rows n cs outs
def optV : Option Nat → V
  | none => .non
  | some k => .int k
def waitL (n : Nat) (outs : Int → Bool) : List Nat := (List.range n).filter fun (k : Nat) => !outs k
def nats (l : List Nat) : List V := l.map fun (k : Nat) => V.int k
abbrev onPl (rows : List (List V)) (w : Nat) (i j : Int) : Prop := 0 ≤ i ∧ i < rows.length ∧ 0 ≤ j ∧ j < w
def sp_Change_init (K : PySem.W.Frag) (a : Ad) : Sp := fun vs H Q _ => ∃ x dx pl v nt, vs = [.ref x, .ref pl, v, .ref nt] ∧ TB K a ∧ H x = some (.ins (a "Change") dx []) ∧ Q .non (upd H x (.ins (a "Change") dx (chf pl v nt)))
def sp_Book_init (K : PySem.W.Frag) (a : Ad) : Sp := fun vs H Q _ => ∃ (b gp cl dx : Addr) (w : Nat) (rows : List (List V)) (n : Nat), vs = [.ref b, .ref gp] ∧ TB K a ∧ TPlank K a ∧ PlankAt a H gp cl w rows n ∧ H b = some (.ins (bkC a) dx []) ∧
  ∀ (m mi lt ou : Addr) (ls : List Addr) (H' : Hp), H m = none → H mi = none → H lt = none → H ou = none → (∀ l ∈ ls, H l = none) → BkAt a H' ⟨b, gp, m, mi, lt, ou, ls, cl⟩ w rows n [] (fun _ => false) → SameBut (· = b) H H' → Q .non H'
def sp_needs_with (K : PySem.W.Frag) (a : Ad) : Sp := fun vs H Q _ => ∃ (nl : Addr) (ns : List Int) (o : Option Nat), vs = [.ref nl, optV o] ∧ SqL K H nl (ns.map V.int) ∧ ns.length ≤ 60 ∧
  ∀ (t : Addr) (ks : List Int) (H' : Hp), Same H H' → H' t = some (.tup (ks.map V.int)) → ks.Pairwise (· < ·) → (∀ x, x ∈ ks ↔ x ∈ ns ∨ ∃ k : Nat, o = some k ∧ x = k) → ks.length ≤ ns.length + 1 → Q (.ref t) H'
def sp_Book_ask_for_place (K : PySem.W.Frag) (a : Ad) : Sp := fun vs H Q E => ∃ (A : BA) (w : Nat) (rows : List (List V)) (n : Nat) (cs : List Ch) (outs : Int → Bool) (pl : Addr) (i j : Int), vs = [.ref A.b, .ref pl] ∧ TB K a ∧ TPlank K a ∧ BkAt a H A w rows n cs outs ∧ H pl = some (.tup [.int i, .int j]) ∧
  (onPl rows w i j → Q .non H) ∧ (¬ onPl rows w i j → E (.ref (a "NoBlock")) none H)
def sp_Book_newest (K : PySem.W.Frag) (a : Ad) : Sp := fun vs H Q E => ∃ (A : BA) (w : Nat) (rows : List (List V)) (n : Nat) (cs : List Ch) (outs : Int → Bool) (pl : Addr) (i j : Int), vs = [.ref A.b, .ref pl] ∧ TB K a ∧ TPlank K a ∧ BkAt a H A w rows n cs outs ∧ H pl = some (.tup [.int i, .int j]) ∧
  (onPl rows w i j → Q (optV (newestOf cs i j)) H) ∧ (¬ onPl rows w i j → E (.ref (a "NoBlock")) none H)
abbrev known (cs : List Ch) (x : Int) : Prop := 0 ≤ x ∧ x < cs.length
def sp_Book_ask_for_changes (K : PySem.W.Frag) (a : Ad) : Sp := fun vs H Q E => ∃ (A : BA) (w : Nat) (rows : List (List V)) (n : Nat) (cs : List Ch) (outs : Int → Bool) (nl : Addr) (ns : List Int), vs = [.ref A.b, .ref nl] ∧ TB K a ∧ BkAt a H A w rows n cs outs ∧ SqL K H nl (ns.map V.int) ∧
  ((∀ x ∈ ns, known cs x) → Q .non H) ∧ ((∃ x ∈ ns, ¬ known cs x) → E (.ref (a "NoChange")) none H)
def sp_Book_change (K : PySem.W.Frag) (a : Ad) : Sp := fun vs H Q E => ∃ (A : BA) (w : Nat) (rows : List (List V)) (n : Nat) (cs : List Ch) (outs : Int → Bool) (pl nl : Addr) (v : V) (ns : List Int) (i j : Int), vs = [.ref A.b, .ref pl, v, .ref nl] ∧ TB K a ∧ TPlank K a ∧ BkAt a H A w rows n cs outs ∧ H pl = some (.tup [.int i, .int j]) ∧ SqL K H nl (ns.map V.int) ∧ ns.length ≤ 60 ∧ cs.length < 500 ∧
  (onPl rows w i j → (∀ x ∈ ns, known cs x) → ∀ (nd : List Int) (H' : Hp), nd.Pairwise (· < ·) → (∀ x, x ∈ nd ↔ x ∈ ns ∨ ∃ k : Nat, newestOf cs i j = some k ∧ x = k) → BkAt a H' A w rows n (cs ++ [⟨i.toNat, j.toNat, v, nd⟩]) outs → SameBut A.F H H' → Q (.int cs.length) H') ∧
  (¬ onPl rows w i j → E (.ref (a "NoBlock")) none H) ∧ (onPl rows w i j → (∃ x ∈ ns, ¬ known cs x) → E (.ref (a "NoChange")) none H)
def sp_Book_waiting (K : PySem.W.Frag) (a : Ad) : Sp := fun vs H Q _ => ∃ (A : BA) (w : Nat) (rows : List (List V)) (n : Nat) (cs : List Ch) (outs : Int → Bool), vs = [.ref A.b] ∧ TB K a ∧ BkAt a H A w rows n cs outs ∧
  ∀ (l : Addr) (H' : Hp), H l = none → Same H H' → H' l = some (.lst (nats (waitL cs.length outs))) → Q (.ref l) H'
def inHand (cs : List Ch) (rows : List (List V)) (i j : Int) : Option V := match newestOf cs i j with
  | some k => (cs[k]?).map (·.val)
  | none => (rows[i.toNat]?).bind fun r => r[j.toNat]?
def sp_Book_in_hand (K : PySem.W.Frag) (a : Ad) : Sp := fun vs H Q E => ∃ (A : BA) (w : Nat) (rows : List (List V)) (n : Nat) (cs : List Ch) (outs : Int → Bool) (pl : Addr) (i j : Int), vs = [.ref A.b, .ref pl] ∧ TB K a ∧ TPlank K a ∧ BkAt a H A w rows n cs outs ∧ H pl = some (.tup [.int i, .int j]) ∧
  (onPl rows w i j → ∀ (v : V) (H' : Hp), inHand cs rows i j = some v → Same H H' → Q v H') ∧ (¬ onPl rows w i j → E (.ref (a "NoBlock")) none H)
def GoodV : Nat → Hp → V → Prop
  | 0, _, _ => False
  | _ + 1, _, .int _ => True
  | _ + 1, _, .non => True
  | _ + 1, _, .str _ => True
  | n + 1, H, .ref p => ∃ xs, H p = some (.tup xs) ∧ xs.length ≤ 100 ∧ ∀ v ∈ xs, GoodV n H v
  | _, _, _ => False
def sp_law_text (K : PySem.W.Frag) (a : Ad) : Sp := fun vs H Q _ => ∃ c n : Int, vs = [.int c, .int n] ∧ 0 ≤ n ∧ n ≤ 100 ∧ ∀ z H', Same H H' → Q (.str z) H'
def sp_law_number (K : PySem.W.Frag) (a : Ad) : Sp := fun vs H Q _ => ∃ c p : Int, vs = [.int c, .int p] ∧ 0 < p ∧ p ≤ 20000 ∧ ∀ x : Int, Q (.int x) H
theorem sp_law_number_ap {K : PySem.W.Frag} {a : Ad} {c p : Int} {H : Hp} {Q : VK} {E : XK} : sp_law_number K a [.int c, .int p] H Q E = (0 < p ∧ p ≤ 20000 ∧ ∀ x : Int, Q (.int x) H) := by simp [sp_law_number, and_assoc]
def sp_law_value (K : PySem.W.Frag) (a : Ad) : Sp := fun vs H Q _ => ∃ c : Int, vs = [.int c] ∧ ∀ v H', Same H H' → GoodV 7 H' v → Q v H'
def sp_law_same (K : PySem.W.Frag) (a : Ad) (n : Nat) : Sp := fun vs H Q _ => ∃ x y, vs = [x, y] ∧ ((x = y ∧ GoodV n H x) ∨ ∃ p q xs m, n = m + 1 ∧ x = .ref p ∧ y = .ref q ∧ H p = some (.tup xs) ∧ H q = some (.tup xs) ∧ xs.length ≤ 2000 ∧ ∀ v ∈ xs, GoodV m H v) ∧
  ∀ H', Same H H' → Q (.bl true) H'
def RowsIn (B : Addr → Prop) (H : Hp) (rl : Addr) (rows : List (List V)) : Prop := ∃ rs : List Addr, H rl = some (.lst (rs.map V.ref)) ∧ Paired (fun l r => H l = some (.lst r) ∧ ¬ B l) rs rows
def good7 (H : Hp) (rows : List (List V)) : Prop := ∀ r ∈ rows, ∀ v ∈ r, GoodV 7 H v
def SideD (H : Hp) (d p r nw : Addr) (m w n c : Nat) : Prop := ∃ (kvs : List (Key × V)) (sz : Addr), H d = some (.dK kvs) ∧ kvs.length ≤ 6 + n + c ∧ valV kvs (.inr "plank") = some (.ref p) ∧ valV kvs (.inr "rows") = some (.ref r) ∧ valV kvs (.inr "size") = some (.ref sz) ∧ valV kvs (.inr "many") = some (.int n) ∧ valV kvs (.inr "news") = some (.ref nw) ∧ valV kvs (.inr "count") = some (.int c) ∧ H sz = some (.tup [.int m, .int w])
def News (H : Hp) (nw : Addr) (cs : List Ch) : Prop := ∃ kvn, H nw = some (.dT kvn) ∧ kvn.length ≤ cs.length ∧ (∀ i j : Int, newestOf cs i j = none → valV kvn [.inl i, .inl j] = none) ∧
  ∀ (i j : Int) (k : Nat), newestOf cs i j = some k → ∃ t c, cs[k]? = some c ∧ valV kvn [.inl i, .inl j] = some (.ref t) ∧ H t = some (.tup [.int k, c.val])
structure SU where
  A : BA
  d : Addr
  r : Addr
  nw : Addr
def SU.F (U : SU) (x : Addr) : Prop := U.A.F x ∨ x = U.A.gp ∨ x = U.d ∨ x = U.r ∨ x = U.nw
def Nice (o : Option HO) : Prop := o ≠ none ∧ (∀ xs, o ≠ some (.tup xs)) ∧ ∀ C dx fs, o = some (.ins C dx fs) → ∃ cl w n, fs = pf cl w n
structure UI (a : Ad) (B : Addr → Prop) (H : Hp) (U : SU) (w : Nat) (rows : List (List V)) (n : Nat) (cs : List Ch) : Prop where
  bk : BkAt a H U.A w rows n cs (fun _ => false)
  dd : SideD H U.d U.A.gp U.r U.nw rows.length w n cs.length
  rr : RowsIn B H U.r rows
  nn : News H U.nw cs
  gr : good7 H rows
  gc : ∀ c ∈ cs, GoodV 7 H c.val
  ap : ¬ U.A.F U.d ∧ ¬ U.A.F U.r ∧ ¬ U.A.F U.nw
  sz : 1 ≤ rows.length ∧ 1 ≤ w ∧ w ≤ 100
  ow : ∀ x, U.F x → B x
def sp_law_place (K : PySem.W.Frag) (a : Ad) : Sp := fun vs H Q _ => ∃ (c : Int) (d p r nw : Addr) (m w n k : Nat), vs = [.int c, .ref d] ∧ SideD H d p r nw m w n k ∧ 1 ≤ m ∧ 1 ≤ w ∧ ∀ t, H t = none → Q (.ref t) (upd H t (.tup [.int (pick c 10133 m), .int (pick c 10139 w)]))
def sp_law_begun (K : PySem.W.Frag) (a : Ad) : Sp := fun vs H Q _ => ∃ c : Int, vs = [.int c] ∧ TPlank K a ∧ ∀ (d p cl r nw : Addr) (w : Nat) (rows : List (List V)) (n : Nat) (H' : Hp), Same H H' → H d = none → H p = none → H cl = none → H r = none → H nw = none → cl ≠ r →
  PlankAt a H' p cl w rows n → SideD H' d p r nw rows.length w n 0 → RowsIn (fun x => H x ≠ none ∨ x = cl ∨ x = r) H' r rows → H' nw = some (.dT []) → good7 H' rows → 1 ≤ rows.length → 1 ≤ w → w ≤ 100 → n ≤ 3 → Q (.ref d) H'
def sp_law_looks (K : PySem.W.Frag) (a : Ad) : Sp := fun vs H Q _ => ∃ (B : Addr → Prop) (U : SU) (w : Nat) (rows : List (List V)) (n : Nat) (cs : List Ch) (pl : Addr) (i j : Int), vs = [.ref U.A.b, .ref U.d, .ref pl] ∧ TB K a ∧ TPlank K a ∧ UI a B H U w rows n cs ∧ H pl = some (.tup [.int i, .int j]) ∧ onPl rows w i j ∧ ∀ H', Same H H' → Q (.bl true) H'
def Spot (H : Hp) (p : Addr) (rows : List (List V)) (w : Nat) : Prop := ∃ i j : Int, H p = some (.tup [.int i, .int j]) ∧ onPl rows w i j
def sp_law_both (K : PySem.W.Frag) (a : Ad) : Sp := fun vs H Q _ => ∃ (B : Addr → Prop) (U U' : SU) (w : Nat) (rows : List (List V)) (n : Nat) (cs : List Ch) (w' : Nat) (rows' : List (List V)) (n' : Nat) (cs' : List Ch) (bl sl pl p0 p1 p2 p3 : Addr) (t : Int), vs = [.ref bl, .ref sl, .ref pl, .int t] ∧ TB K a ∧ TPlank K a ∧ UI a B H U w rows n cs ∧ UI a B H U' w' rows' n' cs' ∧
  H bl = some (.lst [.ref U.A.b, .ref U'.A.b]) ∧ H sl = some (.lst [.ref U.d, .ref U'.d]) ∧ H pl = some (.lst [.ref p0, .ref p1, .ref p2, .ref p3]) ∧ Spot H p0 rows w ∧ Spot H p1 rows' w' ∧ Spot H p2 rows w ∧ Spot H p3 rows' w' ∧ 0 ≤ t ∧ ∀ H', Same H H' → Q (.bl true) H'
def sp_law_changed (K : PySem.W.Frag) (a : Ad) : Sp := fun vs H Q _ => ∃ (B : Addr → Prop) (U : SU) (w : Nat) (rows : List (List V)) (n : Nat) (cs : List Ch) (pl : Addr) (i j c : Int), vs = [.ref U.A.b, .ref U.d, .ref pl, .int c] ∧ TB K a ∧ TPlank K a ∧ UI a B H U w rows n cs ∧ (∀ x, B x → Nice (H x)) ∧ H pl = some (.tup [.int i, .int j]) ∧ onPl rows w i j ∧ cs.length < 100 ∧ n ≤ 100 ∧
  ∀ ch H', UI a B H' U w rows n (cs ++ [ch]) → SameBut U.F H H' → Q (.bl true) H'
def sp_law_rewritten (K : PySem.W.Frag) (a : Ad) : Sp := fun vs H Q _ => ∃ (B : Addr → Prop) (U : SU) (w : Nat) (rows : List (List V)) (n : Nat) (cs : List Ch) (c : Int), vs = [.ref U.d, .int c] ∧ TPlank K a ∧ UI a B H U w rows n cs ∧ (∀ x, B x → Nice (H x)) ∧ cs.length < 100 ∧ n ≤ 100 ∧
  ∀ rows' H', rows'.length = rows.length → UI a B H' U w rows' (n + 1) cs → SameBut U.F H H' → Q .non H'
def sp_law_stays (K : PySem.W.Frag) (a : Ad) : Sp := fun vs H Q _ => ∃ (B : Addr → Prop) (U : SU) (w : Nat) (rows : List (List V)) (n : Nat) (cs : List Ch), vs = [.ref U.A.b, .ref U.d] ∧ TB K a ∧ TPlank K a ∧ UI a B H U w rows n cs ∧ ∀ H', Same H H' → Q (.bl true) H'
def sp_law (K : PySem.W.Frag) (a : Ad) : Sp := fun vs H Q _ => ∃ (s : Addr) (ns : List Int), vs = [.ref s] ∧ TB K a ∧ TPlank K a ∧ SqL K H s (ns.map V.int) ∧ ns.length ≤ 63 ∧ ∀ H', Q (.bl true) H'
end L2

set_option linter.all false
namespace L2
open PySem PySem.Spec PyProof.Rows
abbrev FK := PySem.W.Frag
abbrev XE := St → XK
theorem ap3 {f g : TS} (h : f = g) (D : Ends) (σ : St) (H : Hp) : f D σ H = g D σ H := by rw [h]
section
variable {K : FK} {a : Ad} {n : Nat} {E E1 : XE} {D : Ends} {σ : St} {H : Hp}
def rd_Change_init_1 (K : FK) (a : Ad) (E E1 : XE) : TS := (sFld K (tVr 0) (tVr 1) "place")
theorem rd_Change_init_1_ap : type_of% (ap3 (rd_Change_init_1.eq_1 K a E E1) D σ H) := rfl
def rd_Change_init_2 (K : FK) (a : Ad) (E E1 : XE) : TS := (sFld K (tVr 0) (tVr 2) "value")
theorem rd_Change_init_2_ap : type_of% (ap3 (rd_Change_init_2.eq_1 K a E E1) D σ H) := rfl
def rd_Change_init_3 (K : FK) (a : Ad) (E E1 : XE) : TS := (sFld K (tVr 0) (tVr 3) "needs")
theorem rd_Change_init_3_ap : type_of% (ap3 (rd_Change_init_3.eq_1 K a E E1) D σ H) := rfl
def rd_Change_init (K : FK) (a : Ad) (E : XE) : TS := (tSeq (rd_Change_init_1 K a E E) (tSeq (rd_Change_init_2 K a E E) (rd_Change_init_3 K a E E)))

def rd_Book_waiting_1 (K : FK) (a : Ad) (E E1 : XE) : TS := (tRet (tComp (iRng1 (tCons (tCB (r_call_lenA K) (tCons (tFld K (tVr 0) "made") tNil)) tNil)) (gName 0) (tB (tDNotIn (tVr 0) (tFld K (tVr 1) "outs"))) (tVr 0) 1 [0]))
theorem rd_Book_waiting_1_ap : type_of% (ap3 (rd_Book_waiting_1.eq_1 K a E E1) D σ H) := rfl
def rd_Book_waiting (K : FK) (a : Ad) (E : XE) : TS := (rd_Book_waiting_1 K a E E)

def rd_Book_ask_for_changes_1 (K : FK) (a : Ad) (E E1 : XE) : TS := (tRaise (a "NoChange") E (tCons (tC (.str "there is no change of such a number")) tNil))
theorem rd_Book_ask_for_changes_1_ap : type_of% (ap3 (rd_Book_ask_for_changes_1.eq_1 K a E E1) D σ H) := rfl
def rd_Book_ask_for_changes_2 (K : FK) (a : Ad) (E E1 : XE) : TS := (tIfS (tNot (tTest (tChain rLeA rLtA (tC (.int 0)) (tVr 2) (tCB (r_call_lenA K) (tCons (tFld K (tVr 0) "made") tNil))))) (rd_Book_ask_for_changes_1 K a E E) tNext)
theorem rd_Book_ask_for_changes_2_ap : type_of% (ap3 (rd_Book_ask_for_changes_2.eq_1 K a E E1) D σ H) := rfl
def rd_Book_ask_for_changes_3 (K : FK) (a : Ad) (E E1 : XE) : TS := (tFor (iSeq K (tVr 1)) (gName 2) (rd_Book_ask_for_changes_2 K a E E))
theorem rd_Book_ask_for_changes_3_ap : type_of% (ap3 (rd_Book_ask_for_changes_3.eq_1 K a E E1) D σ H) := rfl
def rd_Book_ask_for_changes (K : FK) (a : Ad) (E : XE) : TS := (rd_Book_ask_for_changes_3 K a E E)

def rd_needs_with_1 (K : FK) (a : Ad) (E E1 : XE) : TS := (tRet (tCB (r_call_tupleA K) (tCons (tSortSet K (tVr 0)) tNil)))
theorem rd_needs_with_1_ap : type_of% (ap3 (rd_needs_with_1.eq_1 K a E E1) D σ H) := rfl
def rd_needs_with_2 (K : FK) (a : Ad) (E E1 : XE) : TS := (tIfS (tTest (tOp rIsN (tVr 1) (tC .non))) (rd_needs_with_1 K a E E) tNext)
theorem rd_needs_with_2_ap : type_of% (ap3 (rd_needs_with_2.eq_1 K a E E1) D σ H) := rfl
def rd_needs_with_3 (K : FK) (a : Ad) (E E1 : XE) : TS := (tRet (tCB (r_call_tupleA K) (tCons (tSortSet K (tOp (rAddA K) (tCB (r_call_listA K) (tCons (tVr 0) tNil)) (tLst (tCons (tVr 1) tNil)))) tNil)))
theorem rd_needs_with_3_ap : type_of% (ap3 (rd_needs_with_3.eq_1 K a E E1) D σ H) := rfl
def rd_needs_with (K : FK) (a : Ad) (E : XE) : TS := (tSeq (rd_needs_with_2 K a E E) (rd_needs_with_3 K a E E))

def rd_Plank_init_1 (K : FK) (a : Ad) (E E1 : XE) : TS := (sFld K (tVr 0) (tComp (iRng1 (tCons (tVr 1) tNil)) (gName 0) tTrue (tOp (rMulA K) (tTup (tCons (tC .non) tNil)) (tVr 1)) 1 [2]) "contents")
theorem rd_Plank_init_1_ap : type_of% (ap3 (rd_Plank_init_1.eq_1 K a E E1) D σ H) := rfl
def rd_Plank_init_2 (K : FK) (a : Ad) (E E1 : XE) : TS := (sFld K (tVr 0) (tVr 2) "width")
theorem rd_Plank_init_2_ap : type_of% (ap3 (rd_Plank_init_2.eq_1 K a E E1) D σ H) := rfl
def rd_Plank_init_3 (K : FK) (a : Ad) (E E1 : XE) : TS := (sFld K (tVr 0) (tC (.int 0)) "written")
theorem rd_Plank_init_3_ap : type_of% (ap3 (rd_Plank_init_3.eq_1 K a E E1) D σ H) := rfl
def rd_Plank_init (K : FK) (a : Ad) (E : XE) : TS := (tSeq (rd_Plank_init_1 K a E E) (tSeq (rd_Plank_init_2 K a E E) (rd_Plank_init_3 K a E E)))

def rd_Plank_blocks_1 (K : FK) (a : Ad) (E E1 : XE) : TS := (tRet (tCB (r_call_lenA K) (tCons (tFld K (tVr 0) "contents") tNil)))
theorem rd_Plank_blocks_1_ap : type_of% (ap3 (rd_Plank_blocks_1.eq_1 K a E E1) D σ H) := rfl
def rd_Plank_blocks (K : FK) (a : Ad) (E : XE) : TS := (rd_Plank_blocks_1 K a E E)

def rd_Plank_cells_1 (K : FK) (a : Ad) (E E1 : XE) : TS := (tRet (tFld K (tVr 0) "width"))
theorem rd_Plank_cells_1_ap : type_of% (ap3 (rd_Plank_cells_1.eq_1 K a E E1) D σ H) := rfl
def rd_Plank_cells (K : FK) (a : Ad) (E : XE) : TS := (rd_Plank_cells_1 K a E E)

def rd_Plank_writings_1 (K : FK) (a : Ad) (E E1 : XE) : TS := (tRet (tFld K (tVr 0) "written"))
theorem rd_Plank_writings_1_ap : type_of% (ap3 (rd_Plank_writings_1.eq_1 K a E E1) D σ H) := rfl
def rd_Plank_writings (K : FK) (a : Ad) (E : XE) : TS := (rd_Plank_writings_1 K a E E)

def rd_Plank_ask_for_block_1 (K : FK) (a : Ad) (E E1 : XE) : TS := (tRaise (a "NoBlock") E (tCons (tC (.str "there is no such block")) tNil))
theorem rd_Plank_ask_for_block_1_ap : type_of% (ap3 (rd_Plank_ask_for_block_1.eq_1 K a E E1) D σ H) := rfl
def rd_Plank_ask_for_block_2 (K : FK) (a : Ad) (E E1 : XE) : TS := (tIfS (tNot (tTest (tChain rLeA rLtA (tC (.int 0)) (tVr 1) (tCB (r_call_lenA K) (tCons (tFld K (tVr 0) "contents") tNil))))) (rd_Plank_ask_for_block_1 K a E E) tNext)
theorem rd_Plank_ask_for_block_2_ap : type_of% (ap3 (rd_Plank_ask_for_block_2.eq_1 K a E E1) D σ H) := rfl
def rd_Plank_ask_for_block (K : FK) (a : Ad) (E : XE) : TS := (rd_Plank_ask_for_block_2 K a E E)

def rd_law_cell_at_1 (K : FK) (a : Ad) (E E1 : XE) : TS := (tRet (tOp (rIxA K) (tVr 0) (tVr 1)))
theorem rd_law_cell_at_1_ap : type_of% (ap3 (rd_law_cell_at_1.eq_1 K a E E1) D σ H) := rfl
def rd_law_cell_at_2 (K : FK) (a : Ad) (E E1 : XE) : TS := (tIfS (tTest (tOp rLtA (tVr 1) (tCB (r_call_lenA K) (tCons (tVr 0) tNil)))) (rd_law_cell_at_1 K a E E) tNext)
theorem rd_law_cell_at_2_ap : type_of% (ap3 (rd_law_cell_at_2.eq_1 K a E E1) D σ H) := rfl
def rd_law_cell_at_3 (K : FK) (a : Ad) (E E1 : XE) : TS := (tRet (tC (.int 0)))
theorem rd_law_cell_at_3_ap : type_of% (ap3 (rd_law_cell_at_3.eq_1 K a E E1) D σ H) := rfl
def rd_law_cell_at (K : FK) (a : Ad) (E : XE) : TS := (tSeq (rd_law_cell_at_2 K a E E) (rd_law_cell_at_3 K a E E))

def rd_law_pick_1 (K : FK) (a : Ad) (E E1 : XE) : TS := (tAsg (tOp rModI (tOp (rAddA K) (tVr 0) (tOp rDivI (tVr 1) (tC (.int 3)))) (tVr 1)) (gName 3))
theorem rd_law_pick_1_ap : type_of% (ap3 (rd_law_pick_1.eq_1 K a E E1) D σ H) := rfl
def rd_law_pick_2 (K : FK) (a : Ad) (E E1 : XE) : TS := (tRet (tOp rModI (tOp rModI (tOp (rMulA K) (tOp rModI (tOp (rMulA K) (tVr 3) (tVr 3)) (tVr 1)) (tVr 3)) (tVr 1)) (tVr 2)))
theorem rd_law_pick_2_ap : type_of% (ap3 (rd_law_pick_2.eq_1 K a E E1) D σ H) := rfl
def rd_law_pick (K : FK) (a : Ad) (E : XE) : TS := (tSeq (rd_law_pick_1 K a E E) (rd_law_pick_2 K a E E))

def rd_Book_init_1 (K : FK) (a : Ad) (E E1 : XE) : TS := (sFld K (tVr 0) (tVr 1) "ground")
theorem rd_Book_init_1_ap : type_of% (ap3 (rd_Book_init_1.eq_1 K a E E1) D σ H) := rfl
def rd_Book_init_2 (K : FK) (a : Ad) (E E1 : XE) : TS := (sFld K (tVr 0) (tLst tNil) "made")
theorem rd_Book_init_2_ap : type_of% (ap3 (rd_Book_init_2.eq_1 K a E E1) D σ H) := rfl
def rd_Book_init_3 (K : FK) (a : Ad) (E E1 : XE) : TS := (sFld K (tVr 0) (tComp (iRng1 (tCons (tMeth (a "Plank") "blocks" (sp_Plank_blocks K a) [] E (tVr 1) tNil) tNil)) (gName 0) tTrue (tLst tNil) 1 []) "made_in")
theorem rd_Book_init_3_ap : type_of% (ap3 (rd_Book_init_3.eq_1 K a E E1) D σ H) := rfl
def rd_Book_init_4 (K : FK) (a : Ad) (E E1 : XE) : TS := (sFld K (tVr 0) tDNewT "latest")
theorem rd_Book_init_4_ap : type_of% (ap3 (rd_Book_init_4.eq_1 K a E E1) D σ H) := rfl
def rd_Book_init_5 (K : FK) (a : Ad) (E E1 : XE) : TS := (sFld K (tVr 0) tDNewK "outs")
theorem rd_Book_init_5_ap : type_of% (ap3 (rd_Book_init_5.eq_1 K a E E1) D σ H) := rfl
def rd_Book_init (K : FK) (a : Ad) (E : XE) : TS := (tSeq (rd_Book_init_1 K a E E) (tSeq (rd_Book_init_2 K a E E) (tSeq (rd_Book_init_3 K a E E) (tSeq (rd_Book_init_4 K a E E) (rd_Book_init_5 K a E E)))))

def rd_Book_ask_for_place_1 (K : FK) (a : Ad) (E E1 : XE) : TS := (tRaise (a "NoBlock") E (tCons (tC (.str "there is no such place on the plank")) tNil))
theorem rd_Book_ask_for_place_1_ap : type_of% (ap3 (rd_Book_ask_for_place_1.eq_1 K a E E1) D σ H) := rfl
def rd_Book_ask_for_place_2 (K : FK) (a : Ad) (E E1 : XE) : TS := (tIfS (tOr (tNot (tTest (tChain rLeA rLtA (tC (.int 0)) (tOp (rIxA K) (tVr 1) (tC (.int 0))) (tMeth (a "Plank") "blocks" (sp_Plank_blocks K a) [] E (tFld K (tVr 0) "ground") tNil)))) (tNot (tTest (tChain rLeA rLtA (tC (.int 0)) (tOp (rIxA K) (tVr 1) (tC (.int 1))) (tMeth (a "Plank") "cells" (sp_Plank_cells K a) [] E (tFld K (tVr 0) "ground") tNil))))) (rd_Book_ask_for_place_1 K a E E) tNext)
theorem rd_Book_ask_for_place_2_ap : type_of% (ap3 (rd_Book_ask_for_place_2.eq_1 K a E E1) D σ H) := rfl
def rd_Book_ask_for_place (K : FK) (a : Ad) (E : XE) : TS := (rd_Book_ask_for_place_2 K a E E)

def rd_Plank_read_1 (K : FK) (a : Ad) (E E1 : XE) : TS := (tDrop (tMeth (a "Plank") "ask_for_block" (sp_Plank_ask_for_block K a) [] E (tVr 0) (tCons (tVr 1) tNil)))
theorem rd_Plank_read_1_ap : type_of% (ap3 (rd_Plank_read_1.eq_1 K a E E1) D σ H) := rfl
def rd_Plank_read_2 (K : FK) (a : Ad) (E E1 : XE) : TS := (tRet (tCB (r_call_listA K) (tCons (tOp (rIxA K) (tFld K (tVr 0) "contents") (tVr 1)) tNil)))
theorem rd_Plank_read_2_ap : type_of% (ap3 (rd_Plank_read_2.eq_1 K a E E1) D σ H) := rfl
def rd_Plank_read (K : FK) (a : Ad) (E : XE) : TS := (tSeq (rd_Plank_read_1 K a E E) (rd_Plank_read_2 K a E E))

def rd_Plank_write_1 (K : FK) (a : Ad) (E E1 : XE) : TS := (tDrop (tMeth (a "Plank") "ask_for_block" (sp_Plank_ask_for_block K a) [] E (tVr 0) (tCons (tVr 1) tNil)))
theorem rd_Plank_write_1_ap : type_of% (ap3 (rd_Plank_write_1.eq_1 K a E E1) D σ H) := rfl
def rd_Plank_write_2 (K : FK) (a : Ad) (E E1 : XE) : TS := (tRaise (a "NoBlock") E (tCons (tC (.str "the list is not as long as a block")) tNil))
theorem rd_Plank_write_2_ap : type_of% (ap3 (rd_Plank_write_2.eq_1 K a E E1) D σ H) := rfl
def rd_Plank_write_3 (K : FK) (a : Ad) (E E1 : XE) : TS := (tIfS (tTest (tOp (rNeA K) (tCB (r_call_lenA K) (tCons (tVr 2) tNil)) (tFld K (tVr 0) "width"))) (rd_Plank_write_2 K a E E) tNext)
theorem rd_Plank_write_3_ap : type_of% (ap3 (rd_Plank_write_3.eq_1 K a E E1) D σ H) := rfl
def rd_Plank_write_4 (K : FK) (a : Ad) (E E1 : XE) : TS := (tAsg (tCB (r_call_tupleA K) (tCons (tVr 2) tNil)) (gSub (tFld K (tVr 0) "contents") (tVr 1) rSetA))
theorem rd_Plank_write_4_ap : type_of% (ap3 (rd_Plank_write_4.eq_1 K a E E1) D σ H) := rfl
def rd_Plank_write_5 (K : FK) (a : Ad) (E E1 : XE) : TS := (sFldAug K (tVr 0) (tC (.int 1)) rAdd "written")
theorem rd_Plank_write_5_ap : type_of% (ap3 (rd_Plank_write_5.eq_1 K a E E1) D σ H) := rfl
def rd_Plank_write (K : FK) (a : Ad) (E : XE) : TS := (tSeq (rd_Plank_write_1 K a E E) (tSeq (rd_Plank_write_3 K a E E) (tSeq (rd_Plank_write_4 K a E E) (rd_Plank_write_5 K a E E))))

def rd_law_text_1 (K : FK) (a : Ad) (E E1 : XE) : TS := (tAsg (tC (.str "abcdefghijklmnopqrstuvwxyzABCDEFGHIJKLMNOPQRSTUVWXYZ")) (gName 2))
theorem rd_law_text_1_ap : type_of% (ap3 (rd_law_text_1.eq_1 K a E E1) D σ H) := rfl
def rd_law_text_2 (K : FK) (a : Ad) (E E1 : XE) : TS := (tAsg (tOp (rAddA K) (tVr 2) (tC (.str "0123456789 .,:;!?'\"#$&()*+-/<=>\x40[]^_{|}~\\`"))) (gName 2))
theorem rd_law_text_2_ap : type_of% (ap3 (rd_law_text_2.eq_1 K a E E1) D σ H) := rfl
def rd_law_text_3 (K : FK) (a : Ad) (E E1 : XE) : TS := (tRet (tBM K "str" (r_mt_join K) (tC (.str "")) (tCons (tComp (iRng1 (tCons (tVr 1) tNil)) (gName 0) tTrue (tOp (rIxA K) (tVr 1) (tCall (sp_law_pick K a) [] (fun _ => E0) (tCons (tOp (rAddA K) (tVr 2) (tOp (rMulA K) (tOp (rMulA K) (tC (.int 31)) (tVr 0)) (tVr 0))) (tCons (tC (.int 10007)) (tCons (tCB (r_call_lenA K) (tCons (tVr 1) tNil)) tNil))))) 1 [2, 0]) tNil)))
theorem rd_law_text_3_ap : type_of% (ap3 (rd_law_text_3.eq_1 K a E E1) D σ H) := rfl
def rd_law_text (K : FK) (a : Ad) (E : XE) : TS := (tSeq (rd_law_text_1 K a E E) (tSeq (rd_law_text_2 K a E E) (rd_law_text_3 K a E E)))

def rd_law_number_1 (K : FK) (a : Ad) (E E1 : XE) : TS := (tRet (tOp rSubI (tOp rModI (tOp (rAddA K) (tOp (rMulA K) (tOp rModI (tVr 0) (tOp rPowI (tC (.int 10)) (tC (.int 40)))) (tC (.int 1000000000039))) (tVr 1)) (tOp (rAddA K) (tOp (rMulA K) (tC (.int 2)) (tOp rPowI (tC (.int 10)) (tC (.int 30)))) (tC (.int 1)))) (tOp rPowI (tC (.int 10)) (tC (.int 30)))))
theorem rd_law_number_1_ap : type_of% (ap3 (rd_law_number_1.eq_1 K a E E1) D σ H) := rfl
def rd_law_number_2 (K : FK) (a : Ad) (E E1 : XE) : TS := (tIfS (tTest (tOp (rEqA K) (tCall (sp_law_pick K a) [] E (tCons (tVr 0) (tCons (tVr 1) (tCons (tC (.int 3)) tNil)))) (tC (.int 0)))) (rd_law_number_1 K a E E) tNext)
theorem rd_law_number_2_ap : type_of% (ap3 (rd_law_number_2.eq_1 K a E E1) D σ H) := rfl
def rd_law_number_3 (K : FK) (a : Ad) (E E1 : XE) : TS := (tRet (tOp rSubI (tCall (sp_law_pick K a) [] E (tCons (tVr 0) (tCons (tVr 1) (tCons (tC (.int 29)) tNil)))) (tC (.int 14))))
theorem rd_law_number_3_ap : type_of% (ap3 (rd_law_number_3.eq_1 K a E E1) D σ H) := rfl
def rd_law_number (K : FK) (a : Ad) (E : XE) : TS := (tSeq (rd_law_number_2 K a E E) (rd_law_number_3 K a E E))

def rd_law_place_1 (K : FK) (a : Ad) (E E1 : XE) : TS := (tRet (tTup (tCons (tCall (sp_law_pick K a) [] E (tCons (tVr 0) (tCons (tC (.int 10133)) (tCons (tOp (rIxA K) (tDGet (tVr 1) (tC (.str "size"))) (tC (.int 0))) tNil)))) (tCons (tCall (sp_law_pick K a) [] E (tCons (tVr 0) (tCons (tC (.int 10139)) (tCons (tOp (rIxA K) (tDGet (tVr 1) (tC (.str "size"))) (tC (.int 1))) tNil)))) tNil))))
theorem rd_law_place_1_ap : type_of% (ap3 (rd_law_place_1.eq_1 K a E E1) D σ H) := rfl
def rd_law_place (K : FK) (a : Ad) (E : XE) : TS := (rd_law_place_1 K a E E)

def rd_Book_newest_1 (K : FK) (a : Ad) (E E1 : XE) : TS := (tDrop (tMeth (a "Book") "ask_for_place" (sp_Book_ask_for_place K a) [] E (tVr 0) (tCons (tVr 1) tNil)))
theorem rd_Book_newest_1_ap : type_of% (ap3 (rd_Book_newest_1.eq_1 K a E E1) D σ H) := rfl
def rd_Book_newest_2 (K : FK) (a : Ad) (E E1 : XE) : TS := (tRet (tDGet1 (tFld K (tVr 0) "latest") (tVr 1)))
theorem rd_Book_newest_2_ap : type_of% (ap3 (rd_Book_newest_2.eq_1 K a E E1) D σ H) := rfl
def rd_Book_newest (K : FK) (a : Ad) (E : XE) : TS := (tSeq (rd_Book_newest_1 K a E E) (rd_Book_newest_2 K a E E))

def rd_law_value_1 (K : FK) (a : Ad) (E E1 : XE) : TS := (tAsg (tCall (sp_law_pick K a) [] E (tCons (tVr 0) (tCons (tC (.int 10009)) (tCons (tC (.int 7)) tNil)))) (gName 1))
theorem rd_law_value_1_ap : type_of% (ap3 (rd_law_value_1.eq_1 K a E E1) D σ H) := rfl
def rd_law_value_2 (K : FK) (a : Ad) (E E1 : XE) : TS := (tRet (tC .non))
theorem rd_law_value_2_ap : type_of% (ap3 (rd_law_value_2.eq_1 K a E E1) D σ H) := rfl
def rd_law_value_3 (K : FK) (a : Ad) (E E1 : XE) : TS := (tIfS (tTest (tOp (rEqA K) (tVr 1) (tC (.int 0)))) (rd_law_value_2 K a E E) tNext)
theorem rd_law_value_3_ap : type_of% (ap3 (rd_law_value_3.eq_1 K a E E1) D σ H) := rfl
def rd_law_value_4 (K : FK) (a : Ad) (E E1 : XE) : TS := (tRet (tCall (sp_law_number K a) [] E (tCons (tVr 0) (tCons (tC (.int 10037)) tNil))))
theorem rd_law_value_4_ap : type_of% (ap3 (rd_law_value_4.eq_1 K a E E1) D σ H) := rfl
def rd_law_value_5 (K : FK) (a : Ad) (E E1 : XE) : TS := (tIfS (tTest (tOp rLtA (tVr 1) (tC (.int 3)))) (rd_law_value_4 K a E E) tNext)
theorem rd_law_value_5_ap : type_of% (ap3 (rd_law_value_5.eq_1 K a E E1) D σ H) := rfl
def rd_law_value_6 (K : FK) (a : Ad) (E E1 : XE) : TS := (tRet (tCall (sp_law_text K a) [] E (tCons (tVr 0) (tCons (tCall (sp_law_pick K a) [] E (tCons (tVr 0) (tCons (tC (.int 10039)) (tCons (tC (.int 61)) tNil)))) tNil))))
theorem rd_law_value_6_ap : type_of% (ap3 (rd_law_value_6.eq_1 K a E E1) D σ H) := rfl
def rd_law_value_7 (K : FK) (a : Ad) (E E1 : XE) : TS := (tIfS (tTest (tOp (rEqA K) (tVr 1) (tC (.int 3)))) (rd_law_value_6 K a E E) tNext)
theorem rd_law_value_7_ap : type_of% (ap3 (rd_law_value_7.eq_1 K a E E1) D σ H) := rfl
def rd_law_value_8 (K : FK) (a : Ad) (E E1 : XE) : TS := (tRet (tCB (r_call_tupleA K) (tCons (tComp (iRng1 (tCons (tCall (sp_law_pick K a) [] E (tCons (tVr 0) (tCons (tC (.int 10067)) (tCons (tC (.int 7)) tNil)))) tNil)) (gName 0) tTrue (tCall (sp_law_number K a) [] (fun _ => E0) (tCons (tOp (rAddA K) (tVr 1) (tVr 0)) (tCons (tC (.int 10061)) tNil))) 1 [0]) tNil)))
theorem rd_law_value_8_ap : type_of% (ap3 (rd_law_value_8.eq_1 K a E E1) D σ H) := rfl
def rd_law_value_9 (K : FK) (a : Ad) (E E1 : XE) : TS := (tIfS (tTest (tOp (rEqA K) (tVr 1) (tC (.int 4)))) (rd_law_value_8 K a E E) tNext)
theorem rd_law_value_9_ap : type_of% (ap3 (rd_law_value_9.eq_1 K a E E1) D σ H) := rfl
def rd_law_value_10 (K : FK) (a : Ad) (E E1 : XE) : TS := (tRet (tTup (tCons (tCall (sp_law_number K a) [] E (tCons (tVr 0) (tCons (tC (.int 10069)) tNil))) (tCons (tTup (tCons (tCall (sp_law_text K a) [] E (tCons (tVr 0) (tCons (tC (.int 3)) tNil))) (tCons (tTup tNil) tNil))) tNil))))
theorem rd_law_value_10_ap : type_of% (ap3 (rd_law_value_10.eq_1 K a E E1) D σ H) := rfl
def rd_law_value_11 (K : FK) (a : Ad) (E E1 : XE) : TS := (tIfS (tTest (tOp (rEqA K) (tVr 1) (tC (.int 5)))) (rd_law_value_10 K a E E) tNext)
theorem rd_law_value_11_ap : type_of% (ap3 (rd_law_value_11.eq_1 K a E E1) D σ H) := rfl
def rd_law_value_12 (K : FK) (a : Ad) (E E1 : XE) : TS := (tRet (tTup (tCons (tTup (tCons (tTup (tCons (tCall (sp_law_number K a) [] E (tCons (tVr 0) (tCons (tC (.int 10079)) tNil))) (tCons (tC .non) tNil))) (tCons (tCall (sp_law_text K a) [] E (tCons (tVr 0) (tCons (tC (.int 8)) tNil))) tNil))) (tCons (tC .non) tNil))))
theorem rd_law_value_12_ap : type_of% (ap3 (rd_law_value_12.eq_1 K a E E1) D σ H) := rfl
def rd_law_value (K : FK) (a : Ad) (E : XE) : TS := (tSeq (rd_law_value_1 K a E E) (tSeq (rd_law_value_3 K a E E) (tSeq (rd_law_value_5 K a E E) (tSeq (rd_law_value_7 K a E E) (tSeq (rd_law_value_9 K a E E) (tSeq (rd_law_value_11 K a E E) (rd_law_value_12 K a E E)))))))

def rd_Book_change_1 (K : FK) (a : Ad) (E E1 : XE) : TS := (tAsg (tMeth (a "Book") "newest" (sp_Book_newest K a) [] E (tVr 0) (tCons (tVr 1) tNil)) (gName 4))
theorem rd_Book_change_1_ap : type_of% (ap3 (rd_Book_change_1.eq_1 K a E E1) D σ H) := rfl
def rd_Book_change_2 (K : FK) (a : Ad) (E E1 : XE) : TS := (tDrop (tMeth (a "Book") "ask_for_changes" (sp_Book_ask_for_changes K a) [] E (tVr 0) (tCons (tVr 3) tNil)))
theorem rd_Book_change_2_ap : type_of% (ap3 (rd_Book_change_2.eq_1 K a E E1) D σ H) := rfl
def rd_Book_change_3 (K : FK) (a : Ad) (E E1 : XE) : TS := (tAsg (tCB (r_call_lenA K) (tCons (tFld K (tVr 0) "made") tNil)) (gName 5))
theorem rd_Book_change_3_ap : type_of% (ap3 (rd_Book_change_3.eq_1 K a E E1) D σ H) := rfl
def rd_Book_change_4 (K : FK) (a : Ad) (E E1 : XE) : TS := (tDrop (tBM K "list" r_mt_append (tFld K (tVr 0) "made") (tCons (tMake (a "Change") (sp_Change_init K a) [] E (tCons (tVr 1) (tCons (tVr 2) (tCons (tCall (sp_needs_with K a) [] E (tCons (tVr 3) (tCons (tVr 4) tNil))) tNil)))) tNil)))
theorem rd_Book_change_4_ap : type_of% (ap3 (rd_Book_change_4.eq_1 K a E E1) D σ H) := rfl
def rd_Book_change_5 (K : FK) (a : Ad) (E E1 : XE) : TS := (tDrop (tBM K "list" r_mt_append (tOp (rIxA K) (tFld K (tVr 0) "made_in") (tOp (rIxA K) (tVr 1) (tC (.int 0)))) (tCons (tVr 5) tNil)))
theorem rd_Book_change_5_ap : type_of% (ap3 (rd_Book_change_5.eq_1 K a E E1) D σ H) := rfl
def rd_Book_change_6 (K : FK) (a : Ad) (E E1 : XE) : TS := (sDPut (tFld K (tVr 0) "latest") (tVr 1) (tVr 5))
theorem rd_Book_change_6_ap : type_of% (ap3 (rd_Book_change_6.eq_1 K a E E1) D σ H) := rfl
def rd_Book_change_7 (K : FK) (a : Ad) (E E1 : XE) : TS := (tRet (tVr 5))
theorem rd_Book_change_7_ap : type_of% (ap3 (rd_Book_change_7.eq_1 K a E E1) D σ H) := rfl
def rd_Book_change (K : FK) (a : Ad) (E : XE) : TS := (tSeq (rd_Book_change_1 K a E E) (tSeq (rd_Book_change_2 K a E E) (tSeq (rd_Book_change_3 K a E E) (tSeq (rd_Book_change_4 K a E E) (tSeq (rd_Book_change_5 K a E E) (tSeq (rd_Book_change_6 K a E E) (rd_Book_change_7 K a E E)))))))

def rd_Book_in_hand_1 (K : FK) (a : Ad) (E E1 : XE) : TS := (tAsg (tMeth (a "Book") "newest" (sp_Book_newest K a) [] E (tVr 0) (tCons (tVr 1) tNil)) (gName 2))
theorem rd_Book_in_hand_1_ap : type_of% (ap3 (rd_Book_in_hand_1.eq_1 K a E E1) D σ H) := rfl
def rd_Book_in_hand_2 (K : FK) (a : Ad) (E E1 : XE) : TS := (tRet (tOp (rIxA K) (tMeth (a "Plank") "read" (sp_Plank_read K a) [] E (tFld K (tVr 0) "ground") (tCons (tOp (rIxA K) (tVr 1) (tC (.int 0))) tNil)) (tOp (rIxA K) (tVr 1) (tC (.int 1)))))
theorem rd_Book_in_hand_2_ap : type_of% (ap3 (rd_Book_in_hand_2.eq_1 K a E E1) D σ H) := rfl
def rd_Book_in_hand_3 (K : FK) (a : Ad) (E E1 : XE) : TS := (tIfS (tTest (tOp rIsN (tVr 2) (tC .non))) (rd_Book_in_hand_2 K a E E) tNext)
theorem rd_Book_in_hand_3_ap : type_of% (ap3 (rd_Book_in_hand_3.eq_1 K a E E1) D σ H) := rfl
def rd_Book_in_hand_4 (K : FK) (a : Ad) (E E1 : XE) : TS := (tRet (tFld K (tOp (rIxA K) (tFld K (tVr 0) "made") (tVr 2)) "value"))
theorem rd_Book_in_hand_4_ap : type_of% (ap3 (rd_Book_in_hand_4.eq_1 K a E E1) D σ H) := rfl
def rd_Book_in_hand (K : FK) (a : Ad) (E : XE) : TS := (tSeq (rd_Book_in_hand_1 K a E E) (tSeq (rd_Book_in_hand_3 K a E E) (rd_Book_in_hand_4 K a E E)))

def rd_law_begun_1 (K : FK) (a : Ad) (E E1 : XE) : TS := (tAsg (tTup (tCons (tOp (rAddA K) (tC (.int 1)) (tCall (sp_law_pick K a) [] E (tCons (tVr 0) (tCons (tC (.int 10091)) (tCons (tC (.int 6)) tNil))))) (tCons (tOp (rAddA K) (tC (.int 1)) (tCall (sp_law_pick K a) [] E (tCons (tVr 0) (tCons (tC (.int 10093)) (tCons (tC (.int 6)) tNil))))) tNil))) (gName 1))
theorem rd_law_begun_1_ap : type_of% (ap3 (rd_law_begun_1.eq_1 K a E E1) D σ H) := rfl
def rd_law_begun_2 (K : FK) (a : Ad) (E E1 : XE) : TS := (tAsg (tTup (tCons (tOp (rAddA K) (tC (.int 1)) (tCall (sp_law_pick K a) [] E (tCons (tVr 0) (tCons (tC (.int 10091)) (tCons (tC (.int 40)) tNil))))) (tCons (tOp (rAddA K) (tC (.int 1)) (tCall (sp_law_pick K a) [] E (tCons (tVr 0) (tCons (tC (.int 10093)) (tCons (tC (.int 40)) tNil))))) tNil))) (gName 1))
theorem rd_law_begun_2_ap : type_of% (ap3 (rd_law_begun_2.eq_1 K a E E1) D σ H) := rfl
def rd_law_begun_3 (K : FK) (a : Ad) (E E1 : XE) : TS := (tIfS (tTest (tOp (rEqA K) (tCall (sp_law_pick K a) [] E (tCons (tVr 0) (tCons (tC (.int 10099)) (tCons (tC (.int 8)) tNil)))) (tC (.int 3)))) (rd_law_begun_2 K a E E) tNext)
theorem rd_law_begun_3_ap : type_of% (ap3 (rd_law_begun_3.eq_1 K a E E1) D σ H) := rfl
def rd_law_begun_4 (K : FK) (a : Ad) (E E1 : XE) : TS := (tAsg (tMake (a "Plank") (sp_Plank_init K a) [] E (tCons (tOp (rIxA K) (tVr 1) (tC (.int 0))) (tCons (tOp (rIxA K) (tVr 1) (tC (.int 1))) tNil))) (gName 2))
theorem rd_law_begun_4_ap : type_of% (ap3 (rd_law_begun_4.eq_1 K a E E1) D σ H) := rfl
def rd_law_begun_5 (K : FK) (a : Ad) (E E1 : XE) : TS := (tAsg (tComp (iRng1 (tCons (tOp (rIxA K) (tVr 1) (tC (.int 0))) tNil)) (gName 0) tTrue (tComp (iRng1 (tCons (tOp (rIxA K) (tVr 1) (tC (.int 1))) tNil)) (gName 0) tTrue (tC .non) 1 []) 1 [1]) (gName 3))
theorem rd_law_begun_5_ap : type_of% (ap3 (rd_law_begun_5.eq_1 K a E E1) D σ H) := rfl
def rd_law_begun_6 (K : FK) (a : Ad) (E E1 : XE) : TS := (tAsg (tCall (sp_law_pick K a) [] E (tCons (tOp (rAddA K) (tVr 0) (tVr 4)) (tCons (tC (.int 10111)) (tCons (tOp (rIxA K) (tVr 1) (tC (.int 0))) tNil)))) (gName 5))
theorem rd_law_begun_6_ap : type_of% (ap3 (rd_law_begun_6.eq_1 K a E E1) D σ H) := rfl
def rd_law_begun_7 (K : FK) (a : Ad) (E E1 : XE) : TS := (tAsg (tComp (iRng1 (tCons (tOp (rIxA K) (tVr 1) (tC (.int 1))) tNil)) (gName 0) tTrue (tCall (sp_law_value K a) [] (fun _ => E0) (tCons (tOp (rAddA K) (tOp (rAddA K) (tOp (rMulA K) (tVr 1) (tC (.int 41))) (tOp (rMulA K) (tVr 0) (tVr 0))) (tVr 2)) tNil)) 1 [0, 4]) (gSub (tVr 3) (tVr 5) rSetA))
theorem rd_law_begun_7_ap : type_of% (ap3 (rd_law_begun_7.eq_1 K a E E1) D σ H) := rfl
def rd_law_begun_8 (K : FK) (a : Ad) (E E1 : XE) : TS := (tDrop (tMeth (a "Plank") "write" (sp_Plank_write K a) [] E (tVr 2) (tCons (tVr 5) (tCons (tCB (r_call_listA K) (tCons (tOp (rIxA K) (tVr 3) (tVr 5)) tNil)) tNil))))
theorem rd_law_begun_8_ap : type_of% (ap3 (rd_law_begun_8.eq_1 K a E E1) D σ H) := rfl
def rd_law_begun_9 (K : FK) (a : Ad) (E E1 : XE) : TS := (tFor (iRng1 (tCons (tCall (sp_law_pick K a) [] E (tCons (tVr 0) (tCons (tC (.int 10103)) (tCons (tC (.int 4)) tNil)))) tNil)) (gName 4) (tSeq (rd_law_begun_6 K a E E) (tSeq (rd_law_begun_7 K a E E) (rd_law_begun_8 K a E E))))
theorem rd_law_begun_9_ap : type_of% (ap3 (rd_law_begun_9.eq_1 K a E E1) D σ H) := rfl
def rd_law_begun_10 (K : FK) (a : Ad) (E E1 : XE) : TS := (tRet (tDisp [((tC (.str "plank")), (tVr 2)), ((tC (.str "rows")), (tVr 3)), ((tC (.str "size")), (tVr 1)), ((tC (.str "many")), (tMeth (a "Plank") "writings" (sp_Plank_writings K a) [] E (tVr 2) tNil)), ((tC (.str "news")), tDNewT), ((tC (.str "count")), (tC (.int 0)))]))
theorem rd_law_begun_10_ap : type_of% (ap3 (rd_law_begun_10.eq_1 K a E E1) D σ H) := rfl
def rd_law_begun (K : FK) (a : Ad) (E : XE) : TS := (tSeq (rd_law_begun_1 K a E E) (tSeq (rd_law_begun_3 K a E E) (tSeq (rd_law_begun_4 K a E E) (tSeq (rd_law_begun_5 K a E E) (tSeq (rd_law_begun_9 K a E E) (rd_law_begun_10 K a E E))))))

def rd_law_rewritten_1 (K : FK) (a : Ad) (E E1 : XE) : TS := (tAsg (tCall (sp_law_pick K a) [] E (tCons (tVr 1) (tCons (tC (.int 10177)) (tCons (tOp (rIxA K) (tDGet (tVr 0) (tC (.str "size"))) (tC (.int 0))) tNil)))) (gName 2))
theorem rd_law_rewritten_1_ap : type_of% (ap3 (rd_law_rewritten_1.eq_1 K a E E1) D σ H) := rfl
def rd_law_rewritten_2 (K : FK) (a : Ad) (E E1 : XE) : TS := (tAsg (tComp (iRng1 (tCons (tOp (rIxA K) (tDGet (tVr 0) (tC (.str "size"))) (tC (.int 1))) tNil)) (gName 0) tTrue (tCall (sp_law_value K a) [] (fun _ => E0) (tCons (tOp (rAddA K) (tOp (rAddA K) (tOp (rMulA K) (tVr 1) (tC (.int 43))) (tOp (rMulA K) (tVr 0) (tVr 0))) (tC (.int 5))) tNil)) 1 [1]) (gSub (tDGet (tVr 0) (tC (.str "rows"))) (tVr 2) rSetA))
theorem rd_law_rewritten_2_ap : type_of% (ap3 (rd_law_rewritten_2.eq_1 K a E E1) D σ H) := rfl
def rd_law_rewritten_3 (K : FK) (a : Ad) (E E1 : XE) : TS := (tDrop (tMeth (a "Plank") "write" (sp_Plank_write K a) [] E (tDGet (tVr 0) (tC (.str "plank"))) (tCons (tVr 2) (tCons (tCB (r_call_listA K) (tCons (tOp (rIxA K) (tDGet (tVr 0) (tC (.str "rows"))) (tVr 2)) tNil)) tNil))))
theorem rd_law_rewritten_3_ap : type_of% (ap3 (rd_law_rewritten_3.eq_1 K a E E1) D σ H) := rfl
def rd_law_rewritten_4 (K : FK) (a : Ad) (E E1 : XE) : TS := (sDPut (tVr 0) (tC (.str "many")) (tOp (rAddA K) (tDGet (tVr 0) (tC (.str "many"))) (tC (.int 1))))
theorem rd_law_rewritten_4_ap : type_of% (ap3 (rd_law_rewritten_4.eq_1 K a E E1) D σ H) := rfl
def rd_law_rewritten (K : FK) (a : Ad) (E : XE) : TS := (tSeq (rd_law_rewritten_1 K a E E) (tSeq (rd_law_rewritten_2 K a E E) (tSeq (rd_law_rewritten_3 K a E E) (rd_law_rewritten_4 K a E E))))

def rd_law_same_1 (K : FK) (a : Ad) (n : Nat) (E E1 : XE) : TS := (tRet (tC (.bl false)))
theorem rd_law_same_1_ap : type_of% (ap3 (rd_law_same_1.eq_1 K a n E E1) D σ H) := rfl
def rd_law_same_2 (K : FK) (a : Ad) (n : Nat) (E E1 : XE) : TS := (tIfS (tOr (tNot (tTru K (tCB (r_call_isinst K) (tCons (tVr 0) (tCons (tC (.ty "tuple")) tNil))))) (tTest (tOp (rNeA K) (tCB (r_call_lenA K) (tCons (tVr 0) tNil)) (tCB (r_call_lenA K) (tCons (tVr 1) tNil))))) (rd_law_same_1 K a n E E) tNext)
theorem rd_law_same_2_ap : type_of% (ap3 (rd_law_same_2.eq_1 K a n E E1) D σ H) := rfl
def rd_law_same_3 (K : FK) (a : Ad) (n : Nat) (E E1 : XE) : TS := (tRet (tC (.bl false)))
theorem rd_law_same_3_ap : type_of% (ap3 (rd_law_same_3.eq_1 K a n E E1) D σ H) := rfl
def rd_law_same_4 (K : FK) (a : Ad) (n : Nat) (E E1 : XE) : TS := (tIfS (tNot (tTru K (tCall (sp_law_same K a n) [] E (tCons (tVr 2) (tCons (tVr 3) tNil))))) (rd_law_same_3 K a n E E) tNext)
theorem rd_law_same_4_ap : type_of% (ap3 (rd_law_same_4.eq_1 K a n E E1) D σ H) := rfl
def rd_law_same_5 (K : FK) (a : Ad) (n : Nat) (E E1 : XE) : TS := (tFor (iZip K (tCons (tVr 0) (tCons (tVr 1) tNil))) (gTup K 2 (gCons (gName 2) (gCons (gName 3) gNil))) (rd_law_same_4 K a n E E))
theorem rd_law_same_5_ap : type_of% (ap3 (rd_law_same_5.eq_1 K a n E E1) D σ H) := rfl
def rd_law_same_6 (K : FK) (a : Ad) (n : Nat) (E E1 : XE) : TS := (tRet (tC (.bl true)))
theorem rd_law_same_6_ap : type_of% (ap3 (rd_law_same_6.eq_1 K a n E E1) D σ H) := rfl
def rd_law_same_7 (K : FK) (a : Ad) (n : Nat) (E E1 : XE) : TS := (tIfS (tTru K (tCB (r_call_isinst K) (tCons (tVr 1) (tCons (tC (.ty "tuple")) tNil)))) (tSeq (rd_law_same_2 K a n E E) (tSeq (rd_law_same_5 K a n E E) (rd_law_same_6 K a n E E))) tNext)
theorem rd_law_same_7_ap : type_of% (ap3 (rd_law_same_7.eq_1 K a n E E1) D σ H) := rfl
def rd_law_same_8 (K : FK) (a : Ad) (n : Nat) (E E1 : XE) : TS := (tRet (tOp rIsN (tVr 0) (tC .non)))
theorem rd_law_same_8_ap : type_of% (ap3 (rd_law_same_8.eq_1 K a n E E1) D σ H) := rfl
def rd_law_same_9 (K : FK) (a : Ad) (n : Nat) (E E1 : XE) : TS := (tIfS (tTest (tOp rIsN (tVr 1) (tC .non))) (rd_law_same_8 K a n E E) tNext)
theorem rd_law_same_9_ap : type_of% (ap3 (rd_law_same_9.eq_1 K a n E E1) D σ H) := rfl
def rd_law_same_10 (K : FK) (a : Ad) (n : Nat) (E E1 : XE) : TS := (tRet (tAndV (tCB (r_call_isinst K) (tCons (tVr 0) (tCons (tC (.ty "str")) tNil))) (tOp (rEqA K) (tVr 0) (tVr 1))))
theorem rd_law_same_10_ap : type_of% (ap3 (rd_law_same_10.eq_1 K a n E E1) D σ H) := rfl
def rd_law_same_11 (K : FK) (a : Ad) (n : Nat) (E E1 : XE) : TS := (tIfS (tTru K (tCB (r_call_isinst K) (tCons (tVr 1) (tCons (tC (.ty "str")) tNil)))) (rd_law_same_10 K a n E E) tNext)
theorem rd_law_same_11_ap : type_of% (ap3 (rd_law_same_11.eq_1 K a n E E1) D σ H) := rfl
def rd_law_same_12 (K : FK) (a : Ad) (n : Nat) (E E1 : XE) : TS := (tRet (tAndV (tCB (r_call_isinst K) (tCons (tVr 0) (tCons (tC (.ty "int")) tNil))) (tAndV (tNotT K (tCB (r_call_isinst K) (tCons (tVr 0) (tCons (tC (.ty "bool")) tNil)))) (tOp (rEqA K) (tVr 0) (tVr 1)))))
theorem rd_law_same_12_ap : type_of% (ap3 (rd_law_same_12.eq_1 K a n E E1) D σ H) := rfl
def rd_law_same (K : FK) (a : Ad) (n : Nat) (E : XE) : TS := (tSeq (rd_law_same_7 K a n E E) (tSeq (rd_law_same_9 K a n E E) (tSeq (rd_law_same_11 K a n E E) (rd_law_same_12 K a n E E))))

def rd_law_looks_1 (K : FK) (a : Ad) (E E1 : XE) : TS := (tAsg (tOp (rIxA K) (tOp (rIxA K) (tDGet (tVr 1) (tC (.str "rows"))) (tOp (rIxA K) (tVr 2) (tC (.int 0)))) (tOp (rIxA K) (tVr 2) (tC (.int 1)))) (gName 3))
theorem rd_law_looks_1_ap : type_of% (ap3 (rd_law_looks_1.eq_1 K a E E1) D σ H) := rfl
def rd_law_looks_2 (K : FK) (a : Ad) (E E1 : XE) : TS := (tAsg (tC .non) (gName 4))
theorem rd_law_looks_2_ap : type_of% (ap3 (rd_law_looks_2.eq_1 K a E E1) D σ H) := rfl
def rd_law_looks_3 (K : FK) (a : Ad) (E E1 : XE) : TS := (tAsg (tDGet (tDGet (tVr 1) (tC (.str "news"))) (tVr 2)) (gTup K 2 (gCons (gName 4) (gCons (gName 3) gNil))))
theorem rd_law_looks_3_ap : type_of% (ap3 (rd_law_looks_3.eq_1 K a E E1) D σ H) := rfl
def rd_law_looks_4 (K : FK) (a : Ad) (E E1 : XE) : TS := (tIfS (tB (tDIn (tVr 2) (tDGet (tVr 1) (tC (.str "news"))))) (rd_law_looks_3 K a E E) tNext)
theorem rd_law_looks_4_ap : type_of% (ap3 (rd_law_looks_4.eq_1 K a E E1) D σ H) := rfl
def rd_law_looks_5 (K : FK) (a : Ad) (E E1 : XE) : TS := (tRet (tAndV (tCall (sp_law_same K a 8) [] E (tCons (tMeth (a "Book") "in_hand" (sp_Book_in_hand K a) [] E (tVr 0) (tCons (tVr 2) tNil)) (tCons (tVr 3) tNil))) (tCall (sp_law_same K a 8) [] E (tCons (tMeth (a "Book") "newest" (sp_Book_newest K a) [] E (tVr 0) (tCons (tVr 2) tNil)) (tCons (tVr 4) tNil)))))
theorem rd_law_looks_5_ap : type_of% (ap3 (rd_law_looks_5.eq_1 K a E E1) D σ H) := rfl
def rd_law_looks (K : FK) (a : Ad) (E : XE) : TS := (tSeq (rd_law_looks_1 K a E E) (tSeq (rd_law_looks_2 K a E E) (tSeq (rd_law_looks_4 K a E E) (rd_law_looks_5 K a E E))))

def rd_law_changed_1 (K : FK) (a : Ad) (E E1 : XE) : TS := (tAsg (tCall (sp_law_value K a) [] E (tCons (tVr 3) tNil)) (gName 4))
theorem rd_law_changed_1_ap : type_of% (ap3 (rd_law_changed_1.eq_1 K a E E1) D σ H) := rfl
def rd_law_changed_2 (K : FK) (a : Ad) (E E1 : XE) : TS := (tAsg (tOp (rMulA K) (tCall (sp_law_pick K a) [] E (tCons (tVr 3) (tCons (tC (.int 10151)) (tCons (tC (.int 3)) tNil)))) (tCB (r_call_int1 K) (tCons (tOp rGtA (tDGet (tVr 1) (tC (.str "count"))) (tC (.int 0))) tNil))) (gName 5))
theorem rd_law_changed_2_ap : type_of% (ap3 (rd_law_changed_2.eq_1 K a E E1) D σ H) := rfl
def rd_law_changed_3 (K : FK) (a : Ad) (E E1 : XE) : TS := (tAsg (tComp (iRng1 (tCons (tVr 5) tNil)) (gName 0) tTrue (tCall (sp_law_pick K a) [] (fun _ => E0) (tCons (tOp (rAddA K) (tVr 1) (tVr 0)) (tCons (tC (.int 10141)) (tCons (tDGet (tVr 2) (tC (.str "count"))) tNil)))) 1 [3, 1]) (gName 6))
theorem rd_law_changed_3_ap : type_of% (ap3 (rd_law_changed_3.eq_1 K a E E1) D σ H) := rfl
def rd_law_changed_4 (K : FK) (a : Ad) (E E1 : XE) : TS := (tAsg (tMeth (a "Book") "change" (sp_Book_change K a) [] E (tVr 0) (tCons (tVr 2) (tCons (tVr 4) (tCons (tVr 6) tNil)))) (gName 7))
theorem rd_law_changed_4_ap : type_of% (ap3 (rd_law_changed_4.eq_1 K a E E1) D σ H) := rfl
def rd_law_changed_5 (K : FK) (a : Ad) (E E1 : XE) : TS := (tDrop (tBM0 K "list" r_mt_clear (tVr 6)))
theorem rd_law_changed_5_ap : type_of% (ap3 (rd_law_changed_5.eq_1 K a E E1) D σ H) := rfl
def rd_law_changed_6 (K : FK) (a : Ad) (E E1 : XE) : TS := (tRet (tC (.bl false)))
theorem rd_law_changed_6_ap : type_of% (ap3 (rd_law_changed_6.eq_1 K a E E1) D σ H) := rfl
def rd_law_changed_7 (K : FK) (a : Ad) (E E1 : XE) : TS := (tIfS (tNot (tTru K (tCall (sp_law_same K a 8) [] E (tCons (tVr 7) (tCons (tDGet (tVr 1) (tC (.str "count"))) tNil))))) (rd_law_changed_6 K a E E) tNext)
theorem rd_law_changed_7_ap : type_of% (ap3 (rd_law_changed_7.eq_1 K a E E1) D σ H) := rfl
def rd_law_changed_8 (K : FK) (a : Ad) (E E1 : XE) : TS := (sDPut (tDGet (tVr 1) (tC (.str "news"))) (tVr 2) (tTup (tCons (tVr 7) (tCons (tVr 4) tNil))))
theorem rd_law_changed_8_ap : type_of% (ap3 (rd_law_changed_8.eq_1 K a E E1) D σ H) := rfl
def rd_law_changed_9 (K : FK) (a : Ad) (E E1 : XE) : TS := (sDPut (tVr 1) (tC (.str "count")) (tOp (rAddA K) (tDGet (tVr 1) (tC (.str "count"))) (tC (.int 1))))
theorem rd_law_changed_9_ap : type_of% (ap3 (rd_law_changed_9.eq_1 K a E E1) D σ H) := rfl
def rd_law_changed_10 (K : FK) (a : Ad) (E E1 : XE) : TS := (tRet (tC (.bl true)))
theorem rd_law_changed_10_ap : type_of% (ap3 (rd_law_changed_10.eq_1 K a E E1) D σ H) := rfl
def rd_law_changed (K : FK) (a : Ad) (E : XE) : TS := (tSeq (rd_law_changed_1 K a E E) (tSeq (rd_law_changed_2 K a E E) (tSeq (rd_law_changed_3 K a E E) (tSeq (rd_law_changed_4 K a E E) (tSeq (rd_law_changed_5 K a E E) (tSeq (rd_law_changed_7 K a E E) (tSeq (rd_law_changed_8 K a E E) (tSeq (rd_law_changed_9 K a E E) (rd_law_changed_10 K a E E)))))))))

def rd_law_stays_1 (K : FK) (a : Ad) (E E1 : XE) : TS := (tRet (tC (.bl false)))
def rd_law_stays_2 (K : FK) (a : Ad) (E E1 : XE) : TS := (tIfS (tTest (tOp (rNeA K) (tMeth (a "Book") "waiting" (sp_Book_waiting K a) [] E (tVr 0) tNil) (tLstR (tCons (tDGet (tVr 1) (tC (.str "count"))) tNil)))) (rd_law_stays_1 K a E E) tNext)
theorem rd_law_stays_2_ap : type_of% (ap3 (rd_law_stays_2.eq_1 K a E E1) D σ H) := rfl
def rd_law_stays_3 (K : FK) (a : Ad) (E E1 : XE) : TS := (tRet (tC (.bl false)))
theorem rd_law_stays_3_ap : type_of% (ap3 (rd_law_stays_3.eq_1 K a E E1) D σ H) := rfl
def rd_law_stays_4 (K : FK) (a : Ad) (E E1 : XE) : TS := (tIfS (tNot (tTru K (tCall (sp_law_same K a 8) [] E (tCons (tCB (r_call_tupleA K) (tCons (tMeth (a "Plank") "read" (sp_Plank_read K a) [] E (tDGet (tVr 1) (tC (.str "plank"))) (tCons (tVr 2) tNil)) tNil)) (tCons (tCB (r_call_tupleA K) (tCons (tOp (rIxA K) (tDGet (tVr 1) (tC (.str "rows"))) (tVr 2)) tNil)) tNil))))) (rd_law_stays_3 K a E E) tNext)
theorem rd_law_stays_4_ap : type_of% (ap3 (rd_law_stays_4.eq_1 K a E E1) D σ H) := rfl
def rd_law_stays_5 (K : FK) (a : Ad) (E E1 : XE) : TS := (tFor (iRng1 (tCons (tOp (rIxA K) (tDGet (tVr 1) (tC (.str "size"))) (tC (.int 0))) tNil)) (gName 2) (rd_law_stays_4 K a E E))
theorem rd_law_stays_5_ap : type_of% (ap3 (rd_law_stays_5.eq_1 K a E E1) D σ H) := rfl
def rd_law_stays_6 (K : FK) (a : Ad) (E E1 : XE) : TS := (tRet (tOp (rEqA K) (tMeth (a "Plank") "writings" (sp_Plank_writings K a) [] E (tDGet (tVr 1) (tC (.str "plank"))) tNil) (tDGet (tVr 1) (tC (.str "many")))))
theorem rd_law_stays_6_ap : type_of% (ap3 (rd_law_stays_6.eq_1 K a E E1) D σ H) := rfl
def rd_law_stays (K : FK) (a : Ad) (E : XE) : TS := (tSeq (rd_law_stays_2 K a E E) (tSeq (rd_law_stays_5 K a E E) (rd_law_stays_6 K a E E)))

def rd_law_both_1 (K : FK) (a : Ad) (E E1 : XE) : TS := (tAsg (tOp rModI (tOp (rAddA K) (tVr 4) (tVr 3)) (tC (.int 4))) (gName 5))
theorem rd_law_both_1_ap : type_of% (ap3 (rd_law_both_1.eq_1 K a E E1) D σ H) := rfl
def rd_law_both_2 (K : FK) (a : Ad) (E E1 : XE) : TS := (tRet (tC (.bl false)))
theorem rd_law_both_2_ap : type_of% (ap3 (rd_law_both_2.eq_1 K a E E1) D σ H) := rfl
def rd_law_both_3 (K : FK) (a : Ad) (E E1 : XE) : TS := (tIfS (tNot (tTru K (tCall (sp_law_looks K a) [] E (tCons (tOp (rIxA K) (tVr 0) (tOp rModI (tVr 5) (tC (.int 2)))) (tCons (tOp (rIxA K) (tVr 1) (tOp rModI (tVr 5) (tC (.int 2)))) (tCons (tOp (rIxA K) (tVr 2) (tVr 5)) tNil)))))) (rd_law_both_2 K a E E) tNext)
theorem rd_law_both_3_ap : type_of% (ap3 (rd_law_both_3.eq_1 K a E E1) D σ H) := rfl
def rd_law_both_4 (K : FK) (a : Ad) (E E1 : XE) : TS := (tFor (iRng1 (tCons (tC (.int 4)) tNil)) (gName 4) (tSeq (rd_law_both_1 K a E E) (rd_law_both_3 K a E E)))
theorem rd_law_both_4_ap : type_of% (ap3 (rd_law_both_4.eq_1 K a E E1) D σ H) := rfl
def rd_law_both_5 (K : FK) (a : Ad) (E E1 : XE) : TS := (tRet (tC (.bl true)))
theorem rd_law_both_5_ap : type_of% (ap3 (rd_law_both_5.eq_1 K a E E1) D σ H) := rfl
def rd_law_both (K : FK) (a : Ad) (E : XE) : TS := (tSeq (rd_law_both_4 K a E E) (rd_law_both_5 K a E E))

def rd_law_1 (K : FK) (a : Ad) (E E1 : XE) : TS := (tAsg (tLst (tCons (tCall (sp_law_begun K a) [] E (tCons (tCall (sp_law_cell_at K a) [] E (tCons (tVr 0) (tCons (tC (.int 0)) tNil))) tNil)) (tCons (tCall (sp_law_begun K a) [] E (tCons (tCall (sp_law_cell_at K a) [] E (tCons (tVr 0) (tCons (tC (.int 1)) tNil))) tNil)) tNil))) (gName 1))
theorem rd_law_1_ap : type_of% (ap3 (rd_law_1.eq_1 K a E E1) D σ H) := rfl
def rd_law_2 (K : FK) (a : Ad) (E E1 : XE) : TS := (tAsg (tLst (tCons (tMake (a "Book") (sp_Book_init K a) [] E (tCons (tDGet (tOp (rIxA K) (tVr 1) (tC (.int 0))) (tC (.str "plank"))) tNil)) (tCons (tMake (a "Book") (sp_Book_init K a) [] E (tCons (tDGet (tOp (rIxA K) (tVr 1) (tC (.int 1))) (tC (.str "plank"))) tNil)) tNil))) (gName 2))
theorem rd_law_2_ap : type_of% (ap3 (rd_law_2.eq_1 K a E E1) D σ H) := rfl
def rd_law_3 (K : FK) (a : Ad) (E E1 : XE) : TS := (tAsg (tCall (sp_law_pick K a) [] E (tCons (tVr 3) (tCons (tC (.int 10159)) (tCons (tC (.int 2)) tNil)))) (gName 4))
theorem rd_law_3_ap : type_of% (ap3 (rd_law_3.eq_1 K a E E1) D σ H) := rfl
def rd_law_4 (K : FK) (a : Ad) (E E1 : XE) : TS := (tAsg (tLst (tCons (tCall (sp_law_place K a) [] E (tCons (tVr 3) (tCons (tOp (rIxA K) (tVr 1) (tC (.int 0))) tNil))) (tCons (tCall (sp_law_place K a) [] E (tCons (tVr 3) (tCons (tOp (rIxA K) (tVr 1) (tC (.int 1))) tNil))) tNil))) (gName 5))
theorem rd_law_4_ap : type_of% (ap3 (rd_law_4.eq_1 K a E E1) D σ H) := rfl
def rd_law_5 (K : FK) (a : Ad) (E E1 : XE) : TS := (tAsg (tOp (rAddA K) (tVr 5) (tLst (tCons (tCall (sp_law_place K a) [] E (tCons (tOp (rAddA K) (tVr 3) (tC (.int 1))) (tCons (tOp (rIxA K) (tVr 1) (tC (.int 0))) tNil))) (tCons (tCall (sp_law_place K a) [] E (tCons (tOp (rAddA K) (tVr 3) (tC (.int 1))) (tCons (tOp (rIxA K) (tVr 1) (tC (.int 1))) tNil))) tNil)))) (gName 5))
theorem rd_law_5_ap : type_of% (ap3 (rd_law_5.eq_1 K a E E1) D σ H) := rfl
def rd_law_6 (K : FK) (a : Ad) (E E1 : XE) : TS := (tRet (tC (.bl false)))
theorem rd_law_6_ap : type_of% (ap3 (rd_law_6.eq_1 K a E E1) D σ H) := rfl
def rd_law_7 (K : FK) (a : Ad) (E E1 : XE) : TS := (tIfS (tNot (tTru K (tCall (sp_law_both K a) [] E (tCons (tVr 2) (tCons (tVr 1) (tCons (tVr 5) (tCons (tCall (sp_law_pick K a) [] E (tCons (tVr 3) (tCons (tC (.int 10163)) (tCons (tC (.int 4)) tNil)))) tNil))))))) (rd_law_6 K a E E) tNext)
theorem rd_law_7_ap : type_of% (ap3 (rd_law_7.eq_1 K a E E1) D σ H) := rfl
def rd_law_8 (K : FK) (a : Ad) (E E1 : XE) : TS := (tDrop (tCall (sp_law_rewritten K a) [] E (tCons (tOp (rIxA K) (tVr 1) (tVr 4)) (tCons (tVr 3) tNil))))
theorem rd_law_8_ap : type_of% (ap3 (rd_law_8.eq_1 K a E E1) D σ H) := rfl
def rd_law_9 (K : FK) (a : Ad) (E E1 : XE) : TS := (tIfS (tTest (tOp (rEqA K) (tCall (sp_law_pick K a) [] E (tCons (tVr 3) (tCons (tC (.int 10181)) (tCons (tC (.int 4)) tNil)))) (tC (.int 0)))) (rd_law_8 K a E E) tNext)
theorem rd_law_9_ap : type_of% (ap3 (rd_law_9.eq_1 K a E E1) D σ H) := rfl
def rd_law_10 (K : FK) (a : Ad) (E E1 : XE) : TS := (tRet (tC (.bl false)))
theorem rd_law_10_ap : type_of% (ap3 (rd_law_10.eq_1 K a E E1) D σ H) := rfl
def rd_law_11 (K : FK) (a : Ad) (E E1 : XE) : TS := (tIfS (tNot (tTru K (tCall (sp_law_changed K a) [] E (tCons (tOp (rIxA K) (tVr 2) (tVr 4)) (tCons (tOp (rIxA K) (tVr 1) (tVr 4)) (tCons (tOp (rIxA K) (tVr 5) (tVr 4)) (tCons (tVr 3) tNil))))))) (rd_law_10 K a E E) tNext)
theorem rd_law_11_ap : type_of% (ap3 (rd_law_11.eq_1 K a E E1) D σ H) := rfl
def rd_law_12 (K : FK) (a : Ad) (E E1 : XE) : TS := (tRet (tC (.bl false)))
theorem rd_law_12_ap : type_of% (ap3 (rd_law_12.eq_1 K a E E1) D σ H) := rfl
def rd_law_13 (K : FK) (a : Ad) (E E1 : XE) : TS := (tIfS (tNot (tTru K (tCall (sp_law_both K a) [] E (tCons (tVr 2) (tCons (tVr 1) (tCons (tVr 5) (tCons (tCall (sp_law_pick K a) [] E (tCons (tVr 3) (tCons (tC (.int 10169)) (tCons (tC (.int 4)) tNil)))) tNil))))))) (rd_law_12 K a E E) tNext)
theorem rd_law_13_ap : type_of% (ap3 (rd_law_13.eq_1 K a E E1) D σ H) := rfl
def rd_law_14 (K : FK) (a : Ad) (E E1 : XE) : TS := (tFor (iSeq K (tSl (rSlA K) (tVr 0) (tPart (tC (.int 2))) (tPart (tC (.int 122))))) (gName 3) (tSeq (rd_law_3 K a E E) (tSeq (rd_law_4 K a E E) (tSeq (rd_law_5 K a E E) (tSeq (rd_law_7 K a E E) (tSeq (rd_law_9 K a E E) (tSeq (rd_law_11 K a E E) (rd_law_13 K a E E))))))))
theorem rd_law_14_ap : type_of% (ap3 (rd_law_14.eq_1 K a E E1) D σ H) := rfl
def rd_law_15 (K : FK) (a : Ad) (E E1 : XE) : TS := (tRet (tAndV (tCall (sp_law_stays K a) [] E (tCons (tOp (rIxA K) (tVr 2) (tC (.int 0))) (tCons (tOp (rIxA K) (tVr 1) (tC (.int 0))) tNil))) (tCall (sp_law_stays K a) [] E (tCons (tOp (rIxA K) (tVr 2) (tC (.int 1))) (tCons (tOp (rIxA K) (tVr 1) (tC (.int 1))) tNil)))))
theorem rd_law_15_ap : type_of% (ap3 (rd_law_15.eq_1 K a E E1) D σ H) := rfl
def rd_law (K : FK) (a : Ad) (E : XE) : TS := (tSeq (rd_law_1 K a E E) (tSeq (rd_law_2 K a E E) (tSeq (rd_law_14 K a E E) (rd_law_15 K a E E))))

end
end L2

set_option linter.all false
set_option maxRecDepth 100000
set_option maxHeartbeats 8000000
namespace L2
open PySem PySem.Spec PyProof.Rows
local macro_rules
  | `(tactic| push_cast [$ls,*]) => `(tactic| simp only [↓tSeq_ap, ↓tNext_ap, ↓tBreak_ap, ↓tCont_ap, ↓tAsg_ap, ↓tDrop_ap, ↓tRet_ap, ↓tRetN_ap, ↓tIfS_ap, ↓tC_ap, ↓tOp_ap, ↓tTest_ap, ↓tChain_ap, ↓tNot_ap, ↓tAnd_ap, ↓tOr_ap, ↓tAndV_ap, ↓tOrV_ap, ↓tNotT_ap, ↓tTru_ap, ↓tIf_ap, ↓tNil_ap, ↓tCons_ap, ↓tTup_ap, ↓tLst_ap, ↓tCall_ap, ↓tMeth_ap, ↓tMake_ap, ↓tFld_ap, ↓sFld_ap, ↓tUn_ap, ↓tCB_ap, ↓tRaise_ap, ↓tTry_ap, ↓gName_ap, ↓gSub_ap, ↓gTup_ap, ↓gNil_ap, ↓gCons_ap, ↓tSl_ap, ↓tNoPart_ap, ↓tPart_ap, ↓tBM_ap, ↓tBM0_ap, ↓tAug_ap, ↓tTrue_ap, ↓tComp_rng1_ap, ↓tComp_rng2_ap, ↓tComp_seq_ap, ↓tFor_rng1_ap, ↓tFor_rng2_ap, ↓tFor_seq_ap, ↓sFldAug_ap,
          ↓tVr_0, ↓tVr_s, ↓ex_bl, ↓ex_int, ↓ex_ref, ↓ex_tru_bl, ↓ex_tru_int, ↓ex_tru_non, ↓rAddA_i, ↓rAddA_s, ↓rAddA_r, ↓rMulA_i, ↓rMulA_r, ↓rMulA_s, ↓rI0_i, ↓rI_i, ↓rU_i, ↓rLtA_i, ↓rLeA_i, ↓rLtA_s, ↓rLeA_s, ↓rSlA_s, ↓rGtA_i, ↓rGeA_i, ↓rEqA_i, ↓rEqA_s, ↓rEqA_b, ↓rEqA_ni, ↓rEqA_in, ↓rEqA_nn, ↓rNeA_i, ↓rNeA_s, ↓rNeA_b, ↓rNeA_ni, ↓rNeA_in, ↓rNeA_nn, ↓rIsN_ap, ↓rNotN_ap, ↓ipI_i, ↓rAdd_i, ↓len_i, ↓int_b, ↓int_i, ↓list_r, ↓tuple_r,
          rSubI, rModI, rDivI, rPowI, rNegI, ipAddI, Ends.drop, start, List.map_cons, List.map_nil, List.length_cons, List.length_nil, List.reduceReplicate, Nat.reduceAdd, Nat.reduceSub, Nat.zero_add, List.cons_append, List.nil_append, List.append_nil, List.getElem?_cons_zero, List.getElem?_cons_succ, Option.some.injEq, Option.join_some, List.set_cons_zero, List.set_cons_succ,
          V.int.injEq, V.ref.injEq, V.bl.injEq, V.str.injEq, List.cons.injEq, and_true, true_and, exists_eq_left', exists_eq_left, exists_eq', exists_eq, exists_and_left, exists_and_right, reduceCtorEq, false_and, and_false, or_false, false_or, exists_false, decide_eq_true_eq, Bool.not_eq_true', Bool.not_eq_true, decide_eq_false_iff_not, eq_self_iff_true, if_true, Bool.false_eq_true, if_false, ite_true, Bool.true_eq_false, forall_const, and_assoc, Int.reduceToNat, Int.reduceLT, Int.reduceLE, Int.reduceEq, Nat.reduceLeDiff, Int.toNat_natCast, not_true_eq_false, not_false_eq_true, Bool.not_false, Bool.not_true, ↓tDGet_ap, ↓tDIn_ap, ↓tDNotIn_ap, ↓sDPut_ap, ↓tDGet1_ap, ↓tDNewK_ap, ↓tDNewT_ap, ↓tB_ap, ↓tSortSet_ap, ↓tFor_rev_ap, ↓dict_r, ↓tRevSl_ap, ↓tLstR_ap, ↓max_i, ↓rIsT_i, ↓rIsT_n, $ls,*])
section
variable {K : PySem.W.Frag} {a : Ad} {vs : List V} {H : Hp} {Q : VK} {E : XK}
theorem rdok_law_pick (h : sp_law_pick K a vs H Q E) : rd_law_pick K a (fun _ => E) (ends Q) (start ["cell", "prime", "many", "low"] vs) H := by
  obtain ⟨c, p, m, rfl, h0, h1, h2, q⟩ := h
  push_cast [rd_law_pick, ↓rd_law_pick_1_ap, ↓rd_law_pick_2_ap]
  have b1 := Int.emod_nonneg (c + p / 3) (show p ≠ 0 by omega)
  have b2 := Int.emod_lt_of_pos (c + p / 3) h0
  unfold pick at q
  revert b1 b2 q
  generalize (c + p / 3) % p = low
  intro q b1 b2
  have b3 := Int.emod_nonneg (low * low) (show p ≠ 0 by omega)
  have b4 := Int.emod_lt_of_pos (low * low) h0
  exact ⟨⟨by decide, by decide⟩, h0, .inl ⟨by omega, by omega⟩, h0, .inl ⟨by omega, by omega⟩, h0, h2, q⟩
theorem rdok_law_cell_at (h : sp_law_cell_at K a vs H Q E) : rd_law_cell_at K a (fun _ => E) (ends Q) (start ["script", "k"] vs) H := by
  obtain ⟨s, ns, k, rfl, hs, hl, q⟩ := h
  push_cast [rd_law_cell_at, ↓rd_law_cell_at_1_ap, ↓rd_law_cell_at_2_ap, ↓rd_law_cell_at_3_ap]
  refine ⟨ns.length, ?_, ?_⟩
  · exact .inl ⟨_, hs, (List.length_map _).symm⟩
  split
  · rename_i hk
    have hk : k < ns.length := by omega
    refine ix_sq hs rfl (v := .int (cellAt ns k)) ?_ q
    unfold cellAt
    rw [List.getElem?_map, List.getElem?_eq_getElem hk]
    simp [List.getD, hk]
  · rename_i hk
    have : cellAt ns k = 0 := by
      unfold cellAt
      rw [List.getD_eq_getElem?_getD, List.getElem?_eq_none (by omega)]; rfl
    rw [this] at q
    exact q
theorem len_law_pick (h : sp_law_pick K a vs H Q E) : vs.length = 3 := by
  obtain ⟨_, _, _, rfl, _⟩ := h
  rfl
theorem len_law_cell_at (h : sp_law_cell_at K a vs H Q E) : vs.length = 2 := by
  obtain ⟨_, _, _, rfl, _⟩ := h
  rfl
theorem rdok_Plank_init (h : sp_Plank_init K a vs H Q E) : rd_Plank_init K a (fun _ => E) (ends Q) (start ["self", "blocks", "cells"] vs) H := by
  obtain ⟨p, dx, m, w, rfl, T, hp, hm, h1, h2, q⟩ := h
  push_cast [rd_Plank_init, ↓rd_Plank_init_1_ap, ↓rd_Plank_init_2_ap, ↓rd_Plank_init_3_ap]
  refine ⟨by omega, by omega, ?_⟩
  refine comp_range (small m (by omega)) (fun i ys H' => Same H H' ∧ ∃ ts : List Addr, ys = ts.map V.ref ∧ Paired (fun t r => H' t = some (.tup r)) ts (List.replicate i (List.replicate w .non))) ⟨Same.refl _, [], rfl, .nil⟩ (fun i ys H' hi hl ⟨s, ts, e, P⟩ => ?_) (fun ys H' hl ⟨s, ts, e, P⟩ cl hcl => ?_)
  · push_cast [capV, Option.join_some, Int.zero_add]
    refine ⟨by decide, fun t ht => .inr ?_⟩
    have fin : ∀ (t' : Addr) (H2 : Hp), Same H' H2 → H2 t' = some (.tup (List.replicate w .non)) → Same H H2 ∧ ∃ ts' : List Addr, ys ++ [V.ref t'] = ts'.map V.ref ∧ Paired (fun t r => H2 t = some (.tup r)) ts' (List.replicate (i + 1) (List.replicate w .non)) := fun t' H2 s2 e2 => by
      refine ⟨s.trans s2, ts ++ [t'], by rw [e, List.map_append]; rfl, ?_⟩
      rw [List.replicate_succ']
      exact Paired.snoc (Paired.mapP P fun t r z => s2 _ _ z) e2
    have s1 : Same H' (upd H' t (.tup [V.non])) := fun b o z => by rw [upd_ne (ne_of_none z ht)]; exact z
    refine ⟨t, w, [.non], rfl, rfl, SqT.of upd_same, by simp, by omega, by omega, small _ (by simp; omega), fun e1 => ?_, fun e1 u hu => ?_⟩
    · have e1 : w = 1 := by omega
      refine fin t _ s1 ?_
      rw [upd_same, e1]; rfl
    · rw [Int.toNat_natCast, flat1]
      exact fin u _ (s1.trans fun b o z => by rw [upd_ne (ne_of_none z hu)]; exact z) upd_same
  · have npc : p ≠ cl := ne_of_none (s _ _ hp) hcl
    have e1 : upd H' cl (HO.lst ys) p = some (HO.ins (a "Plank") dx []) := by rw [upd_ne npc]; exact s _ _ hp
    refine ⟨_, _, _, e1, T.cl, T.nC, by decide, _, _, _, upd_same, T.cl, T.nW, length_putF_lt (by decide), _, _, _, upd_same, T.cl, T.nN, length_putF_lt (n := 1000) (Nat.succ_lt_succ (length_putF_lt (n := 999) (by decide))), ?_⟩
    rw [pf_new, upd_upd, upd_upd]
    refine q cl _ (s.free hcl) ⟨⟨dx, upd_same⟩, ⟨ts, by rw [upd_ne npc.symm, upd_same, e], ?_⟩, fun r hr => ?_, by simpa using hm, h2⟩ fun b o eb hb => ?_
    · refine Paired.mapP P fun t r z => ?_
      rw [upd_ne (ne_of z (s _ _ hp) (by intro z'; cases z')), upd_ne (ne_of_none z hcl)]
      exact z
    · rw [List.eq_of_mem_replicate hr, List.length_replicate]
    · rw [upd_ne hb, upd_ne (ne_of_none (s _ _ eb) hcl)]
      exact s _ _ eb
theorem rdok_Plank_blocks (h : sp_Plank_blocks K a vs H Q E) : rd_Plank_blocks K a (fun _ => E) (ends Q) (start ["self"] vs) H := by
  obtain ⟨p, cl, w, rows, n, rfl, T, P, q⟩ := h
  obtain ⟨dx, h1⟩ := P.ob
  obtain ⟨ts, h2, h3⟩ := P.ls
  push_cast [rd_Plank_blocks, ↓rd_Plank_blocks_1_ap]
  refine ⟨_, _, _, h1, T.cl, T.nC, _, pf_c _ _ _, rows.length, .inl ⟨_, SqL.of h2, ?_⟩, q⟩
  rw [List.length_map, h3.length]
theorem rdok_Plank_cells (h : sp_Plank_cells K a vs H Q E) : rd_Plank_cells K a (fun _ => E) (ends Q) (start ["self"] vs) H := by
  obtain ⟨p, cl, w, rows, n, rfl, T, P, q⟩ := h
  obtain ⟨dx, h1⟩ := P.ob
  push_cast [rd_Plank_cells, ↓rd_Plank_cells_1_ap]
  exact ⟨_, _, _, h1, T.cl, T.nW, _, pf_w _ _ _, q⟩
theorem rdok_Plank_ask_for_block (h : sp_Plank_ask_for_block K a vs H Q E) : rd_Plank_ask_for_block K a (fun _ => E) (ends Q) (start ["self", "block"] vs) H := by
  obtain ⟨p, cl, w, rows, n, b, rfl, T, P, q, qe⟩ := h
  obtain ⟨dx, h1⟩ := P.ob
  obtain ⟨ts, h2, h3⟩ := P.ls
  push_cast [rd_Plank_ask_for_block, ↓rd_Plank_ask_for_block_1_ap, ↓rd_Plank_ask_for_block_2_ap]
  have hl : rows.length = (ts.map V.ref).length := by rw [List.length_map, h3.length]
  split
  · rename_i h0
    refine ⟨_, _, _, h1, T.cl, T.nC, _, pf_c _ _ _, rows.length, .inl ⟨_, SqL.of h2, hl⟩, ?_⟩
    split
    · exact ⟨by decide, qe (by omega)⟩
    · exact q h0 (by omega)
  · exact ⟨by decide, qe (by omega)⟩
theorem no_ask (cl : Addr) (w n : Int) : (pf cl w n).lookup ("ask_for_block" : Str) = none := pf_no _ _ _ (by decide +kernel) (by decide +kernel) (by decide +kernel)
theorem rdok_Plank_read (h : sp_Plank_read K a vs H Q E) : rd_Plank_read K a (fun _ => E) (ends Q) (start ["self", "block"] vs) H := by
  obtain ⟨p, cl, w, rows, n, b, rfl, T, P, q, qe⟩ := h
  obtain ⟨dx, h1⟩ := P.ob
  obtain ⟨ts, h2, h3⟩ := P.ls
  push_cast [rd_Plank_read, ↓rd_Plank_read_1_ap, ↓rd_Plank_read_2_ap, sp_Plank_ask_for_block]
  refine ⟨_, _, h1, no_ask _ _ _, T, cl, w, rows, ⟨n, P⟩, fun h0 hb => ⟨_, _, _, h1, T.cl, T.nC, _, pf_c _ _ _, ?_⟩, qe⟩
  obtain ⟨i, rfl⟩ : ∃ i : Nat, b = i := ⟨b.toNat, by omega⟩
  have hi : i < rows.length := by omega
  obtain ⟨t, et, ht⟩ := paired_at h3 (List.getElem?_eq_getElem hi)
  refine ix_sq (SqL.of h2) rfl (v := .ref t) (by rw [List.getElem?_map, et]; rfl) ?_
  rw [list_r]
  exact ⟨_, .inr (SqT.of ht), q i _ rfl (List.getElem?_eq_getElem hi)⟩
theorem rdok_Plank_write (h : sp_Plank_write K a vs H Q E) : rd_Plank_write K a (fun _ => E) (ends Q) (start ["self", "block", "values"] vs) H := by
  obtain ⟨p, cl, w, rows, n, b, v, xs, rfl, T, P, hv, hx, q, qe⟩ := h
  obtain ⟨dx, h1⟩ := P.ob
  obtain ⟨ts, h2, h3⟩ := P.ls
  have npc := P.ne
  push_cast [rd_Plank_write, ↓rd_Plank_write_1_ap, ↓rd_Plank_write_2_ap, ↓rd_Plank_write_3_ap, ↓rd_Plank_write_4_ap, ↓rd_Plank_write_5_ap, sp_Plank_ask_for_block]
  refine ⟨_, _, h1, no_ask _ _ _, T, cl, w, rows, ⟨n, P⟩, fun h0 hb => ⟨xs.length, .inl ⟨_, hv, rfl⟩, _, _, _, h1, T.cl, T.nW, _, pf_w _ _ _, ?_⟩, fun z => qe (z.imp id .inl)⟩
  obtain ⟨i, rfl⟩ : ∃ i : Nat, b = i := ⟨b.toNat, by omega⟩
  have hi : i < rows.length := by omega
  push_cast []
  split
  · exact ⟨by decide, qe (.inr (.inr (by omega)))⟩
  · rename_i hw
    have hw : xs.length = w := by omega
    refine ⟨xs, .inl ⟨hv, fun t ht => ?_⟩⟩
    have ntp : p ≠ t := ne_of_none h1 ht
    have ntc : cl ≠ t := ne_of_none h2 ht
    refine ⟨_, _, _, by rw [upd_ne ntp]; exact h1, T.cl, T.nC, _, pf_c _ _ _, ?_⟩
    refine ⟨cl, ts.map V.ref, (i : Int), i, rfl, rfl, by rw [upd_ne ntc]; exact h2, ?_, ?_⟩
    · unfold ixN
      rw [if_pos (by omega), if_pos (by rw [List.length_map, h3.length]; omega), Int.toNat_natCast]
    · refine ⟨_, _, _, by rw [upd_ne npc, upd_ne ntp]; exact h1, T.cl, T.nN, _, pf_n _ _ _, ?_⟩
      push_cast []
      refine ⟨_, _, by rw [upd_ne npc, upd_ne ntp]; exact h1, by show 3 < 1000; decide, ?_⟩
      rw [pf_put]
      refine q i rfl hi hw _ ⟨⟨dx, upd_same⟩, ⟨ts.set i t, ?_, ?_⟩, fun r hr => ?_, by rw [List.length_set]; exact P.sz, P.sw⟩ fun x o ex hxn => ?_
      · rw [upd_ne npc.symm, upd_same, List.map_set]
      · have keep : ∀ u r, H u = some (.tup r) → upd (upd (upd H t (.tup xs)) cl (.lst ((ts.map V.ref).set i (.ref t)))) p (.ins (a "Plank") dx (pf cl w ((n : Int) + 1))) u = some (.tup r) := fun u r hu => by
          rw [upd_ne (ne_of hu h1 (by intro z; cases z)), upd_ne (ne_of hu h2 (by intro z; cases z)), upd_ne (ne_of_none hu ht)]
          exact hu
        refine paired_set ?_ i (Paired.mapP h3 keep)
        rw [upd_ne ntp.symm, upd_ne ntc.symm, upd_same]
      · rcases List.mem_or_eq_of_mem_set hr with z | z
        · exact P.wd r z
        · rw [z]; exact hw
      · have hxn : x ≠ p ∧ x ≠ cl := ⟨fun z => hxn (.inl z), fun z => hxn (.inr z)⟩
        rw [upd_ne hxn.1, upd_ne hxn.2, upd_ne (ne_of_none ex ht)]
        exact ex
theorem no_read (cl : Addr) (w n : Int) : (pf cl w n).lookup ("read" : Str) = none := pf_no _ _ _ (by decide +kernel) (by decide +kernel) (by decide +kernel)
theorem no_write (cl : Addr) (w n : Int) : (pf cl w n).lookup ("write" : Str) = none := pf_no _ _ _ (by decide +kernel) (by decide +kernel) (by decide +kernel)
theorem no_writings (cl : Addr) (w n : Int) : (pf cl w n).lookup ("writings" : Str) = none := pf_no _ _ _ (by decide +kernel) (by decide +kernel) (by decide +kernel)
theorem len_Plank_init (h : sp_Plank_init K a vs H Q E) : vs.length = 3 := by
  obtain ⟨_, _, _, _, rfl, _⟩ := h
  rfl
theorem len_Plank_blocks (h : sp_Plank_blocks K a vs H Q E) : vs.length = 1 := by
  obtain ⟨_, _, _, _, _, rfl, _⟩ := h
  rfl
theorem len_Plank_cells (h : sp_Plank_cells K a vs H Q E) : vs.length = 1 := by
  obtain ⟨_, _, _, _, _, rfl, _⟩ := h
  rfl
theorem len_Plank_ask_for_block (h : sp_Plank_ask_for_block K a vs H Q E) : vs.length = 2 := by
  obtain ⟨_, _, _, _, _, _, rfl, _⟩ := h
  rfl
theorem len_Plank_read (h : sp_Plank_read K a vs H Q E) : vs.length = 2 := by
  obtain ⟨_, _, _, _, _, _, rfl, _⟩ := h
  rfl
theorem len_Plank_write (h : sp_Plank_write K a vs H Q E) : vs.length = 3 := by
  obtain ⟨_, _, _, _, _, _, _, _, rfl, _⟩ := h
  rfl
theorem rdok_Plank_writings (h : sp_Plank_writings K a vs H Q E) : rd_Plank_writings K a (fun _ => E) (ends Q) (start ["self"] vs) H := by
  obtain ⟨p, cl, w, rows, n, rfl, T, P, q⟩ := h
  obtain ⟨dx, h1⟩ := P.ob
  push_cast [rd_Plank_writings, ↓rd_Plank_writings_1_ap]
  exact ⟨_, _, _, h1, T.cl, T.nN, _, pf_n _ _ _, q⟩
theorem len_Plank_writings (h : sp_Plank_writings K a vs H Q E) : vs.length = 1 := by
  obtain ⟨_, _, _, _, _, rfl, _⟩ := h
  rfl
theorem lt_putF {f : Str} {v : V} {fs : List (Str × V)} {n : Nat} (h : fs.length < n) : (putF f v fs).length < n + 1 := Nat.lt_of_le_of_lt (length_putF f v fs) (Nat.succ_lt_succ h)
theorem SameBut.none {b : Addr} {H H1 : Hp} {x : Addr} (s : SameBut (· = b) H H1) (hb : H1 b ≠ Option.none) (h : H1 x = Option.none) : H x = Option.none := by
  cases e : H x with
  | none => rfl
  | some o =>
    have : x ≠ b := fun z => hb (z ▸ h)
    rw [s _ _ e this] at h
    cases h
theorem rdok_Change_init (h : sp_Change_init K a vs H Q E) : rd_Change_init K a (fun _ => E) (ends Q) (start ["self", "place", "value", "needs"] vs) H := by
  obtain ⟨x, dx, pl, v, nt, rfl, T, hx, q⟩ := h
  push_cast [rd_Change_init, ↓rd_Change_init_1_ap, ↓rd_Change_init_2_ap, ↓rd_Change_init_3_ap]
  refine ⟨_, _, _, hx, T.cc, T.nP, by decide, _, _, _, upd_same, T.cc, T.nV, lt_putF (n := 999) (by decide), _, _, _, upd_same, T.cc, T.nN, lt_putF (n := 999) (lt_putF (n := 998) (by decide)), ?_⟩
  rw [chf_new, upd_upd, upd_upd]
  exact q
theorem len_Change_init (h : sp_Change_init K a vs H Q E) : vs.length = 4 := by
  obtain ⟨_, _, _, _, _, rfl, _⟩ := h
  rfl
theorem rdok_Book_init (h : sp_Book_init K a vs H Q E) : rd_Book_init K a (fun _ => E) (ends Q) (start ["self", "plank"] vs) H := by
  obtain ⟨b, gp, cl, dx, w, rows, n, rfl, T, TP, P, hb, q⟩ := h
  push_cast [rd_Book_init, ↓rd_Book_init_1_ap, ↓rd_Book_init_2_ap, ↓rd_Book_init_3_ap, ↓rd_Book_init_4_ap, ↓rd_Book_init_5_ap]
  refine ⟨_, _, _, hb, T.cl, T.nG, by decide, by decide, ?_⟩
  have e1 : upd H b (.ins (bkC a) dx (putF "ground" (.ref gp) [])) b = some (.ins (bkC a) dx (putF "ground" (.ref gp) [])) := upd_same
  have s1 : SameBut (· = b) H (upd H b (.ins (bkC a) dx (putF "ground" (.ref gp) []))) := fun x o e n => by rw [upd_ne n]; exact e
  revert e1 s1
  generalize upd H b (.ins (bkC a) dx (putF "ground" (.ref gp) [])) = H1
  intro e1 s1 m hm
  have nbm : b ≠ m := ne_of_none e1 hm
  have hmH := s1.none (by rw [e1]; intro z; cases z) hm
  refine ⟨_, _, _, by rw [upd_ne nbm]; exact e1, T.cl, T.nM, lt_putF (n := 999) (by decide), ?_⟩
  have s2 : SameBut (· = b) H (upd (upd H1 m (.lst [])) b (.ins (bkC a) dx (putF "made" (.ref m) (putF "ground" (.ref gp) [])))) := (s1.upd (.inr hmH)).upd (.inl rfl)
  have e2 : upd (upd H1 m (.lst [])) b (.ins (bkC a) dx (putF "made" (.ref m) (putF "ground" (.ref gp) []))) b = some (.ins (bkC a) dx (putF "made" (.ref m) (putF "ground" (.ref gp) []))) := upd_same
  have m2 : upd (upd H1 m (.lst [])) b (.ins (bkC a) dx (putF "made" (.ref m) (putF "ground" (.ref gp) []))) m = some (.lst []) := by rw [upd_ne nbm.symm, upd_same]
  revert s2 e2 m2
  generalize upd (upd H1 m (.lst [])) b (.ins (bkC a) dx (putF "made" (.ref m) (putF "ground" (.ref gp) []))) = H2
  intro s2 e2 m2
  have gb : ∀ x xs, (· = b) x → H x ≠ some (.tup xs) := fun x xs e => by rw [show x = b from e, hb]; intro z; cases z
  have ncl : ¬ cl = b := by obtain ⟨ts, z, _⟩ := P.ls; exact ne_of z hb (by intro z; cases z)
  have P2 : PlankAt a H2 gp cl w rows n := by
    obtain ⟨⟨dx', f1⟩, ⟨ts, f2, f3⟩, r1, r2, r3⟩ := P
    exact ⟨⟨dx', s2 _ _ f1 (ne_of f1 hb (ins_ne (by simp [pf])))⟩, ⟨ts, s2 _ _ f2 (ne_of f2 hb (by intro z; cases z)), Paired.mapP f3 fun t r z => s2 _ _ z (ne_of z hb (by intro z; cases z))⟩, r1, r2, r3⟩
  obtain ⟨dp, hp⟩ := P2.ob
  refine ⟨_, _, hp, pf_no _ _ _ (by decide +kernel) (by decide +kernel) (by decide +kernel), gp, cl, w, rows, n, rfl, TP, P2, rows.length, rfl, by omega, by have := P.sz; omega, ?_⟩
  rw [Int.toNat_natCast]
  refine comp_range (small _ (by have := P.sz; omega)) (fun i ys H' => Same H2 H' ∧ ∃ ls : List Addr, ys = ls.map V.ref ∧ ls.Nodup ∧ ∀ l ∈ ls, H' l = some (.lst []) ∧ H2 l = none) ⟨Same.refl _, [], rfl, List.nodup_nil, by simp⟩ (fun i ys H' hi hl ⟨s, ls, ey, nd, al⟩ => ?_) (fun ys H' hl ⟨s, ls, ey, nd, al⟩ mi hmi => ?_)
  · push_cast []
    refine ⟨by decide, fun l hl' => ⟨s.trans (same_upd hl'), ls ++ [l], by rw [ey, List.map_append]; rfl, ?_, fun x hx => ?_⟩⟩
    · exact List.nodup_append.mpr ⟨nd, by simp, fun x hx y hy e => by rw [List.mem_singleton] at hy; subst hy; subst e; rw [(al _ hx).1] at hl'; cases hl'⟩
    · rcases List.mem_append.mp hx with hx | hx
      · exact ⟨same_upd hl' _ _ (al x hx).1, (al x hx).2⟩
      · rw [List.mem_singleton.mp hx]; exact ⟨upd_same, s.free hl'⟩
  · have s3 : SameBut (· = b) H (upd H' mi (.lst ys)) := by
      intro x o e nx
      have e' := s _ _ (s2 _ _ e nx)
      rw [upd_ne (ne_of_none e' hmi)]; exact e'
    have e3 : upd H' mi (.lst ys) b = some (.ins (bkC a) dx (putF "made" (.ref m) (putF "ground" (.ref gp) []))) := by rw [upd_ne (ne_of_none (s _ _ e2) hmi)]; exact s _ _ e2
    have m3 : upd H' mi (.lst ys) m = some (.lst []) := by rw [upd_ne (ne_of_none (s _ _ m2) hmi)]; exact s _ _ m2
    have i3 : upd H' mi (.lst ys) mi = some (.lst (ls.map V.ref)) := by rw [upd_same, ey]
    have l3 : ∀ l ∈ ls, upd H' mi (.lst ys) l = some (.lst []) ∧ H l = none ∧ l ≠ mi ∧ l ≠ m := fun l hl' => by
      have z := al l hl'
      have n1 := ne_of_none z.1 hmi
      exact ⟨by rw [upd_ne n1]; exact z.1, s2.none (by rw [e2]; intro z; cases z) z.2, n1, fun y => by rw [y, m2] at z; cases z.2⟩
    have hmiH : H mi = none := s2.none (by rw [e2]; intro z; cases z) (s.free hmi)
    have nmm : m ≠ mi := ne_of_none (s _ _ m2) hmi
    have hlen : ls.length = rows.length := by rw [← hl, ey, List.length_map]
    revert s3 e3 m3 i3 l3
    generalize upd H' mi (.lst ys) = H3
    intro s3 e3 m3 i3 l3
    refine ⟨_, _, _, e3, T.cl, T.nI, lt_putF (n := 999) (lt_putF (n := 998) (by decide)), fun lt hlt => ?_⟩
    have nb4 : b ≠ lt := ne_of_none upd_same hlt
    rw [upd_ne nb4.symm] at hlt
    have ltH : H lt = none := s3.none (by rw [e3]; intro z; cases z) hlt
    refine ⟨_, _, _, by rw [upd_ne nb4, upd_same], T.cl, T.nL, lt_putF (n := 999) (lt_putF (n := 998) (lt_putF (n := 997) (by decide))), fun ou hou => ?_⟩
    have nb5 : b ≠ ou := ne_of_none upd_same hou
    rw [upd_ne nb5.symm] at hou
    have nl5 : lt ≠ ou := ne_of_none upd_same hou
    rw [upd_ne nl5.symm, upd_ne nb5.symm] at hou
    have ouH : H ou = none := s3.none (by rw [e3]; intro z; cases z) hou
    refine ⟨_, _, _, by rw [upd_ne nb5, upd_same], T.cl, T.nO, lt_putF (n := 999) (lt_putF (n := 998) (lt_putF (n := 997) (lt_putF (n := 996) (by decide)))), ?_⟩
    rw [bf_new]
    generalize eH : upd (upd (upd (upd (upd H3 b _) lt (.dT [])) b _) ou (.dK [])) b (.ins (bkC a) dx (bf gp m mi lt ou)) = H5
    have kp : ∀ x, x ≠ b → x ≠ lt → x ≠ ou → H5 x = H3 x := fun x n1 n2 n3 => by rw [← eH, upd_ne n1, upd_ne n3, upd_ne n1, upd_ne n2, upd_ne n1]
    have kk : ∀ x o, H3 x = some o → x ≠ b → H5 x = some o := fun x o e n1 => by rw [kp x n1 (ne_of_none e hlt) (ne_of_none e hou)]; exact e
    have s5 : SameBut (· = b) H H5 := fun x o e n1 => kk x o (s3 _ _ e n1) n1
    have nbx : ∀ x xs, H3 x = some (.lst xs) → x ≠ b := fun x xs e => ne_of e e3 (by intro z; cases z)
    refine q m mi lt ou ls H5 hmH hmiH ltH ouH (fun l hl' => (l3 l hl').2.1) ⟨⟨⟨dx, by rw [← eH, upd_same]⟩, ⟨[], kk _ _ m3 (nbx _ _ m3), .nil⟩, kk _ _ i3 (nbx _ _ i3), fun i l e => ?_, nd, ⟨[], ?_, fun i j => rfl, Nat.le_refl _⟩, ⟨[], ?_, fun k => rfl, List.nodup_nil, by simp⟩, by simp, by simp, by simp, ⟨nmm, ?_, ?_, ?_, ?_, ?_⟩, by simp⟩, ?_, hlen⟩ s5
    · have z := l3 l (List.mem_of_getElem? e)
      exact kk _ _ z.1 (nbx _ _ z.1)
    · rw [← eH, upd_ne nb4.symm, upd_ne nl5, upd_ne nb4.symm, upd_same]
    · rw [← eH, upd_ne nb5.symm, upd_same]
    · exact fun z => (l3 _ z).2.2.2 rfl
    · exact fun z => (l3 _ z).2.2.1 rfl
    · obtain ⟨ts, z, _⟩ := P.ls; exact ne_of_none z hmH
    · obtain ⟨ts, z, _⟩ := P.ls; exact ne_of_none z hmiH
    · obtain ⟨ts, z, _⟩ := P.ls; exact fun y => by rw [(l3 _ y).2.1] at z; cases z
    · obtain ⟨⟨dx', f1⟩, ⟨ts, f2, f3⟩, r1, r2, r3⟩ := P
      exact ⟨⟨dx', s5 _ _ f1 (ne_of f1 hb (ins_ne (by simp [pf])))⟩, ⟨ts, s5 _ _ f2 (ne_of f2 hb (by intro z; cases z)), Paired.mapP f3 fun t r z => s5 _ _ z (ne_of z hb (by intro z; cases z))⟩, r1, r2, r3⟩
theorem len_Book_init (h : sp_Book_init K a vs H Q E) : vs.length = 2 := by
  obtain ⟨_, _, _, _, _, _, _, rfl, _⟩ := h
  rfl
theorem rdok_needs_with (h : sp_needs_with K a vs H Q E) : rd_needs_with K a (fun _ => E) (ends Q) (start ["needs", "ahead"] vs) H := by
  obtain ⟨nl, ns, o, rfl, hs, hl, q⟩ := h
  cases o with
  | none =>
    push_cast [rd_needs_with, ↓rd_needs_with_1_ap, ↓rd_needs_with_2_ap, ↓rd_needs_with_3_ap, optV]
    refine ⟨ns, hs, by omega, fun x o D ks hx hD r m l => ⟨_, .inl ⟨SqL.of upd_same, fun t ht => q t ks _ (((same_upd hx).trans (same_upd hD)).trans (same_upd ht)) upd_same r (fun y => ?_) (by omega)⟩⟩⟩
    rw [m y]; simp
  | some k =>
    push_cast [rd_needs_with, ↓rd_needs_with_1_ap, ↓rd_needs_with_2_ap, ↓rd_needs_with_3_ap, optV]
    refine ⟨_, .inl hs, fun l hl' => ⟨by decide, fun p hp => .inl ?_⟩⟩
    have np : l ≠ p := ne_of_none upd_same hp
    have s0 : Same H (upd (upd H l (.lst (ns.map V.int))) p (.lst [.int k])) := (same_upd hl').trans (same_upd hp)
    have e1 : upd (upd H l (.lst (ns.map V.int))) p (.lst [.int k]) l = some (.lst (ns.map V.int)) := by rw [upd_ne np, upd_same]
    have e2 : upd (upd H l (.lst (ns.map V.int))) p (.lst [.int k]) p = some (.lst [.int k]) := upd_same
    revert s0 e1 e2
    generalize upd (upd H l (.lst (ns.map V.int))) p (.lst [.int k]) = H1
    intro s0 e1 e2
    refine ⟨l, p, _, _, rfl, rfl, e1, e2, small _ (by simp; omega), fun r hr => ⟨r, rfl, ns ++ [(k : Int)], ?_, by simp; omega, fun x o D ks hx hD rs m ll => ⟨_, .inl ⟨SqL.of upd_same, fun t ht => q t ks _ ((((s0.trans (same_upd hr)).trans (same_upd hx)).trans (same_upd hD)).trans (same_upd ht)) upd_same rs (fun y => ?_) (by simpa using ll)⟩⟩⟩⟩
    · rw [List.map_append]; exact SqL.of upd_same
    · rw [m y, List.mem_append, List.mem_singleton]; simp
theorem len_needs_with (h : sp_needs_with K a vs H Q E) : vs.length = 2 := by
  obtain ⟨_, _, _, rfl, _⟩ := h
  rfl
theorem rdok_Book_ask_for_place (h : sp_Book_ask_for_place K a vs H Q E) : rd_Book_ask_for_place K a (fun _ => E) (ends Q) (start ["self", "place"] vs) H := by
  obtain ⟨A, w, rows, n, cs, outs, pl, i, j, rfl, T, TP, B, hp, q, qe⟩ := h
  obtain ⟨dx, hb⟩ := B.bk.ob
  obtain ⟨dp, hg⟩ := B.pk.ob
  have ng : ∀ {m : Str}, ¬ m = "contents" → ¬ m = "width" → ¬ m = "written" → (pf A.cl w n).lookup m = none := fun h1 h2 h3 => pf_no _ _ _ h1 h2 h3
  push_cast [rd_Book_ask_for_place, ↓rd_Book_ask_for_place_1_ap, ↓rd_Book_ask_for_place_2_ap]
  refine ix_tpl hp (n := 0) rfl rfl ?_
  push_cast []
  split
  · rename_i h0
    refine ⟨_, _, _, hb, T.cl, T.nG, _, bf_g, A.gp, rfl, _, _, hg, ng (by decide +kernel) (by decide +kernel) (by decide +kernel), A.gp, A.cl, w, rows, n, rfl, TP, B.pk, ?_⟩
    push_cast []
    split
    · exact ⟨by decide, qe fun z => by omega⟩
    · rename_i h1
      refine ix_tpl hp (n := 1) rfl rfl ?_
      push_cast []
      split
      · rename_i h2
        refine ⟨_, _, _, hb, T.cl, T.nG, _, bf_g, A.gp, rfl, _, _, hg, ng (by decide +kernel) (by decide +kernel) (by decide +kernel), A.gp, A.cl, w, rows, n, rfl, TP, B.pk, ?_⟩
        push_cast []
        split
        · exact ⟨by decide, qe fun z => by omega⟩
        · exact q ⟨h0, by omega, h2, by omega⟩
      · exact ⟨by decide, qe fun z => by omega⟩
  · exact ⟨by decide, qe fun z => by omega⟩
theorem len_Book_ask_for_place (h : sp_Book_ask_for_place K a vs H Q E) : vs.length = 2 := by
  obtain ⟨_, _, _, _, _, _, _, _, _, rfl, _⟩ := h
  rfl
theorem rdok_Book_newest (h : sp_Book_newest K a vs H Q E) : rd_Book_newest K a (fun _ => E) (ends Q) (start ["self", "place"] vs) H := by
  obtain ⟨A, w, rows, n, cs, outs, pl, i, j, rfl, T, TP, B, hp, q, qe⟩ := h
  obtain ⟨dx, hb⟩ := B.bk.ob
  obtain ⟨kvs, hl, hv, _⟩ := B.bk.lat
  push_cast [rd_Book_newest, ↓rd_Book_newest_1_ap, ↓rd_Book_newest_2_ap]
  refine ⟨_, _, hb, bf_no (by decide +kernel), A, w, rows, n, cs, outs, pl, i, j, rfl, T, TP, B, hp, fun h => ?_, qe⟩
  push_cast []
  refine ⟨_, _, _, hb, T.cl, T.nL, _, bf_l, A.lt, rfl, .inr ⟨_, .inl hl⟩, _, dT2 hl hp, ?_⟩
  rw [hv]
  have := q h
  cases e : newestOf cs i j with
  | none => rw [e] at this; exact this
  | some k => rw [e] at this; exact this
theorem len_Book_newest (h : sp_Book_newest K a vs H Q E) : vs.length = 2 := by
  obtain ⟨_, _, _, _, _, _, _, _, _, rfl, _⟩ := h
  rfl
theorem BookIn.len {C D : Addr} {A : BA} {w : Nat} {cs : List Ch} {outs : Int → Bool} (B : BookIn C D H A w cs outs) : ∃ xs, H A.m = some (.lst xs) ∧ xs.length = cs.length := by
  obtain ⟨chs, e, p⟩ := B.made
  exact ⟨_, e, by rw [List.length_map, p.length]⟩
theorem rdok_Book_ask_for_changes (h : sp_Book_ask_for_changes K a vs H Q E) : rd_Book_ask_for_changes K a (fun _ => E) (ends Q) (start ["self", "numbers", "number"] vs) H := by
  obtain ⟨A, w, rows, n, cs, outs, nl, ns, rfl, T, B, hs, q, qe⟩ := h
  obtain ⟨dx, hb⟩ := B.bk.ob
  obtain ⟨xs, hm, hml⟩ := B.bk.len
  push_cast [rd_Book_ask_for_changes, ↓rd_Book_ask_for_changes_1_ap, ↓rd_Book_ask_for_changes_2_ap, ↓rd_Book_ask_for_changes_3_ap]
  refine .inl ⟨⟨_, hs⟩, ?_⟩
  refine for_listB (xs := ns.map V.int) (fun i σ H' => H' = H ∧ (∃ z, σ = [some (.ref A.b), some (.ref nl), z]) ∧ ∀ x ∈ ns.take i, known cs x) ⟨rfl, ⟨_, rfl⟩, by simp⟩ (fun i σ H' _ ⟨e, _⟩ => e ▸ hs) (fun i x σ H' hx ⟨e, ⟨z, ez⟩, kn⟩ => ?_) (fun σ H' ⟨e, ⟨z, ez⟩, kn⟩ => ?_)
  · subst e; subst ez
    rw [List.getElem?_map, Option.map_eq_some_iff] at hx
    obtain ⟨x', hx', rfl⟩ := hx
    push_cast [↓rd_Book_ask_for_changes_1_ap, ↓rd_Book_ask_for_changes_2_ap, ↓rd_Book_ask_for_changes_3_ap]
    have bad : ¬ known cs x' → 1 ≤ sizeLine ∧ E (.ref (a "NoChange")) none H' := fun h => ⟨by decide, qe ⟨x', List.mem_of_getElem? hx', h⟩⟩
    split
    · rename_i h0
      refine ⟨_, _, _, hb, T.cl, T.nM, _, bf_m, cs.length, .inl ⟨_, SqL.of hm, hml.symm⟩, ?_⟩
      split
      · exact bad fun z => by omega
      · intro y hy
        rw [List.take_add_one, hx'] at hy
        rcases List.mem_append.mp hy with hy | hy
        · exact kn y hy
        · simp only [Option.toList_some, List.mem_singleton] at hy
          subst hy
          exact ⟨h0, by omega⟩
    · exact bad fun z => by omega
  · subst e
    refine q fun x hx => kn x ?_
    rw [List.length_map, List.take_length]; exact hx
theorem len_Book_ask_for_changes (h : sp_Book_ask_for_changes K a vs H Q E) : vs.length = 2 := by
  obtain ⟨_, _, _, _, _, _, _, _, rfl, _⟩ := h
  rfl
theorem rdok_Book_waiting (h : sp_Book_waiting K a vs H Q E) : rd_Book_waiting K a (fun _ => E) (ends Q) (start ["self"] vs) H := by
  obtain ⟨A, w, rows, n, cs, outs, rfl, T, B, q⟩ := h
  obtain ⟨dx, hb⟩ := B.bk.ob
  obtain ⟨xs, hm, hml⟩ := B.bk.len
  obtain ⟨kvo, ho, hv, _⟩ := B.bk.out
  have sz := B.bk.sz
  push_cast [rd_Book_waiting, ↓rd_Book_waiting_1_ap]
  refine ⟨_, _, _, hb, T.cl, T.nM, _, bf_m, cs.length, .inl ⟨_, SqL.of hm, hml.symm⟩, by omega, by omega, ?_⟩
  refine comp_rangeF (fun (k : Nat) => !outs k) (small _ (by omega)) (fun i hi QB qb => ?_) fun p hp => ?_
  · push_cast [capV]
    refine ⟨_, _, _, hb, T.cl, T.nO, _, bf_o, A.ou, rfl, _, dI ho, ?_⟩
    rw [hv]; exact qb
  · exact q p _ hp (same_upd hp) (by rw [upd_same]; rfl)
theorem len_Book_waiting (h : sp_Book_waiting K a vs H Q E) : vs.length = 1 := by
  obtain ⟨_, _, _, _, _, _, rfl, _⟩ := h
  rfl
theorem rdok_Book_change (h : sp_Book_change K a vs H Q E) : rd_Book_change K a (fun _ => E) (ends Q) (start ["self", "place", "value", "needs", "ahead", "number"] vs) H := by
  obtain ⟨A, w, rows, n, cs, outs, pl, nl, v, ns, i, j, rfl, T, TP, B, hp, hs, hl, hc, q, q1, q2⟩ := h
  obtain ⟨dx, hb⟩ := B.bk.ob
  obtain ⟨xs, hm, hml⟩ := B.bk.len
  push_cast [rd_Book_change, ↓rd_Book_change_1_ap, ↓rd_Book_change_2_ap, ↓rd_Book_change_3_ap, ↓rd_Book_change_4_ap, ↓rd_Book_change_5_ap, ↓rd_Book_change_6_ap, ↓rd_Book_change_7_ap]
  refine ⟨_, _, hb, bf_no (by decide +kernel), A, w, rows, n, cs, outs, pl, i, j, rfl, T, TP, B, hp, fun hon => ?_, q1⟩
  push_cast []
  refine ⟨_, _, hb, bf_no (by decide +kernel), A, w, rows, n, cs, outs, nl, ns, rfl, T, B, hs, fun hkn => ?_, q2 hon⟩
  push_cast []
  refine ⟨_, _, _, hb, T.cl, T.nM, _, bf_m, cs.length, .inl ⟨_, SqL.of hm, hml.symm⟩, ?_⟩
  refine ⟨_, _, _, hb, T.cl, T.nM, _, bf_m, .inl ⟨rfl, _, SqL.of hm⟩, nl, ns, newestOf cs i j, rfl, hs, hl, fun t ks H1 s1 et kr km kl => ?_⟩
  push_cast []
  intro x dy hx hdy ndy
  refine ⟨x, dy, pl, v, t, rfl, T, upd_same, rfl, ?_⟩
  rw [upd_upd]
  have s2 : Same H1 (upd (upd H1 dy (.own x)) x (.ins (a "Change") dy (chf pl v t))) := (same_upd hdy).trans (same_upd (by rw [upd_ne ndy.symm]; exact hx))
  have ex : upd (upd H1 dy (.own x)) x (.ins (a "Change") dy (chf pl v t)) x = some (.ins (a "Change") dy (chf pl v t)) := upd_same
  revert s2 ex
  generalize upd (upd H1 dy (.own x)) x (.ins (a "Change") dy (chf pl v t)) = H2
  intro s2 ex
  have s := s1.trans s2
  have hxH : H x = none := s1.free hx
  replace et := s2 _ _ et
  obtain ⟨chs, hm', pch⟩ := B.bk.made
  have hmi := B.bk.mil
  obtain ⟨kvs, hlt, hv, hkl⟩ := B.bk.lat
  obtain ⟨kvo, hou, hvo, hko⟩ := B.bk.out
  obtain ⟨i0, i1, j0, j1⟩ := hon
  obtain ⟨i', rfl⟩ : ∃ i' : Nat, i = i' := ⟨i.toNat, by omega⟩
  obtain ⟨j', rfl⟩ : ∃ j' : Nat, j = j' := ⟨j.toNat, by omega⟩
  have hil : i' < A.ls.length := by rw [B.nb]; omega
  have el := List.getElem?_eq_getElem hil
  have hll := B.bk.mic i' _ el
  have hmem : A.ls[i'] ∈ A.ls := List.getElem_mem hil
  revert el hll hmem
  generalize A.ls[i'] = l
  intro el hll hmem
  have ap := B.bk.ap
  have nml : A.m ≠ l := fun z => ap.2.1 (z ▸ hmem)
  have nil' : A.mi ≠ l := fun z => ap.2.2.1 (z ▸ hmem)
  have ncl : A.cl ≠ l := fun z => ap.2.2.2.2.2 (z ▸ hmem)
  have klt : ∀ {y : Addr} {o : HO}, H2 y = some o → (∀ k, o ≠ .dT k) → y ≠ A.lt := fun e h => ne_of e (s _ _ hlt) (h _)
  have km' : ∀ {y : Addr} {o : HO}, H2 y = some o → (∀ k, o ≠ .lst k) → y ≠ A.m := fun e h => ne_of e (s _ _ hm') (h _)
  have kll : ∀ {y : Addr} {o : HO}, H2 y = some o → (∀ k, o ≠ .lst k) → y ≠ l := fun e h => ne_of e (s _ _ hll) (h _)
  have hb2 := s _ _ hb
  have hp2 := s _ _ hp
  have sz := B.bk.sz
  have lenc : chs.length = cs.length := pch.length
  refine ⟨A.m, _, _, rfl, rfl, s _ _ hm', Nat.lt_of_lt_of_le (show (chs.map V.ref).length < 1000 by rw [List.length_map]; omega) (by decide), ?_⟩
  have bb : A.b ≠ A.m := km' hb2 (by intro k z; cases z)
  have bl : A.b ≠ l := kll hb2 (by intro k z; cases z)
  have bt : A.b ≠ A.lt := klt hb2 (by intro k z; cases z)
  have pm : pl ≠ A.m := km' hp2 (by intro k z; cases z)
  have pl' : pl ≠ l := kll hp2 (by intro k z; cases z)
  have pt : pl ≠ A.lt := klt hp2 (by intro k z; cases z)
  have lt' : l ≠ A.lt := klt (s _ _ hll) (by intro k z; cases z)
  have mt : A.m ≠ A.lt := klt (s _ _ hm') (by intro k z; cases z)
  have it : A.mi ≠ A.lt := klt (s _ _ hmi) (by intro k z; cases z)
  refine ⟨_, _, _, by rw [upd_ne bb]; exact hb2, T.cl, T.nI, _, bf_i, ix_tpl (by rw [upd_ne pm]; exact hp2) (n := 0) rfl rfl (ix_sq (SqL.of (by rw [upd_ne ap.1.symm]; exact s _ _ hmi)) (n := i') (v := .ref l) rfl (by rw [List.getElem?_map, el]; rfl) ⟨.inl ⟨rfl, _, SqL.of (by rw [upd_ne nml.symm]; exact s _ _ hll)⟩, ?_⟩)⟩
  have bln := inBlk_len cs i'
  refine ⟨l, _, _, rfl, rfl, by rw [upd_ne nml.symm]; exact s _ _ hll, Nat.lt_of_lt_of_le (show ((inBlk cs i').map fun (k : Nat) => V.int k).length < 1000 by rw [List.length_map]; omega) (by decide), ?_⟩
  refine ⟨_, _, _, by rw [upd_ne bl, upd_ne bb]; exact hb2, T.cl, T.nL, _, bf_l, A.lt, rfl, _, pT2 (by rw [upd_ne lt'.symm, upd_ne mt.symm]; exact s _ _ hlt) (by rw [upd_ne pl', upd_ne pm]; exact hp2) (by omega), ?_⟩
  generalize eH : upd (upd (upd H2 A.m _) l _) A.lt (.dT (putK kvs [.inl ↑i', .inl ↑j'] (.int ↑cs.length))) = H5
  have kp : ∀ y, y ≠ A.m → y ≠ l → y ≠ A.lt → H5 y = H2 y := fun y n1 n2 n3 => by rw [← eH, upd_ne n3, upd_ne n2, upd_ne n1]
  have s5 : SameBut (fun y => y = A.m ∨ y = l ∨ y = A.lt) H H5 := fun y o e ny => by
    rw [kp y (fun z => ny (.inl z)) (fun z => ny (.inr (.inl z))) (fun z => ny (.inr (.inr z)))]
    exact s _ _ e
  have lo : ∀ y, (y = A.m ∨ y = l ∨ y = A.lt) → Loose (H y) := by
    rintro y (z | z | z)
    · exact B.loose (.inl z)
    · exact B.loose (.inr (.inr (.inl (z ▸ hmem))))
    · exact B.loose (.inr (.inr (.inr (.inl z))))
  have hnd : ∀ y ∈ ks, 0 ≤ y ∧ y < cs.length := fun y hy => by
    rcases (km y).mp hy with h | ⟨k, e, rfl⟩
    · exact hkn y h
    · exact ⟨by omega, by have := newestOf_lt e; omega⟩
  refine q ⟨i0, i1, j0, j1⟩ hkn ks H5 kr km ⟨⟨⟨dx, by rw [kp _ bb bl bt]; exact hb2⟩, ⟨chs ++ [x], ?_, Paired.snoc (Paired.mapP pch fun y c h => h.sb s5 lo) ⟨dy, pl, t, ?_, ?_, ?_⟩⟩, ?_, fun k l' e => ?_, B.bk.nd, ⟨putK kvs [.inl ↑i', .inl ↑j'] (.int ↑cs.length), ?_, fun p q => ?_, ?_⟩, ⟨kvo, ?_, hvo, ?_⟩, ?_, fun c hc' => ?_, fun k c e => ?_, ap, fun k c e j ej => ?_⟩, B.pk.sbL s5 lo ?_, B.nb⟩ (s5.wide fun y z => ?_)
  · rw [← eH, upd_ne mt, upd_ne nml, upd_same, List.map_append]; rfl
  · rw [kp x (km' ex (by intro k z; cases z)) (kll ex (by intro k z; cases z)) (klt ex (by intro k z; cases z))]; exact ex
  · rw [kp pl pm pl' pt]; exact hp2
  · rw [kp t (km' et (by intro k z; cases z)) (kll et (by intro k z; cases z)) (klt et (by intro k z; cases z))]; exact et
  · rw [kp _ ap.1.symm nil' it]; exact s _ _ hmi
  · rw [inBlk_snoc]
    by_cases z : l' = l
    · subst z
      have ek : k = i' := by
        obtain ⟨h1, h2⟩ := List.getElem?_eq_some_iff.mp e
        obtain ⟨h3, h4⟩ := List.getElem?_eq_some_iff.mp el
        exact (List.getElem_inj B.bk.nd).mp (h2.trans h4.symm)
      subst ek
      rw [← eH, upd_ne lt', upd_same]
      simp
    · have nk : ¬ i' = k := fun y => by subst y; rw [el] at e; cases e; exact z rfl
      have hl' := B.bk.mic k l' e
      rw [kp l' (fun y => ap.2.1 (y ▸ List.mem_of_getElem? e)) z (klt (s _ _ hl') (by intro k z; cases z))]
      simp only [Int.toNat_natCast, if_neg nk]
      exact s _ _ hl'
  · rw [← eH, upd_same]
  · rw [valV_put, newestOf_snoc]
    by_cases z : p = i' ∧ q = j'
    · obtain ⟨rfl, rfl⟩ := z
      simp
    · have z1 : ¬ ([Sum.inl p, Sum.inl q] : List Key) = [.inl ↑i', .inl ↑j'] := fun y => z (by simpa using y)
      have z2 : ¬ ((((i' : Int).toNat : Nat) : Int) = p ∧ (((j' : Int).toNat : Nat) : Int) = q) := fun y => z ⟨by omega, by omega⟩
      rw [if_neg z1, if_neg z2]
      exact hv p q
  · have := length_putK kvs [.inl ↑i', .inl ↑j'] (.int ↑cs.length)
    simp; omega
  · rw [kp _ (km' (s _ _ hou) (by intro k z; cases z)) (kll (s _ _ hou) (by intro k z; cases z)) (klt (s _ _ hou) (by intro k z; cases z))]; exact s _ _ hou
  · exact hko.mono (by simp)
  · simp; omega
  · rcases List.mem_append.mp hc' with h | h
    · exact B.bk.inn c h
    · rw [List.mem_singleton.mp h]
      exact ⟨by rw [Int.toNat_natCast]; exact hil, (show (j' : Int).toNat < w by omega)⟩
  · rcases Nat.lt_or_ge k cs.length with h | h
    · rw [List.getElem?_append_left h] at e
      exact B.bk.need k c e
    · rw [List.getElem?_append_right h] at e
      have : k - cs.length = 0 := by
        rcases Nat.eq_zero_or_pos (k - cs.length) with z | z
        · exact z
        · rw [List.getElem?_eq_none (by simp; omega)] at e; cases e
      rw [this] at e
      cases e
      exact ⟨fun y hy => ⟨(hnd y hy).1, by have := (hnd y hy).2; omega⟩, kr, (show ks.length ≤ 100 by omega)⟩
  · rcases Nat.lt_or_ge k cs.length with h | h
    · rw [List.getElem?_append_left h] at e
      rw [List.take_append_of_le_length (by omega)] at ej
      exact B.bk.chn k c e j ej
    · rw [List.getElem?_append_right h] at e
      have : k - cs.length = 0 := by
        rcases Nat.eq_zero_or_pos (k - cs.length) with z | z
        · exact z
        · rw [List.getElem?_eq_none (by simp; omega)] at e; cases e
      have hk : k = cs.length := by omega
      subst hk
      rw [this] at e
      cases e
      rw [List.take_left' rfl] at ej
      exact (km _).mpr (.inr ⟨j, by simpa using ej, rfl⟩)
  · rintro (z | z | z)
    · exact ap.2.2.2.1 z
    · exact ncl z
    · obtain ⟨ts, e, _⟩ := B.pk.ls
      exact klt (s _ _ e) (by intro k z; cases z) z
  · rcases z with z | z | z
    · exact .inl z
    · exact .inr (.inr (.inl (z ▸ hmem)))
    · exact .inr (.inr (.inr (.inl z)))
theorem len_Book_change (h : sp_Book_change K a vs H Q E) : vs.length = 4 := by
  obtain ⟨_, _, _, _, _, _, _, _, _, _, _, _, rfl, _⟩ := h
  rfl
theorem BookIn.at {C D : Addr} {A : BA} {w : Nat} {cs : List Ch} {outs : Int → Bool} {H : Hp} (B : BookIn C D H A w cs outs) {k : Nat} {c : Ch} (e : cs[k]? = some c) : ∃ xs x, H A.m = some (.lst xs) ∧ xs[k]? = some (.ref x) ∧ ChAt D H x c := by
  obtain ⟨chs, h, p⟩ := B.made
  obtain ⟨x, ex, hx⟩ := paired_at p e
  exact ⟨_, x, h, by rw [List.getElem?_map, ex]; rfl, hx⟩
theorem wait_all (n : Nat) : waitL n (fun _ => false) = List.range n := by simp [waitL]
theorem new_plank {m0 w : Nat} {H1 : Hp} {Q : Addr → Hp → Prop} {E : XK} (TP : TPlank K a) (h1 : m0 ≤ 1000) (h2 : 1 ≤ w) (h3 : w ≤ 1000)
    (q : ∀ p cl H2, H1 p = none → H1 cl = none → PlankAt a H2 p cl w (List.replicate m0 (List.replicate w .non)) 0 → Same H1 H2 → Q p H2) :
    ∀ x dx, H1 x = none → H1 dx = none → dx ≠ x → sp_Plank_init K a [.ref x, .int m0, .int w] (upd (upd H1 dx (.own x)) x (.ins (a "Plank") dx [])) (fun v H2 => v = .non ∧ Q x H2) E := fun p dp hp hdp ndp => by
  refine ⟨p, dp, m0, w, rfl, TP, upd_same, h1, h2, h3, fun cl H2 hcl P2 sb2 => ⟨rfl, q p cl H2 hp ?_ P2 fun y o e => ?_⟩⟩
  · have := (same_upd (o := .own p) hdp).trans (same_upd (o := .ins (a "Plank") dp []) (by rw [upd_ne ndp.symm]; exact hp))
    exact this.free hcl
  · exact sb2 _ _ (by rw [upd_ne (ne_of_none e hp), upd_ne (ne_of_none e hdp)]; exact e) (ne_of_none e hp)
theorem new_book {w n : Nat} {rows : List (List V)} {gp cl : Addr} {H1 : Hp} {Q : Addr → Hp → Prop} {E : XK} (T : TB K a) (TP : TPlank K a) (P : PlankAt a H1 gp cl w rows n)
    (q : ∀ (A : BA) (H2 : Hp), A.gp = gp → A.cl = cl → (∀ x o, H1 x = some o → x = cl ∨ ¬ A.F x) → BkAt a H2 A w rows n [] (fun _ => false) → Same H1 H2 → Q A.b H2) :
    ∀ x dx, H1 x = none → H1 dx = none → dx ≠ x → sp_Book_init K a [.ref x, .ref gp] (upd (upd H1 dx (.own x)) x (.ins (bkC a) dx [])) (fun v H2 => v = .non ∧ Q x H2) E := fun b db hb hdb ndb => by
  have s0 : Same H1 (upd (upd H1 db (.own b)) b (.ins (bkC a) db [])) := (same_upd hdb).trans (same_upd (by rw [upd_ne ndb.symm]; exact hb))
  refine ⟨b, gp, cl, db, w, rows, n, rfl, T, TP, P.same s0, upd_same, fun m mi lt ou ls H4 hm hmi hlt hou hls B4 sb4 => ⟨rfl, ?_⟩⟩
  refine q ⟨b, gp, m, mi, lt, ou, ls, cl⟩ H4 rfl rfl (fun x o e => ?_) B4 fun y o e => sb4 _ _ (s0 _ _ e) (ne_of_none e hb)
  by_cases z : x = cl
  · exact .inl z
  · refine .inr ?_
    have e' := s0 _ _ e
    rintro (y | y | y | y | y | y)
    · rw [y] at e'; rw [show (BA.mk b gp m mi lt ou ls cl).m = m from rfl, hm] at e'; cases e'
    · rw [y] at e'; rw [show (BA.mk b gp m mi lt ou ls cl).mi = mi from rfl, hmi] at e'; cases e'
    · rw [hls x y] at e'; cases e'
    · rw [y] at e'; rw [show (BA.mk b gp m mi lt ou ls cl).lt = lt from rfl, hlt] at e'; cases e'
    · rw [y] at e'; rw [show (BA.mk b gp m mi lt ou ls cl).ou = ou from rfl, hou] at e'; cases e'
    · exact z y
theorem rdok_Book_in_hand (h : sp_Book_in_hand K a vs H Q E) : rd_Book_in_hand K a (fun _ => E) (ends Q) (start ["self", "place", "number"] vs) H := by
  obtain ⟨A, w, rows, n, cs, outs, pl, i, j, rfl, T, TP, B, hp, q, qe⟩ := h
  obtain ⟨dx, hb⟩ := B.bk.ob
  obtain ⟨dp, hg⟩ := B.pk.ob
  push_cast [rd_Book_in_hand, ↓rd_Book_in_hand_1_ap, ↓rd_Book_in_hand_2_ap, ↓rd_Book_in_hand_3_ap, ↓rd_Book_in_hand_4_ap]
  refine ⟨_, _, hb, bf_no (by decide +kernel), A, w, rows, n, cs, outs, pl, i, j, rfl, T, TP, B, hp, fun h => ?_, qe⟩
  have q := q h
  unfold inHand at q
  cases e : newestOf cs i j with
  | none =>
    rw [e] at q
    push_cast [optV]
    refine ⟨_, _, _, hb, T.cl, T.nG, _, bf_g, A.gp, rfl, _, _, hg, no_read _ _ _, ix_tpl hp (n := 0) rfl rfl ?_⟩
    refine ⟨A.gp, A.cl, w, rows, n, i, rfl, TP, B.pk, fun b' row eb er vl hvl => ?_, fun z => absurd h fun y => by omega⟩
    subst eb
    have s1 := same_upd (o := .lst row) hvl
    refine ix_tpl (s1 _ _ hp) (n := 1) rfl rfl ?_
    have rl := B.pk.wd row (List.mem_of_getElem? er)
    have hj : j.toNat < row.length := by omega
    have ej := List.getElem?_eq_getElem hj
    refine ix_sq (SqL.of upd_same) (n := j.toNat) (v := row[j.toNat]) (by omega) ej ?_
    refine q _ _ ?_ s1
    rw [show ((b' : Int)).toNat = b' from by omega, er]
    exact ej
  | some k =>
    rw [e] at q
    push_cast [optV]
    have hk := newestOf_lt e
    have ec := List.getElem?_eq_getElem hk
    obtain ⟨chs, hm, pc⟩ := B.bk.made
    obtain ⟨x, ex, dx', p1, n1, h1, h2, h3⟩ := paired_at pc ec
    refine ⟨_, _, _, hb, T.cl, T.nM, _, bf_m, ix_sq (SqL.of hm) (n := k) (v := .ref x) rfl (by rw [List.getElem?_map, ex]; rfl) ⟨x, rfl, _, _, _, h1, T.cc, T.nV, _, chf_v, q _ _ ?_ (Same.refl _)⟩⟩
    show (cs[k]?).map (·.val) = _
    rw [ec]
    rfl
theorem len_Book_in_hand (h : sp_Book_in_hand K a vs H Q E) : vs.length = 2 := by
  obtain ⟨_, _, _, _, _, _, _, _, _, rfl, _⟩ := h
  rfl
theorem rdok_law_number (h : sp_law_number K a vs H Q E) : rd_law_number K a (fun _ => E) (ends Q) (start ["cell", "prime"] vs) H := by
  obtain ⟨c, p, rfl, h0, h1, q⟩ := h
  push_cast [rd_law_number, ↓rd_law_number_1_ap, ↓rd_law_number_2_ap, ↓rd_law_number_3_ap, ↓sp_law_pick_ap]
  refine ⟨h0, h1, ?_⟩
  split
  · exact ⟨⟨by decide, by decide, by decide⟩, by decide, .inr ⟨by decide, by decide⟩, cpow30, .inl ⟨by decide, by decide⟩, by decide, cpow30, q _⟩
  · exact ⟨h0, h1, q _⟩
theorem len_law_number (h : sp_law_number K a vs H Q E) : vs.length = 2 := by
  obtain ⟨_, _, rfl, _⟩ := h
  rfl
theorem ix_sign {z : Str} {i : Int} {n : Nat} {L : Nat} {Q : VK} (hi : i = n) (hL : z.cps.toList.length = L) (hn : n < L) (q : ∀ c, Q (.str ⟨#[c]⟩) H) (hz : L ≤ 1000 := by decide) : rIxA K (.str z) (.int i) H Q := by
  subst hi
  have hn' : n < z.cps.toList.length := by omega
  exact .inr (.inr ⟨z, n, z.cps.toList[n], rfl, rfl, Nat.le_trans (by simpa [Str.length] using Nat.le_of_eq hL) (small _ (by omega)), atI_nat (List.getElem?_eq_getElem hn'), q _⟩)
theorem ones_sum : ∀ zs : List Str, (∀ z ∈ zs, z.length = 1) → (zs.map (·.length)).sum = zs.length
  | [], _ => rfl
  | z :: r, h => by
    rw [List.map_cons, List.sum_cons, ones_sum r fun x hx => h x (List.mem_cons_of_mem _ hx), h z (List.mem_cons_self ..), List.length_cons]
    omega
theorem rdok_law_text (h : sp_law_text K a vs H Q E) : rd_law_text K a (fun _ => E) (ends Q) (start ["cell", "size", "signs"] vs) H := by
  obtain ⟨c, n, rfl, h0, h1, q⟩ := h
  push_cast [rd_law_text, ↓rd_law_text_1_ap, ↓rd_law_text_2_ap, ↓rd_law_text_3_ap, ↓sp_law_pick_ap]
  have e1 : (Str.ofString "abcdefghijklmnopqrstuvwxyzABCDEFGHIJKLMNOPQRSTUVWXYZ" ++ Str.ofString "0123456789 .,:;!?'\"#$&()*+-/<=>\x40[]^_{|}~\\`").cps.toList.length = 94 := by decide +kernel
  refine ⟨Nat.le_trans (m := 94) (by decide +kernel) (small 94 (by decide)), rfl, by omega, by omega, ?_⟩
  generalize (Str.ofString "abcdefghijklmnopqrstuvwxyzABCDEFGHIJKLMNOPQRSTUVWXYZ" ++ Str.ofString "0123456789 .,:;!?'\"#$&()*+-/<=>\x40[]^_{|}~\\`") = z at e1 ⊢
  have el : z.length = 94 := by rw [← e1]; simp [Str.length]
  refine comp_range (small _ (by omega)) (fun i ys H' => H' = H ∧ ∃ zs : List Str, ys = zs.map V.str ∧ ∀ z ∈ zs, z.length = 1) ⟨rfl, [], rfl, by simp⟩ (fun i ys H' hi hl ⟨e, zs, ey, hz⟩ => ?_) fun ys H' hl ⟨e, zs, ey, hz⟩ r hr => ?_
  · subst e
    push_cast [capV, ↓sp_law_pick_ap]
    refine ⟨.inl ⟨by decide, by decide⟩, .inr ⟨by omega, by omega⟩, 94, ⟨by rw [el]; exact small 94 (by decide), el.symm⟩, by decide, ?_⟩
    have p0 := pick_nn (c := c + 31 * (0 + (i : Int)) * (0 + (i : Int))) (p := 10007) (m := ((94 : Nat) : Int)) (by decide)
    have p1 := pick_lt (c := c + 31 * (0 + (i : Int)) * (0 + (i : Int))) (p := 10007) (m := ((94 : Nat) : Int)) (by decide)
    refine ix_sign (L := 94) (n := (pick (c + 31 * (0 + (i : Int)) * (0 + (i : Int))) 10007 ((94 : Nat) : Int)).toNat) (by omega) e1 (by omega) fun ch => ⟨rfl, zs ++ [⟨#[ch]⟩], by rw [ey, List.map_append]; rfl, fun y hy => ?_⟩
    rcases List.mem_append.mp hy with hy | hy
    · exact hz y hy
    · rw [List.mem_singleton.mp hy]; rfl
  · subst e; subst ey
    refine ⟨_, r, zs, rfl, rfl, SqL.of upd_same, by decide +kernel, ?_, q _ _ (same_upd hr)⟩
    rw [ones_sum zs hz]
    rw [List.length_map] at hl
    omega
theorem len_law_text (h : sp_law_text K a vs H Q E) : vs.length = 2 := by
  obtain ⟨_, _, rfl, _⟩ := h
  rfl
theorem rdok_law_value (h : sp_law_value K a vs H Q E) : rd_law_value K a (fun _ => E) (ends Q) (start ["cell", "way"] vs) H := by
  obtain ⟨c, rfl, q⟩ := h
  push_cast [rd_law_value, ↓rd_law_value_1_ap, ↓rd_law_value_2_ap, ↓rd_law_value_3_ap, ↓rd_law_value_4_ap, ↓rd_law_value_5_ap, ↓rd_law_value_6_ap, ↓rd_law_value_7_ap, ↓rd_law_value_8_ap, ↓rd_law_value_9_ap, ↓rd_law_value_10_ap, ↓rd_law_value_11_ap, ↓rd_law_value_12_ap, ↓sp_law_pick_ap, ↓sp_law_number_ap]
  have two : (2 : Nat) ≤ sizeLine := by decide
  split
  · exact q _ _ (Same.refl _) trivial
  split
  · exact fun x => q _ _ (Same.refl _) trivial
  split
  · have p0 := pick_nn (c := c) (p := 10039) (m := 61) (by decide)
    have p1 := pick_lt (c := c) (p := 10039) (m := 61) (by decide)
    exact ⟨c, _, rfl, p0, by omega, fun z H' s => q _ _ s trivial⟩
  split
  · have p0 := pick_nn (c := c) (p := 10067) (m := 7) (by decide)
    have p1 := pick_lt (c := c) (p := 10067) (m := 7) (by decide)
    refine ⟨by omega, by omega, ?_⟩
    refine comp_range (small _ (by omega)) (fun i ys H' => H' = H ∧ ∀ y ∈ ys, ∃ x : Int, y = .int x) ⟨rfl, by simp⟩ (fun i ys H' hi hl ⟨e, hy⟩ => ?_) fun ys H' hl ⟨e, hy⟩ r hr => ?_
    · subst e
      push_cast [capV, ↓sp_law_number_ap]
      refine fun x y hy' => ?_
      rcases List.mem_append.mp hy' with z | z
      · exact hy y z
      · exact ⟨x, List.mem_singleton.mp z⟩
    · subst e
      rw [tuple_r]
      refine ⟨ys, .inl ⟨SqL.of upd_same, fun l hl' => q _ _ ((same_upd hr).trans (same_upd hl')) ⟨ys, upd_same, by omega, fun v hv => ?_⟩⟩⟩
      obtain ⟨x, rfl⟩ := hy v hv
      trivial
  split
  · refine fun x => ⟨c, 3, rfl, by decide, by decide, fun z H1 s => ⟨Nat.zero_le _, fun p hp => ⟨two, fun p1 hp1 => ⟨two, fun p2 hp2 => ?_⟩⟩⟩⟩
    have sp1 := same_upd (o := .tup [V.str z, V.ref p]) hp1
    have sp2 := same_upd (o := .tup [V.int x, V.ref p1]) hp2
    refine q _ _ (((s.trans (same_upd hp)).trans sp1).trans sp2) ⟨_, upd_same, by simp, fun v hv => ?_⟩
    simp only [List.mem_cons, List.not_mem_nil, or_false] at hv
    rcases hv with rfl | rfl
    · trivial
    refine ⟨_, sp2 _ _ upd_same, by simp, fun v hv => ?_⟩
    simp only [List.mem_cons, List.not_mem_nil, or_false] at hv
    rcases hv with rfl | rfl
    · trivial
    exact ⟨[], sp2 _ _ (sp1 _ _ upd_same), by simp, by simp⟩
  · refine fun x => ⟨two, fun p hp => ⟨c, 8, rfl, by decide, by decide, fun z H1 s => ⟨two, fun p1 hp1 => ⟨two, fun p2 hp2 => ?_⟩⟩⟩⟩
    have sp1 := same_upd (o := .tup [V.ref p, V.str z]) hp1
    have sp2 := same_upd (o := .tup [V.ref p1, V.non]) hp2
    refine q _ _ ((((same_upd hp).trans s).trans sp1).trans sp2) ⟨_, upd_same, by simp, fun v hv => ?_⟩
    simp only [List.mem_cons, List.not_mem_nil, or_false] at hv
    rcases hv with rfl | rfl
    · refine ⟨_, sp2 _ _ upd_same, by simp, fun v hv => ?_⟩
      simp only [List.mem_cons, List.not_mem_nil, or_false] at hv
      rcases hv with rfl | rfl
      · refine ⟨_, sp2 _ _ (sp1 _ _ (s _ _ upd_same)), by simp, fun v hv => ?_⟩
        simp only [List.mem_cons, List.not_mem_nil, or_false] at hv
        rcases hv with rfl | rfl <;> trivial
      · trivial
    · trivial
theorem len_law_value (h : sp_law_value K a vs H Q E) : vs.length = 1 := by
  obtain ⟨_, rfl, _⟩ := h
  rfl
theorem rdok_law_place (h : sp_law_place K a vs H Q E) : rd_law_place K a (fun _ => E) (ends Q) (start ["cell", "side"] vs) H := by
  obtain ⟨c, d, p, r, nw, m, w, n, k, rfl, ⟨kvs, sz, e1, _, _, _, e2, _, _, _, e3⟩, h1, h2, q⟩ := h
  push_cast [rd_law_place, ↓rd_law_place_1_ap]
  refine ⟨_, dS' e1 e2, ix_tpl e3 (n := 0) rfl rfl ?_⟩
  rw [sp_law_pick_ap]
  refine ⟨by decide, by decide, by omega, _, dS' e1 e2, ix_tpl e3 (n := 1) rfl rfl ?_⟩
  rw [sp_law_pick_ap]
  exact ⟨by decide, by decide, by omega, by decide, q⟩
theorem len_law_place (h : sp_law_place K a vs H Q E) : vs.length = 2 := by
  obtain ⟨_, _, _, _, _, _, _, _, _, rfl, _⟩ := h
  rfl
def TupKeep (H H' : Hp) : Prop := ∀ b xs, H b = some (.tup xs) → H' b = some (.tup xs)
theorem GoodV.keep {H H' : Hp} (k : TupKeep H H') : ∀ {n : Nat} {v : V}, GoodV n H v → GoodV n H' v
  | 0, _, h => h
  | _ + 1, .int _, _ => trivial
  | _ + 1, .non, _ => trivial
  | _ + 1, .str _, _ => trivial
  | n + 1, .ref p, ⟨xs, h1, h2, h3⟩ => ⟨xs, k _ _ h1, h2, fun v hv => (h3 v hv).keep k⟩
theorem GoodV.up {H : Hp} : ∀ {n : Nat} {v : V}, GoodV n H v → GoodV (n + 1) H v
  | 0, _, h => h.elim
  | _ + 1, .int _, _ => trivial
  | _ + 1, .non, _ => trivial
  | _ + 1, .str _, _ => trivial
  | n + 1, .ref p, ⟨xs, h1, h2, h3⟩ => ⟨xs, h1, h2, fun v hv => (h3 v hv).up⟩
theorem Same.tk {H H' : Hp} (s : Same H H') : TupKeep H H' := fun b xs e => s _ _ e
theorem SameBut.tk {F : Addr → Prop} {H H' : Hp} (s : SameBut F H H') (n : ∀ x, F x → Nice (H x)) : TupKeep H H' := fun b xs e => s _ _ e fun z => (n _ z).2.1 _ e
theorem good7.keep {H H' : Hp} {rows : List (List V)} (g : good7 H rows) (k : TupKeep H H') : good7 H' rows := fun r hr v hv => (g r hr v hv).keep k
theorem no_law_same (h : sp_law_same K a 0 vs H Q E) : False := by
  obtain ⟨x, y, _, h, _⟩ := h
  rcases h with ⟨_, h⟩ | ⟨_, _, _, m, h, _⟩
  · exact h
  · omega
theorem same_seq {n : Nat} {p p' : Addr} {xs : List V} (h1 : H p = some (.tup xs)) (h2 : H p' = some (.tup xs)) (hl : xs.length ≤ 2000) (hg : ∀ v ∈ xs, GoodV n H v) (q : ∀ H', Same H H' → Q (.bl true) H') :
    rd_law_same K a n (fun _ => E) (ends Q) (start ["found", "due", "one", "other"] [.ref p, .ref p']) H := by
  push_cast [rd_law_same, ↓rd_law_same_1_ap, ↓rd_law_same_2_ap, ↓rd_law_same_3_ap, ↓rd_law_same_4_ap, ↓rd_law_same_5_ap, ↓rd_law_same_6_ap, ↓rd_law_same_7_ap, ↓rd_law_same_8_ap, ↓rd_law_same_9_ap, ↓rd_law_same_10_ap, ↓rd_law_same_11_ap, ↓rd_law_same_12_ap]
  refine isinst_one (.inl (.tup h2)) (.ty _) (b := true) rfl ?_
  push_cast []
  refine isinst_one (.inl (.tup h1)) (.ty _) (b := true) rfl ?_
  push_cast []
  refine ⟨_, .inr ⟨_, SqT.of h1, rfl⟩, _, .inr ⟨_, SqT.of h2, rfl⟩, ?_⟩
  push_cast []
  push_cast [↓tFor_zip_ap]
  refine ⟨false, ⟨_, SqT.of h1⟩, false, ⟨_, SqT.of h2⟩, ?_⟩
  refine for_zipB rfl (fun i σ H' => Same H H' ∧ ∃ x y, σ = [some (.ref p), some (.ref p'), x, y]) ⟨Same.refl _, _, _, rfl⟩ (fun i σ H' _ ⟨s, _⟩ => ⟨show SqB K false H' p xs from SqT.of (s _ _ h1), show SqB K false H' p' xs from SqT.of (s _ _ h2)⟩) (fun i x y σ H' t hx hy ⟨s, u, v, e⟩ ht => ?_) (fun σ H' ⟨s, _⟩ => by push_cast [↓rd_law_same_1_ap, ↓rd_law_same_2_ap, ↓rd_law_same_3_ap, ↓rd_law_same_4_ap, ↓rd_law_same_5_ap, ↓rd_law_same_6_ap, ↓rd_law_same_7_ap, ↓rd_law_same_8_ap, ↓rd_law_same_9_ap, ↓rd_law_same_10_ap, ↓rd_law_same_11_ap, ↓rd_law_same_12_ap]; exact q _ s)
  rw [hx] at hy
  cases hy
  subst e
  push_cast []
  refine ⟨_, SqT.of upd_same, rfl, _, _, rfl, _, _, rfl, rfl, ?_⟩
  push_cast [↓rd_law_same_1_ap, ↓rd_law_same_2_ap, ↓rd_law_same_3_ap, ↓rd_law_same_4_ap, ↓rd_law_same_5_ap, ↓rd_law_same_6_ap, ↓rd_law_same_7_ap, ↓rd_law_same_8_ap, ↓rd_law_same_9_ap, ↓rd_law_same_10_ap, ↓rd_law_same_11_ap, ↓rd_law_same_12_ap]
  have s2 := s.trans (same_upd (o := .tup [x, x]) ht)
  refine ⟨x, x, rfl, .inl ⟨rfl, (hg x (List.mem_of_getElem? hx)).keep s2.tk⟩, fun H2 s3 => ?_⟩
  push_cast []
  exact s2.trans s3
theorem rdok_law_same {n : Nat} (h : sp_law_same K a (n + 1) vs H Q E) : rd_law_same K a n (fun _ => E) (ends Q) (start ["found", "due", "one", "other"] vs) H := by
  obtain ⟨x, y, rfl, h, q⟩ := h
  rcases h with ⟨rfl, h⟩ | ⟨p, p', xs, m, e, rfl, rfl, h1, h2, hl, hg⟩
  · cases x with
    | ref p =>
      obtain ⟨xs, h1, h2, h3⟩ := h
      exact same_seq h1 h1 (by omega) h3 q
    | int i =>
      push_cast [rd_law_same, ↓rd_law_same_1_ap, ↓rd_law_same_2_ap, ↓rd_law_same_3_ap, ↓rd_law_same_4_ap, ↓rd_law_same_5_ap, ↓rd_law_same_6_ap, ↓rd_law_same_7_ap, ↓rd_law_same_8_ap, ↓rd_law_same_9_ap, ↓rd_law_same_10_ap, ↓rd_law_same_11_ap, ↓rd_law_same_12_ap]
      refine isinst_one (.inl (.int i)) (.ty _) (b := false) rfl ?_
      push_cast []
      refine isinst_one (.inl (.int i)) (.ty _) (b := false) rfl ?_
      push_cast []
      refine isinst_one (.inl (.int i)) (.ty _) (b := true) rfl ?_
      push_cast []
      refine isinst_one (.inl (.int i)) (.ty _) (b := false) rfl ?_
      push_cast []
      exact q _ (Same.refl _)
    | non =>
      push_cast [rd_law_same, ↓rd_law_same_1_ap, ↓rd_law_same_2_ap, ↓rd_law_same_3_ap, ↓rd_law_same_4_ap, ↓rd_law_same_5_ap, ↓rd_law_same_6_ap, ↓rd_law_same_7_ap, ↓rd_law_same_8_ap, ↓rd_law_same_9_ap, ↓rd_law_same_10_ap, ↓rd_law_same_11_ap, ↓rd_law_same_12_ap]
      refine isinst_one (.inl .non) (.ty _) (b := false) rfl ?_
      push_cast []
      exact q _ (Same.refl _)
    | str z =>
      push_cast [rd_law_same, ↓rd_law_same_1_ap, ↓rd_law_same_2_ap, ↓rd_law_same_3_ap, ↓rd_law_same_4_ap, ↓rd_law_same_5_ap, ↓rd_law_same_6_ap, ↓rd_law_same_7_ap, ↓rd_law_same_8_ap, ↓rd_law_same_9_ap, ↓rd_law_same_10_ap, ↓rd_law_same_11_ap, ↓rd_law_same_12_ap]
      refine isinst_one (.inl (.str z)) (.ty _) (b := false) rfl ?_
      push_cast []
      refine isinst_one (.inl (.str z)) (.ty _) (b := true) rfl ?_
      push_cast []
      refine isinst_one (.inl (.str z)) (.ty _) (b := true) rfl ?_
      push_cast []
      exact q _ (Same.refl _)
    | _ => exact h.elim
  · cases e
    exact same_seq h1 h2 hl hg q
theorem len_law_same {n : Nat} (h : sp_law_same K a n vs H Q E) : vs.length = 2 := by
  obtain ⟨_, _, rfl, _⟩ := h
  rfl
theorem nice_bf {H : Hp} {x C dx gp m mi lt ou : Addr} (n : Nice (H x)) (e : H x = some (.ins C dx (bf gp m mi lt ou))) : False := by
  obtain ⟨cl, w, k, z⟩ := n.2.2 _ _ _ e
  simp [bf, pf] at z
theorem nice_chf {H : Hp} {x C dx pl nt : Addr} {v : V} (n : Nice (H x)) (e : H x = some (.ins C dx (chf pl v nt))) : False := by
  obtain ⟨cl, w, k, z⟩ := n.2.2 _ _ _ e
  simp [chf, pf] at z
theorem ChAt.sbN {D : Addr} {G : Addr → Prop} {H H' : Hp} (s : SameBut G H H') (g : ∀ x, G x → Nice (H x)) {x : Addr} {c : Ch} (h : ChAt D H x c) : ChAt D H' x c := by
  obtain ⟨dx, pl, nt, e1, e2, e3⟩ := h
  exact ⟨dx, pl, nt, s _ _ e1 fun z => nice_chf (g _ z) e1, s.tk g _ _ e2, s.tk g _ _ e3⟩
theorem BookIn.sbN {C D : Addr} {G : Addr → Prop} {H H' : Hp} {A : BA} {w : Nat} {cs : List Ch} {outs : Int → Bool} (B : BookIn C D H A w cs outs) (s : SameBut G H H') (g : ∀ x, G x → Nice (H x)) (f1 : ¬ G A.m) (f2 : ¬ G A.mi) (f3 : ∀ l ∈ A.ls, ¬ G l) (f4 : ¬ G A.lt) (f5 : ¬ G A.ou) : BookIn C D H' A w cs outs := by
  obtain ⟨⟨dx, e1⟩, ⟨chs, e2, e3⟩, e4, e5, e6, ⟨kvs, e7, e8⟩, ⟨kvo, e9, e10⟩, r1, r2, r3, r4, r5⟩ := B
  exact ⟨⟨dx, s _ _ e1 fun z => nice_bf (g _ z) e1⟩, ⟨chs, s _ _ e2 f1, Paired.mapP e3 fun x c h => h.sbN s g⟩, s _ _ e4 f2, fun i l h => s _ _ (e5 i l h) (f3 l (List.mem_of_getElem? h)), e6,
    ⟨kvs, s _ _ e7 f4, e8⟩, ⟨kvo, s _ _ e9 f5, e10⟩, r1, r2, r3, r4, r5⟩
theorem PlankAt.sbN {G : Addr → Prop} {H H' : Hp} {p cl : Addr} {w : Nat} {rows : List (List V)} {n : Nat} (P : PlankAt a H p cl w rows n) (s : SameBut G H H') (g : ∀ x, G x → Nice (H x)) (h1 : ¬ G p) (h2 : ¬ G cl) : PlankAt a H' p cl w rows n := by
  obtain ⟨⟨dx, e1⟩, ⟨ts, e2, e3⟩, r1, r2, r3⟩ := P
  exact ⟨⟨dx, s _ _ e1 h1⟩, ⟨ts, s _ _ e2 h2, Paired.mapP e3 fun t r q => s.tk g _ _ q⟩, r1, r2, r3⟩
theorem RowsIn.sb {B F : Addr → Prop} {H H' : Hp} {rl : Addr} {rows : List (List V)} (R : RowsIn B H rl rows) (s : SameBut F H H') (hr : ¬ F rl) (hF : ∀ x, F x → B x) : RowsIn B H' rl rows := by
  obtain ⟨rs, h1, h2⟩ := R
  exact ⟨rs, s _ _ h1 hr, Paired.mapP h2 fun l r ⟨e, n⟩ => ⟨s _ _ e fun z => n (hF _ z), n⟩⟩
theorem SideD.sb {G : Addr → Prop} {H H' : Hp} {d p r nw : Addr} {m w n c : Nat} (S : SideD H d p r nw m w n c) (s : SameBut G H H') (g : ∀ x, G x → Nice (H x)) (h : ¬ G d) : SideD H' d p r nw m w n c := by
  obtain ⟨kvs, sz, e1, e2, e3, e4, e5, e6, e7, e8, e9⟩ := S
  exact ⟨kvs, sz, s _ _ e1 h, e2, e3, e4, e5, e6, e7, e8, s.tk g _ _ e9⟩
theorem News.sb {G : Addr → Prop} {H H' : Hp} {nw : Addr} {cs : List Ch} (S : News H nw cs) (s : SameBut G H H') (g : ∀ x, G x → Nice (H x)) (h : ¬ G nw) : News H' nw cs := by
  obtain ⟨kvn, e1, e2, e3, e4⟩ := S
  refine ⟨kvn, s _ _ e1 h, e2, e3, fun i j k e => ?_⟩
  obtain ⟨t, c, z1, z2, z3⟩ := e4 i j k e
  exact ⟨t, c, z1, z2, s.tk g _ _ z3⟩
theorem UI.sb {B G : Addr → Prop} {H H' : Hp} {U : SU} {w : Nat} {rows : List (List V)} {n : Nat} {cs : List Ch} (I : UI a B H U w rows n cs) (s : SameBut G H H') (g : ∀ x, G x → Nice (H x)) (hB : ∀ x, G x → B x) (f : ∀ x, G x → ¬ U.F x) : UI a B H' U w rows n cs := by
  obtain ⟨⟨b1, b2, b3⟩, dd, rr, nn, gr, gc, ap, sz, ow⟩ := I
  have fA : ∀ {x}, U.A.F x → ¬ G x := fun h z => f _ z (.inl h)
  exact ⟨⟨b1.sbN s g (fA (.inl rfl)) (fA (.inr (.inl rfl))) (fun l hl => fA (.inr (.inr (.inl hl)))) (fA (.inr (.inr (.inr (.inl rfl))))) (fA (.inr (.inr (.inr (.inr (.inl rfl)))))), b2.sbN s g (fun z => f _ z (.inr (.inl rfl))) (fA (.inr (.inr (.inr (.inr (.inr rfl)))))), b3⟩,
    dd.sb s g fun z => f _ z (.inr (.inr (.inl rfl))), rr.sb s (fun z => f _ z (.inr (.inr (.inr (.inl rfl))))) hB, nn.sb s g fun z => f _ z (.inr (.inr (.inr (.inr rfl)))), gr.keep (s.tk g), fun c hc => (gc c hc).keep (s.tk g), ap, sz, ow⟩
theorem UI.same {B : Addr → Prop} {H H' : Hp} {U : SU} {w : Nat} {rows : List (List V)} {n : Nat} {cs : List Ch} (I : UI a B H U w rows n cs) (s : Same H H') : UI a B H' U w rows n cs :=
  I.sb (G := fun _ => False) (Same.sb s) (fun _ z => z.elim) (fun _ z => z.elim) fun _ z => z.elim
theorem nice_of {H : Hp} {x : Addr} {o : HO} (e : H x = some o) (h1 : ∀ xs, o ≠ .tup xs) (h2 : ∀ C dx fs, o ≠ .ins C dx fs) : Nice (H x) := by
  rw [e]
  exact ⟨by simp, fun xs z => h1 xs (Option.some.inj z), fun C dx fs z => absurd (Option.some.inj z) (h2 C dx fs)⟩
theorem nice_l {H : Hp} {x : Addr} {xs : List V} (e : H x = some (.lst xs)) : Nice (H x) := nice_of e (fun _ z => by cases z) fun _ _ _ z => by cases z
theorem nice_k {H : Hp} {x : Addr} {xs : List (Key × V)} (e : H x = some (.dK xs)) : Nice (H x) := nice_of e (fun _ z => by cases z) fun _ _ _ z => by cases z
theorem nice_t {H : Hp} {x : Addr} {xs : List (List Key × V)} (e : H x = some (.dT xs)) : Nice (H x) := nice_of e (fun _ z => by cases z) fun _ _ _ z => by cases z
theorem BookAt.niceF {A : BA} {C : Addr} {w : Nat} {rows : List (List V)} {n : Nat} {cs : List Ch} {outs : Int → Bool} (B : BookAt a C H A w rows n cs outs) {x : Addr} (h : A.F x) : Nice (H x) := by
  obtain ⟨⟨_, ⟨chs, e2, _⟩, e4, e5, _, ⟨kvs, e7, _⟩, ⟨kvo, e9, _⟩, _⟩, ⟨_, ⟨ts, e11, _⟩, _⟩, _⟩ := B
  rcases h with z | z | z | z | z | z
  · exact nice_l (z ▸ e2)
  · exact nice_l (z ▸ e4)
  · obtain ⟨i, e⟩ := mem_at z
    exact nice_l (e5 i x e)
  · exact nice_t (z ▸ e7)
  · exact nice_k (z ▸ e9)
  · exact nice_l (z ▸ e11)
theorem nice_p {H : Hp} {x C dx cl : Addr} {w n : Int} (e : H x = some (.ins C dx (pf cl w n))) : Nice (H x) := by
  rw [e]
  refine ⟨Option.some_ne_none _, fun xs z => ?_, fun C' dx' fs z => ?_⟩
  · cases z
  cases z
  exact ⟨_, _, _, rfl⟩
theorem UI.nice {B : Addr → Prop} {H : Hp} {U : SU} {w : Nat} {rows : List (List V)} {n : Nat} {cs : List Ch} (I : UI a B H U w rows n cs) {x : Addr} (h : U.F x) : Nice (H x) := by
  rcases h with z | rfl | rfl | rfl | rfl
  · exact I.bk.niceF z
  · obtain ⟨dx, e⟩ := I.bk.pk.ob
    exact nice_p e
  · obtain ⟨kvs, sz, e, _⟩ := I.dd
    exact nice_k e
  · obtain ⟨rs, e, _⟩ := I.rr
    exact nice_l e
  · obtain ⟨kvn, e, _⟩ := I.nn
    exact nice_t e
theorem rows_atI {B : Addr → Prop} {H : Hp} {rl : Addr} {rows : List (List V)} {i : Nat} {r : List V} {b : Int} {Q : VK} (R : RowsIn B H rl rows) (e : rows[i]? = some r) (hb : b = i) (q : ∀ l, H l = some (.lst r) → ¬ B l → Q (.ref l) H) : rIxA K (.ref rl) (.int b) H Q := by
  obtain ⟨rs, h1, h2⟩ := R
  obtain ⟨l, e1, e2, e3⟩ := paired_at h2 e
  exact ix_sq (SqL.of h1) hb (by rw [List.getElem?_map, e1]; rfl) (q l e2 e3)
theorem good_opt {H : Hp} (o : Option Nat) : GoodV 8 H (optV o) := by
  cases o <;> trivial
theorem tail_looks {B : Addr → Prop} {U : SU} {w : Nat} {rows : List (List V)} {n : Nat} {cs : List Ch} {pl : Addr} {i j : Int} {v : V} {D : Ends} (T : TB K a) (TP : TPlank K a) (I : UI a B H U w rows n cs) (hp : H pl = some (.tup [.int i, .int j])) (on : onPl rows w i j) (hv : inHand cs rows i j = some v) (g : GoodV 7 H v) (q : ∀ H', Same H H' → D.rt (.bl true) H') :
    rd_law_looks_5 K a (fun _ => E) (fun _ => E) D [some (.ref U.A.b), some (.ref U.d), some (.ref pl), some v, some (optV (newestOf cs i j))] H := by
  push_cast [↓rd_law_looks_5_ap]
  obtain ⟨dx, ho⟩ := I.bk.bk.ob
  refine ⟨_, _, ho, bf_no (by decide +kernel), U.A, w, rows, n, cs, _, pl, i, j, rfl, T, TP, I.bk, hp, fun _ v' H1 hv' s1 => ?_, fun z => absurd on z⟩
  rw [hv] at hv'
  cases hv'
  refine ⟨v, v, rfl, .inl ⟨rfl, (g.keep s1.tk).up⟩, fun H2 s2 => ⟨true, rfl, ?_⟩⟩
  have s := s1.trans s2
  rw [if_pos rfl]
  refine ⟨_, _, s _ _ ho, bf_no (by decide +kernel), U.A, w, rows, n, cs, _, pl, i, j, rfl, T, TP, (I.same s).bk, s _ _ hp, fun _ => ?_, fun z => absurd on z⟩
  exact ⟨_, _, rfl, .inl ⟨rfl, good_opt _⟩, fun H3 s3 => q _ (s.trans s3)⟩
theorem rdok_law_looks (h : sp_law_looks K a vs H Q E) : rd_law_looks K a (fun _ => E) (ends Q) (start ["book", "side", "place", "due", "number"] vs) H := by
  obtain ⟨B, U, w, rows, n, cs, pl, i, j, rfl, T, TP, I, hp, on, q⟩ := h
  obtain ⟨kvs, sz, d1, d2, d3, d4, d5, d6, d7, d8, d9⟩ := I.dd
  obtain ⟨kvn, e1, e2, e3, e4⟩ := I.nn
  push_cast [rd_law_looks, ↓rd_law_looks_1_ap, ↓rd_law_looks_2_ap, ↓rd_law_looks_3_ap, ↓rd_law_looks_4_ap]
  have hi : i.toNat < rows.length := by have := on; omega
  have er := List.getElem?_eq_getElem hi
  have rl := I.bk.pk.wd _ (List.mem_of_getElem? er)
  have hj : j.toNat < rows[i.toNat].length := by have := on; omega
  have ec := List.getElem?_eq_getElem hj
  refine ⟨_, dS' d1 d4, ix_tpl hp (n := 0) rfl rfl (rows_atI I.rr er (by have := on; omega) fun l hl _ => ix_tpl hp (n := 1) rfl rfl (ix_sq (SqL.of hl) (n := j.toNat) (by have := on; omega) ec ?_))⟩
  refine ⟨_, dS' d1 d7, _, rfl, _, dT2 e1 hp, ?_⟩
  cases en : newestOf cs i j with
  | none =>
    rw [e3 i j en]
    push_cast []
    have := tail_looks (E := E) (D := ends Q) T TP I hp on (v := rows[i.toNat][j.toNat]) (by unfold inHand; rw [en]; show (rows[i.toNat]?).bind _ = _; rw [er]; exact ec) (I.gr _ (List.mem_of_getElem? er) _ (List.mem_of_getElem? ec)) q
    rw [en] at this
    exact this
  | some k =>
    obtain ⟨t, c, z1, z2, z3⟩ := e4 i j k en
    rw [z2]
    push_cast []
    refine ⟨_, dS' d1 d7, _, rfl, _, dT2' e1 hp z2, _, rfl, _, SqT.of z3, rfl, ?_⟩
    refine ⟨_, _, rfl, _, _, rfl, rfl, ?_⟩
    have := tail_looks (E := E) (D := ends Q) T TP I hp on (v := c.val) (by unfold inHand; rw [en]; show (cs[k]?).map _ = _; rw [z1]; rfl) (I.gc _ (List.mem_of_getElem? z1)) q
    rw [en] at this
    push_cast []
    exact this
theorem len_law_looks (h : sp_law_looks K a vs H Q E) : vs.length = 3 := by
  obtain ⟨_, _, _, _, _, _, _, _, _, rfl, _⟩ := h
  rfl
theorem rdok_law_stays (h : sp_law_stays K a vs H Q E) : rd_law_stays K a (fun _ => E) (ends Q) (start ["book", "side", "block"] vs) H := by
  obtain ⟨B, U, w, rows, n, cs, rfl, T, TP, I, q⟩ := h
  obtain ⟨kvs, sz, d1, d2, d3, d4, d5, d6, d7, d8, d9⟩ := I.dd
  obtain ⟨dx, ho⟩ := I.bk.bk.ob
  obtain ⟨dp, hg⟩ := I.bk.pk.ob
  push_cast [rd_law_stays, ↓rd_law_stays_2_ap]
  refine ⟨_, _, ho, bf_no (by decide +kernel), U.A, w, rows, n, cs, _, rfl, T, I.bk, fun l H1 hl s1 el => ⟨_, dS' (s1 _ _ d1) d8, _, rfl, by have := I.bk.bk.sz; omega, fun p hp => ?_⟩⟩
  rw [wait_all] at el
  have s2 := s1.trans (same_upd (o := .lst (ups cs.length)) hp)
  have el2 := same_upd (o := .lst (ups cs.length)) hp _ _ el
  refine ne_same (SqL.of el2) (SqL.of upd_same) (fun v hv => ?_) ?_
  · obtain ⟨k, _, rfl⟩ := List.mem_map.mp hv
    rfl
  revert s2
  generalize upd H1 p (.lst (ups cs.length)) = H2
  intro s2
  push_cast [↓rd_law_stays_5_ap]
  refine ⟨_, dS' (s2 _ _ d1) d5, ix_tpl (s2 _ _ d9) (n := 0) rfl rfl ?_⟩
  have hsz := I.bk.pk.sz
  push_cast []
  refine ⟨by omega, by omega, ?_⟩
  refine for_rangeB (fun i σ H' => Same H H' ∧ ∃ z, σ = [some (.ref U.A.b), some (.ref U.d), z]) ⟨s2, _, rfl⟩ (fun i σ H' hi ⟨s, z, ez⟩ => ?_) (fun σ H' ⟨s, z, ez⟩ => ?_)
  · subst ez
    push_cast [↓rd_law_stays_4_ap, ↓rd_law_stays_3_ap]
    have hi' : i < rows.length := by omega
    have er := List.getElem?_eq_getElem hi'
    have I2 := I.same s
    refine ⟨_, dS' (s _ _ d1) d3, _, rfl, _, _, s _ _ hg, no_read _ _ _, ?_⟩
    refine ⟨U.A.gp, U.A.cl, w, rows, n, _, rfl, TP, I2.bk.pk, fun i' row ei er' l2 hl2 => ?_, fun z => by omega⟩
    have : i' = i := by omega
    subst this
    rw [er] at er'
    cases er'
    have sl := same_upd (o := .lst rows[i']) hl2
    refine ⟨_, _, rfl, .inl ⟨SqL.of upd_same, fun t1 ht1 => ?_⟩⟩
    have st1 := same_upd (o := .tup rows[i']) ht1
    have s3 := s.trans (sl.trans st1)
    have et1 : upd (upd H' l2 (.lst rows[i'])) t1 (.tup rows[i']) t1 = some (.tup rows[i']) := upd_same
    revert s3 et1
    generalize upd (upd H' l2 (.lst rows[i'])) t1 (.tup rows[i']) = H4
    intro s3 et1
    have I4 := I.same s3
    refine ⟨_, dS' (s3 _ _ d1) d4, rows_atI I4.rr er (by omega) fun l3 hl3 _ => ?_⟩
    refine ⟨_, _, rfl, .inl ⟨SqL.of hl3, fun t2 ht2 => ?_⟩⟩
    have st2 := same_upd (o := .tup rows[i']) ht2
    have rl := I.bk.pk.wd _ (List.mem_of_getElem? er)
    have hw := I.sz.2.2
    refine ⟨_, _, rfl, .inr ⟨t1, t2, _, 7, rfl, rfl, rfl, st2 _ _ et1, upd_same, by omega, fun v hv => (I.gr _ (List.mem_of_getElem? er) v hv).keep (s3.trans st2).tk⟩, fun H5 s5 => ?_⟩
    push_cast []
    exact (s3.trans st2).trans s5
  · subst ez
    push_cast [↓rd_law_stays_6_ap]
    refine ⟨_, dS' (s _ _ d1) d3, _, rfl, _, _, s _ _ hg, no_writings _ _ _, U.A.gp, U.A.cl, w, rows, n, rfl, TP, (I.same s).bk.pk, _, dS' (s _ _ d1) d6, ?_⟩
    push_cast []
    exact q _ s
theorem len_law_stays (h : sp_law_stays K a vs H Q E) : vs.length = 2 := by
  obtain ⟨_, _, _, _, _, _, rfl, _⟩ := h
  rfl
theorem rdok_law_both (h : sp_law_both K a vs H Q E) : rd_law_both K a (fun _ => E) (ends Q) (start ["books", "sides", "places", "turn", "k", "at"] vs) H := by
  obtain ⟨B, U, U', w, rows, n, cs, w', rows', n', cs', bl, sl, pl, p0, p1, p2, p3, t, rfl, T, TP, I, I', hb, hs, hp, s0, s1, s2, s3, h0, q⟩ := h
  push_cast [rd_law_both, ↓rd_law_both_4_ap]
  refine ⟨by decide, by decide, ?_⟩
  refine for_rangeB (fun i σ H' => Same H H' ∧ ∃ z z2, σ = [some (.ref bl), some (.ref sl), some (.ref pl), some (.int t), z, z2]) ⟨Same.refl _, _, _, rfl⟩ (fun i σ H' hi ⟨s, z, z2, ez⟩ => ?_) (fun σ H' ⟨s, z, z2, ez⟩ => ?_)
  · subst ez
    push_cast [↓rd_law_both_1_ap, ↓rd_law_both_2_ap, ↓rd_law_both_3_ap]
    have one : ∀ {V : SU} {w : Nat} {rows : List (List _root_.L2.V)} {n : Nat} {cs : List Ch} {p : Addr} {QQ : VK}, UI a B H V w rows n cs → Spot H p rows w → (∀ H2, Same H H2 → QQ (.bl true) H2) → sp_law_looks K a [.ref V.A.b, .ref V.d, .ref p] H' QQ E := fun {V w rows n cs p QQ} J ⟨i1, j1, e, on⟩ qq => ⟨B, V, w, rows, n, cs, p, i1, j1, rfl, T, TP, J.same s, s _ _ e, on, fun H2 t2 => qq _ (s.trans t2)⟩
    have hm : ((0 : Int) + i + t) % 4 = 0 ∨ ((0 : Int) + i + t) % 4 = 1 ∨ ((0 : Int) + i + t) % 4 = 2 ∨ ((0 : Int) + i + t) % 4 = 3 := by omega
    rcases hm with e | e | e | e
    · rw [e]
      refine ix_sq (SqL.of (s _ _ hb)) (n := 0) rfl rfl (ix_sq (SqL.of (s _ _ hs)) (n := 0) rfl rfl (ix_sq (SqL.of (s _ _ hp)) (n := 0) rfl rfl (one I s0 fun H2 t2 => ?_)))
      push_cast []
      exact t2
    · rw [e]
      refine ix_sq (SqL.of (s _ _ hb)) (n := 1) rfl rfl (ix_sq (SqL.of (s _ _ hs)) (n := 1) rfl rfl (ix_sq (SqL.of (s _ _ hp)) (n := 1) rfl rfl (one I' s1 fun H2 t2 => ?_)))
      push_cast []
      exact t2
    · rw [e]
      refine ix_sq (SqL.of (s _ _ hb)) (n := 0) rfl rfl (ix_sq (SqL.of (s _ _ hs)) (n := 0) rfl rfl (ix_sq (SqL.of (s _ _ hp)) (n := 2) rfl rfl (one I s2 fun H2 t2 => ?_)))
      push_cast []
      exact t2
    · rw [e]
      refine ix_sq (SqL.of (s _ _ hb)) (n := 1) rfl rfl (ix_sq (SqL.of (s _ _ hs)) (n := 1) rfl rfl (ix_sq (SqL.of (s _ _ hp)) (n := 3) rfl rfl (one I' s3 fun H2 t2 => ?_)))
      push_cast []
      exact t2
  · subst ez
    push_cast [↓rd_law_both_5_ap]
    exact q _ s
theorem len_law_both (h : sp_law_both K a vs H Q E) : vs.length = 4 := by
  obtain ⟨_, _, _, _, _, _, _, _, _, _, _, _, _, _, _, _, _, _, _, rfl, _⟩ := h
  rfl
theorem ixNn {n b : Nat} (h : b < n) : ixN n (b : Int) = some b := by
  unfold ixN
  rw [if_pos (by omega), if_pos (by omega)]; simp
theorem Nice.on {H H' : Hp} {x : Addr} (n : Nice (H x)) (k : ∀ o, H x = some o → H' x = some o) : Nice (H' x) := by
  cases e : H x with
  | none => exact absurd e n.1
  | some o => rw [k o e, ← e]; exact n
theorem Nice.same {H H' : Hp} {x : Addr} (n : Nice (H x)) (s : Same H H') : Nice (H' x) := n.on fun o e => s _ _ e
theorem nice_off {B : Addr → Prop} {H : Hp} {x : Addr} (nb : ∀ x, B x → Nice (H x)) (e : H x = none) : ¬ B x := fun b => (nb x b).1 e
theorem RowsIn.put {B : Addr → Prop} {H : Hp} {rl l : Addr} {rs : List Addr} {rows : List (List V)} {xs : List V} {b : Nat} (P : Paired (fun l r => H l = some (.lst r) ∧ ¬ B l) rs rows) (hB : B rl) (hl : H l = some (.lst xs)) (nl : ¬ B l) : RowsIn B (upd H rl (.lst ((rs.map V.ref).set b (.ref l)))) rl (rows.set b xs) := by
  refine ⟨rs.set b l, by rw [upd_same, List.map_set], paired_set ?_ b (Paired.mapP P fun x r z => ⟨?_, z.2⟩)⟩
  · exact ⟨by rw [upd_ne (show l ≠ rl from fun z => nl (z ▸ hB))]; exact hl, nl⟩
  · rw [upd_ne (show x ≠ rl from fun e => z.2 (e ▸ hB))]; exact z.1
theorem SideD.put {H : Hp} {d p r nw : Addr} {m w n c : Nat} {sz : Addr} {kvs : List (Key × V)} (e1 : H d = some (.dK kvs)) (e2 : kvs.length ≤ 6 + n + c) (e3 : valV kvs (.inr "plank") = some (.ref p)) (e4 : valV kvs (.inr "rows") = some (.ref r)) (e5 : valV kvs (.inr "size") = some (.ref sz)) (e6 : valV kvs (.inr "many") = some (.int n)) (e7 : valV kvs (.inr "news") = some (.ref nw)) (e8 : valV kvs (.inr "count") = some (.int c)) (e9 : H sz = some (.tup [.int m, .int w])) :
    SideD (upd H d (.dK (putK kvs (.inr "many") (.int (n + 1 : Nat))))) d p r nw m w (n + 1) c ∧ SideD (upd H d (.dK (putK kvs (.inr "count") (.int (c + 1 : Nat))))) d p r nw m w n (c + 1) := by
  have nsz : sz ≠ d := ne_of e9 e1 (by intro z; cases z)
  refine ⟨⟨_, sz, upd_same, ?_, ?_, ?_, ?_, ?_, ?_, ?_, by rw [upd_ne nsz]; exact e9⟩, ⟨_, sz, upd_same, ?_, ?_, ?_, ?_, ?_, ?_, ?_, by rw [upd_ne nsz]; exact e9⟩⟩
  · have := length_putK kvs (.inr "many") (.int (n + 1 : Nat)); omega
  · rw [valV_put, if_neg (by decide +kernel)]; exact e3
  · rw [valV_put, if_neg (by decide +kernel)]; exact e4
  · rw [valV_put, if_neg (by decide +kernel)]; exact e5
  · rw [valV_put, if_pos rfl]
  · rw [valV_put, if_neg (by decide +kernel)]; exact e7
  · rw [valV_put, if_neg (by decide +kernel)]; exact e8
  · have := length_putK kvs (.inr "count") (.int (c + 1 : Nat)); omega
  · rw [valV_put, if_neg (by decide +kernel)]; exact e3
  · rw [valV_put, if_neg (by decide +kernel)]; exact e4
  · rw [valV_put, if_neg (by decide +kernel)]; exact e5
  · rw [valV_put, if_neg (by decide +kernel)]; exact e6
  · rw [valV_put, if_neg (by decide +kernel)]; exact e7
  · rw [valV_put, if_pos rfl]
theorem len_law_rewritten (h : sp_law_rewritten K a vs H Q E) : vs.length = 2 := by
  obtain ⟨_, _, _, _, _, _, _, rfl, _⟩ := h
  rfl
theorem rdok_law_rewritten (h : sp_law_rewritten K a vs H Q E) : rd_law_rewritten K a (fun _ => E) (ends Q) (start ["side", "cell", "block"] vs) H := by
  obtain ⟨B, U, w, rows, n, cs, c, rfl, TP, I0, nb0, hc, hn, q⟩ := h
  have hm := I0.sz
  have p0 := pick_nn (c := c) (p := 10177) (m := (rows.length : Int)) (by omega)
  have p1 := pick_lt (c := c) (p := 10177) (m := (rows.length : Int)) (by omega)
  obtain ⟨b, hb, hbl⟩ : ∃ b : Nat, pick c 10177 rows.length = b ∧ b < rows.length := ⟨(pick c 10177 rows.length).toNat, by omega, by omega⟩
  obtain ⟨kvs, sz, d1, d2, d3, d4, d5, d6, d7, d8, d9⟩ := I0.dd
  push_cast [rd_law_rewritten, ↓rd_law_rewritten_1_ap, ↓rd_law_rewritten_2_ap, ↓rd_law_rewritten_3_ap, ↓rd_law_rewritten_4_ap]
  refine ⟨_, dS' d1 d5, ix_tpl d9 (n := 0) rfl rfl ?_⟩
  rw [sp_law_pick_ap, hb]
  refine ⟨by decide, by decide, by omega, _, dS' d1 d5, ix_tpl d9 (n := 1) rfl rfl ?_⟩
  push_cast []
  refine ⟨by omega, by omega, ?_⟩
  refine comp_range (small w (by omega)) (fun i ys H' => Same H H' ∧ ∀ v ∈ ys, GoodV 7 H' v) ⟨Same.refl _, by simp⟩ (fun i ys H' hi _ ⟨s, gy⟩ => ?_) (fun ys H1 hlen ⟨s1, gy⟩ l hl => ?_)
  · push_cast [capV, Option.join_some, Int.zero_add]
    refine ⟨.inr ⟨by decide, by decide⟩, .inl ⟨by omega, by omega⟩, _, rfl, fun v H2 s2 gv => ⟨s.trans s2, fun u hu => ?_⟩⟩
    rcases List.mem_append.mp hu with hu | hu
    · exact (gy u hu).keep s2.tk
    · rw [List.mem_singleton.mp hu]; exact gv
  have I := I0.same s1
  have nb : ∀ x, B x → Nice (H1 x) := fun x hx => (nb0 x hx).same s1
  obtain ⟨rs, hr, pr⟩ := I.rr
  obtain ⟨dp, hg⟩ := I.bk.pk.ob
  obtain ⟨ts, hcl, _⟩ := I.bk.pk.ls
  have d1' := s1 _ _ d1
  have d9' := s1 _ _ d9
  have bR := I.ow _ (.inr (.inr (.inr (.inl rfl))))
  have bD := I.ow _ (.inr (.inr (.inl rfl)))
  have bG := I.ow _ (.inr (.inl rfl))
  have bC := I.ow _ (.inl (.inr (.inr (.inr (.inr (.inr rfl))))))
  have nl : ¬ B l := nice_off nb hl
  have nrd : U.r ≠ U.d := ne_of hr d1' (by intro z; cases z)
  have ngr : U.A.gp ≠ U.r := ne_of hg hr (by intro z; cases z)
  have ngd : U.A.gp ≠ U.d := ne_of hg d1' (by intro z; cases z)
  have ncr : U.A.cl ≠ U.r := fun z => I.ap.2.1 (z ▸ .inr (.inr (.inr (.inr (.inr rfl)))))
  have ncd : U.A.cl ≠ U.d := ne_of hcl d1' (by intro z; cases z)
  have hrl : rs.length = rows.length := pr.length
  have sl := same_upd (o := .lst ys) hl
  have el : upd H1 l (.lst ys) l = some (.lst ys) := upd_same
  have pr2 := Paired.mapP pr fun x r z => (⟨sl _ _ z.1, z.2⟩ : upd H1 l (.lst ys) x = some (.lst r) ∧ ¬ B x)
  revert sl el pr2
  generalize upd H1 l (.lst ys) = H2
  intro sl el pr2
  refine ⟨_, dS' (sl _ _ d1') d4, U.r, _, _, _, rfl, rfl, sl _ _ hr, ixNn (by rw [List.length_map, hrl]; exact hbl), ?_⟩
  have R3 := RowsIn.put (b := b) pr2 bR el nl
  have sb3 : SameBut (fun x => x = U.A.gp ∨ x = U.A.cl ∨ x = U.r ∨ x = U.d) H1 (upd H2 U.r (.lst ((rs.map V.ref).set b (.ref l)))) := (Same.sb sl).upd (.inl (.inr (.inr (.inl rfl))))
  have d13 : upd H2 U.r (.lst ((rs.map V.ref).set b (.ref l))) U.d = some (.dK kvs) := by rw [upd_ne nrd.symm]; exact sl _ _ d1'
  have g3 : upd H2 U.r (.lst ((rs.map V.ref).set b (.ref l))) U.A.gp = some (.ins (a "Plank") dp (pf U.A.cl w n)) := by rw [upd_ne ngr]; exact sl _ _ hg
  have c3 : upd H2 U.r (.lst ((rs.map V.ref).set b (.ref l))) U.A.cl = some (.lst (ts.map V.ref)) := by rw [upd_ne ncr]; exact sl _ _ hcl
  have P3 : PlankAt a (upd H2 U.r (.lst ((rs.map V.ref).set b (.ref l)))) U.A.gp U.A.cl w rows n := (I.bk.pk.same sl).sbN (G := (· = U.r)) (fun y o e n => by rw [upd_ne n]; exact e) (fun x e => by subst e; exact nice_l (sl _ _ hr)) ngr ncr
  revert R3 sb3 d13 g3 c3 P3
  generalize upd H2 U.r (.lst ((rs.map V.ref).set b (.ref l))) = H3
  intro R3 sb3 d13 g3 c3 P3
  refine ⟨_, dS' d13 d3, _, rfl, _, _, g3, no_write _ _ _, _, dS' d13 d4, rows_atI R3 (i := b) (r := ys) (by rw [List.getElem?_set_self hbl]) rfl fun l' hl' _ => ⟨_, _, rfl, .inl (SqL.of hl'), fun l2 hl2 => ?_⟩⟩
  have s4 := same_upd (o := .lst ys) hl2
  have el2 : upd H3 l2 (.lst ys) l2 = some (.lst ys) := upd_same
  revert s4 el2
  generalize upd H3 l2 (.lst ys) = H4
  intro s4 el2
  refine ⟨U.A.gp, U.A.cl, w, rows, n, (b : Int), l2, ys, rfl, TP, P3.same s4, SqL.of el2, by omega, fun b' eb hb' hyl H5 P5 s5 => ?_, fun z => by omega⟩
  obtain rfl : b = b' := by omega
  have sb4 := sb3.trans (Same.sb s4)
  have sb5 : SameBut (fun x => x = U.A.gp ∨ x = U.A.cl ∨ x = U.r ∨ x = U.d) H1 H5 := sb4.trans (s5.wide fun x z => z.elim .inl fun z => .inr (.inl z))
  have d15 : H5 U.d = some (.dK kvs) := s5 _ _ (s4 _ _ d13) fun z => z.elim (fun z => ngd z.symm) fun z => ncd z.symm
  have n4 : ∀ x, (x = U.A.gp ∨ x = U.A.cl) → Nice (H4 x) := fun x z => by
    rcases z with rfl | rfl
    · exact nice_p (s4 _ _ g3)
    · exact nice_l (s4 _ _ c3)
  have R5 : RowsIn B H5 U.r (rows.set b ys) := (R3.sb (F := fun _ => False) (Same.sb s4) id fun _ z => z.elim).sb s5 (fun z => z.elim (fun z => ngr z.symm) fun z => ncr z.symm) fun x z => z.elim (fun z => z ▸ bG) fun z => z ▸ bC
  refine ⟨_, dS' d15 d6, ?_⟩
  push_cast []
  refine ⟨_, pS d15 (by omega), ?_⟩
  have gG : ∀ x, (x = U.A.gp ∨ x = U.A.cl ∨ x = U.r ∨ x = U.d) → Nice (H1 x) := fun x z => nb x (by rcases z with rfl | rfl | rfl | rfl <;> assumption)
  have hsz5 : H5 sz = some (.tup [.int rows.length, .int w]) := sb5.tk gG _ _ d9'
  have S6 := (SideD.put d15 d2 d3 d4 d5 d6 d7 d8 hsz5).1
  rw [show ((n + 1 : Nat) : Int) = (n : Int) + 1 from by omega] at S6
  have sb6 := sb5.upd (p := U.d) (o := .dK (putK kvs (.inr "many") (.int ((n : Int) + 1)))) (.inl (.inr (.inr (.inr rfl))))
  have R6 := R5.sb (F := (· = U.d)) (H' := upd H5 U.d (.dK (putK kvs (.inr "many") (.int ((n : Int) + 1))))) (fun y o e n => by rw [upd_ne n]; exact e) nrd fun x z => z ▸ bD
  have P6 := P5.sbN (G := (· = U.d)) (H' := upd H5 U.d (.dK (putK kvs (.inr "many") (.int ((n : Int) + 1))))) (fun y o e n => by rw [upd_ne n]; exact e) (fun x e => by subst e; exact nice_k d15) ngd ncd
  revert S6 sb6 R6 P6
  generalize upd H5 U.d (.dK (putK kvs (.inr "many") (.int ((n : Int) + 1)))) = H6
  intro S6 sb6 R6 P6
  have tk := sb6.tk gG
  have notG : ∀ {x : Addr}, x ≠ U.A.gp → x ≠ U.A.cl → x ≠ U.r → x ≠ U.d → ¬ (x = U.A.gp ∨ x = U.A.cl ∨ x = U.r ∨ x = U.d) := fun h1 h2 h3 h4 z => by
    rcases z with z | z | z | z
    · exact h1 z
    · exact h2 z
    · exact h3 z
    · exact h4 z
  have inA : ∀ {x : Addr}, U.A.F x → x ≠ U.A.cl → x ≠ U.A.gp → ¬ (x = U.A.gp ∨ x = U.A.cl ∨ x = U.r ∨ x = U.d) := fun h1 h2 h3 => notG h3 h2 (fun z => I.ap.2.1 (z ▸ h1)) fun z => I.ap.1 (z ▸ h1)
  obtain ⟨chs, em, _⟩ := I.bk.bk.made
  obtain ⟨kl, et, _⟩ := I.bk.bk.lat
  obtain ⟨ko, eo, _⟩ := I.bk.bk.out
  obtain ⟨a1, a2, a3, a4, a5, a6⟩ := I.bk.bk.ap
  have lv : ∀ l ∈ U.A.ls, ∃ xs, H1 l = some (.lst xs) := fun l hl => by
    obtain ⟨i, e⟩ := mem_at hl
    exact ⟨_, I.bk.bk.mic i l e⟩
  have B6 : BookIn (bkC a) (a "Change") H6 U.A w cs (fun _ => false) := I.bk.bk.sbN sb6 gG (inA (.inl rfl) a4.symm (ne_of em hg (by intro z; cases z))) (inA (.inr (.inl rfl)) a5.symm (ne_of I.bk.bk.mil hg (by intro z; cases z)))
    (fun l hl => inA (.inr (.inr (.inl hl))) (fun z => a6 (z ▸ hl)) (by obtain ⟨xs, e⟩ := lv l hl; exact ne_of e hg (by intro z; cases z))) (inA (.inr (.inr (.inr (.inl rfl)))) (ne_of et hcl (by intro z; cases z)) (ne_of et hg (by intro z; cases z))) (inA (.inr (.inr (.inr (.inr (.inl rfl))))) (ne_of eo hcl (by intro z; cases z)) (ne_of eo hg (by intro z; cases z)))
  have hlen' : (rows.set b ys).length = rows.length := List.length_set
  obtain ⟨kvn, en, _⟩ := I.nn
  refine q (rows.set b ys) H6 hlen' ⟨⟨B6, P6, by rw [hlen']; exact I.bk.nb⟩, by rw [hlen']; exact S6, R6, I.nn.sb sb6 gG (notG (ne_of en hg (by intro z; cases z)) (ne_of en hcl (by intro z; cases z)) (ne_of en hr (by intro z; cases z)) (ne_of en d1' (by intro z; cases z))), fun r hr' v hv => ?_, fun c hc => (I.gc c hc).keep tk, I.ap, by rw [hlen']; exact hm, I.ow⟩ ((Same.sb s1).trans (sb6.wide fun x z => ?_))
  · rcases List.mem_or_eq_of_mem_set hr' with z | z
    · exact (I.gr r z v hv).keep tk
    · subst z
      exact (gy v hv).keep tk
  · rcases z with z | z | z | z
    · exact .inr (.inl z)
    · exact .inl (.inr (.inr (.inr (.inr (.inr z)))))
    · exact .inr (.inr (.inr (.inl z)))
    · exact .inr (.inr (.inl z))
theorem rdok_law_changed (h : sp_law_changed K a vs H Q E) : rd_law_changed K a (fun _ => E) (ends Q) (start ["book", "side", "place", "cell", "value", "many", "needs", "told"] vs) H := by
  obtain ⟨B, U, w, rows, n, cs, pl, i, j, c, rfl, T, TP, I0, nb0, hp0, on, hc, hn, q⟩ := h
  obtain ⟨kvs, sz, d1, d2, d3, d4, d5, d6, d7, d8, d9⟩ := I0.dd
  push_cast [rd_law_changed, ↓rd_law_changed_1_ap, ↓rd_law_changed_2_ap, ↓sp_law_pick_ap]
  refine ⟨c, rfl, fun v H1 s1 gv => ⟨_, dS' (s1 _ _ d1) d8, ?_⟩⟩
  push_cast [↓rd_law_changed_3_ap]
  have p0 := pick_nn (c := c) (p := 10151) (m := 3) (by decide)
  have p1 := pick_lt (c := c) (p := 10151) (m := 3) (by decide)
  obtain ⟨N, eN, hN, hN0⟩ : ∃ N : Nat, (pick c 10151 3 * if 0 < (cs.length : Int) then 1 else 0) = N ∧ N ≤ 2 ∧ (0 < N → 0 < cs.length) := by
    split
    · exact ⟨(pick c 10151 3).toNat, by omega, by omega, fun _ => by omega⟩
    · exact ⟨0, by omega, by omega, fun z => by omega⟩
  rw [eN]
  refine ⟨.inl ⟨by omega, by omega⟩, by omega, by omega, ?_⟩
  refine comp_range (small _ (by omega)) (fun i ys H' => H' = H1 ∧ ∃ ns : List Int, ys = ns.map V.int ∧ ∀ x ∈ ns, 0 ≤ x ∧ x < (cs.length : Int)) ⟨rfl, [], rfl, by simp⟩ (fun i ys H' hi _ ⟨e, ns, ey, hns⟩ => ?_) (fun ys H' hlen ⟨e, ns, ey, hns⟩ l hl => ?_)
  · subst e
    push_cast [capV]
    have h0 : 0 < cs.length := hN0 (by omega)
    refine ⟨_, dS' (s1 _ _ d1) d8, ?_⟩
    rw [sp_law_pick_ap]
    refine ⟨by decide, by decide, by omega, rfl, ns ++ [_], by rw [ey, List.map_append]; rfl, fun x hx => ?_⟩
    rcases List.mem_append.mp hx with hx | hx
    · exact hns x hx
    · rw [List.mem_singleton.mp hx]; exact ⟨pick_nn (by omega), pick_lt (by omega)⟩
  subst e; subst ey
  rw [List.length_map] at hlen
  have I := I0.same s1
  have nb : ∀ x, B x → Nice (H' x) := fun x hx => (nb0 x hx).same s1
  have hp := s1 _ _ hp0
  have nl : ¬ B l := nice_off nb hl
  have fl : ¬ U.A.F l := fun z => nl (I.ow _ (.inl z))
  have sl := same_upd (o := .lst (ns.map V.int)) hl
  have el : upd H' l (.lst (ns.map V.int)) l = some (.lst (ns.map V.int)) := upd_same
  revert sl el
  generalize upd H' l (.lst (ns.map V.int)) = H2
  intro sl el
  obtain ⟨dx, ho⟩ := I.bk.bk.ob
  push_cast [↓rd_law_changed_4_ap]
  refine ⟨_, _, sl _ _ ho, bf_no (by decide +kernel), U.A, w, rows, n, cs, _, pl, l, v, ns, i, j, rfl, T, TP, I.bk.same sl, sl _ _ hp, SqL.of el, by omega, by omega, fun _ _ nd H3 hnd1 hnd2 B3 s3 => ?_, fun z => absurd on z, fun _ ⟨x, hx, z⟩ => absurd (hns x hx) z⟩
  have el3 := s3 _ _ el fl
  push_cast [↓rd_law_changed_5_ap, ↓rd_law_changed_6_ap, ↓rd_law_changed_7_ap]
  refine ⟨.inl ⟨rfl, _, SqL.of el3⟩, l, _, rfl, rfl, el3, ?_⟩
  have cD : U.d ≠ l := fun z => nl (z ▸ I.ow _ (.inr (.inr (.inl rfl))))
  have cN : U.nw ≠ l := fun z => nl (z ▸ I.ow _ (.inr (.inr (.inr (.inr rfl)))))
  have cR : U.r ≠ l := fun z => nl (z ▸ I.ow _ (.inr (.inr (.inr (.inl rfl)))))
  obtain ⟨kvn, m1, m2, m3, m4⟩ := I.nn
  have d1' := s1 _ _ d1
  have d9' := s1 _ _ d9
  have B4 : BkAt a (upd H3 l (.lst [])) U.A w rows n (cs ++ [⟨i.toNat, j.toNat, v, nd⟩]) (fun _ => false) := B3.sb (G := (· = l)) (fun y o e n => by rw [upd_ne n]; exact e) (fun x e => by subst e; exact loose_l el3) fun x e => e ▸ fl
  have sb4 : SameBut U.A.F H' (upd H3 l (.lst [])) := ((Same.sb sl).trans s3).upd (.inr hl)
  revert B4 sb4
  generalize upd H3 l (.lst []) = H4
  intro B4 sb4
  refine ⟨_, dS' (sb4 _ _ d1' I.ap.1) d8, _, _, rfl, .inl ⟨rfl, trivial⟩, fun H5 s5 => ?_⟩
  push_cast [↓rd_law_changed_8_ap, ↓rd_law_changed_9_ap, ↓rd_law_changed_10_ap]
  have sb5 := sb4.trans (Same.sb s5)
  have B5 := B4.same s5
  refine ⟨by decide, fun t ht => ?_⟩
  have st := same_upd (o := .tup [.int cs.length, v]) ht
  have et : upd H5 t (.tup [.int cs.length, v]) t = some (.tup [.int cs.length, v]) := upd_same
  revert st et
  generalize upd H5 t (.tup [.int cs.length, v]) = H6
  intro st et
  have sb6 := sb5.trans (Same.sb st)
  have B6 := B5.same st
  have d16 := sb6 _ _ d1' I.ap.1
  have n6 := sb6 _ _ m1 I.ap.2.2
  have nA : ∀ x, U.A.F x → Nice (H' x) := fun x hx => nb x (I.ow _ (.inl hx))
  have p6 := sb6.tk nA _ _ hp
  refine ⟨_, dS' d16 d7, _, rfl, _, pT2 n6 p6 (by omega), ?_⟩
  have nnd : U.nw ≠ U.d := ne_of n6 d16 (by intro z; cases z)
  have e7 : upd H6 U.nw (.dT (putK kvn [.inl i, .inl j] (.ref t))) U.nw = some (.dT (putK kvn [.inl i, .inl j] (.ref t))) := upd_same
  have s7 : SameBut (· = U.nw) H6 (upd H6 U.nw (.dT (putK kvn [.inl i, .inl j] (.ref t)))) := fun y o e n => by rw [upd_ne n]; exact e
  revert e7 s7
  generalize upd H6 U.nw (.dT (putK kvn [.inl i, .inl j] (.ref t))) = H7
  intro e7 s7
  have d17 := s7 _ _ d16 nnd.symm
  refine ⟨_, dS' d17 d8, ?_⟩
  push_cast []
  refine ⟨_, pS d17 (by omega), ?_⟩
  have z6 := sb6.tk nA _ _ d9'
  have nN : ∀ x, x = U.nw → Nice (H6 x) := fun x e => by subst e; exact nice_t n6
  have z7 := s7.tk nN _ _ z6
  have S8 := (SideD.put d17 d2 d3 d4 d5 d6 d7 d8 z7).2
  rw [show ((cs.length + 1 : Nat) : Int) = (cs.length : Int) + 1 from by omega] at S8
  have s8 : SameBut (· = U.d) H7 (upd H7 U.d (.dK (putK kvs (.inr "count") (.int ((cs.length : Int) + 1))))) := fun y o e n => by rw [upd_ne n]; exact e
  revert S8 s8
  generalize upd H7 U.d (.dK (putK kvs (.inr "count") (.int ((cs.length : Int) + 1)))) = H8
  intro S8 s8
  have nD : ∀ x, x = U.d → Nice (H7 x) := fun x e => by subst e; exact nice_k d17
  have s68 : SameBut (fun x => x = U.nw ∨ x = U.d) H6 H8 := (s7.wide fun x => .inl).trans (s8.wide fun x => .inr)
  have n68 : ∀ x, (x = U.nw ∨ x = U.d) → Nice (H6 x) := fun x e => e.elim (fun e => nN x e) fun e => by subst e; exact nice_k d16
  have l68 : ∀ x, (x = U.nw ∨ x = U.d) → Loose (H6 x) := fun x e => e.elim (fun e => by subst e; exact loose_t n6) fun e => by subst e; exact loose_k d16
  have B8 := B6.sb s68 l68 fun x e => e.elim (fun e => e ▸ I.ap.2.2) fun e => e ▸ I.ap.1
  have sF : SameBut U.F H' H8 := (sb6.wide fun x => .inl).trans (s68.wide fun x e => e.elim (fun e => .inr (.inr (.inr (.inr e)))) fun e => .inr (.inr (.inl e)))
  have nF : ∀ x, U.F x → Nice (H' x) := fun x hx => nb x (I.ow _ hx)
  have tk := sF.tk nF
  have en8 : H8 U.nw = some (.dT (putK kvn [.inl i, .inl j] (.ref t))) := s8 _ _ e7 nnd
  have et8 : H8 t = some (.tup [.int cs.length, v]) := s68.tk n68 _ _ et
  have on' := on
  have ei : (i.toNat : Int) = i := by omega
  have ej : (j.toNat : Int) = j := by omega
  obtain ⟨rs, hr, pr⟩ := I.rr
  have hcs : (cs ++ [(⟨i.toNat, j.toNat, v, nd⟩ : Ch)]).length = cs.length + 1 := by simp
  refine q ⟨i.toNat, j.toNat, v, nd⟩ H8 ⟨B8, by rw [hcs]; exact S8, ⟨rs, s68 _ _ (sb6 _ _ hr I.ap.2.1) (fun z => z.elim (fun z => ne_of hr m1 (by intro z; cases z) z) fun z => ne_of hr d1' (by intro z; cases z) z), Paired.mapP pr fun l r z => ⟨sF _ _ z.1 fun f => z.2 (I.ow _ f), z.2⟩⟩, ?_, I.gr.keep tk, fun c' hc' => ?_, I.ap, I.sz, I.ow⟩ ((Same.sb s1).trans sF)
  · refine ⟨_, en8, ?_, fun i' j' e => ?_, fun i' j' k e => ?_⟩
    · have := length_putK kvn [.inl i, .inl j] (.ref t)
      rw [hcs]; omega
    · rw [newestOf_snoc] at e
      split at e
      · cases e
      · rename_i hne
        rw [valV_put, if_neg ?_]
        · exact m3 i' j' e
        · intro z
          injection z with z1 z2
          injection z2 with z2 _
          injection z1 with z1
          injection z2 with z2
          exact hne ⟨by show (i.toNat : Int) = i'; omega, by show (j.toNat : Int) = j'; omega⟩
    · rw [newestOf_snoc] at e
      split at e
      · rename_i heq
        cases e
        obtain ⟨h1, h2⟩ := heq
        have h1 : (i.toNat : Int) = i' := h1
        have h2 : (j.toNat : Int) = j' := h2
        obtain rfl : i = i' := by omega
        obtain rfl : j = j' := by omega
        exact ⟨t, ⟨i.toNat, j.toNat, v, nd⟩, by simp, by rw [valV_put, if_pos rfl], et8⟩
      · rename_i hne
        obtain ⟨t', c', y1, y2, y3⟩ := m4 i' j' k e
        refine ⟨t', c', ?_, ?_, tk _ _ y3⟩
        · rw [List.getElem?_append_left (List.getElem?_eq_some_iff.mp y1).1]; exact y1
        · rw [valV_put, if_neg ?_]
          · exact y2
          · intro z
            injection z with z1 z2
            injection z2 with z2 _
            injection z1 with z1
            injection z2 with z2
            exact hne ⟨by show (i.toNat : Int) = i'; omega, by show (j.toNat : Int) = j'; omega⟩
  · rcases List.mem_append.mp hc' with z | z
    · exact (I.gc c' z).keep tk
    · rw [List.mem_singleton.mp z]
      exact gv.keep tk
theorem len_law_changed (h : sp_law_changed K a vs H Q E) : vs.length = 4 := by
  obtain ⟨_, _, _, _, _, _, _, _, _, _, rfl, _⟩ := h
  rfl
theorem tDisp_ap {trs : List (TE × TE)} {σ : St} : tDisp trs σ H Q = (∀ p, H p = none → tPairs trs σ (upd H p (.dK [])) fun ps H2 => H2 p = some (.dK []) ∧ ∃ kvs : List (Key × V), ps = kvs.map (fun kv => (kV kv.1, kv.2)) ∧ kvs.length ≤ 15 ∧ Q (.ref p) (upd H2 p (.dK (mergeK [] kvs)))) := rfl
theorem tPairs_n {σ : St} {QP : List (V × V) → Hp → Prop} : tPairs [] σ H QP = QP [] H := rfl
theorem tPairs_c {σ : St} {QP : List (V × V) → Hp → Prop} {tk tv : TE} {r : List (TE × TE)} : tPairs ((tk, tv) :: r) σ H QP = tk σ H fun x H1 => tv σ H1 fun y H2 => tPairs r σ H2 fun ps H3 => QP ((x, y) :: ps) H3 := rfl
def BG (a : Ad) (H : Hp) (p cl r z : Addr) (m w k : Nat) (H' : Hp) : Prop := Same H H' ∧ H' z = some (.tup [.int m, .int w]) ∧ ∃ rows : List (List V), rows.length = m ∧ PlankAt a H' p cl w rows k ∧ RowsIn (fun x => H x ≠ none ∨ x = cl ∨ x = r) H' r rows ∧ good7 H' rows
theorem begun_end {H0 : Hp} {c : Int} {z p cl r : Addr} {m w n : Nat} {x y : Option V} {D : Ends} (TP : TPlank K a) (b : BG a H0 p cl r z m w n H)
    (q : ∀ (d nw : Addr) (rows : List (List V)) (H' : Hp), rows.length = m → Same H0 H' → H0 d = none → H0 nw = none → PlankAt a H' p cl w rows n → SideD H' d p r nw rows.length w n 0 → RowsIn (fun x => H0 x ≠ none ∨ x = cl ∨ x = r) H' r rows → H' nw = some (.dT []) → good7 H' rows → D.rt (.ref d) H') :
    rd_law_begun_10 K a (fun _ => E) (fun _ => E) D [some (.int c), some (.ref z), some (.ref p), some (.ref r), x, y] H := by
  obtain ⟨sH, hz, rows, hl, P, R, g⟩ := b
  obtain ⟨dx, hp⟩ := P.ob
  push_cast [↓rd_law_begun_10_ap, ↓tDisp_ap, ↓tPairs_c, ↓tPairs_n]
  intro d hd
  have s1 := same_upd (o := .dK []) hd
  have e1 : upd H d (.dK []) d = some (.dK []) := upd_same
  refine ⟨_, _, s1 _ _ hp, no_writings _ _ _, p, cl, w, rows, n, rfl, TP, P.same s1, fun nw hnw => ⟨?_, [(.inr "plank", .ref p), (.inr "rows", .ref r), (.inr "size", .ref z), (.inr "many", .int n), (.inr "news", .ref nw), (.inr "count", .int 0)], rfl, by simp, ?_⟩⟩
  · exact same_upd hnw _ _ e1
  have hnwH : H nw = none := s1.free hnw
  have nd : d ≠ nw := ne_of_none e1 hnw
  have hk : (mergeK [] [(.inr "plank", .ref p), (.inr "rows", .ref r), (.inr "size", .ref z), (.inr "many", .int n), (.inr "news", .ref nw), (.inr "count", .int 0)]).length ≤ 6 + n + 0 := by
    have := length_mergeK [(.inr "plank", .ref p), (.inr "rows", .ref r), (.inr "size", .ref z), (.inr "many", .int n), (.inr "news", .ref nw), (.inr "count", .int 0)] []
    simp only [List.length_cons, List.length_nil] at this
    omega
  have hv : valV (mergeK [] [(.inr "plank", .ref p), (.inr "rows", .ref r), (.inr "size", .ref z), (.inr "many", .int n), (.inr "news", .ref nw), (.inr "count", .int 0)]) (.inr "plank") = some (.ref p) ∧ valV (mergeK [] [(.inr "plank", .ref p), (.inr "rows", .ref r), (.inr "size", .ref z), (.inr "many", .int n), (.inr "news", .ref nw), (.inr "count", .int 0)]) (.inr "rows") = some (.ref r) ∧ valV (mergeK [] [(.inr "plank", .ref p), (.inr "rows", .ref r), (.inr "size", .ref z), (.inr "many", .int n), (.inr "news", .ref nw), (.inr "count", .int 0)]) (.inr "size") = some (.ref z) ∧ valV (mergeK [] [(.inr "plank", .ref p), (.inr "rows", .ref r), (.inr "size", .ref z), (.inr "many", .int n), (.inr "news", .ref nw), (.inr "count", .int 0)]) (.inr "many") = some (.int n) ∧ valV (mergeK [] [(.inr "plank", .ref p), (.inr "rows", .ref r), (.inr "size", .ref z), (.inr "many", .int n), (.inr "news", .ref nw), (.inr "count", .int 0)]) (.inr "news") = some (.ref nw) ∧ valV (mergeK [] [(.inr "plank", .ref p), (.inr "rows", .ref r), (.inr "size", .ref z), (.inr "many", .int n), (.inr "news", .ref nw), (.inr "count", .int 0)]) (.inr "count") = some (.int 0) := by
    simp only [mergeK, List.foldl_cons, List.foldl_nil]
    refine ⟨?_, ?_, ?_, ?_, ?_, ?_⟩ <;> repeat (rw [valV_put]; first | rw [if_pos rfl] | rw [if_neg (by decide +kernel)])
  revert hk hv
  generalize mergeK [] [(.inr "plank", .ref p), (.inr "rows", .ref r), (.inr "size", .ref z), (.inr "many", .int n), (.inr "news", .ref nw), (.inr "count", .int 0)] = kv
  intro hk ⟨v1, v2, v3, v4, v5, v6⟩
  have eq : upd (upd (upd H d (.dK [])) nw (.dT [])) d (.dK kv) d = some (.dK kv) := upd_same
  have s2 : Same H (upd (upd (upd H d (.dK [])) nw (.dT [])) d (.dK kv)) := fun b o e => by
    rw [upd_ne (ne_of_none e hd), upd_ne (ne_of_none e hnwH), upd_ne (ne_of_none e hd)]; exact e
  have en : upd (upd (upd H d (.dK [])) nw (.dT [])) d (.dK kv) nw = some (.dT []) := by rw [upd_ne nd.symm, upd_same]
  revert eq s2 en
  generalize upd (upd (upd H d (.dK [])) nw (.dT [])) d (.dK kv) = H'
  intro eq s2 en
  exact q d nw rows H' hl (sH.trans s2) (sH.free hd) (sH.free hnwH) (P.same s2) ⟨kv, z, eq, hk, v1, v2, v3, v4, v5, v6, by rw [hl]; exact s2 _ _ hz⟩ (R.sb (F := fun _ => False) (Same.sb s2) id fun _ z => z.elim) en (g.keep s2.tk)
theorem begun_tail {H0 : Hp} {c : Int} {z : Addr} {m w : Nat} {D : Ends} (TP : TPlank K a) (hz : H z = some (.tup [.int m, .int w])) (hm : 1 ≤ m) (hm2 : m ≤ 40) (hw : 1 ≤ w) (hw2 : w ≤ 40) (sH : Same H0 H)
    (q : ∀ (d p cl r nw : Addr) (rows : List (List V)) (n : Nat) (H' : Hp), rows.length = m → Same H0 H' → H0 d = none → H0 p = none → H0 cl = none → H0 r = none → H0 nw = none → cl ≠ r → PlankAt a H' p cl w rows n → SideD H' d p r nw rows.length w n 0 → RowsIn (fun x => H0 x ≠ none ∨ x = cl ∨ x = r) H' r rows → H' nw = some (.dT []) → good7 H' rows → n ≤ 3 → D.rt (.ref d) H') :
    rd_law_begun_4 K a (fun _ => E) (fun _ => E) { D with nx := tSeq (rd_law_begun_5 K a (fun _ => E) (fun _ => E)) (tSeq (rd_law_begun_9 K a (fun _ => E) (fun _ => E)) (rd_law_begun_10 K a (fun _ => E) (fun _ => E))) D } [some (.int c), some (.ref z), none, none, none, none] H := by
  push_cast [↓rd_law_begun_4_ap]
  refine ix_tpl hz (n := 0) rfl rfl (ix_tpl hz (n := 1) rfl rfl ?_)
  refine new_plank (m0 := m) (w := w) TP (by omega) hw (by omega) fun p cl H2 hp hcl P2 s2 => ?_
  push_cast [↓rd_law_begun_5_ap]
  refine ix_tpl (s2 _ _ hz) (n := 0) rfl rfl ?_
  push_cast []
  refine ⟨by omega, by omega, ?_⟩
  refine comp_range (small m (by omega)) (fun i ys H' => Same H2 H' ∧ ∃ rs : List Addr, ys = rs.map V.ref ∧ Paired (fun l r => H' l = some (.lst r) ∧ H2 l = none) rs (List.replicate i (List.replicate w .non))) ⟨Same.refl _, [], rfl, .nil⟩ (fun i ys H' hi _ ⟨s, rs, e, P⟩ => ?_) (fun ys H3 hlen ⟨s3, rs, e, P⟩ r hr => ?_)
  · push_cast [capV]
    refine ix_tpl (s _ _ (s2 _ _ hz)) (n := 1) rfl rfl ?_
    push_cast []
    refine ⟨by omega, by omega, comp_range_map (small w (by omega)) (fun _ => V.non) (fun i _ Q' q' => q') fun l hl => ?_⟩
    have sl := same_upd (o := .lst (List.replicate w V.non)) hl
    have em : (List.range w).map (fun _ => V.non) = List.replicate w V.non := List.eq_replicate_iff.mpr ⟨by rw [List.length_map, List.length_range], fun b hb => by obtain ⟨_, _, rfl⟩ := List.mem_map.mp hb; rfl⟩
    rw [em]
    refine ⟨s.trans sl, rs ++ [l], by rw [e, List.map_append]; rfl, ?_⟩
    rw [List.replicate_succ']
    exact Paired.snoc (Paired.mapP P fun t r z => ⟨sl _ _ z.1, z.2⟩) ⟨upd_same, s.free hl⟩
  subst e
  have sr := same_upd (o := .lst (rs.map V.ref)) hr
  obtain ⟨ts, ecl, _⟩ := P2.ls
  obtain ⟨dp, ep⟩ := P2.ob
  have f3 : ∀ {x}, H3 x = none → H0 x = none := fun h => sH.free (s2.free (s3.free h))
  have f2 : ∀ {x}, H2 x = none → H0 x = none := fun h => sH.free (s2.free h)
  have ncr : cl ≠ r := ne_of_none (s3 _ _ ecl) hr
  have npr : p ≠ r := ne_of_none (s3 _ _ ep) hr
  have npc : p ≠ cl := P2.ne
  have hp0 := sH.free hp
  have hcl0 := sH.free hcl
  have hr0 := f3 hr
  have b0 : BG a H0 p cl r z m w 0 (upd H3 r (.lst (rs.map V.ref))) := by
    refine ⟨(sH.trans (s2.trans s3)).trans sr, sr _ _ (s3 _ _ (s2 _ _ hz)), _, List.length_replicate, (P2.same s3).same sr, ⟨rs, upd_same, Paired.mapP P fun l r' z => ⟨sr _ _ z.1, fun y => ?_⟩⟩, fun r' hr' v hv => ?_⟩
    · rcases y with y | y | y
      · exact y (f2 z.2)
      · subst y; rw [ecl] at z; exact Option.some_ne_none _ z.2
      · subst y; rw [hr] at z; cases z.1
    · rw [List.eq_of_mem_replicate hr'] at hv
      rw [List.eq_of_mem_replicate hv]
      trivial
  revert b0
  generalize upd H3 r (.lst (rs.map V.ref)) = H4
  intro b0
  push_cast [↓rd_law_begun_9_ap, ↓sp_law_pick_ap]
  have q0 := pick_nn (c := c) (p := 10103) (m := 4) (by decide)
  have q1 := pick_lt (c := c) (p := 10103) (m := 4) (by decide)
  refine ⟨by omega, by omega, ?_⟩
  refine for_rangeB (fun i σ H' => BG a H0 p cl r z m w i H' ∧ ∃ x y, σ = [some (.int c), some (.ref z), some (.ref p), some (.ref r), x, y]) ⟨b0, _, _, rfl⟩ (fun i σ H' hi ⟨b, x, y, ez⟩ => ?_) (fun σ H' ⟨b, x, y, ez⟩ => ?_)
  · subst ez
    obtain ⟨s5, hz5, rows, hl5, P5, R5, g5⟩ := b
    obtain ⟨rs5, hr5, pr5⟩ := R5
    have p0 := pick_nn (c := c + (0 + (i : Int))) (p := 10111) (m := (m : Int)) (by omega)
    have p1 := pick_lt (c := c + (0 + (i : Int))) (p := 10111) (m := (m : Int)) (by omega)
    obtain ⟨b, hb, hbl⟩ : ∃ b : Nat, pick (c + (0 + (i : Int))) 10111 m = b ∧ b < m := ⟨(pick (c + (0 + (i : Int))) 10111 m).toNat, by omega, by omega⟩
    push_cast [↓rd_law_begun_6_ap, ↓rd_law_begun_7_ap, ↓rd_law_begun_8_ap]
    refine ix_tpl hz5 (n := 0) rfl rfl ?_
    rw [sp_law_pick_ap, hb]
    refine ⟨by decide, by decide, by omega, ix_tpl hz5 (n := 1) rfl rfl ?_⟩
    push_cast []
    refine ⟨by omega, by omega, ?_⟩
    refine comp_range (small w (by omega)) (fun i ys H1 => Same H' H1 ∧ ∀ v ∈ ys, GoodV 7 H1 v) ⟨Same.refl _, by simp⟩ (fun i ys H1 hi _ ⟨s, gy⟩ => ?_) (fun ys H6 hlen6 ⟨s6, gy⟩ l hl => ?_)
    · push_cast [capV, Option.join_some, Int.zero_add]
      refine ⟨.inr ⟨by decide, by decide⟩, .inl ⟨by omega, by omega⟩, _, rfl, fun v H2 s2 gv => ⟨s.trans s2, fun u hu => ?_⟩⟩
      rcases List.mem_append.mp hu with hu | hu
      · exact (gy u hu).keep s2.tk
      · rw [List.mem_singleton.mp hu]; exact gv
    obtain ⟨ts6, ec6, _⟩ := (P5.same s6).ls
    obtain ⟨dp6, ep6⟩ := (P5.same s6).ob
    have s06 := s5.trans s6
    have hr6 := s6 _ _ hr5
    have nl : ¬ (H0 l ≠ none ∨ l = cl ∨ l = r) := fun y => by
      rcases y with y | y | y
      · exact y (s06.free hl)
      · subst y; rw [ec6] at hl; cases hl
      · subst y; rw [hr6] at hl; cases hl
    have sl := same_upd (o := .lst ys) hl
    have el : upd H6 l (.lst ys) l = some (.lst ys) := upd_same
    have pr6 := Paired.mapP pr5 fun x r' z => (⟨sl _ _ (s6 _ _ z.1), z.2⟩ : upd H6 l (.lst ys) x = some (.lst r') ∧ ¬ (H0 x ≠ none ∨ x = cl ∨ x = r))
    revert sl el pr6
    generalize upd H6 l (.lst ys) = H7
    intro sl el pr6
    have hrl : rs5.length = m := by rw [pr5.length, hl5]
    refine ⟨r, _, _, _, rfl, rfl, sl _ _ hr6, ixNn (by rw [List.length_map, hrl]; exact hbl), ?_⟩
    have R8 := RowsIn.put (B := fun x => H0 x ≠ none ∨ x = cl ∨ x = r) (b := b) pr6 (.inr (.inr rfl)) el nl
    have s8 : SameBut (· = r) H7 (upd H7 r (.lst ((rs5.map V.ref).set b (.ref l)))) := fun y o e n => by rw [upd_ne n]; exact e
    revert R8 s8
    generalize upd H7 r (.lst ((rs5.map V.ref).set b (.ref l))) = H8
    intro R8 s8
    have nr7 : ∀ x, x = r → Nice (H7 x) := fun x e => by subst e; exact nice_l (sl _ _ hr6)
    have ep8 := s8 _ _ (sl _ _ ep6) npr
    have ec8 := s8 _ _ (sl _ _ ec6) ncr
    have P8 := ((P5.same s6).same sl).sbN s8 nr7 npr ncr
    refine ⟨_, _, ep8, no_write _ _ _, rows_atI R8 (i := b) (r := ys) (by rw [List.getElem?_set_self (by omega)]) rfl fun l' hl' _ => ⟨_, _, rfl, .inl (SqL.of hl'), fun l2 hl2 => ?_⟩⟩
    have s9 := same_upd (o := .lst ys) hl2
    have el2 : upd H8 l2 (.lst ys) l2 = some (.lst ys) := upd_same
    revert s9 el2
    generalize upd H8 l2 (.lst ys) = H9
    intro s9 el2
    refine ⟨p, cl, w, rows, i, (b : Int), l2, ys, rfl, TP, P8.same s9, SqL.of el2, by omega, fun b' eb hb' hyl Ha Pa sa => ?_, fun z => by omega⟩
    obtain rfl : b = b' := by omega
    have n9 : ∀ x, (x = p ∨ x = cl) → Nice (H9 x) := fun x z => by
      rcases z with rfl | rfl
      · exact nice_p (s9 _ _ ep8)
      · exact nice_l (s9 _ _ ec8)
    have tk : TupKeep H6 Ha := fun y xs e => sa.tk n9 _ _ (s9 _ _ (s8.tk nr7 _ _ (sl _ _ e)))
    refine ⟨fun y o e => ?_, tk _ _ (s6 _ _ hz5), rows.set b ys, by rw [List.length_set]; exact hl5, Pa, (R8.sb (F := fun _ => False) (Same.sb s9) id fun _ z => z.elim) |> fun R9 => ?_, fun r' hr' v hv => ?_⟩
    · have nyr : y ≠ r := ne_of_none e hr0
      exact sa _ _ (s9 _ _ (s8 _ _ (sl _ _ (s06 _ _ e)) nyr)) fun z => z.elim (ne_of_none e hp0) (ne_of_none e hcl0)
    · obtain ⟨rs9, h9, pr9⟩ := R9
      exact ⟨rs9, sa _ _ h9 fun z => z.elim (fun z => npr z.symm) fun z => ncr z.symm, Paired.mapP pr9 fun l r' z => ⟨sa _ _ z.1 fun y => y.elim (fun y => ne_of z.1 (s9 _ _ ep8) (by intro z; cases z) y) fun y => z.2 (.inr (.inl y)), z.2⟩⟩
    · rcases List.mem_or_eq_of_mem_set hr' with z | z
      · exact ((g5 r' z v hv).keep s6.tk).keep tk
      · subst z
        exact (gy v hv).keep tk
  · subst ez
    exact begun_end TP b fun d nw rows H5 h1 h2 h3 h4 h5 h6 h7 h8 h9 => q d p cl r nw rows _ H5 h1 h2 h3 hp0 hcl0 hr0 h4 ncr h5 h6 h7 h8 h9 (by omega)
theorem rdok_law_begun (h : sp_law_begun K a vs H Q E) : rd_law_begun K a (fun _ => E) (ends Q) (start ["cell", "size", "plank", "rows", "k", "block"] vs) H := by
  obtain ⟨c, rfl, TP, q⟩ := h
  have tail : ∀ {z : Addr} {i j : Int} {H1 : Hp}, H1 z = some (.tup [.int i, .int j]) → 1 ≤ i → i ≤ 40 → 1 ≤ j → j ≤ 40 → Same H H1 → rd_law_begun_4 K a (fun _ => E) (fun _ => E) { (ends Q) with nx := tSeq (rd_law_begun_5 K a (fun _ => E) (fun _ => E)) (tSeq (rd_law_begun_9 K a (fun _ => E) (fun _ => E)) (rd_law_begun_10 K a (fun _ => E) (fun _ => E))) (ends Q) } [some (.int c), some (.ref z), none, none, none, none] H1 := fun {z i j H1} hz h1 h2 h3 h4 s => by
    obtain ⟨m, rfl⟩ : ∃ m : Nat, i = m := ⟨i.toNat, by omega⟩
    obtain ⟨w, rfl⟩ : ∃ w : Nat, j = w := ⟨j.toNat, by omega⟩
    exact begun_tail TP hz (by omega) (by omega) (by omega) (by omega) s fun d p cl r nw rows n H' e1 e2 e3 e4 e5 e6 e7 e8 e9 e10 e11 e12 e13 e14 => q d p cl r nw w rows n H' e2 e3 e4 e5 e6 e7 e8 e9 e10 e11 e12 e13 (by omega) (by omega) (by omega) e14
  push_cast [rd_law_begun, ↓rd_law_begun_1_ap, ↓rd_law_begun_2_ap, ↓rd_law_begun_3_ap, ↓sp_law_pick_ap]
  have a1 := pick_nn (c := c) (p := 10091) (m := 6) (by decide)
  have a2 := pick_lt (c := c) (p := 10091) (m := 6) (by decide)
  have a3 := pick_nn (c := c) (p := 10093) (m := 6) (by decide)
  have a4 := pick_lt (c := c) (p := 10093) (m := 6) (by decide)
  have b1 := pick_nn (c := c) (p := 10091) (m := 40) (by decide)
  have b2 := pick_lt (c := c) (p := 10091) (m := 40) (by decide)
  have b3 := pick_nn (c := c) (p := 10093) (m := 40) (by decide)
  have b4 := pick_lt (c := c) (p := 10093) (m := 40) (by decide)
  refine ⟨by decide, fun z hz => ?_⟩
  split
  · exact ⟨by decide, fun z2 hz2 => tail upd_same (by omega) (by omega) (by omega) (by omega) ((same_upd hz).trans (same_upd hz2))⟩
  · exact tail upd_same (by omega) (by omega) (by omega) (by omega) (same_upd hz)
theorem len_law_begun (h : sp_law_begun K a vs H Q E) : vs.length = 1 := by
  obtain ⟨_, rfl, _⟩ := h
  rfl
structure In11 (a : Ad) (B : Addr → Prop) (U U' : SU) (w w' m m' : Nat) (bl sl r : Addr) (ms : List Int) (i : Nat) (H : Hp) : Prop where
  one : ∃ rows n cs, UI a B H U w rows n cs ∧ rows.length = m ∧ n ≤ 3 + i ∧ cs.length ≤ i
  two : ∃ rows n cs, UI a B H U' w' rows n cs ∧ rows.length = m' ∧ n ≤ 3 + i ∧ cs.length ≤ i
  eb : H bl = some (.lst [.ref U.A.b, .ref U'.A.b])
  es : H sl = some (.lst [.ref U.d, .ref U'.d])
  sc : H r = some (.lst (ms.map V.int))
theorem two_nice {B : Addr → Prop} {U U' : SU} {w w' : Nat} {rows rows' : List (List V)} {n n' : Nat} {cs cs' : List Ch} (I : UI a B H U w rows n cs) (J : UI a B H U' w' rows' n' cs') (hB : ∀ x, B x → U.F x ∨ U'.F x) : ∀ x, B x → Nice (H x) := fun x hx => (hB x hx).elim I.nice J.nice
theorem one_rewritten {B : Addr → Prop} {U U' : SU} {w w' : Nat} {rows rows' : List (List V)} {n n' : Nat} {cs cs' : List Ch} {c : Int} (TP : TPlank K a) (I : UI a B H U w rows n cs) (J : UI a B H U' w' rows' n' cs') (hB : ∀ x, B x → U.F x ∨ U'.F x) (D : ∀ x, U.F x → ¬ U'.F x) (hc : cs.length < 100) (hn : n ≤ 100)
    (q : ∀ rows2 H2, rows2.length = rows.length → UI a B H2 U w rows2 (n + 1) cs → UI a B H2 U' w' rows' n' cs' → SameBut B H H2 → Q .non H2) : sp_law_rewritten K a [.ref U.d, .int c] H Q E :=
  ⟨B, U, w, rows, n, cs, c, rfl, TP, I, two_nice I J hB, hc, hn, fun rows2 H2 h1 h2 h3 => q rows2 H2 h1 h2 (J.sb h3 (fun x hx => I.nice hx) I.ow D) (h3.wide I.ow)⟩
theorem one_changed {B : Addr → Prop} {U U' : SU} {w w' : Nat} {rows rows' : List (List V)} {n n' : Nat} {cs cs' : List Ch} {c : Int} {p : Addr} (T : TB K a) (TP : TPlank K a) (I : UI a B H U w rows n cs) (J : UI a B H U' w' rows' n' cs') (hB : ∀ x, B x → U.F x ∨ U'.F x) (D : ∀ x, U.F x → ¬ U'.F x) (hp : Spot H p rows w) (hc : cs.length < 100) (hn : n ≤ 100)
    (q : ∀ ch H2, UI a B H2 U w rows n (cs ++ [ch]) → UI a B H2 U' w' rows' n' cs' → SameBut B H H2 → Q (.bl true) H2) : sp_law_changed K a [.ref U.A.b, .ref U.d, .ref p, .int c] H Q E := by
  obtain ⟨i, j, e, on⟩ := hp
  exact ⟨B, U, w, rows, n, cs, p, i, j, c, rfl, T, TP, I, two_nice I J hB, e, on, hc, hn, fun ch H2 h2 h3 => q ch H2 h2 (J.sb h3 (fun x hx => I.nice hx) I.ow D) (h3.wide I.ow)⟩
theorem Spot.keep {H H' : Hp} {p : Addr} {rows rows2 : List (List V)} {w : Nat} (h : Spot H p rows w) (k : TupKeep H H') (e : rows2.length = rows.length) : Spot H' p rows2 w := by
  obtain ⟨i, j, h1, h2⟩ := h
  exact ⟨i, j, k _ _ h1, by show 0 ≤ i ∧ i < rows2.length ∧ _; rw [e]; exact h2⟩
theorem last11 {B : Addr → Prop} {U U' : SU} {w w' : Nat} {rows rows' : List (List V)} {n n' : Nat} {cs cs' : List Ch} {bl sl pl p0 p1 p2 p3 s : Addr} {c : Int} {x4 : Option V} {D : Ends} (T : TB K a) (TP : TPlank K a) (I : UI a B H U w rows n cs) (J : UI a B H U' w' rows' n' cs') (eb : H bl = some (.lst [.ref U.A.b, .ref U'.A.b])) (es : H sl = some (.lst [.ref U.d, .ref U'.d])) (ep : H pl = some (.lst [.ref p0, .ref p1, .ref p2, .ref p3])) (h0 : Spot H p0 rows w) (h1 : Spot H p1 rows' w') (h2 : Spot H p2 rows w) (h3 : Spot H p3 rows' w')
    (q : ∀ H', Same H H' → D.nx [some (.ref s), some (.ref sl), some (.ref bl), some (.int c), x4, some (.ref pl)] H') :
    rd_law_13 K a (fun _ => E) (fun _ => E) D [some (.ref s), some (.ref sl), some (.ref bl), some (.int c), x4, some (.ref pl)] H := by
  push_cast [↓rd_law_13_ap, ↓rd_law_12_ap, ↓sp_law_pick_ap]
  refine ⟨B, U, U', w, rows, n, cs, w', rows', n', cs', bl, sl, pl, p0, p1, p2, p3, _, rfl, T, TP, I, J, eb, es, ep, h0, h1, h2, h3, pick_nn (by decide), fun H' s' => ?_⟩
  push_cast []
  exact q _ s'
theorem turn11 {B : Addr → Prop} {U U' : SU} {w w' m m' : Nat} {bl sl r s : Addr} {ms : List Int} {i : Nat} {c : Int} {x4 x5 : Option V} {Dn : Ends} (T : TB K a) (TP : TPlank K a) (D : ∀ x, U.F x → ¬ U'.F x) (hB : ∀ x, B x → U.F x ∨ U'.F x) (fb : ¬ B bl) (fs : ¬ B sl) (fr : ¬ B r) (I : In11 a B U U' w w' m m' bl sl r ms i H) (hi : i < 63)
    (hD : ∀ H' x y, In11 a B U U' w w' m m' bl sl r ms (i + 1) H' → Dn.nx [some (.ref s), some (.ref sl), some (.ref bl), some (.int c), x, y] H') :
    rd_law_3 K a (fun _ => E) (fun _ => E) { Dn with nx := tSeq (rd_law_4 K a (fun _ => E) (fun _ => E)) (tSeq (rd_law_5 K a (fun _ => E) (fun _ => E)) (tSeq (rd_law_7 K a (fun _ => E) (fun _ => E)) (tSeq (rd_law_9 K a (fun _ => E) (fun _ => E)) (tSeq (rd_law_11 K a (fun _ => E) (fun _ => E)) (rd_law_13 K a (fun _ => E) (fun _ => E)))))) Dn } [some (.ref s), some (.ref sl), some (.ref bl), some (.int c), x4, x5] H := by
  obtain ⟨⟨rows, n, cs, I1, hm, hn, hcs⟩, ⟨rows', n', cs', I2, hm', hn', hcs'⟩, eb, es, sc⟩ := I
  have D' : ∀ x, U'.F x → ¬ U.F x := fun x h z => D x z h
  have hB' : ∀ x, B x → U'.F x ∨ U.F x := fun x h => (hB x h).symm
  push_cast [↓rd_law_3_ap, ↓rd_law_4_ap, ↓sp_law_pick_ap]
  have spot : ∀ {c' : Int} {t : Addr} {H' : Hp} {V : SU} {w : Nat} {rows : List (List _root_.L2.V)} {n : Nat} {cs : List Ch}, UI a B H V w rows n cs → Spot (upd H' t (.tup [.int (pick c' 10133 rows.length), .int (pick c' 10139 w)])) t rows w := fun {c' t H' V w rows n cs} J => by
    have h1 := J.sz
    exact ⟨_, _, upd_same, pick_nn (by omega), pick_lt (by omega), pick_nn (by omega), pick_lt (by omega)⟩
  refine ix_sq (SqL.of es) (n := 0) rfl rfl ⟨c, U.d, U.A.gp, U.r, U.nw, rows.length, w, n, cs.length, rfl, I1.dd, I1.sz.1, I1.sz.2.1, fun p0 hp0 => ?_⟩
  have t0 := same_upd (o := .tup [.int (pick c 10133 rows.length), .int (pick c 10139 w)]) hp0
  have z0 := spot (c' := c) (t := p0) (H' := H) I1
  revert t0 z0
  generalize upd H p0 (.tup [.int (pick c 10133 rows.length), .int (pick c 10139 w)]) = H1
  intro t0 z0
  refine ix_sq (SqL.of (t0 _ _ es)) (n := 1) rfl rfl ⟨c, U'.d, U'.A.gp, U'.r, U'.nw, rows'.length, w', n', cs'.length, rfl, (I2.same t0).dd, I2.sz.1, I2.sz.2.1, fun p1 hp1 => ?_⟩
  have t1 := same_upd (o := .tup [.int (pick c 10133 rows'.length), .int (pick c 10139 w')]) hp1
  have z1 := spot (c' := c) (t := p1) (H' := H1) I2
  revert t1 z1
  generalize upd H1 p1 (.tup [.int (pick c 10133 rows'.length), .int (pick c 10139 w')]) = H2
  intro t1 z1
  refine ⟨by decide, fun l1 hl1 => ?_⟩
  have t2 := same_upd (o := .lst [V.ref p0, V.ref p1]) hl1
  have e2 : upd H2 l1 (.lst [V.ref p0, V.ref p1]) l1 = some (.lst [V.ref p0, V.ref p1]) := upd_same
  revert t2 e2
  generalize upd H2 l1 (.lst [V.ref p0, V.ref p1]) = H3
  intro t2 e2
  have t03 := (t0.trans t1).trans t2
  push_cast [↓rd_law_5_ap]
  refine ix_sq (SqL.of (t03 _ _ es)) (n := 0) rfl rfl ⟨c + 1, U.d, U.A.gp, U.r, U.nw, rows.length, w, n, cs.length, rfl, (I1.same t03).dd, I1.sz.1, I1.sz.2.1, fun p2 hp2 => ?_⟩
  have t3 := same_upd (o := .tup [.int (pick (c + 1) 10133 rows.length), .int (pick (c + 1) 10139 w)]) hp2
  have z2 := spot (c' := c + 1) (t := p2) (H' := H3) I1
  revert t3 z2
  generalize upd H3 p2 (.tup [.int (pick (c + 1) 10133 rows.length), .int (pick (c + 1) 10139 w)]) = H4
  intro t3 z2
  have t04 := t03.trans t3
  refine ix_sq (SqL.of (t04 _ _ es)) (n := 1) rfl rfl ⟨c + 1, U'.d, U'.A.gp, U'.r, U'.nw, rows'.length, w', n', cs'.length, rfl, (I2.same t04).dd, I2.sz.1, I2.sz.2.1, fun p3 hp3 => ?_⟩
  have t4 := same_upd (o := .tup [.int (pick (c + 1) 10133 rows'.length), .int (pick (c + 1) 10139 w')]) hp3
  have z3 := spot (c' := c + 1) (t := p3) (H' := H4) I2
  revert t4 z3
  generalize upd H4 p3 (.tup [.int (pick (c + 1) 10133 rows'.length), .int (pick (c + 1) 10139 w')]) = H5
  intro t4 z3
  refine ⟨by decide, fun l2 hl2 => ?_⟩
  have t5 := same_upd (o := .lst [V.ref p2, V.ref p3]) hl2
  have e5 : upd H5 l2 (.lst [V.ref p2, V.ref p3]) l2 = some (.lst [V.ref p2, V.ref p3]) := upd_same
  revert t5 e5
  generalize upd H5 l2 (.lst [V.ref p2, V.ref p3]) = H6
  intro t5 e5
  have t36 := (t3.trans t4).trans t5
  refine .inl ⟨l1, l2, _, _, rfl, rfl, t36 _ _ e2, e5, small _ (by simp), fun pl hpl => ?_⟩
  have t6 := same_upd (o := .lst [V.ref p0, V.ref p1, V.ref p2, V.ref p3]) hpl
  have ep : upd H6 pl (.lst [V.ref p0, V.ref p1, V.ref p2, V.ref p3]) pl = some (.lst [V.ref p0, V.ref p1, V.ref p2, V.ref p3]) := upd_same
  have fpl0 : H pl = none := (t03.trans t36).free hpl
  show (rd_law_7 K a (fun _ => E) (fun _ => E) _ _ (upd H6 pl (.lst [V.ref p0, V.ref p1, V.ref p2, V.ref p3])))
  revert t6 ep
  generalize upd H6 pl (.lst [V.ref p0, V.ref p1, V.ref p2, V.ref p3]) = H7
  intro t6 ep
  have t07 := (t03.trans t36).trans t6
  have fpl : ¬ B pl := nice_off (two_nice I1 I2 hB) fpl0
  have y0 : Spot H7 p0 rows w := z0.keep (((t1.trans t2).trans t36).trans t6).tk rfl
  have y1 : Spot H7 p1 rows' w' := z1.keep ((t2.trans t36).trans t6).tk rfl
  have y2 : Spot H7 p2 rows w := z2.keep ((t4.trans t5).trans t6).tk rfl
  have y3 : Spot H7 p3 rows' w' := z3.keep (t5.trans t6).tk rfl
  replace I1 := I1.same t07
  replace I2 := I2.same t07
  replace eb := t07 _ _ eb
  replace es := t07 _ _ es
  replace sc := t07 _ _ sc
  clear z0 z1 z2 z3 t0 t1 t2 t3 t4 t5 t6 t03 t04 t36 e2 e5 hp0 hp1 hp2 hp3 hl1 hl2 hpl spot fpl0 t07
  push_cast [↓rd_law_7_ap, ↓rd_law_6_ap, ↓sp_law_pick_ap]
  refine ⟨B, U, U', w, rows, n, cs, w', rows', n', cs', bl, sl, pl, p0, p1, p2, p3, _, rfl, T, TP, I1, I2, eb, es, ep, y0, y1, y2, y3, pick_nn (by decide), fun H8 t8 => ?_⟩
  replace I1 := I1.same t8
  replace I2 := I2.same t8
  replace eb := t8 _ _ eb
  replace es := t8 _ _ es
  replace sc := t8 _ _ sc
  replace ep := t8 _ _ ep
  replace y0 := y0.keep t8.tk rfl
  replace y1 := y1.keep t8.tk rfl
  replace y2 := y2.keep t8.tk rfl
  replace y3 := y3.keep t8.tk rfl
  clear t8
  push_cast []
  have q0 := pick_nn (c := c) (p := 10159) (m := 2) (by decide)
  have q1 := pick_lt (c := c) (p := 10159) (m := 2) (by decide)
  have hw : pick c 10159 2 = 0 ∨ pick c 10159 2 = 1 := by omega
  rcases hw with ew | ew
  · rw [ew]
    have step : ∀ {Hx : Hp} {rowsx : List (List V)} {nx : Nat}, UI a B Hx U w rowsx nx cs → UI a B Hx U' w' rows' n' cs' → Hx bl = some (.lst [.ref U.A.b, .ref U'.A.b]) → Hx sl = some (.lst [.ref U.d, .ref U'.d]) → Hx pl = some (.lst [.ref p0, .ref p1, .ref p2, .ref p3]) → Hx r = some (.lst (ms.map V.int)) → Spot Hx p0 rowsx w → Spot Hx p1 rows' w' → Spot Hx p2 rowsx w → Spot Hx p3 rows' w' → rowsx.length = m → nx ≤ 3 + (i + 1) →
        rd_law_11 K a (fun _ => E) (fun _ => E) { Dn with nx := rd_law_13 K a (fun _ => E) (fun _ => E) Dn } [some (.ref s), some (.ref sl), some (.ref bl), some (.int c), some (.int 0), some (.ref pl)] Hx := fun {Hx rowsx nx} J1 J2 eb es ep sc y0 y1 y2 y3 hmx hnx => by
      push_cast [↓rd_law_11_ap, ↓rd_law_10_ap]
      refine ix_sq (SqL.of eb) (n := 0) rfl rfl (ix_sq (SqL.of es) (n := 0) rfl rfl (ix_sq (SqL.of ep) (n := 0) rfl rfl (one_changed T TP J1 J2 hB D y0 (by omega) (by omega) fun ch H9 K1 K2 s9 => ?_)))
      have nc := two_nice J1 J2 hB
      have tk := s9.tk nc
      push_cast []
      refine last11 T TP K1 K2 (s9 _ _ eb fb) (s9 _ _ es fs) (s9 _ _ ep fpl) (y0.keep tk rfl) (y1.keep tk rfl) (y2.keep tk rfl) (y3.keep tk rfl) fun Ha sa => hD Ha _ _ ⟨⟨rowsx, nx, cs ++ [ch], K1.same sa, hmx, by omega, by simp; omega⟩, ⟨rows', n', cs', K2.same sa, hm', by omega, by omega⟩, sa _ _ (s9 _ _ eb fb), sa _ _ (s9 _ _ es fs), sa _ _ (s9 _ _ sc fr)⟩
    push_cast [↓rd_law_9_ap, ↓rd_law_8_ap, ↓sp_law_pick_ap]
    split
    · refine ix_sq (SqL.of es) (n := 0) rfl rfl (one_rewritten TP I1 I2 hB D (by omega) (by omega) fun rows2 H9 er K1 K2 s9 => ?_)
      have nc := two_nice I1 I2 hB
      have tk := s9.tk nc
      exact step K1 K2 (s9 _ _ eb fb) (s9 _ _ es fs) (s9 _ _ ep fpl) (s9 _ _ sc fr) (y0.keep tk er) (y1.keep tk rfl) (y2.keep tk er) (y3.keep tk rfl) (by omega) (by omega)
    · exact step I1 I2 eb es ep sc y0 y1 y2 y3 (by omega) (by omega)
  · rw [ew]
    have step : ∀ {Hx : Hp} {rowsx : List (List V)} {nx : Nat}, UI a B Hx U' w' rowsx nx cs' → UI a B Hx U w rows n cs → Hx bl = some (.lst [.ref U.A.b, .ref U'.A.b]) → Hx sl = some (.lst [.ref U.d, .ref U'.d]) → Hx pl = some (.lst [.ref p0, .ref p1, .ref p2, .ref p3]) → Hx r = some (.lst (ms.map V.int)) → Spot Hx p0 rows w → Spot Hx p1 rowsx w' → Spot Hx p2 rows w → Spot Hx p3 rowsx w' → rowsx.length = m' → nx ≤ 3 + (i + 1) →
        rd_law_11 K a (fun _ => E) (fun _ => E) { Dn with nx := rd_law_13 K a (fun _ => E) (fun _ => E) Dn } [some (.ref s), some (.ref sl), some (.ref bl), some (.int c), some (.int 1), some (.ref pl)] Hx := fun {Hx rowsx nx} J1 J2 eb es ep sc y0 y1 y2 y3 hmx hnx => by
      push_cast [↓rd_law_11_ap, ↓rd_law_10_ap]
      refine ix_sq (SqL.of eb) (n := 1) rfl rfl (ix_sq (SqL.of es) (n := 1) rfl rfl (ix_sq (SqL.of ep) (n := 1) rfl rfl (one_changed T TP J1 J2 hB' D' y1 (by omega) (by omega) fun ch H9 K1 K2 s9 => ?_)))
      have nc := two_nice J1 J2 hB'
      have tk := s9.tk nc
      push_cast []
      refine last11 T TP K2 K1 (s9 _ _ eb fb) (s9 _ _ es fs) (s9 _ _ ep fpl) (y0.keep tk rfl) (y1.keep tk rfl) (y2.keep tk rfl) (y3.keep tk rfl) fun Ha sa => hD Ha _ _ ⟨⟨rows, n, cs, K2.same sa, hm, by omega, by omega⟩, ⟨rowsx, nx, cs' ++ [ch], K1.same sa, hmx, by omega, by simp; omega⟩, sa _ _ (s9 _ _ eb fb), sa _ _ (s9 _ _ es fs), sa _ _ (s9 _ _ sc fr)⟩
    push_cast [↓rd_law_9_ap, ↓rd_law_8_ap, ↓sp_law_pick_ap]
    split
    · refine ix_sq (SqL.of es) (n := 1) rfl rfl (one_rewritten TP I2 I1 hB' D' (by omega) (by omega) fun rows2 H9 er K1 K2 s9 => ?_)
      have nc := two_nice I1 I2 hB
      have tk := s9.tk nc
      exact step K1 K2 (s9 _ _ eb fb) (s9 _ _ es fs) (s9 _ _ ep fpl) (s9 _ _ sc fr) (y0.keep tk rfl) (y1.keep tk er) (y2.keep tk rfl) (y3.keep tk er) (by omega) (by omega)
    · exact step I2 I1 eb es ep sc y0 y1 y2 y3 (by omega) (by omega)
theorem cut_ints (ns : List Int) (lo hi : Option Int) : ∃ ms : List Int, cutV (ns.map V.int) lo hi = ms.map V.int ∧ ms.length ≤ ns.length := by
  unfold cutV
  rw [← List.map_drop, ← List.map_take]
  exact ⟨_, rfl, by simp; omega⟩
theorem news_nil {H : Hp} {nw : Addr} (e : H nw = some (.dT [])) : News H nw [] :=
  ⟨[], e, Nat.le_refl _, fun _ _ _ => rfl, fun i j k h => by cases h⟩
theorem rdok_law (h : sp_law K a vs H Q E) : rd_law K a (fun _ => E) (ends Q) (start ["script", "sides", "books", "cell", "which", "spots"] vs) H := by
  obtain ⟨s, ns, rfl, T, TP, hs, hl, q⟩ := h
  push_cast [rd_law, ↓rd_law_1_ap, ↓sp_law_cell_at_ap]
  refine ⟨ns, 0, rfl, hs, by omega, _, rfl, TP, fun d p cl r nw w rows n H1 s1 d0 p0 cl0 r0 nw0 ncr P1 S1 R1 N1 g1 m1 w1 wx1 n1 => ⟨ns, 1, rfl, s1.seq hs, by omega, _, rfl, TP, fun d' p' cl' r' nw' w' rows' n' H2 s2 d0' p0' cl0' r0' nw0' ncr' P2 S2 R2 N2 g2 m2 w2 wx2 n2 => ⟨by decide, fun sl hsl => ?_⟩⟩⟩
  have s3 := same_upd (o := .lst [V.ref d, V.ref d']) hsl
  have es3 : upd H2 sl (.lst [V.ref d, V.ref d']) sl = some (.lst [V.ref d, V.ref d']) := upd_same
  revert s3 es3
  generalize upd H2 sl (.lst [V.ref d, V.ref d']) = H3
  intro s3 es3
  have S1c := S1
  have S2c := S2
  obtain ⟨kvs, sz, d1, d2, d3, d4, d5, d6, d7, d8, d9⟩ := S1
  obtain ⟨kvs', sz', d1', d2', d3', d4', d5', d6', d7', d8', d9'⟩ := S2
  have s13 := s2.trans s3
  push_cast [↓rd_law_2_ap]
  refine ix_sq (SqL.of es3) (n := 0) rfl rfl ?_
  push_cast []
  refine ⟨_, dS' (s13 _ _ d1) d3, ?_⟩
  refine new_book T TP (P1.same s13) fun A H4 eg ec off1 B4 s4 => ?_
  refine ix_sq (SqL.of (s4 _ _ es3)) (n := 1) rfl rfl ⟨_, rfl, _, dS' ((s3.trans s4) _ _ d1') d3', ?_⟩
  refine new_book T TP (P2.same (s3.trans s4)) fun A' H5 eg' ec' off2 B5 s5 => ⟨by decide, fun bl hbl => ?_⟩
  subst eg ec eg' ec'
  have s6 := same_upd (o := .lst [V.ref A.b, V.ref A'.b]) hbl
  have eb6 : upd H5 bl (.lst [V.ref A.b, V.ref A'.b]) bl = some (.lst [V.ref A.b, V.ref A'.b]) := upd_same
  revert s6 eb6
  generalize upd H5 bl (.lst [V.ref A.b, V.ref A'.b]) = H6
  intro s6 eb6
  have s46 := s5.trans s6
  have s16 := (s13.trans s4).trans s46
  have s26 := (s3.trans s4).trans s46
  obtain ⟨rs, er, pr⟩ := R1
  obtain ⟨rs', er', pr'⟩ := R2
  obtain ⟨dp, ep⟩ := P1.ob
  obtain ⟨dp', ep'⟩ := P2.ob
  obtain ⟨ts, ecl, _⟩ := P1.ls
  obtain ⟨ts', ecl', _⟩ := P2.ls
  -- apart
  have in1 : ∀ {x o}, H1 x = some o → x ≠ A.cl → ¬ A.F x := fun {x o} e n => (off1 x o (s13 _ _ e)).resolve_left n
  have in2 : ∀ {x o}, H2 x = some o → x ≠ A.cl → ¬ A.F x := fun {x o} e n => (off1 x o (s3 _ _ e)).resolve_left n
  have in2' : ∀ {x o}, H2 x = some o → x ≠ A'.cl → ¬ A'.F x := fun {x o} e n => (off2 x o ((s3.trans s4) _ _ e)).resolve_left n
  have new1 : ∀ {x o}, H1 x = some o → ¬ (x = A'.cl ∨ x = A'.gp ∨ x = d' ∨ x = r' ∨ x = nw') := fun {x o} e z => by
    rcases z with z | z | z | z | z
    · exact ne_of_none e cl0' z
    · exact ne_of_none e p0' z
    · exact ne_of_none e d0' z
    · exact ne_of_none e r0' z
    · exact ne_of_none e nw0' z
  have off' : ∀ {x o}, H1 x = some o → ¬ SU.F ⟨A', d', r', nw'⟩ x := fun {x o} e z => by
    have nn := new1 e
    rcases z with z | z | z | z | z
    · exact in2' (s2 _ _ e) (fun y => nn (.inl y)) z
    · exact nn (.inr (.inl z))
    · exact nn (.inr (.inr (.inl z)))
    · exact nn (.inr (.inr (.inr (.inl z))))
    · exact nn (.inr (.inr (.inr (.inr z))))
  have D : ∀ x, SU.F ⟨A, d, r, nw⟩ x → ¬ SU.F ⟨A', d', r', nw'⟩ x := fun x h h' => by
    rcases h with z | z | z | z | z
    · have e4 : ∃ o, H4 x = some o := by
        cases e : H4 x with
        | none => exact absurd z (B4.off e)
        | some o => exact ⟨o, rfl⟩
      obtain ⟨o, e4⟩ := e4
      by_cases ncl : x = A.cl
      · subst ncl; exact off' ecl h'
      · have e3 : H3 x = none := by
          cases e : H3 x with
          | none => rfl
          | some o => exact absurd z ((off1 x o e).resolve_left ncl)
        have e2 : H2 x = none := s3.free e3
        rcases h' with y | y | y | y | y
        · rcases off2 x o e4 with u | u
          · subst u; rw [ecl'] at e2; cases e2
          · exact u y
        · have y : x = A'.gp := y
          rw [y, ep'] at e2; cases e2
        · have y : x = d' := y
          rw [y, d1'] at e2; cases e2
        · have y : x = r' := y
          rw [y, er'] at e2; cases e2
        · have y : x = nw' := y
          rw [y, N2] at e2; cases e2
    · have z : x = A.gp := z
      subst z; exact off' ep h'
    · have z : x = d := z
      subst z; exact off' d1 h'
    · have z : x = r := z
      subst z; exact off' er h'
    · have z : x = nw := z
      subst z; exact off' N1 h'
  have I1 : UI a (fun x => SU.F ⟨A, d, r, nw⟩ x ∨ SU.F ⟨A', d', r', nw'⟩ x) H6 ⟨A, d, r, nw⟩ w rows n [] := by
    refine ⟨B4.same s46, S1c.sb (G := fun _ => False) (Same.sb s16) (fun _ z => z.elim) id, ⟨rs, s16 _ _ er, Paired.mapP pr fun l row z => ⟨s16 _ _ z.1, fun y => ?_⟩⟩, news_nil (s16 _ _ N1), g1.keep s16.tk, fun c hc => (by cases hc), ⟨in1 d1 (ne_of d1 ecl (by intro z; cases z)), in1 er ncr.symm, in1 N1 (ne_of N1 ecl (by intro z; cases z))⟩, ⟨m1, w1, wx1⟩, fun x h => .inl h⟩
    rcases y with y | y
    · rcases y with y | y | y | y | y
      · exact in1 z.1 (fun u => z.2 (.inr (.inl u))) y
      · exact ne_of z.1 ep (by intro z; cases z) y
      · exact ne_of z.1 d1 (by intro z; cases z) y
      · exact z.2 (.inr (.inr y))
      · exact ne_of z.1 N1 (by intro z; cases z) y
    · exact off' z.1 y
  have I2 : UI a (fun x => SU.F ⟨A, d, r, nw⟩ x ∨ SU.F ⟨A', d', r', nw'⟩ x) H6 ⟨A', d', r', nw'⟩ w' rows' n' [] := by
    refine ⟨B5.same s6, S2c.sb (G := fun _ => False) (Same.sb s26) (fun _ z => z.elim) id, ⟨rs', s26 _ _ er', Paired.mapP pr' fun l row z => ⟨s26 _ _ z.1, fun y => ?_⟩⟩, news_nil (s26 _ _ N2), g2.keep s26.tk, fun c hc => (by cases hc), ⟨in2' d1' (ne_of d1' ecl' (by intro z; cases z)), in2' er' ncr'.symm, in2' N2 (ne_of N2 ecl' (by intro z; cases z))⟩, ⟨m2, w2, wx2⟩, fun x h => .inr h⟩
    have old : ∀ {x o}, H1 x = some o → l ≠ x := fun {x o} e u => z.2 (.inl (by rw [u, e]; exact Option.some_ne_none _))
    rcases y with y | y
    · rcases y with y | y | y | y | y
      · exact in2 z.1 (old ecl) y
      · exact old ep y
      · exact old d1 y
      · exact old er y
      · exact old N1 y
    · rcases y with y | y | y | y | y
      · exact in2' z.1 (fun u => z.2 (.inr (.inl u))) y
      · exact ne_of z.1 ep' (by intro z; cases z) y
      · exact ne_of z.1 d1' (by intro z; cases z) y
      · exact z.2 (.inr (.inr y))
      · exact ne_of z.1 N2 (by intro z; cases z) y
  have nc0 := two_nice I1 I2 fun x h => h
  -- the lists of the law are none of these
  have fs : ¬ (SU.F ⟨A, d, r, nw⟩ sl ∨ SU.F ⟨A', d', r', nw'⟩ sl) := fun y => by
    rcases y with y | y
    · rcases y with y | y | y | y | y
      · exact (off1 _ _ es3).resolve_left (ne_of_none ((s2) _ _ ecl) hsl).symm y
      · exact (ne_of_none (s2 _ _ ep) hsl).symm y
      · exact (ne_of_none (s2 _ _ d1) hsl).symm y
      · exact (ne_of_none (s2 _ _ er) hsl).symm y
      · exact (ne_of_none (s2 _ _ N1) hsl).symm y
    · rcases y with y | y | y | y | y
      · exact (off2 _ _ (s4 _ _ es3)).resolve_left (ne_of_none ecl' hsl).symm y
      · exact (ne_of_none ep' hsl).symm y
      · exact (ne_of_none d1' hsl).symm y
      · exact (ne_of_none er' hsl).symm y
      · exact (ne_of_none N2 hsl).symm y
  have fb : ¬ (SU.F ⟨A, d, r, nw⟩ bl ∨ SU.F ⟨A', d', r', nw'⟩ bl) := fun y => by
    have h4 := s5.free hbl
    have h2 := s3.free (s4.free h4)
    have h1 := s2.free h2
    rcases y with y | y
    · rcases y with y | y | y | y | y
      · exact B4.off h4 y
      · exact (ne_of_none ep h1).symm y
      · exact (ne_of_none d1 h1).symm y
      · exact (ne_of_none er h1).symm y
      · exact (ne_of_none N1 h1).symm y
    · rcases y with y | y | y | y | y
      · exact B5.off hbl y
      · exact (ne_of_none ep' h2).symm y
      · exact (ne_of_none d1' h2).symm y
      · exact (ne_of_none er' h2).symm y
      · exact (ne_of_none N2 h2).symm y
  push_cast [↓rd_law_14_ap]
  obtain ⟨ms, ems, hms⟩ := cut_ints ns (some 2) (some 122)
  refine sl_l (s16.seq (s1.seq hs)) fun rr hrr => ?_
  rw [ems]
  refine ⟨rr, rfl, .inl ⟨⟨_, SqL.of upd_same⟩, ?_⟩⟩
  have s7 := same_upd (o := .lst (ms.map V.int)) hrr
  have er7 : upd H6 rr (.lst (ms.map V.int)) rr = some (.lst (ms.map V.int)) := upd_same
  revert s7 er7
  generalize upd H6 rr (.lst (ms.map V.int)) = H7
  intro s7 er7
  have frr := nice_off nc0 hrr
  refine for_listB (xs := ms.map V.int) (fun i σ H' => In11 a (fun x => SU.F ⟨A, d, r, nw⟩ x ∨ SU.F ⟨A', d', r', nw'⟩ x) ⟨A, d, r, nw⟩ ⟨A', d', r', nw'⟩ w w' rows.length rows'.length bl sl rr ms i H' ∧ ∃ x3 x4 x5, σ = [some (.ref s), some (.ref sl), some (.ref bl), x3, x4, x5])
    ⟨⟨⟨rows, n, [], I1.same s7, rfl, by omega, Nat.zero_le _⟩, ⟨rows', n', [], I2.same s7, rfl, by omega, Nat.zero_le _⟩, s7 _ _ eb6, s7 _ _ ((s4.trans s46) _ _ es3), er7⟩, _, _, _, rfl⟩ (fun i σ H' _ ⟨I, _⟩ => SqL.of I.sc) (fun i x σ H' hx ⟨I, x3, x4, x5, ez⟩ => ?_) (fun σ H' ⟨I, x3, x4, x5, ez⟩ => ?_)
  · subst ez
    have hi := (List.getElem?_eq_some_iff.mp hx).1
    rw [List.length_map] at hi
    obtain ⟨c, _, rfl⟩ := List.mem_map.mp (List.mem_of_getElem? hx)
    push_cast []
    exact turn11 T TP D (fun x h => h) fb fs frr I (by omega) fun H8 x y I8 => ⟨I8, _, _, _, rfl⟩
  · subst ez
    obtain ⟨⟨rowsa, na, csa, Ia, _⟩, ⟨rowsb, nb, csb, Ib, _⟩, eb, es, sc⟩ := I
    push_cast [↓rd_law_15_ap]
    refine ix_sq (SqL.of eb) (n := 0) rfl rfl (ix_sq (SqL.of es) (n := 0) rfl rfl ⟨_, _, _, _, _, _, rfl, T, TP, Ia, fun H8 s8 => ?_⟩)
    push_cast []
    refine ix_sq (SqL.of (s8 _ _ eb)) (n := 1) rfl rfl (ix_sq (SqL.of (s8 _ _ es)) (n := 1) rfl rfl ⟨_, _, _, _, _, _, rfl, T, TP, Ib.same s8, fun H9 s9 => q _⟩)
theorem len_law (h : sp_law K a vs H Q E) : vs.length = 1 := by
  obtain ⟨_, _, rfl, _⟩ := h
  rfl
end
end L2

set_option linter.all false
set_option maxRecDepth 100000
set_option maxHeartbeats 4000000
namespace L2
open PySem PySem.Spec PyProof.Rows
def top (i : Nat) : Stmt := PySem.Challenge.pw_holdback_k11_in_hand.main.body.getD i (.Pass ⟨0, 0, 0, 0⟩)
structure Txt (K : PySem.W.Frag) (mg : Str → Option Value) (a : Ad) : Prop where
  c_Book : Cls K (a "Book")
  c_Change : Cls K (a "Change")
  c_Plank : Cls K (a "Plank")
  r_NoBlock : mg "NoBlock" = some (.ref (a "NoBlock"))
  g_NoBlock : GV mg "NoBlock" (.ref (a "NoBlock"))
  x_NoBlock : Exc K (a "NoBlock")
  r_NoChange : mg "NoChange" = some (.ref (a "NoChange"))
  g_NoChange : GV mg "NoChange" (.ref (a "NoChange"))
  x_NoChange : Exc K (a "NoChange")
  b_bool : mg "bool" = none
  b_int : mg "int" = none
  b_isinstance : mg "isinstance" = none
  b_len : mg "len" = none
  b_list : mg "list" = none
  b_range : mg "range" = none
  b_set : mg "set" = none
  b_sorted : mg "sorted" = none
  b_str : mg "str" = none
  b_tuple : mg "tuple" = none
  b_zip : mg "zip" = none
def RdOk (sp : Sp) (rd : (St → XK) → TS) (N : List Str) : Prop := ∀ (vs : List V) (H : Hp) (Q : VK) (E : XK), sp vs H Q E → rd (fun _ => E) { nx := fun _ H' => Q .non H', rt := Q } (start N vs) H
def LenOk (sp : Sp) (k : Nat) : Prop := ∀ (vs : List V) (H : Hp) (Q : VK) (E : XK), sp vs H Q E → vs.length = k
section
variable {P : Program} {w : World} {K : PySem.W.Frag} {mg : Str → Option Value} {base : Heap} {a : Ad} {f : Addr} {fd : FuncData}
abbrev s_Change_init : Stmt := inClass (top 6) 0
theorem sc_Change_init : FnScope ["self", "place", "value", "needs"] ["self", "place", "value", "needs"] (defScope s_Change_init) := ⟨rfl, rfl, rfl, by decide +kernel, rfl, by decide +kernel, by decide +kernel⟩
theorem ok_Change_init (T : Txt K mg a) (F : Fun K "__init__" "Change.__init__" s_Change_init f fd)
    (R : RdOk (sp_Change_init K a) (rd_Change_init K a) ["self", "place", "value", "needs"]) (L : LenOk (sp_Change_init K a) 4) :
    FnOk P w K mg base (cxE P w) 1 f fd ["self", "place", "value", "needs"] (sp_Change_init K a) := by
  refine F.okE sc_Change_init L (fun cdv A outer s H vs Q E hr h => ?_)
  have hx : XOk (cxOf (cxE P w) P w K mg base ["self", "place", "value", "needs"] "Change.__init__" (defScope s_Change_init) f cdv A outer s H E) (fun _ => E) := xok_fn
  exact ⟨rd_Change_init K a (fun _ => E), (pss_cons (ps_fld (pvr 0) (pvr 1) rfl)
      (pss_cons (ps_fld (pvr 0) (pvr 2) rfl)
      (pss_one (ps_fld (pvr 0) (pvr 3) rfl)))), R vs H Q E h⟩
abbrev s_Book_waiting : Stmt := inClass (top 7) 4
theorem sc_Book_waiting : FnScope ["self"] ["self"] (defScope s_Book_waiting) := ⟨rfl, rfl, rfl, by decide +kernel, rfl, by decide +kernel, by decide +kernel⟩
theorem ok_Book_waiting (T : Txt K mg a) (F : Fun K "waiting" "Book.waiting" s_Book_waiting f fd)
    (R : RdOk (sp_Book_waiting K a) (rd_Book_waiting K a) ["self"]) (L : LenOk (sp_Book_waiting K a) 1) :
    FnOk P w K mg base (cxE P w) 1 f fd ["self"] (sp_Book_waiting K a) := by
  refine F.okE sc_Book_waiting L (fun cdv A outer s H vs Q E hr h => ?_)
  have hx : XOk (cxOf (cxE P w) P w K mg base ["self"] "Book.waiting" (defScope s_Book_waiting) f cdv A outer s H E) (fun _ => E) := xok_fn
  exact ⟨rd_Book_waiting K a (fun _ => E), (pss_one (ps_ret (pe_comp (tn := ["number"]) (cn := ["self"]) (cap := [0]) (cps_of (outer := defScope s_Book_waiting) (N := ["self"]) rfl rfl (by decide +kernel)) rfl (pi_range1 rfl T.b_range (pa_cons (pe_callB call_lenA rfl T.b_len (by rfl) (pa_cons (pe_fld (pvr 0) rfl) pa_nil)) pa_nil)) (fun _ _ _ _ _ _ => (pg_name (i := 0) (show (["number", "self"] : List Str).Nodup from by decide +kernel) rfl (Or.inl rfl))) (fun _ _ _ _ _ _ => (pts_one (pt_cmp (pc_dnotin (hu_of hr) (pvr 0) (pe_fld (pvr 1) rfl)) (by with_unfolding_all rfl)))) (fun _ _ _ _ _ _ => (pvr 0))))), R vs H Q E h⟩
abbrev s_Book_ask_for_changes : Stmt := inClass (top 7) 10
theorem sc_Book_ask_for_changes : FnScope ["self", "numbers", "number"] ["self", "numbers"] (defScope s_Book_ask_for_changes) := ⟨rfl, rfl, rfl, by decide +kernel, rfl, by decide +kernel, by decide +kernel⟩
theorem ok_Book_ask_for_changes (T : Txt K mg a) (F : Fun K "ask_for_changes" "Book.ask_for_changes" s_Book_ask_for_changes f fd)
    (R : RdOk (sp_Book_ask_for_changes K a) (rd_Book_ask_for_changes K a) ["self", "numbers", "number"]) (L : LenOk (sp_Book_ask_for_changes K a) 2) :
    FnOk P w K mg base (cxE P w) 1 f fd ["self", "numbers"] (sp_Book_ask_for_changes K a) := by
  refine F.okE sc_Book_ask_for_changes L (fun cdv A outer s H vs Q E hr h => ?_)
  have hx : XOk (cxOf (cxE P w) P w K mg base ["self", "numbers", "number"] "Book.ask_for_changes" (defScope s_Book_ask_for_changes) f cdv A outer s H E) (fun _ => E) := xok_fn
  exact ⟨rd_Book_ask_for_changes K a (fun _ => E), (pss_one (ps_for hx.po rfl (pi_seq (pvr 1)) (pg_name (i := 2) sc_Book_ask_for_changes.nd rfl (Or.inl rfl)) (pss_one (ps_if (pt_not (pt_chain op_leA op_ltA pe_int (pvr 2) (pe_callB call_lenA rfl T.b_len (by rfl) (pa_cons (pe_fld (pvr 0) rfl) pa_nil)))) (pss_one (ps_raise hx T.x_NoChange rfl T.r_NoChange (pa_cons pe_str pa_nil))) pss_nil)))), R vs H Q E h⟩
abbrev s_needs_with : Stmt := top 8
theorem sc_needs_with : FnScope ["needs", "ahead"] ["needs", "ahead"] (defScope s_needs_with) := ⟨rfl, rfl, rfl, by decide +kernel, rfl, by decide +kernel, by decide +kernel⟩
theorem ok_needs_with (T : Txt K mg a) (F : Fun K "needs_with" "needs_with" s_needs_with f fd)
    (R : RdOk (sp_needs_with K a) (rd_needs_with K a) ["needs", "ahead"]) (L : LenOk (sp_needs_with K a) 2) :
    FnOk P w K mg base (cxE P w) 1 f fd ["needs", "ahead"] (sp_needs_with K a) := by
  refine F.okE sc_needs_with L (fun cdv A outer s H vs Q E hr h => ?_)
  have hx : XOk (cxOf (cxE P w) P w K mg base ["needs", "ahead"] "needs_with" (defScope s_needs_with) f cdv A outer s H E) (fun _ => E) := xok_fn
  exact ⟨rd_needs_with K a (fun _ => E), (pss_cons (ps_if (pt_cmpR op_isN (pvr 1) pe_non (nomark _)) (pss_one (ps_ret (pe_callTy call_tupleA rfl T.b_tuple (by rfl) (pa_cons (pe_sortset rfl rfl T.b_sorted rfl T.b_set (pvr 0)) pa_nil)))) pss_nil)
      (pss_one (ps_ret (pe_callTy call_tupleA rfl T.b_tuple (by rfl) (pa_cons (pe_sortset rfl rfl T.b_sorted rfl T.b_set (pe_op op_addA (pe_callTy call_listA rfl T.b_list (by rfl) (pa_cons (pvr 0) pa_nil)) (pe_lst (pa_cons (pvr 1) pa_nil)))) pa_nil))))), R vs H Q E h⟩
abbrev s_Plank_init : Stmt := inClass (top 10) 0
theorem sc_Plank_init : FnScope ["self", "blocks", "cells"] ["self", "blocks", "cells"] (defScope s_Plank_init) := ⟨rfl, rfl, rfl, by decide +kernel, rfl, by decide +kernel, by decide +kernel⟩
theorem ok_Plank_init (T : Txt K mg a) (F : Fun K "__init__" "Plank.__init__" s_Plank_init f fd)
    (R : RdOk (sp_Plank_init K a) (rd_Plank_init K a) ["self", "blocks", "cells"]) (L : LenOk (sp_Plank_init K a) 3) :
    FnOk P w K mg base (cxE P w) 1 f fd ["self", "blocks", "cells"] (sp_Plank_init K a) := by
  refine F.okE sc_Plank_init L (fun cdv A outer s H vs Q E hr h => ?_)
  have hx : XOk (cxOf (cxE P w) P w K mg base ["self", "blocks", "cells"] "Plank.__init__" (defScope s_Plank_init) f cdv A outer s H E) (fun _ => E) := xok_fn
  exact ⟨rd_Plank_init K a (fun _ => E), (pss_cons (ps_fld (pvr 0) (pe_comp (tn := ["block"]) (cn := ["cells"]) (cap := [2]) (cps_of (outer := defScope s_Plank_init) (N := ["self", "blocks", "cells"]) rfl rfl (by decide +kernel)) rfl (pi_range1 rfl T.b_range (pa_cons (pvr 1) pa_nil)) (fun _ _ _ _ _ _ => (pg_name (i := 0) (show (["block", "cells"] : List Str).Nodup from by decide +kernel) rfl (Or.inl rfl))) (fun _ _ _ _ _ _ => pts_nil) (fun _ _ _ _ _ _ => (pe_op op_mulA (pe_tup (pa_cons pe_non pa_nil)) (pvr 1)))) rfl)
      (pss_cons (ps_fld (pvr 0) (pvr 2) rfl)
      (pss_one (ps_fld (pvr 0) pe_int rfl)))), R vs H Q E h⟩
abbrev s_Plank_blocks : Stmt := inClass (top 10) 1
theorem sc_Plank_blocks : FnScope ["self"] ["self"] (defScope s_Plank_blocks) := ⟨rfl, rfl, rfl, by decide +kernel, rfl, by decide +kernel, by decide +kernel⟩
theorem ok_Plank_blocks (T : Txt K mg a) (F : Fun K "blocks" "Plank.blocks" s_Plank_blocks f fd)
    (R : RdOk (sp_Plank_blocks K a) (rd_Plank_blocks K a) ["self"]) (L : LenOk (sp_Plank_blocks K a) 1) :
    FnOk P w K mg base (cxE P w) 1 f fd ["self"] (sp_Plank_blocks K a) := by
  refine F.okE sc_Plank_blocks L (fun cdv A outer s H vs Q E hr h => ?_)
  have hx : XOk (cxOf (cxE P w) P w K mg base ["self"] "Plank.blocks" (defScope s_Plank_blocks) f cdv A outer s H E) (fun _ => E) := xok_fn
  exact ⟨rd_Plank_blocks K a (fun _ => E), (pss_one (ps_ret (pe_callB call_lenA rfl T.b_len (by rfl) (pa_cons (pe_fld (pvr 0) rfl) pa_nil)))), R vs H Q E h⟩
abbrev s_Plank_cells : Stmt := inClass (top 10) 2
theorem sc_Plank_cells : FnScope ["self"] ["self"] (defScope s_Plank_cells) := ⟨rfl, rfl, rfl, by decide +kernel, rfl, by decide +kernel, by decide +kernel⟩
theorem ok_Plank_cells (T : Txt K mg a) (F : Fun K "cells" "Plank.cells" s_Plank_cells f fd)
    (R : RdOk (sp_Plank_cells K a) (rd_Plank_cells K a) ["self"]) (L : LenOk (sp_Plank_cells K a) 1) :
    FnOk P w K mg base (cxE P w) 1 f fd ["self"] (sp_Plank_cells K a) := by
  refine F.okE sc_Plank_cells L (fun cdv A outer s H vs Q E hr h => ?_)
  have hx : XOk (cxOf (cxE P w) P w K mg base ["self"] "Plank.cells" (defScope s_Plank_cells) f cdv A outer s H E) (fun _ => E) := xok_fn
  exact ⟨rd_Plank_cells K a (fun _ => E), (pss_one (ps_ret (pe_fld (pvr 0) rfl))), R vs H Q E h⟩
abbrev s_Plank_writings : Stmt := inClass (top 10) 3
theorem sc_Plank_writings : FnScope ["self"] ["self"] (defScope s_Plank_writings) := ⟨rfl, rfl, rfl, by decide +kernel, rfl, by decide +kernel, by decide +kernel⟩
theorem ok_Plank_writings (T : Txt K mg a) (F : Fun K "writings" "Plank.writings" s_Plank_writings f fd)
    (R : RdOk (sp_Plank_writings K a) (rd_Plank_writings K a) ["self"]) (L : LenOk (sp_Plank_writings K a) 1) :
    FnOk P w K mg base (cxE P w) 1 f fd ["self"] (sp_Plank_writings K a) := by
  refine F.okE sc_Plank_writings L (fun cdv A outer s H vs Q E hr h => ?_)
  have hx : XOk (cxOf (cxE P w) P w K mg base ["self"] "Plank.writings" (defScope s_Plank_writings) f cdv A outer s H E) (fun _ => E) := xok_fn
  exact ⟨rd_Plank_writings K a (fun _ => E), (pss_one (ps_ret (pe_fld (pvr 0) rfl))), R vs H Q E h⟩
abbrev s_Plank_ask_for_block : Stmt := inClass (top 10) 6
theorem sc_Plank_ask_for_block : FnScope ["self", "block"] ["self", "block"] (defScope s_Plank_ask_for_block) := ⟨rfl, rfl, rfl, by decide +kernel, rfl, by decide +kernel, by decide +kernel⟩
theorem ok_Plank_ask_for_block (T : Txt K mg a) (F : Fun K "ask_for_block" "Plank.ask_for_block" s_Plank_ask_for_block f fd)
    (R : RdOk (sp_Plank_ask_for_block K a) (rd_Plank_ask_for_block K a) ["self", "block"]) (L : LenOk (sp_Plank_ask_for_block K a) 2) :
    FnOk P w K mg base (cxE P w) 1 f fd ["self", "block"] (sp_Plank_ask_for_block K a) := by
  refine F.okE sc_Plank_ask_for_block L (fun cdv A outer s H vs Q E hr h => ?_)
  have hx : XOk (cxOf (cxE P w) P w K mg base ["self", "block"] "Plank.ask_for_block" (defScope s_Plank_ask_for_block) f cdv A outer s H E) (fun _ => E) := xok_fn
  exact ⟨rd_Plank_ask_for_block K a (fun _ => E), (pss_one (ps_if (pt_not (pt_chain op_leA op_ltA pe_int (pvr 1) (pe_callB call_lenA rfl T.b_len (by rfl) (pa_cons (pe_fld (pvr 0) rfl) pa_nil)))) (pss_one (ps_raise hx T.x_NoBlock rfl T.r_NoBlock (pa_cons pe_str pa_nil))) pss_nil)), R vs H Q E h⟩
abbrev s_law_cell_at : Stmt := top 12
theorem sc_law_cell_at : FnScope ["script", "k"] ["script", "k"] (defScope s_law_cell_at) := ⟨rfl, rfl, rfl, by decide +kernel, rfl, by decide +kernel, by decide +kernel⟩
theorem ok_law_cell_at (T : Txt K mg a) (F : Fun K "_law_cell_at" "_law_cell_at" s_law_cell_at f fd)
    (R : RdOk (sp_law_cell_at K a) (rd_law_cell_at K a) ["script", "k"]) (L : LenOk (sp_law_cell_at K a) 2) :
    FnOk P w K mg base (cxE P w) 1 f fd ["script", "k"] (sp_law_cell_at K a) := by
  refine F.okE sc_law_cell_at L (fun cdv A outer s H vs Q E hr h => ?_)
  have hx : XOk (cxOf (cxE P w) P w K mg base ["script", "k"] "_law_cell_at" (defScope s_law_cell_at) f cdv A outer s H E) (fun _ => E) := xok_fn
  exact ⟨rd_law_cell_at K a (fun _ => E), (pss_cons (ps_if (pt_cmpR op_ltA (pvr 1) (pe_callB call_lenA rfl T.b_len (by rfl) (pa_cons (pvr 0) pa_nil)) (nomark _)) (pss_one (ps_ret (pe_ix ix_any (pvr 0) (pvr 1) (fun _ _ => rfl)))) pss_nil)
      (pss_one (ps_ret pe_int))), R vs H Q E h⟩
abbrev s_law_pick : Stmt := top 13
theorem sc_law_pick : FnScope ["cell", "prime", "many", "low"] ["cell", "prime", "many"] (defScope s_law_pick) := ⟨rfl, rfl, rfl, by decide +kernel, rfl, by decide +kernel, by decide +kernel⟩
theorem ok_law_pick (T : Txt K mg a) (F : Fun K "_law_pick" "_law_pick" s_law_pick f fd)
    (R : RdOk (sp_law_pick K a) (rd_law_pick K a) ["cell", "prime", "many", "low"]) (L : LenOk (sp_law_pick K a) 3) :
    FnOk P w K mg base (cxE P w) 1 f fd ["cell", "prime", "many"] (sp_law_pick K a) := by
  refine F.okE sc_law_pick L (fun cdv A outer s H vs Q E hr h => ?_)
  have hx : XOk (cxOf (cxE P w) P w K mg base ["cell", "prime", "many", "low"] "_law_pick" (defScope s_law_pick) f cdv A outer s H E) (fun _ => E) := xok_fn
  exact ⟨rd_law_pick K a (fun _ => E), (pss_cons (ps_set (i := 3) sc_law_pick.nd rfl (Or.inl rfl) (pe_op op_mod (pe_op op_addA (pvr 0) (pe_op op_fdiv (pvr 1) pe_int)) (pvr 1)))
      (pss_one (ps_ret (pe_op op_mod (pe_op op_mod (pe_op op_mulA (pe_op op_mod (pe_op op_mulA (pvr 3) (pvr 3)) (pvr 1)) (pvr 3)) (pvr 1)) (pvr 2))))), R vs H Q E h⟩
abbrev s_Book_init : Stmt := inClass (top 7) 0
theorem sc_Book_init : FnScope ["self", "plank"] ["self", "plank"] (defScope s_Book_init) := ⟨rfl, rfl, rfl, by decide +kernel, rfl, by decide +kernel, by decide +kernel⟩
theorem ok_Book_init (T : Txt K mg a) (F : Fun K "__init__" "Book.__init__" s_Book_init f fd) (m_Plank_blocks : MCal P w K mg base (a "Plank") 1 "blocks" ["self"] (sp_Plank_blocks K a))
    (R : RdOk (sp_Book_init K a) (rd_Book_init K a) ["self", "plank"]) (L : LenOk (sp_Book_init K a) 2) :
    FnOk P w K mg base (cxE P w) 2 f fd ["self", "plank"] (sp_Book_init K a) := by
  refine F.okE sc_Book_init L (fun cdv A outer s H vs Q E hr h => ?_)
  have hx : XOk (cxOf (cxE P w) P w K mg base ["self", "plank"] "Book.__init__" (defScope s_Book_init) f cdv A outer s H E) (fun _ => E) := xok_fn
  exact ⟨rd_Book_init K a (fun _ => E), (pss_cons (ps_fld (pvr 0) (pvr 1) rfl)
      (pss_cons (ps_fld (pvr 0) (pe_lst pa_nil) rfl)
      (pss_cons (ps_fld (pvr 0) (pe_comp (tn := ["block"]) (cn := []) (cap := []) (cps_of (outer := defScope s_Book_init) (N := ["self", "plank"]) rfl rfl (by decide +kernel)) rfl (pi_range1 rfl T.b_range (pa_cons (pe_methX0 (pvr 1) T.c_Plank m_Plank_blocks (hr.mono (by decide)) hx.passes) pa_nil)) (fun _ _ _ _ _ _ => (pg_name (i := 0) (show (["block"] : List Str).Nodup from by decide +kernel) rfl (Or.inl rfl))) (fun _ _ _ _ _ _ => pts_nil) (fun _ _ _ _ _ _ => (pe_lst pa_nil))) rfl)
      (pss_cons (ps_fld (pvr 0) pe_dnewT rfl)
      (pss_one (ps_fld (pvr 0) pe_dnewK rfl)))))), R vs H Q E h⟩
abbrev s_Book_ask_for_place : Stmt := inClass (top 7) 9
theorem sc_Book_ask_for_place : FnScope ["self", "place"] ["self", "place"] (defScope s_Book_ask_for_place) := ⟨rfl, rfl, rfl, by decide +kernel, rfl, by decide +kernel, by decide +kernel⟩
theorem ok_Book_ask_for_place (T : Txt K mg a) (F : Fun K "ask_for_place" "Book.ask_for_place" s_Book_ask_for_place f fd) (m_Plank_cells : MCal P w K mg base (a "Plank") 1 "cells" ["self"] (sp_Plank_cells K a)) (m_Plank_blocks : MCal P w K mg base (a "Plank") 1 "blocks" ["self"] (sp_Plank_blocks K a))
    (R : RdOk (sp_Book_ask_for_place K a) (rd_Book_ask_for_place K a) ["self", "place"]) (L : LenOk (sp_Book_ask_for_place K a) 2) :
    FnOk P w K mg base (cxE P w) 2 f fd ["self", "place"] (sp_Book_ask_for_place K a) := by
  refine F.okE sc_Book_ask_for_place L (fun cdv A outer s H vs Q E hr h => ?_)
  have hx : XOk (cxOf (cxE P w) P w K mg base ["self", "place"] "Book.ask_for_place" (defScope s_Book_ask_for_place) f cdv A outer s H E) (fun _ => E) := xok_fn
  exact ⟨rd_Book_ask_for_place K a (fun _ => E), (pss_one (ps_if (PW.pt (pw_or (pt_not (pt_chain op_leA op_ltA pe_int (pe_ix ix_any (pvr 1) pe_int (fun _ _ => rfl)) (pe_methX0 (pe_fld (pvr 0) rfl) T.c_Plank m_Plank_blocks (hr.mono (by decide)) hx.passes))) (pw_or1 (pt_not (pt_chain op_leA op_ltA pe_int (pe_ix ix_any (pvr 1) pe_int (fun _ _ => rfl)) (pe_methX0 (pe_fld (pvr 0) rfl) T.c_Plank m_Plank_cells (hr.mono (by decide)) hx.passes)))))) (pss_one (ps_raise hx T.x_NoBlock rfl T.r_NoBlock (pa_cons pe_str pa_nil))) pss_nil)), R vs H Q E h⟩
abbrev s_Plank_read : Stmt := inClass (top 10) 4
theorem sc_Plank_read : FnScope ["self", "block"] ["self", "block"] (defScope s_Plank_read) := ⟨rfl, rfl, rfl, by decide +kernel, rfl, by decide +kernel, by decide +kernel⟩
theorem ok_Plank_read (T : Txt K mg a) (F : Fun K "read" "Plank.read" s_Plank_read f fd) (m_Plank_ask_for_block : MCal P w K mg base (a "Plank") 1 "ask_for_block" ["self", "block"] (sp_Plank_ask_for_block K a))
    (R : RdOk (sp_Plank_read K a) (rd_Plank_read K a) ["self", "block"]) (L : LenOk (sp_Plank_read K a) 2) :
    FnOk P w K mg base (cxE P w) 2 f fd ["self", "block"] (sp_Plank_read K a) := by
  refine F.okE sc_Plank_read L (fun cdv A outer s H vs Q E hr h => ?_)
  have hx : XOk (cxOf (cxE P w) P w K mg base ["self", "block"] "Plank.read" (defScope s_Plank_read) f cdv A outer s H E) (fun _ => E) := xok_fn
  exact ⟨rd_Plank_read K a (fun _ => E), (pss_cons (ps_expr (pe_methX (pvr 0) T.c_Plank m_Plank_ask_for_block (hr.mono (by decide)) hx.passes (pa_cons (pvr 1) pa_nil)))
      (pss_one (ps_ret (pe_callTy call_listA rfl T.b_list (by rfl) (pa_cons (pe_ix ix_any (pe_fld (pvr 0) rfl) (pvr 1) (fun _ _ => rfl)) pa_nil))))), R vs H Q E h⟩
abbrev s_Plank_write : Stmt := inClass (top 10) 5
theorem sc_Plank_write : FnScope ["self", "block", "values"] ["self", "block", "values"] (defScope s_Plank_write) := ⟨rfl, rfl, rfl, by decide +kernel, rfl, by decide +kernel, by decide +kernel⟩
theorem ok_Plank_write (T : Txt K mg a) (F : Fun K "write" "Plank.write" s_Plank_write f fd) (m_Plank_ask_for_block : MCal P w K mg base (a "Plank") 1 "ask_for_block" ["self", "block"] (sp_Plank_ask_for_block K a))
    (R : RdOk (sp_Plank_write K a) (rd_Plank_write K a) ["self", "block", "values"]) (L : LenOk (sp_Plank_write K a) 3) :
    FnOk P w K mg base (cxE P w) 2 f fd ["self", "block", "values"] (sp_Plank_write K a) := by
  refine F.okE sc_Plank_write L (fun cdv A outer s H vs Q E hr h => ?_)
  have hx : XOk (cxOf (cxE P w) P w K mg base ["self", "block", "values"] "Plank.write" (defScope s_Plank_write) f cdv A outer s H E) (fun _ => E) := xok_fn
  exact ⟨rd_Plank_write K a (fun _ => E), (pss_cons (ps_expr (pe_methX (pvr 0) T.c_Plank m_Plank_ask_for_block (hr.mono (by decide)) hx.passes (pa_cons (pvr 1) pa_nil)))
      (pss_cons (ps_if (pt_cmpR (op_neA hr.units) (pe_callB call_lenA rfl T.b_len (by rfl) (pa_cons (pvr 2) pa_nil)) (pe_fld (pvr 0) rfl) (nomark _)) (pss_one (ps_raise hx T.x_NoBlock rfl T.r_NoBlock (pa_cons pe_str pa_nil))) pss_nil)
      (pss_cons (ps_asg (pe_callTy call_tupleA rfl T.b_tuple (by rfl) (pa_cons (pvr 2) pa_nil)) (pg_sub (pe_fld (pvr 0) rfl) (pvr 1) set_any))
      (pss_one (ps_fldaug (pvr 0) pe_int in_add))))), R vs H Q E h⟩
abbrev s_law_text : Stmt := top 14
theorem sc_law_text : FnScope ["cell", "size", "signs"] ["cell", "size"] (defScope s_law_text) := ⟨rfl, rfl, rfl, by decide +kernel, rfl, by decide +kernel, by decide +kernel⟩
theorem ok_law_text (T : Txt K mg a) (F : Fun K "_law_text" "_law_text" s_law_text f fd) (c_law_pick : Cal P w K mg base (1) "_law_pick" ["cell", "prime", "many"] (sp_law_pick K a))
    (R : RdOk (sp_law_text K a) (rd_law_text K a) ["cell", "size", "signs"]) (L : LenOk (sp_law_text K a) 2) :
    FnOk P w K mg base (cxE P w) 2 f fd ["cell", "size"] (sp_law_text K a) := by
  refine F.okE sc_law_text L (fun cdv A outer s H vs Q E hr h => ?_)
  have hx : XOk (cxOf (cxE P w) P w K mg base ["cell", "size", "signs"] "_law_text" (defScope s_law_text) f cdv A outer s H E) (fun _ => E) := xok_fn
  exact ⟨rd_law_text K a (fun _ => E), (pss_cons (ps_set (i := 2) sc_law_text.nd rfl (Or.inr rfl) pe_str)
      (pss_cons (ps_set (i := 2) sc_law_text.nd rfl (Or.inr rfl) (pe_op op_addA (pvr 2) pe_str))
      (pss_one (ps_ret (pe_bm PySem.F.plainAttrs_str PySem.F.slot_str_join PySem.F.type_str_join mt_join pe_str (pa_cons (pe_comp (tn := ["k"]) (cn := ["signs", "cell"]) (cap := [2, 0]) (cps_of (outer := defScope s_law_text) (N := ["cell", "size", "signs"]) rfl rfl (by decide +kernel)) rfl (pi_range1 rfl T.b_range (pa_cons (pvr 1) pa_nil)) (fun _ _ _ _ _ _ => (pg_name (i := 0) (show (["k", "signs", "cell"] : List Str).Nodup from by decide +kernel) rfl (Or.inl rfl))) (fun _ _ _ _ _ _ => pts_nil) (fun _ _ _ _ _ _ => (pe_ix ix_any (pvr 1) (pe_callX c_law_pick (hr.mono (by decide)) passesN rfl (pa_cons (pe_op op_addA (pvr 2) (pe_op op_mulA (pe_op op_mulA pe_int (pvr 0)) (pvr 0))) (pa_cons pe_int (pa_cons (pe_callB call_lenA rfl T.b_len (by rfl) (pa_cons (pvr 1) pa_nil)) pa_nil)))) (fun _ _ => rfl)))) pa_nil)))))), R vs H Q E h⟩
abbrev s_law_number : Stmt := top 15
theorem sc_law_number : FnScope ["cell", "prime"] ["cell", "prime"] (defScope s_law_number) := ⟨rfl, rfl, rfl, by decide +kernel, rfl, by decide +kernel, by decide +kernel⟩
theorem ok_law_number (T : Txt K mg a) (F : Fun K "_law_number" "_law_number" s_law_number f fd) (c_law_pick : Cal P w K mg base (1) "_law_pick" ["cell", "prime", "many"] (sp_law_pick K a))
    (R : RdOk (sp_law_number K a) (rd_law_number K a) ["cell", "prime"]) (L : LenOk (sp_law_number K a) 2) :
    FnOk P w K mg base (cxE P w) 2 f fd ["cell", "prime"] (sp_law_number K a) := by
  refine F.okE sc_law_number L (fun cdv A outer s H vs Q E hr h => ?_)
  have hx : XOk (cxOf (cxE P w) P w K mg base ["cell", "prime"] "_law_number" (defScope s_law_number) f cdv A outer s H E) (fun _ => E) := xok_fn
  exact ⟨rd_law_number K a (fun _ => E), (pss_cons (ps_if (pt_cmpR (op_eqA hr.units) (pe_callX c_law_pick (hr.mono (by decide)) hx.passes rfl (pa_cons (pvr 0) (pa_cons (pvr 1) (pa_cons pe_int pa_nil)))) pe_int (nomark _)) (pss_one (ps_ret (pe_op op_sub (pe_op op_mod (pe_op op_addA (pe_op op_mulA (pe_op op_mod (pvr 0) (pe_op op_pow pe_int pe_int)) pe_int) (pvr 1)) (pe_op op_addA (pe_op op_mulA pe_int (pe_op op_pow pe_int pe_int)) pe_int)) (pe_op op_pow pe_int pe_int)))) pss_nil)
      (pss_one (ps_ret (pe_op op_sub (pe_callX c_law_pick (hr.mono (by decide)) hx.passes rfl (pa_cons (pvr 0) (pa_cons (pvr 1) (pa_cons pe_int pa_nil)))) pe_int)))), R vs H Q E h⟩
abbrev s_law_place : Stmt := top 19
theorem sc_law_place : FnScope ["cell", "side"] ["cell", "side"] (defScope s_law_place) := ⟨rfl, rfl, rfl, by decide +kernel, rfl, by decide +kernel, by decide +kernel⟩
theorem ok_law_place (T : Txt K mg a) (F : Fun K "_law_place" "_law_place" s_law_place f fd) (c_law_pick : Cal P w K mg base (1) "_law_pick" ["cell", "prime", "many"] (sp_law_pick K a))
    (R : RdOk (sp_law_place K a) (rd_law_place K a) ["cell", "side"]) (L : LenOk (sp_law_place K a) 2) :
    FnOk P w K mg base (cxE P w) 2 f fd ["cell", "side"] (sp_law_place K a) := by
  refine F.okE sc_law_place L (fun cdv A outer s H vs Q E hr h => ?_)
  have hx : XOk (cxOf (cxE P w) P w K mg base ["cell", "side"] "_law_place" (defScope s_law_place) f cdv A outer s H E) (fun _ => E) := xok_fn
  exact ⟨rd_law_place K a (fun _ => E), (pss_one (ps_ret (pe_tup (pa_cons (pe_callX c_law_pick (hr.mono (by decide)) hx.passes rfl (pa_cons (pvr 0) (pa_cons pe_int (pa_cons (pe_ix ix_any (pe_dget (hu_of hr) (pvr 1) pe_str (fun _ _ => rfl)) pe_int (fun _ _ => rfl)) pa_nil)))) (pa_cons (pe_callX c_law_pick (hr.mono (by decide)) hx.passes rfl (pa_cons (pvr 0) (pa_cons pe_int (pa_cons (pe_ix ix_any (pe_dget (hu_of hr) (pvr 1) pe_str (fun _ _ => rfl)) pe_int (fun _ _ => rfl)) pa_nil)))) pa_nil))))), R vs H Q E h⟩
abbrev s_Book_newest : Stmt := inClass (top 7) 3
theorem sc_Book_newest : FnScope ["self", "place"] ["self", "place"] (defScope s_Book_newest) := ⟨rfl, rfl, rfl, by decide +kernel, rfl, by decide +kernel, by decide +kernel⟩
theorem ok_Book_newest (T : Txt K mg a) (F : Fun K "newest" "Book.newest" s_Book_newest f fd) (m_Book_ask_for_place : MCal P w K mg base (a "Book") 2 "ask_for_place" ["self", "place"] (sp_Book_ask_for_place K a))
    (R : RdOk (sp_Book_newest K a) (rd_Book_newest K a) ["self", "place"]) (L : LenOk (sp_Book_newest K a) 2) :
    FnOk P w K mg base (cxE P w) 3 f fd ["self", "place"] (sp_Book_newest K a) := by
  refine F.okE sc_Book_newest L (fun cdv A outer s H vs Q E hr h => ?_)
  have hx : XOk (cxOf (cxE P w) P w K mg base ["self", "place"] "Book.newest" (defScope s_Book_newest) f cdv A outer s H E) (fun _ => E) := xok_fn
  exact ⟨rd_Book_newest K a (fun _ => E), (pss_cons (ps_expr (pe_methX (pvr 0) T.c_Book m_Book_ask_for_place (hr.mono (by decide)) hx.passes (pa_cons (pvr 1) pa_nil)))
      (pss_one (ps_ret (pe_dget1 (hu_of hr) (pe_fld (pvr 0) rfl) (pvr 1) ⟨rfl, rfl, rfl, rfl⟩)))), R vs H Q E h⟩
abbrev s_law_value : Stmt := top 16
theorem sc_law_value : FnScope ["cell", "way"] ["cell"] (defScope s_law_value) := ⟨rfl, rfl, rfl, by decide +kernel, rfl, by decide +kernel, by decide +kernel⟩
theorem ok_law_value (T : Txt K mg a) (F : Fun K "_law_value" "_law_value" s_law_value f fd) (c_law_pick : Cal P w K mg base (1) "_law_pick" ["cell", "prime", "many"] (sp_law_pick K a)) (c_law_number : Cal P w K mg base (2) "_law_number" ["cell", "prime"] (sp_law_number K a)) (c_law_text : Cal P w K mg base (2) "_law_text" ["cell", "size"] (sp_law_text K a))
    (R : RdOk (sp_law_value K a) (rd_law_value K a) ["cell", "way"]) (L : LenOk (sp_law_value K a) 1) :
    FnOk P w K mg base (cxE P w) 3 f fd ["cell"] (sp_law_value K a) := by
  refine F.okE sc_law_value L (fun cdv A outer s H vs Q E hr h => ?_)
  have hx : XOk (cxOf (cxE P w) P w K mg base ["cell", "way"] "_law_value" (defScope s_law_value) f cdv A outer s H E) (fun _ => E) := xok_fn
  exact ⟨rd_law_value K a (fun _ => E), (pss_cons (ps_set (i := 1) sc_law_value.nd rfl (Or.inl rfl) (pe_callX c_law_pick (hr.mono (by decide)) hx.passes rfl (pa_cons (pvr 0) (pa_cons pe_int (pa_cons pe_int pa_nil)))))
      (pss_cons (ps_if (pt_cmpR (op_eqA hr.units) (pvr 1) pe_int (nomark _)) (pss_one (ps_ret pe_non)) pss_nil)
      (pss_cons (ps_if (pt_cmpR op_ltA (pvr 1) pe_int (nomark _)) (pss_one (ps_ret (pe_callX c_law_number (hr.mono (by decide)) hx.passes rfl (pa_cons (pvr 0) (pa_cons pe_int pa_nil))))) pss_nil)
      (pss_cons (ps_if (pt_cmpR (op_eqA hr.units) (pvr 1) pe_int (nomark _)) (pss_one (ps_ret (pe_callX c_law_text (hr.mono (by decide)) hx.passes rfl (pa_cons (pvr 0) (pa_cons (pe_callX c_law_pick (hr.mono (by decide)) hx.passes rfl (pa_cons (pvr 0) (pa_cons pe_int (pa_cons pe_int pa_nil)))) pa_nil))))) pss_nil)
      (pss_cons (ps_if (pt_cmpR (op_eqA hr.units) (pvr 1) pe_int (nomark _)) (pss_one (ps_ret (pe_callTy call_tupleA rfl T.b_tuple (by rfl) (pa_cons (pe_comp (tn := ["k"]) (cn := ["cell"]) (cap := [0]) (cps_of (outer := defScope s_law_value) (N := ["cell", "way"]) rfl rfl (by decide +kernel)) rfl (pi_range1 rfl T.b_range (pa_cons (pe_callX c_law_pick (hr.mono (by decide)) hx.passes rfl (pa_cons (pvr 0) (pa_cons pe_int (pa_cons pe_int pa_nil)))) pa_nil)) (fun _ _ _ _ _ _ => (pg_name (i := 0) (show (["k", "cell"] : List Str).Nodup from by decide +kernel) rfl (Or.inl rfl))) (fun _ _ _ _ _ _ => pts_nil) (fun _ _ _ _ _ _ => (pe_callX c_law_number (hr.mono (by decide)) passesN rfl (pa_cons (pe_op op_addA (pvr 1) (pvr 0)) (pa_cons pe_int pa_nil))))) pa_nil)))) pss_nil)
      (pss_cons (ps_if (pt_cmpR (op_eqA hr.units) (pvr 1) pe_int (nomark _)) (pss_one (ps_ret (pe_tup (pa_cons (pe_callX c_law_number (hr.mono (by decide)) hx.passes rfl (pa_cons (pvr 0) (pa_cons pe_int pa_nil))) (pa_cons (pe_tup (pa_cons (pe_callX c_law_text (hr.mono (by decide)) hx.passes rfl (pa_cons (pvr 0) (pa_cons pe_int pa_nil))) (pa_cons (pe_tup pa_nil) pa_nil))) pa_nil))))) pss_nil)
      (pss_one (ps_ret (pe_tup (pa_cons (pe_tup (pa_cons (pe_tup (pa_cons (pe_callX c_law_number (hr.mono (by decide)) hx.passes rfl (pa_cons (pvr 0) (pa_cons pe_int pa_nil))) (pa_cons pe_non pa_nil))) (pa_cons (pe_callX c_law_text (hr.mono (by decide)) hx.passes rfl (pa_cons (pvr 0) (pa_cons pe_int pa_nil))) pa_nil))) (pa_cons pe_non pa_nil))))))))))), R vs H Q E h⟩
abbrev s_Book_change : Stmt := inClass (top 7) 1
theorem sc_Book_change : FnScope ["self", "place", "value", "needs", "ahead", "number"] ["self", "place", "value", "needs"] (defScope s_Book_change) := ⟨rfl, rfl, rfl, by decide +kernel, rfl, by decide +kernel, by decide +kernel⟩
theorem ok_Book_change (T : Txt K mg a) (F : Fun K "change" "Book.change" s_Book_change f fd) (m_Book_newest : MCal P w K mg base (a "Book") 3 "newest" ["self", "place"] (sp_Book_newest K a)) (m_Book_ask_for_changes : MCal P w K mg base (a "Book") 1 "ask_for_changes" ["self", "numbers"] (sp_Book_ask_for_changes K a)) (c_needs_with : Cal P w K mg base (1) "needs_with" ["needs", "ahead"] (sp_needs_with K a)) (n_Change : NCal P w K mg base (a "Change") 1 "Change" ["self", "place", "value", "needs"] (sp_Change_init K a))
    (R : RdOk (sp_Book_change K a) (rd_Book_change K a) ["self", "place", "value", "needs", "ahead", "number"]) (L : LenOk (sp_Book_change K a) 4) :
    FnOk P w K mg base (cxE P w) 4 f fd ["self", "place", "value", "needs"] (sp_Book_change K a) := by
  refine F.okE sc_Book_change L (fun cdv A outer s H vs Q E hr h => ?_)
  have hx : XOk (cxOf (cxE P w) P w K mg base ["self", "place", "value", "needs", "ahead", "number"] "Book.change" (defScope s_Book_change) f cdv A outer s H E) (fun _ => E) := xok_fn
  exact ⟨rd_Book_change K a (fun _ => E), (pss_cons (ps_set (i := 4) sc_Book_change.nd rfl (Or.inl rfl) (pe_methX (pvr 0) T.c_Book m_Book_newest (hr.mono (by decide)) hx.passes (pa_cons (pvr 1) pa_nil)))
      (pss_cons (ps_expr (pe_methX (pvr 0) T.c_Book m_Book_ask_for_changes (hr.mono (by decide)) hx.passes (pa_cons (pvr 3) pa_nil)))
      (pss_cons (ps_set (i := 5) sc_Book_change.nd rfl (Or.inl rfl) (pe_callB call_lenA rfl T.b_len (by rfl) (pa_cons (pe_fld (pvr 0) rfl) pa_nil)))
      (pss_cons (ps_expr (pe_bm PySem.F.plainAttrs_list PySem.F.slot_list_append PySem.F.type_list_append mt_append (pe_fld (pvr 0) rfl) (pa_cons (pe_makeX n_Change (hr.mono (by decide)) hx.passes rfl (pa_cons (pvr 1) (pa_cons (pvr 2) (pa_cons (pe_callX c_needs_with (hr.mono (by decide)) hx.passes rfl (pa_cons (pvr 3) (pa_cons (pvr 4) pa_nil))) pa_nil)))) pa_nil)))
      (pss_cons (ps_expr (pe_bm PySem.F.plainAttrs_list PySem.F.slot_list_append PySem.F.type_list_append mt_append (pe_ix ix_any (pe_fld (pvr 0) rfl) (pe_ix ix_any (pvr 1) pe_int (fun _ _ => rfl)) (fun _ _ => rfl)) (pa_cons (pvr 5) pa_nil)))
      (pss_cons (ps_dput (hu_of hr) (pe_fld (pvr 0) rfl) (pvr 1) (pvr 5) rfl)
      (pss_one (ps_ret (pvr 5))))))))), R vs H Q E h⟩
abbrev s_Book_in_hand : Stmt := inClass (top 7) 2
theorem sc_Book_in_hand : FnScope ["self", "place", "number"] ["self", "place"] (defScope s_Book_in_hand) := ⟨rfl, rfl, rfl, by decide +kernel, rfl, by decide +kernel, by decide +kernel⟩
theorem ok_Book_in_hand (T : Txt K mg a) (F : Fun K "in_hand" "Book.in_hand" s_Book_in_hand f fd) (m_Book_newest : MCal P w K mg base (a "Book") 3 "newest" ["self", "place"] (sp_Book_newest K a)) (m_Plank_read : MCal P w K mg base (a "Plank") 2 "read" ["self", "block"] (sp_Plank_read K a))
    (R : RdOk (sp_Book_in_hand K a) (rd_Book_in_hand K a) ["self", "place", "number"]) (L : LenOk (sp_Book_in_hand K a) 2) :
    FnOk P w K mg base (cxE P w) 4 f fd ["self", "place"] (sp_Book_in_hand K a) := by
  refine F.okE sc_Book_in_hand L (fun cdv A outer s H vs Q E hr h => ?_)
  have hx : XOk (cxOf (cxE P w) P w K mg base ["self", "place", "number"] "Book.in_hand" (defScope s_Book_in_hand) f cdv A outer s H E) (fun _ => E) := xok_fn
  exact ⟨rd_Book_in_hand K a (fun _ => E), (pss_cons (ps_set (i := 2) sc_Book_in_hand.nd rfl (Or.inl rfl) (pe_methX (pvr 0) T.c_Book m_Book_newest (hr.mono (by decide)) hx.passes (pa_cons (pvr 1) pa_nil)))
      (pss_cons (ps_if (pt_cmpR op_isN (pvr 2) pe_non (nomark _)) (pss_one (ps_ret (pe_ix ix_any (pe_methX (pe_fld (pvr 0) rfl) T.c_Plank m_Plank_read (hr.mono (by decide)) hx.passes (pa_cons (pe_ix ix_any (pvr 1) pe_int (fun _ _ => rfl)) pa_nil)) (pe_ix ix_any (pvr 1) pe_int (fun _ _ => rfl)) (fun _ _ => rfl)))) pss_nil)
      (pss_one (ps_ret (pe_fld (pe_ix ix_any (pe_fld (pvr 0) rfl) (pvr 2) (fun _ _ => rfl)) rfl))))), R vs H Q E h⟩
abbrev s_law_begun : Stmt := top 18
theorem sc_law_begun : FnScope ["cell", "size", "plank", "rows", "k", "block"] ["cell"] (defScope s_law_begun) := ⟨rfl, rfl, rfl, by decide +kernel, rfl, by decide +kernel, by decide +kernel⟩
theorem ok_law_begun (T : Txt K mg a) (F : Fun K "_law_begun" "_law_begun" s_law_begun f fd) (c_law_pick : Cal P w K mg base (1) "_law_pick" ["cell", "prime", "many"] (sp_law_pick K a)) (n_Plank : NCal P w K mg base (a "Plank") 1 "Plank" ["self", "blocks", "cells"] (sp_Plank_init K a)) (c_law_value : Cal P w K mg base (3) "_law_value" ["cell"] (sp_law_value K a)) (m_Plank_write : MCal P w K mg base (a "Plank") 2 "write" ["self", "block", "values"] (sp_Plank_write K a)) (m_Plank_writings : MCal P w K mg base (a "Plank") 1 "writings" ["self"] (sp_Plank_writings K a))
    (R : RdOk (sp_law_begun K a) (rd_law_begun K a) ["cell", "size", "plank", "rows", "k", "block"]) (L : LenOk (sp_law_begun K a) 1) :
    FnOk P w K mg base (cxE P w) 4 f fd ["cell"] (sp_law_begun K a) := by
  refine F.okE sc_law_begun L (fun cdv A outer s H vs Q E hr h => ?_)
  have hx : XOk (cxOf (cxE P w) P w K mg base ["cell", "size", "plank", "rows", "k", "block"] "_law_begun" (defScope s_law_begun) f cdv A outer s H E) (fun _ => E) := xok_fn
  exact ⟨rd_law_begun K a (fun _ => E), (pss_cons (ps_set (i := 1) sc_law_begun.nd rfl (Or.inr rfl) (pe_tup (pa_cons (pe_op op_addA pe_int (pe_callX c_law_pick (hr.mono (by decide)) hx.passes rfl (pa_cons (pvr 0) (pa_cons pe_int (pa_cons pe_int pa_nil))))) (pa_cons (pe_op op_addA pe_int (pe_callX c_law_pick (hr.mono (by decide)) hx.passes rfl (pa_cons (pvr 0) (pa_cons pe_int (pa_cons pe_int pa_nil))))) pa_nil))))
      (pss_cons (ps_if (pt_cmpR (op_eqA hr.units) (pe_callX c_law_pick (hr.mono (by decide)) hx.passes rfl (pa_cons (pvr 0) (pa_cons pe_int (pa_cons pe_int pa_nil)))) pe_int (nomark _)) (pss_one (ps_set (i := 1) sc_law_begun.nd rfl (Or.inr rfl) (pe_tup (pa_cons (pe_op op_addA pe_int (pe_callX c_law_pick (hr.mono (by decide)) hx.passes rfl (pa_cons (pvr 0) (pa_cons pe_int (pa_cons pe_int pa_nil))))) (pa_cons (pe_op op_addA pe_int (pe_callX c_law_pick (hr.mono (by decide)) hx.passes rfl (pa_cons (pvr 0) (pa_cons pe_int (pa_cons pe_int pa_nil))))) pa_nil))))) pss_nil)
      (pss_cons (ps_set (i := 2) sc_law_begun.nd rfl (Or.inl rfl) (pe_makeX n_Plank (hr.mono (by decide)) hx.passes rfl (pa_cons (pe_ix ix_any (pvr 1) pe_int (fun _ _ => rfl)) (pa_cons (pe_ix ix_any (pvr 1) pe_int (fun _ _ => rfl)) pa_nil))))
      (pss_cons (ps_comp (i := 3) (tn := ["block"]) (cn := ["size"]) (cap := [1]) (cps_of (outer := defScope s_law_begun) (N := ["cell", "size", "plank", "rows", "k", "block"]) rfl rfl (by decide +kernel)) rfl sc_law_begun.nd rfl rfl (pi_range1 rfl T.b_range (pa_cons (pe_ix ix_any (pvr 1) pe_int (fun _ _ => rfl)) pa_nil)) (fun _ _ _ _ _ _ => (pg_name (i := 0) (show (["block", "size"] : List Str).Nodup from by decide +kernel) rfl (Or.inl rfl))) (fun _ _ _ _ _ _ => pts_nil) (fun _ _ _ _ _ _ => (pe_comp (tn := ["at"]) (cn := []) (cap := []) (cps_in (by decide +kernel)) rfl (pi_range1 rfl T.b_range (pa_cons (pe_ix ix_any (pvr 1) pe_int (fun _ _ => rfl)) pa_nil)) (fun _ _ _ _ _ _ => (pg_name (i := 0) (show (["at"] : List Str).Nodup from by decide +kernel) rfl (Or.inl rfl))) (fun _ _ _ _ _ _ => pts_nil) (fun _ _ _ _ _ _ => pe_non))))
      (pss_cons (ps_for hx.po rfl (pi_range1 rfl T.b_range (pa_cons (pe_callX c_law_pick (hr.mono (by decide)) hx.passes rfl (pa_cons (pvr 0) (pa_cons pe_int (pa_cons pe_int pa_nil)))) pa_nil)) (pg_name (i := 4) sc_law_begun.nd rfl (Or.inr rfl)) (pss_cons (ps_set (i := 5) sc_law_begun.nd rfl (Or.inl rfl) (pe_callX c_law_pick (hr.mono (by decide)) hx.passes rfl (pa_cons (pe_op op_addA (pvr 0) (pvr 4)) (pa_cons pe_int (pa_cons (pe_ix ix_any (pvr 1) pe_int (fun _ _ => rfl)) pa_nil)))))
      (pss_cons (ps_asg (pe_comp (tn := ["at"]) (cn := ["cell", "k"]) (cap := [0, 4]) (cps_of (outer := defScope s_law_begun) (N := ["cell", "size", "plank", "rows", "k", "block"]) rfl rfl (by decide +kernel)) rfl (pi_range1 rfl T.b_range (pa_cons (pe_ix ix_any (pvr 1) pe_int (fun _ _ => rfl)) pa_nil)) (fun _ _ _ _ _ _ => (pg_name (i := 0) (show (["at", "cell", "k"] : List Str).Nodup from by decide +kernel) rfl (Or.inl rfl))) (fun _ _ _ _ _ _ => pts_nil) (fun _ _ _ _ _ _ => (pe_callX c_law_value (hr.mono (by decide)) passesN rfl (pa_cons (pe_op op_addA (pe_op op_addA (pe_op op_mulA (pvr 1) pe_int) (pe_op op_mulA (pvr 0) (pvr 0))) (pvr 2)) pa_nil)))) (pg_sub (pvr 3) (pvr 5) set_any))
      (pss_one (ps_expr (pe_methX (pvr 2) T.c_Plank m_Plank_write (hr.mono (by decide)) hx.passes (pa_cons (pvr 5) (pa_cons (pe_callTy call_listA rfl T.b_list (by rfl) (pa_cons (pe_ix ix_any (pvr 3) (pvr 5) (fun _ _ => rfl)) pa_nil)) pa_nil))))))))
      (pss_one (ps_ret (pe_disp (pps_cons pe_str (pvr 2) (pps_cons pe_str (pvr 3) (pps_cons pe_str (pvr 1) (pps_cons pe_str (pe_methX0 (pvr 2) T.c_Plank m_Plank_writings (hr.mono (by decide)) hx.passes) (pps_cons pe_str pe_dnewT (pps_cons pe_str pe_int pps_nil)))))) rfl rfl (by simp) (by simp))))))))), R vs H Q E h⟩
abbrev s_law_rewritten : Stmt := top 23
theorem sc_law_rewritten : FnScope ["side", "cell", "block"] ["side", "cell"] (defScope s_law_rewritten) := ⟨rfl, rfl, rfl, by decide +kernel, rfl, by decide +kernel, by decide +kernel⟩
theorem ok_law_rewritten (T : Txt K mg a) (F : Fun K "_law_rewritten" "_law_rewritten" s_law_rewritten f fd) (c_law_pick : Cal P w K mg base (1) "_law_pick" ["cell", "prime", "many"] (sp_law_pick K a)) (c_law_value : Cal P w K mg base (3) "_law_value" ["cell"] (sp_law_value K a)) (m_Plank_write : MCal P w K mg base (a "Plank") 2 "write" ["self", "block", "values"] (sp_Plank_write K a))
    (R : RdOk (sp_law_rewritten K a) (rd_law_rewritten K a) ["side", "cell", "block"]) (L : LenOk (sp_law_rewritten K a) 2) :
    FnOk P w K mg base (cxE P w) 4 f fd ["side", "cell"] (sp_law_rewritten K a) := by
  refine F.okE sc_law_rewritten L (fun cdv A outer s H vs Q E hr h => ?_)
  have hx : XOk (cxOf (cxE P w) P w K mg base ["side", "cell", "block"] "_law_rewritten" (defScope s_law_rewritten) f cdv A outer s H E) (fun _ => E) := xok_fn
  exact ⟨rd_law_rewritten K a (fun _ => E), (pss_cons (ps_set (i := 2) sc_law_rewritten.nd rfl (Or.inl rfl) (pe_callX c_law_pick (hr.mono (by decide)) hx.passes rfl (pa_cons (pvr 1) (pa_cons pe_int (pa_cons (pe_ix ix_any (pe_dget (hu_of hr) (pvr 0) pe_str (fun _ _ => rfl)) pe_int (fun _ _ => rfl)) pa_nil)))))
      (pss_cons (ps_asg (pe_comp (tn := ["at"]) (cn := ["cell"]) (cap := [1]) (cps_of (outer := defScope s_law_rewritten) (N := ["side", "cell", "block"]) rfl rfl (by decide +kernel)) rfl (pi_range1 rfl T.b_range (pa_cons (pe_ix ix_any (pe_dget (hu_of hr) (pvr 0) pe_str (fun _ _ => rfl)) pe_int (fun _ _ => rfl)) pa_nil)) (fun _ _ _ _ _ _ => (pg_name (i := 0) (show (["at", "cell"] : List Str).Nodup from by decide +kernel) rfl (Or.inl rfl))) (fun _ _ _ _ _ _ => pts_nil) (fun _ _ _ _ _ _ => (pe_callX c_law_value (hr.mono (by decide)) passesN rfl (pa_cons (pe_op op_addA (pe_op op_addA (pe_op op_mulA (pvr 1) pe_int) (pe_op op_mulA (pvr 0) (pvr 0))) pe_int) pa_nil)))) (pg_sub (pe_dget (hu_of hr) (pvr 0) pe_str (fun _ _ => rfl)) (pvr 2) set_any))
      (pss_cons (ps_expr (pe_methX (pe_dget (hu_of hr) (pvr 0) pe_str (fun _ _ => rfl)) T.c_Plank m_Plank_write (hr.mono (by decide)) hx.passes (pa_cons (pvr 2) (pa_cons (pe_callTy call_listA rfl T.b_list (by rfl) (pa_cons (pe_ix ix_any (pe_dget (hu_of hr) (pvr 0) pe_str (fun _ _ => rfl)) (pvr 2) (fun _ _ => rfl)) pa_nil)) pa_nil))))
      (pss_one (ps_dput (hu_of hr) (pvr 0) pe_str (pe_op op_addA (pe_dget (hu_of hr) (pvr 0) pe_str (fun _ _ => rfl)) pe_int) rfl))))), R vs H Q E h⟩
abbrev s_law_same : Stmt := top 17
theorem sc_law_same : FnScope ["found", "due", "one", "other"] ["found", "due"] (defScope s_law_same) := ⟨rfl, rfl, rfl, by decide +kernel, rfl, by decide +kernel, by decide +kernel⟩
theorem ok_law_same {n : Nat} (T : Txt K mg a) (F : Fun K "_law_same" "_law_same" s_law_same f fd) (c_law_same : Cal P w K mg base (n + 1) "_law_same" ["found", "due"] (sp_law_same K a n))
    (R : RdOk (sp_law_same K a (n + 1)) (rd_law_same K a n) ["found", "due", "one", "other"]) (L : LenOk (sp_law_same K a (n + 1)) 2) :
    FnOk P w K mg base (cxE P w) (n + 1 + 1) f fd ["found", "due"] (sp_law_same K a (n + 1)) := by
  refine F.okE sc_law_same L (fun cdv A outer s H vs Q E hr h => ?_)
  have hx : XOk (cxOf (cxE P w) P w K mg base ["found", "due", "one", "other"] "_law_same" (defScope s_law_same) f cdv A outer s H E) (fun _ => E) := xok_fn
  exact ⟨rd_law_same K a n (fun _ => E), (pss_cons (ps_if (pt_truth (pe_callB call_isinst rfl T.b_isinstance (by rfl) (pa_cons (pvr 1) (pa_cons (pe_bltn rfl T.b_tuple (by rfl) rfl) pa_nil))) (fun _ => rfl)) (pss_cons (ps_if (PW.pt (pw_or (pt_not (pt_truth (pe_callB call_isinst rfl T.b_isinstance (by rfl) (pa_cons (pvr 0) (pa_cons (pe_bltn rfl T.b_tuple (by rfl) rfl) pa_nil))) (fun _ => rfl))) (pw_or1 (pt_cmpR (op_neA hr.units) (pe_callB call_lenA rfl T.b_len (by rfl) (pa_cons (pvr 0) pa_nil)) (pe_callB call_lenA rfl T.b_len (by rfl) (pa_cons (pvr 1) pa_nil)) (nomark _))))) (pss_one (ps_ret pe_bl)) pss_nil)
      (pss_cons (ps_for hx.po rfl (pi_zip rfl T.b_zip (pa_cons (pvr 0) (pa_cons (pvr 1) pa_nil))) (pg_tup rfl (pgs_cons (pg_name (i := 2) sc_law_same.nd rfl (Or.inl rfl)) (pgs_cons (pg_name (i := 3) sc_law_same.nd rfl (Or.inl rfl)) pgs_nil))) (pss_one (ps_if (pt_not (pt_truth (pe_callX c_law_same (hr.mono (by omega)) hx.passes rfl (pa_cons (pvr 2) (pa_cons (pvr 3) pa_nil))) (fun _ => rfl))) (pss_one (ps_ret pe_bl)) pss_nil)))
      (pss_one (ps_ret pe_bl)))) pss_nil)
      (pss_cons (ps_if (pt_cmpR op_isN (pvr 1) pe_non (nomark _)) (pss_one (ps_ret (pe_cmpR op_isN (pvr 0) pe_non (nomark _)))) pss_nil)
      (pss_cons (ps_if (pt_truth (pe_callB call_isinst rfl T.b_isinstance (by rfl) (pa_cons (pvr 1) (pa_cons (pe_bltn rfl T.b_str (by rfl) rfl) pa_nil))) (fun _ => rfl)) (pss_one (ps_ret (pe_and (pe_callB call_isinst rfl T.b_isinstance (by rfl) (pa_cons (pvr 0) (pa_cons (pe_bltn rfl T.b_str (by rfl) rfl) pa_nil))) (pe_one (pe_cmpR (op_eqA hr.units) (pvr 0) (pvr 1) (nomark _)))))) pss_nil)
      (pss_one (ps_ret (pe_and (pe_callB call_isinst rfl T.b_isinstance (by rfl) (pa_cons (pvr 0) (pa_cons (pe_bltn rfl T.b_int (by rfl) rfl) pa_nil))) (pe_and (pe_notT (pe_callB call_isinst rfl T.b_isinstance (by rfl) (pa_cons (pvr 0) (pa_cons (pe_bltn rfl T.b_bool (by rfl) rfl) pa_nil)))) (pe_one (pe_cmpR (op_eqA hr.units) (pvr 0) (pvr 1) (nomark _)))))))))), R vs H Q E h⟩
abbrev s_law_looks : Stmt := top 20
theorem sc_law_looks : FnScope ["book", "side", "place", "due", "number"] ["book", "side", "place"] (defScope s_law_looks) := ⟨rfl, rfl, rfl, by decide +kernel, rfl, by decide +kernel, by decide +kernel⟩
theorem ok_law_looks (T : Txt K mg a) (F : Fun K "_law_looks" "_law_looks" s_law_looks f fd) (m_Book_newest : MCal P w K mg base (a "Book") 3 "newest" ["self", "place"] (sp_Book_newest K a)) (c_law_same : Cal P w K mg base (9) "_law_same" ["found", "due"] (sp_law_same K a 8)) (m_Book_in_hand : MCal P w K mg base (a "Book") 4 "in_hand" ["self", "place"] (sp_Book_in_hand K a))
    (R : RdOk (sp_law_looks K a) (rd_law_looks K a) ["book", "side", "place", "due", "number"]) (L : LenOk (sp_law_looks K a) 3) :
    FnOk P w K mg base (cxE P w) 10 f fd ["book", "side", "place"] (sp_law_looks K a) := by
  refine F.okE sc_law_looks L (fun cdv A outer s H vs Q E hr h => ?_)
  have hx : XOk (cxOf (cxE P w) P w K mg base ["book", "side", "place", "due", "number"] "_law_looks" (defScope s_law_looks) f cdv A outer s H E) (fun _ => E) := xok_fn
  exact ⟨rd_law_looks K a (fun _ => E), (pss_cons (ps_set (i := 3) sc_law_looks.nd rfl (Or.inl rfl) (pe_ix ix_any (pe_ix ix_any (pe_dget (hu_of hr) (pvr 1) pe_str (fun _ _ => rfl)) (pe_ix ix_any (pvr 2) pe_int (fun _ _ => rfl)) (fun _ _ => rfl)) (pe_ix ix_any (pvr 2) pe_int (fun _ _ => rfl)) (fun _ _ => rfl)))
      (pss_cons (ps_set (i := 4) sc_law_looks.nd rfl (Or.inl rfl) pe_non)
      (pss_cons (ps_if (pt_cmp (pc_din (hu_of hr) (pvr 2) (pe_dget (hu_of hr) (pvr 1) pe_str (fun _ _ => rfl))) (by with_unfolding_all rfl)) (pss_one (ps_asg (pe_dget (hu_of hr) (pe_dget (hu_of hr) (pvr 1) pe_str (fun _ _ => rfl)) (pvr 2) (fun _ _ => rfl)) (pg_tup rfl (pgs_cons (pg_name (i := 4) sc_law_looks.nd rfl (Or.inl rfl)) (pgs_cons (pg_name (i := 3) sc_law_looks.nd rfl (Or.inl rfl)) pgs_nil))))) pss_nil)
      (pss_one (ps_ret (pe_and (pe_callX c_law_same (hr.mono (by decide)) hx.passes rfl (pa_cons (pe_methX (pvr 0) T.c_Book m_Book_in_hand (hr.mono (by decide)) hx.passes (pa_cons (pvr 2) pa_nil)) (pa_cons (pvr 3) pa_nil))) (pe_one (pe_callX c_law_same (hr.mono (by decide)) hx.passes rfl (pa_cons (pe_methX (pvr 0) T.c_Book m_Book_newest (hr.mono (by decide)) hx.passes (pa_cons (pvr 2) pa_nil)) (pa_cons (pvr 4) pa_nil)))))))))), R vs H Q E h⟩
abbrev s_law_changed : Stmt := top 22
theorem sc_law_changed : FnScope ["book", "side", "place", "cell", "value", "many", "needs", "told"] ["book", "side", "place", "cell"] (defScope s_law_changed) := ⟨rfl, rfl, rfl, by decide +kernel, rfl, by decide +kernel, by decide +kernel⟩
theorem ok_law_changed (T : Txt K mg a) (F : Fun K "_law_changed" "_law_changed" s_law_changed f fd) (c_law_value : Cal P w K mg base (3) "_law_value" ["cell"] (sp_law_value K a)) (c_law_pick : Cal P w K mg base (1) "_law_pick" ["cell", "prime", "many"] (sp_law_pick K a)) (m_Book_change : MCal P w K mg base (a "Book") 4 "change" ["self", "place", "value", "needs"] (sp_Book_change K a)) (c_law_same : Cal P w K mg base (9) "_law_same" ["found", "due"] (sp_law_same K a 8))
    (R : RdOk (sp_law_changed K a) (rd_law_changed K a) ["book", "side", "place", "cell", "value", "many", "needs", "told"]) (L : LenOk (sp_law_changed K a) 4) :
    FnOk P w K mg base (cxE P w) 10 f fd ["book", "side", "place", "cell"] (sp_law_changed K a) := by
  refine F.okE sc_law_changed L (fun cdv A outer s H vs Q E hr h => ?_)
  have hx : XOk (cxOf (cxE P w) P w K mg base ["book", "side", "place", "cell", "value", "many", "needs", "told"] "_law_changed" (defScope s_law_changed) f cdv A outer s H E) (fun _ => E) := xok_fn
  exact ⟨rd_law_changed K a (fun _ => E), (pss_cons (ps_set (i := 4) sc_law_changed.nd rfl (Or.inl rfl) (pe_callX c_law_value (hr.mono (by decide)) hx.passes rfl (pa_cons (pvr 3) pa_nil)))
      (pss_cons (ps_set (i := 5) sc_law_changed.nd rfl (Or.inl rfl) (pe_op op_mulA (pe_callX c_law_pick (hr.mono (by decide)) hx.passes rfl (pa_cons (pvr 3) (pa_cons pe_int (pa_cons pe_int pa_nil)))) (pe_callTy call_int1 rfl T.b_int (by rfl) (pa_cons (pe_cmpR op_gtA (pe_dget (hu_of hr) (pvr 1) pe_str (fun _ _ => rfl)) pe_int (nomark _)) pa_nil))))
      (pss_cons (ps_comp (i := 6) (tn := ["k"]) (cn := ["cell", "side"]) (cap := [3, 1]) (cps_of (outer := defScope s_law_changed) (N := ["book", "side", "place", "cell", "value", "many", "needs", "told"]) rfl rfl (by decide +kernel)) rfl sc_law_changed.nd rfl rfl (pi_range1 rfl T.b_range (pa_cons (pvr 5) pa_nil)) (fun _ _ _ _ _ _ => (pg_name (i := 0) (show (["k", "cell", "side"] : List Str).Nodup from by decide +kernel) rfl (Or.inl rfl))) (fun _ _ _ _ _ _ => pts_nil) (fun _ _ _ _ _ _ => (pe_callX c_law_pick (hr.mono (by decide)) passesN rfl (pa_cons (pe_op op_addA (pvr 1) (pvr 0)) (pa_cons pe_int (pa_cons (pe_dget (hu_of hr) (pvr 2) pe_str (fun _ _ => rfl)) pa_nil))))))
      (pss_cons (ps_set (i := 7) sc_law_changed.nd rfl (Or.inl rfl) (pe_methX (pvr 0) T.c_Book m_Book_change (hr.mono (by decide)) hx.passes (pa_cons (pvr 2) (pa_cons (pvr 4) (pa_cons (pvr 6) pa_nil)))))
      (pss_cons (ps_expr (pe_bm0 PySem.F.plainAttrs_list PySem.F.slot_list_clear PySem.F.type_list_clear mt_clear (pvr 6)))
      (pss_cons (ps_if (pt_not (pt_truth (pe_callX c_law_same (hr.mono (by decide)) hx.passes rfl (pa_cons (pvr 7) (pa_cons (pe_dget (hu_of hr) (pvr 1) pe_str (fun _ _ => rfl)) pa_nil))) (fun _ => rfl))) (pss_one (ps_ret pe_bl)) pss_nil)
      (pss_cons (ps_dput (hu_of hr) (pe_dget (hu_of hr) (pvr 1) pe_str (fun _ _ => rfl)) (pvr 2) (pe_tup (pa_cons (pvr 7) (pa_cons (pvr 4) pa_nil))) rfl)
      (pss_cons (ps_dput (hu_of hr) (pvr 1) pe_str (pe_op op_addA (pe_dget (hu_of hr) (pvr 1) pe_str (fun _ _ => rfl)) pe_int) rfl)
      (pss_one (ps_ret pe_bl)))))))))), R vs H Q E h⟩
abbrev s_law_stays : Stmt := top 24
theorem sc_law_stays : FnScope ["book", "side", "block"] ["book", "side"] (defScope s_law_stays) := ⟨rfl, rfl, rfl, by decide +kernel, rfl, by decide +kernel, by decide +kernel⟩
theorem ok_law_stays (T : Txt K mg a) (F : Fun K "_law_stays" "_law_stays" s_law_stays f fd) (m_Book_waiting : MCal P w K mg base (a "Book") 1 "waiting" ["self"] (sp_Book_waiting K a)) (m_Plank_read : MCal P w K mg base (a "Plank") 2 "read" ["self", "block"] (sp_Plank_read K a)) (c_law_same : Cal P w K mg base (9) "_law_same" ["found", "due"] (sp_law_same K a 8)) (m_Plank_writings : MCal P w K mg base (a "Plank") 1 "writings" ["self"] (sp_Plank_writings K a))
    (R : RdOk (sp_law_stays K a) (rd_law_stays K a) ["book", "side", "block"]) (L : LenOk (sp_law_stays K a) 2) :
    FnOk P w K mg base (cxE P w) 10 f fd ["book", "side"] (sp_law_stays K a) := by
  refine F.okE sc_law_stays L (fun cdv A outer s H vs Q E hr h => ?_)
  have hx : XOk (cxOf (cxE P w) P w K mg base ["book", "side", "block"] "_law_stays" (defScope s_law_stays) f cdv A outer s H E) (fun _ => E) := xok_fn
  exact ⟨rd_law_stays K a (fun _ => E), (pss_cons (ps_if (pt_cmpR (op_neA hr.units) (pe_methX0 (pvr 0) T.c_Book m_Book_waiting (hr.mono (by decide)) hx.passes) (pe_lstR rfl rfl T.b_list rfl T.b_range (pa_cons (pe_dget (hu_of hr) (pvr 1) pe_str (fun _ _ => rfl)) pa_nil)) (nomark _)) (pss_one (ps_ret pe_bl)) pss_nil)
      (pss_cons (ps_for hx.po rfl (pi_range1 rfl T.b_range (pa_cons (pe_ix ix_any (pe_dget (hu_of hr) (pvr 1) pe_str (fun _ _ => rfl)) pe_int (fun _ _ => rfl)) pa_nil)) (pg_name (i := 2) sc_law_stays.nd rfl (Or.inl rfl)) (pss_one (ps_if (pt_not (pt_truth (pe_callX c_law_same (hr.mono (by decide)) hx.passes rfl (pa_cons (pe_callTy call_tupleA rfl T.b_tuple (by rfl) (pa_cons (pe_methX (pe_dget (hu_of hr) (pvr 1) pe_str (fun _ _ => rfl)) T.c_Plank m_Plank_read (hr.mono (by decide)) hx.passes (pa_cons (pvr 2) pa_nil)) pa_nil)) (pa_cons (pe_callTy call_tupleA rfl T.b_tuple (by rfl) (pa_cons (pe_ix ix_any (pe_dget (hu_of hr) (pvr 1) pe_str (fun _ _ => rfl)) (pvr 2) (fun _ _ => rfl)) pa_nil)) pa_nil))) (fun _ => rfl))) (pss_one (ps_ret pe_bl)) pss_nil)))
      (pss_one (ps_ret (pe_cmpR (op_eqA hr.units) (pe_methX0 (pe_dget (hu_of hr) (pvr 1) pe_str (fun _ _ => rfl)) T.c_Plank m_Plank_writings (hr.mono (by decide)) hx.passes) (pe_dget (hu_of hr) (pvr 1) pe_str (fun _ _ => rfl)) (nomark _)))))), R vs H Q E h⟩
abbrev s_law_both : Stmt := top 21
theorem sc_law_both : FnScope ["books", "sides", "places", "turn", "k", "at"] ["books", "sides", "places", "turn"] (defScope s_law_both) := ⟨rfl, rfl, rfl, by decide +kernel, rfl, by decide +kernel, by decide +kernel⟩
theorem ok_law_both (T : Txt K mg a) (F : Fun K "_law_both" "_law_both" s_law_both f fd) (c_law_looks : Cal P w K mg base (10) "_law_looks" ["book", "side", "place"] (sp_law_looks K a))
    (R : RdOk (sp_law_both K a) (rd_law_both K a) ["books", "sides", "places", "turn", "k", "at"]) (L : LenOk (sp_law_both K a) 4) :
    FnOk P w K mg base (cxE P w) 11 f fd ["books", "sides", "places", "turn"] (sp_law_both K a) := by
  refine F.okE sc_law_both L (fun cdv A outer s H vs Q E hr h => ?_)
  have hx : XOk (cxOf (cxE P w) P w K mg base ["books", "sides", "places", "turn", "k", "at"] "_law_both" (defScope s_law_both) f cdv A outer s H E) (fun _ => E) := xok_fn
  exact ⟨rd_law_both K a (fun _ => E), (pss_cons (ps_for hx.po rfl (pi_range1 rfl T.b_range (pa_cons pe_int pa_nil)) (pg_name (i := 4) sc_law_both.nd rfl (Or.inl rfl)) (pss_cons (ps_set (i := 5) sc_law_both.nd rfl (Or.inl rfl) (pe_op op_mod (pe_op op_addA (pvr 4) (pvr 3)) pe_int))
      (pss_one (ps_if (pt_not (pt_truth (pe_callX c_law_looks (hr.mono (by decide)) hx.passes rfl (pa_cons (pe_ix ix_any (pvr 0) (pe_op op_mod (pvr 5) pe_int) (fun _ _ => rfl)) (pa_cons (pe_ix ix_any (pvr 1) (pe_op op_mod (pvr 5) pe_int) (fun _ _ => rfl)) (pa_cons (pe_ix ix_any (pvr 2) (pvr 5) (fun _ _ => rfl)) pa_nil)))) (fun _ => rfl))) (pss_one (ps_ret pe_bl)) pss_nil))))
      (pss_one (ps_ret pe_bl))), R vs H Q E h⟩
abbrev s_law : Stmt := top 25
theorem sc_law : FnScope ["script", "sides", "books", "cell", "which", "spots"] ["script"] (defScope s_law) := ⟨rfl, rfl, rfl, by decide +kernel, rfl, by decide +kernel, by decide +kernel⟩
theorem ok_law (T : Txt K mg a) (F : Fun K "law" "law" s_law f fd) (c_law_cell_at : Cal P w K mg base (1) "_law_cell_at" ["script", "k"] (sp_law_cell_at K a)) (c_law_begun : Cal P w K mg base (4) "_law_begun" ["cell"] (sp_law_begun K a)) (n_Book : NCal P w K mg base (a "Book") 2 "Book" ["self", "plank"] (sp_Book_init K a)) (c_law_pick : Cal P w K mg base (1) "_law_pick" ["cell", "prime", "many"] (sp_law_pick K a)) (c_law_place : Cal P w K mg base (2) "_law_place" ["cell", "side"] (sp_law_place K a)) (c_law_both : Cal P w K mg base (11) "_law_both" ["books", "sides", "places", "turn"] (sp_law_both K a)) (c_law_rewritten : Cal P w K mg base (4) "_law_rewritten" ["side", "cell"] (sp_law_rewritten K a)) (c_law_changed : Cal P w K mg base (10) "_law_changed" ["book", "side", "place", "cell"] (sp_law_changed K a)) (c_law_stays : Cal P w K mg base (10) "_law_stays" ["book", "side"] (sp_law_stays K a))
    (R : RdOk (sp_law K a) (rd_law K a) ["script", "sides", "books", "cell", "which", "spots"]) (L : LenOk (sp_law K a) 1) :
    FnOk P w K mg base (cxE P w) 12 f fd ["script"] (sp_law K a) := by
  refine F.okE sc_law L (fun cdv A outer s H vs Q E hr h => ?_)
  have hx : XOk (cxOf (cxE P w) P w K mg base ["script", "sides", "books", "cell", "which", "spots"] "law" (defScope s_law) f cdv A outer s H E) (fun _ => E) := xok_fn
  exact ⟨rd_law K a (fun _ => E), (pss_cons (ps_set (i := 1) sc_law.nd rfl (Or.inl rfl) (pe_lst (pa_cons (pe_callX c_law_begun (hr.mono (by decide)) hx.passes rfl (pa_cons (pe_callX c_law_cell_at (hr.mono (by decide)) hx.passes rfl (pa_cons (pvr 0) (pa_cons pe_int pa_nil))) pa_nil)) (pa_cons (pe_callX c_law_begun (hr.mono (by decide)) hx.passes rfl (pa_cons (pe_callX c_law_cell_at (hr.mono (by decide)) hx.passes rfl (pa_cons (pvr 0) (pa_cons pe_int pa_nil))) pa_nil)) pa_nil))))
      (pss_cons (ps_set (i := 2) sc_law.nd rfl (Or.inl rfl) (pe_lst (pa_cons (pe_makeX n_Book (hr.mono (by decide)) hx.passes rfl (pa_cons (pe_dget (hu_of hr) (pe_ix ix_any (pvr 1) pe_int (fun _ _ => rfl)) pe_str (fun _ _ => rfl)) pa_nil)) (pa_cons (pe_makeX n_Book (hr.mono (by decide)) hx.passes rfl (pa_cons (pe_dget (hu_of hr) (pe_ix ix_any (pvr 1) pe_int (fun _ _ => rfl)) pe_str (fun _ _ => rfl)) pa_nil)) pa_nil))))
      (pss_cons (ps_for hx.po rfl (pi_seq (pe_slice sl_any (pvr 0) (po_some pe_int) (po_some pe_int))) (pg_name (i := 3) sc_law.nd rfl (Or.inl rfl)) (pss_cons (ps_set (i := 4) sc_law.nd rfl (Or.inl rfl) (pe_callX c_law_pick (hr.mono (by decide)) hx.passes rfl (pa_cons (pvr 3) (pa_cons pe_int (pa_cons pe_int pa_nil)))))
      (pss_cons (ps_set (i := 5) sc_law.nd rfl (Or.inl rfl) (pe_lst (pa_cons (pe_callX c_law_place (hr.mono (by decide)) hx.passes rfl (pa_cons (pvr 3) (pa_cons (pe_ix ix_any (pvr 1) pe_int (fun _ _ => rfl)) pa_nil))) (pa_cons (pe_callX c_law_place (hr.mono (by decide)) hx.passes rfl (pa_cons (pvr 3) (pa_cons (pe_ix ix_any (pvr 1) pe_int (fun _ _ => rfl)) pa_nil))) pa_nil))))
      (pss_cons (ps_set (i := 5) sc_law.nd rfl (Or.inl rfl) (pe_op op_addA (pvr 5) (pe_lst (pa_cons (pe_callX c_law_place (hr.mono (by decide)) hx.passes rfl (pa_cons (pe_op op_addA (pvr 3) pe_int) (pa_cons (pe_ix ix_any (pvr 1) pe_int (fun _ _ => rfl)) pa_nil))) (pa_cons (pe_callX c_law_place (hr.mono (by decide)) hx.passes rfl (pa_cons (pe_op op_addA (pvr 3) pe_int) (pa_cons (pe_ix ix_any (pvr 1) pe_int (fun _ _ => rfl)) pa_nil))) pa_nil)))))
      (pss_cons (ps_if (pt_not (pt_truth (pe_callX c_law_both (hr.mono (by decide)) hx.passes rfl (pa_cons (pvr 2) (pa_cons (pvr 1) (pa_cons (pvr 5) (pa_cons (pe_callX c_law_pick (hr.mono (by decide)) hx.passes rfl (pa_cons (pvr 3) (pa_cons pe_int (pa_cons pe_int pa_nil)))) pa_nil))))) (fun _ => rfl))) (pss_one (ps_ret pe_bl)) pss_nil)
      (pss_cons (ps_if (pt_cmpR (op_eqA hr.units) (pe_callX c_law_pick (hr.mono (by decide)) hx.passes rfl (pa_cons (pvr 3) (pa_cons pe_int (pa_cons pe_int pa_nil)))) pe_int (nomark _)) (pss_one (ps_expr (pe_callX c_law_rewritten (hr.mono (by decide)) hx.passes rfl (pa_cons (pe_ix ix_any (pvr 1) (pvr 4) (fun _ _ => rfl)) (pa_cons (pvr 3) pa_nil))))) pss_nil)
      (pss_cons (ps_if (pt_not (pt_truth (pe_callX c_law_changed (hr.mono (by decide)) hx.passes rfl (pa_cons (pe_ix ix_any (pvr 2) (pvr 4) (fun _ _ => rfl)) (pa_cons (pe_ix ix_any (pvr 1) (pvr 4) (fun _ _ => rfl)) (pa_cons (pe_ix ix_any (pvr 5) (pvr 4) (fun _ _ => rfl)) (pa_cons (pvr 3) pa_nil))))) (fun _ => rfl))) (pss_one (ps_ret pe_bl)) pss_nil)
      (pss_one (ps_if (pt_not (pt_truth (pe_callX c_law_both (hr.mono (by decide)) hx.passes rfl (pa_cons (pvr 2) (pa_cons (pvr 1) (pa_cons (pvr 5) (pa_cons (pe_callX c_law_pick (hr.mono (by decide)) hx.passes rfl (pa_cons (pvr 3) (pa_cons pe_int (pa_cons pe_int pa_nil)))) pa_nil))))) (fun _ => rfl))) (pss_one (ps_ret pe_bl)) pss_nil)))))))))
      (pss_one (ps_ret (pe_and (pe_callX c_law_stays (hr.mono (by decide)) hx.passes rfl (pa_cons (pe_ix ix_any (pvr 2) pe_int (fun _ _ => rfl)) (pa_cons (pe_ix ix_any (pvr 1) pe_int (fun _ _ => rfl)) pa_nil))) (pe_one (pe_callX c_law_stays (hr.mono (by decide)) hx.passes rfl (pa_cons (pe_ix ix_any (pvr 2) pe_int (fun _ _ => rfl)) (pa_cons (pe_ix ix_any (pvr 1) pe_int (fun _ _ => rfl)) pa_nil)))))))))), R vs H Q E h⟩
end
end L2

set_option linter.all false
set_option maxRecDepth 100000
set_option maxHeartbeats 4000000
namespace L2
open PySem PySem.Spec PyProof.Rows
theorem ad_ex (C_NoBlock C_NoChange C_Change C_Book C_Plank : Addr) : ∃ a : Ad, a "NoBlock" = C_NoBlock ∧ a "NoChange" = C_NoChange ∧ a "Change" = C_Change ∧ a "Book" = C_Book ∧ a "Plank" = C_Plank :=
  ⟨fun s => if s = "NoBlock" then C_NoBlock else if s = "NoChange" then C_NoChange else if s = "Change" then C_Change else if s = "Book" then C_Book else if s = "Plank" then C_Plank else 0, by simp, by simp, by simp, by simp, by simp⟩
theorem us1 {α : Type} {P : List α → Prop} (h : ∀ x0, P [x0]) : ∀ us : List α, us.length = 1 → P us
  | [], e => by simp at e
  | [x0], _ => h x0
  | _ :: _ :: _, e => by simp at e
theorem us2 {α : Type} {P : List α → Prop} (h : ∀ x0 x1, P [x0, x1]) : ∀ us : List α, us.length = 2 → P us
  | [], e => by simp at e
  | [_], e => by simp at e
  | [x0, x1], _ => h x0 x1
  | _ :: _ :: _ :: _, e => by simp at e
theorem us3 {α : Type} {P : List α → Prop} (h : ∀ x0 x1 x2, P [x0, x1, x2]) : ∀ us : List α, us.length = 3 → P us
  | [], e => by simp at e
  | [_], e => by simp at e
  | [_, _], e => by simp at e
  | [x0, x1, x2], _ => h x0 x1 x2
  | _ :: _ :: _ :: _ :: _, e => by simp at e
theorem us4 {α : Type} {P : List α → Prop} (h : ∀ x0 x1 x2 x3, P [x0, x1, x2, x3]) : ∀ us : List α, us.length = 4 → P us
  | [], e => by simp at e
  | [_], e => by simp at e
  | [_, _], e => by simp at e
  | [_, _, _], e => by simp at e
  | [x0, x1, x2, x3], _ => h x0 x1 x2 x3
  | _ :: _ :: _ :: _ :: _ :: _, e => by simp at e
def spL (K : PySem.W.Frag) : Sp := fun vs H Q _ => ∃ (s : Addr) (ns : List Int), vs = [.ref s] ∧ SqL K H s (ns.map V.int) ∧ ns.length ≤ 63 ∧ ∀ H', Q (.bl true) H'
theorem all_mk {l : PySem.W.OpenLaw} {w : World} {K : PySem.W.Frag} {h : Heap} {mg : Str → Option Value} {fa : Addr} {C_NoBlock C_NoChange C_Change C_Book C_Plank : Addr} {f_Change_init f_Book_waiting f_Book_ask_for_changes f_needs_with f_Plank_init f_Plank_blocks f_Plank_cells f_Plank_writings f_Plank_ask_for_block f_law_cell_at f_law_pick f_Book_init f_Book_ask_for_place f_Plank_read f_Plank_write f_law_text f_law_number f_law_place f_Book_newest f_law_value f_Book_change f_Book_in_hand f_law_begun f_law_rewritten f_law_same f_law_looks f_law_changed f_law_stays f_law_both f_law : Addr} {oc_Change_init kV_Change_init dc_Change_init pm_Change_init cd_Change_init ct_Change_init : Value} {od_Change_init an_Change_init : Option Addr} {sl_Change_init : Array (Option Value)} {oc_Book_waiting kV_Book_waiting dc_Book_waiting pm_Book_waiting cd_Book_waiting ct_Book_waiting : Value} {od_Book_waiting an_Book_waiting : Option Addr} {sl_Book_waiting : Array (Option Value)} {oc_Book_ask_for_changes kV_Book_ask_for_changes dc_Book_ask_for_changes pm_Book_ask_for_changes cd_Book_ask_for_changes ct_Book_ask_for_changes : Value} {od_Book_ask_for_changes an_Book_ask_for_changes : Option Addr} {sl_Book_ask_for_changes : Array (Option Value)} {oc_needs_with kV_needs_with dc_needs_with pm_needs_with cd_needs_with ct_needs_with : Value} {od_needs_with an_needs_with : Option Addr} {sl_needs_with : Array (Option Value)} {oc_Plank_init kV_Plank_init dc_Plank_init pm_Plank_init cd_Plank_init ct_Plank_init : Value} {od_Plank_init an_Plank_init : Option Addr} {sl_Plank_init : Array (Option Value)} {oc_Plank_blocks kV_Plank_blocks dc_Plank_blocks pm_Plank_blocks cd_Plank_blocks ct_Plank_blocks : Value} {od_Plank_blocks an_Plank_blocks : Option Addr} {sl_Plank_blocks : Array (Option Value)} {oc_Plank_cells kV_Plank_cells dc_Plank_cells pm_Plank_cells cd_Plank_cells ct_Plank_cells : Value} {od_Plank_cells an_Plank_cells : Option Addr} {sl_Plank_cells : Array (Option Value)} {oc_Plank_writings kV_Plank_writings dc_Plank_writings pm_Plank_writings cd_Plank_writings ct_Plank_writings : Value} {od_Plank_writings an_Plank_writings : Option Addr} {sl_Plank_writings : Array (Option Value)} {oc_Plank_ask_for_block kV_Plank_ask_for_block dc_Plank_ask_for_block pm_Plank_ask_for_block cd_Plank_ask_for_block ct_Plank_ask_for_block : Value} {od_Plank_ask_for_block an_Plank_ask_for_block : Option Addr} {sl_Plank_ask_for_block : Array (Option Value)} {oc_law_cell_at kV_law_cell_at dc_law_cell_at pm_law_cell_at cd_law_cell_at ct_law_cell_at : Value} {od_law_cell_at an_law_cell_at : Option Addr} {sl_law_cell_at : Array (Option Value)} {oc_law_pick kV_law_pick dc_law_pick pm_law_pick cd_law_pick ct_law_pick : Value} {od_law_pick an_law_pick : Option Addr} {sl_law_pick : Array (Option Value)} {oc_Book_init kV_Book_init dc_Book_init pm_Book_init cd_Book_init ct_Book_init : Value} {od_Book_init an_Book_init : Option Addr} {sl_Book_init : Array (Option Value)} {oc_Book_ask_for_place kV_Book_ask_for_place dc_Book_ask_for_place pm_Book_ask_for_place cd_Book_ask_for_place ct_Book_ask_for_place : Value} {od_Book_ask_for_place an_Book_ask_for_place : Option Addr} {sl_Book_ask_for_place : Array (Option Value)} {oc_Plank_read kV_Plank_read dc_Plank_read pm_Plank_read cd_Plank_read ct_Plank_read : Value} {od_Plank_read an_Plank_read : Option Addr} {sl_Plank_read : Array (Option Value)} {oc_Plank_write kV_Plank_write dc_Plank_write pm_Plank_write cd_Plank_write ct_Plank_write : Value} {od_Plank_write an_Plank_write : Option Addr} {sl_Plank_write : Array (Option Value)} {oc_law_text kV_law_text dc_law_text pm_law_text cd_law_text ct_law_text : Value} {od_law_text an_law_text : Option Addr} {sl_law_text : Array (Option Value)} {oc_law_number kV_law_number dc_law_number pm_law_number cd_law_number ct_law_number : Value} {od_law_number an_law_number : Option Addr} {sl_law_number : Array (Option Value)} {oc_law_place kV_law_place dc_law_place pm_law_place cd_law_place ct_law_place : Value} {od_law_place an_law_place : Option Addr} {sl_law_place : Array (Option Value)} {oc_Book_newest kV_Book_newest dc_Book_newest pm_Book_newest cd_Book_newest ct_Book_newest : Value} {od_Book_newest an_Book_newest : Option Addr} {sl_Book_newest : Array (Option Value)} {oc_law_value kV_law_value dc_law_value pm_law_value cd_law_value ct_law_value : Value} {od_law_value an_law_value : Option Addr} {sl_law_value : Array (Option Value)} {oc_Book_change kV_Book_change dc_Book_change pm_Book_change cd_Book_change ct_Book_change : Value} {od_Book_change an_Book_change : Option Addr} {sl_Book_change : Array (Option Value)} {oc_Book_in_hand kV_Book_in_hand dc_Book_in_hand pm_Book_in_hand cd_Book_in_hand ct_Book_in_hand : Value} {od_Book_in_hand an_Book_in_hand : Option Addr} {sl_Book_in_hand : Array (Option Value)} {oc_law_begun kV_law_begun dc_law_begun pm_law_begun cd_law_begun ct_law_begun : Value} {od_law_begun an_law_begun : Option Addr} {sl_law_begun : Array (Option Value)} {oc_law_rewritten kV_law_rewritten dc_law_rewritten pm_law_rewritten cd_law_rewritten ct_law_rewritten : Value} {od_law_rewritten an_law_rewritten : Option Addr} {sl_law_rewritten : Array (Option Value)} {oc_law_same kV_law_same dc_law_same pm_law_same cd_law_same ct_law_same : Value} {od_law_same an_law_same : Option Addr} {sl_law_same : Array (Option Value)} {oc_law_looks kV_law_looks dc_law_looks pm_law_looks cd_law_looks ct_law_looks : Value} {od_law_looks an_law_looks : Option Addr} {sl_law_looks : Array (Option Value)} {oc_law_changed kV_law_changed dc_law_changed pm_law_changed cd_law_changed ct_law_changed : Value} {od_law_changed an_law_changed : Option Addr} {sl_law_changed : Array (Option Value)} {oc_law_stays kV_law_stays dc_law_stays pm_law_stays cd_law_stays ct_law_stays : Value} {od_law_stays an_law_stays : Option Addr} {sl_law_stays : Array (Option Value)} {oc_law_both kV_law_both dc_law_both pm_law_both cd_law_both ct_law_both : Value} {od_law_both an_law_both : Option Addr} {sl_law_both : Array (Option Value)} {oc_law kV_law dc_law pm_law cd_law ct_law : Value} {od_law an_law : Option Addr} {sl_law : Array (Option Value)} (X : K.In h) (G : h.Ns mainGlobals mg) (hfa : mg "law" = some (.ref fa))
    (ac_NoBlock : PySem.W.nsIn K mainGlobals "NoBlock" = some (some (.ref C_NoBlock)))
    (ac_NoChange : PySem.W.nsIn K mainGlobals "NoChange" = some (some (.ref C_NoChange)))
    (ac_Change : PySem.W.nsIn K mainGlobals "Change" = some (some (.ref C_Change)))
    (ac_Book : PySem.W.nsIn K mainGlobals "Book" = some (some (.ref C_Book)))
    (ac_Plank : PySem.W.nsIn K mainGlobals "Plank" = some (some (.ref C_Plank)))
    (pg_Book : PySem.W.plainGet K C_Book Str.empty = true)
    (hd_Book : PySem.W.hasDictIn K C_Book = true)
    (po_Book : PySem.W.plainOver K C_Book = true)
    (sa_Book : PySem.W.findIn K (.ref C_Book) "__setattr__" = some (some (.builtin "object.__setattr__")))
    (pg_Change : PySem.W.plainGet K C_Change Str.empty = true)
    (hd_Change : PySem.W.hasDictIn K C_Change = true)
    (po_Change : PySem.W.plainOver K C_Change = true)
    (sa_Change : PySem.W.findIn K (.ref C_Change) "__setattr__" = some (some (.builtin "object.__setattr__")))
    (pg_Plank : PySem.W.plainGet K C_Plank Str.empty = true)
    (hd_Plank : PySem.W.hasDictIn K C_Plank = true)
    (po_Plank : PySem.W.plainOver K C_Plank = true)
    (sa_Plank : PySem.W.findIn K (.ref C_Plank) "__setattr__" = some (some (.builtin "object.__setattr__")))
    (mk_Book : PySem.W.makesIn K C_Book = true)
    (kc_Book : PySem.W.keepIn K (.ref C_Book) = true)
    (mk_Change : PySem.W.makesIn K C_Change = true)
    (kc_Change : PySem.W.keepIn K (.ref C_Change) = true)
    (mk_Plank : PySem.W.makesIn K C_Plank = true)
    (kc_Plank : PySem.W.keepIn K (.ref C_Plank) = true)
    (ex_NoBlock : PySem.W.excIn K C_NoBlock [.type "ValueError", .type "Exception", .type "BaseException", .type "object"] "ValueError.__new__" = true)
    (ex_NoChange : PySem.W.excIn K C_NoChange [.type "ValueError", .type "Exception", .type "BaseException", .type "object"] "ValueError.__new__" = true)
    (bl_bool : PySem.W.nsIn K mainGlobals "bool" = some none)
    (bl_int : PySem.W.nsIn K mainGlobals "int" = some none)
    (bl_isinstance : PySem.W.nsIn K mainGlobals "isinstance" = some none)
    (bl_len : PySem.W.nsIn K mainGlobals "len" = some none)
    (bl_list : PySem.W.nsIn K mainGlobals "list" = some none)
    (bl_range : PySem.W.nsIn K mainGlobals "range" = some none)
    (bl_set : PySem.W.nsIn K mainGlobals "set" = some none)
    (bl_sorted : PySem.W.nsIn K mainGlobals "sorted" = some none)
    (bl_str : PySem.W.nsIn K mainGlobals "str" = some none)
    (bl_tuple : PySem.W.nsIn K mainGlobals "tuple" = some none)
    (bl_zip : PySem.W.nsIn K mainGlobals "zip" = some none)
    (a_Change_init : PySem.W.findIn K (.ref C_Change) "__init__" = some (some (.ref f_Change_init)))
    (i_Change_init : PySem.W.isFn K (.ref f_Change_init) = true)
    (l_Change_init : K.lookup f_Change_init = some ⟨oc_Change_init, od_Change_init, .func (PySem.W.fnOf "__init__" "Change.__init__" (defArgs s_Change_init) (defBody s_Change_init) (defScope s_Change_init) .none kV_Change_init dc_Change_init pm_Change_init an_Change_init cd_Change_init ct_Change_init), sl_Change_init⟩)
    (c_Change_init : PySem.W.codeIn K cd_Change_init "Change.__init__" = true)
    (k_Change_init : PySem.W.keepIn K (.ref f_Change_init) = true)
    (a_Book_waiting : PySem.W.findIn K (.ref C_Book) "waiting" = some (some (.ref f_Book_waiting)))
    (i_Book_waiting : PySem.W.isFn K (.ref f_Book_waiting) = true)
    (l_Book_waiting : K.lookup f_Book_waiting = some ⟨oc_Book_waiting, od_Book_waiting, .func (PySem.W.fnOf "waiting" "Book.waiting" (defArgs s_Book_waiting) (defBody s_Book_waiting) (defScope s_Book_waiting) .none kV_Book_waiting dc_Book_waiting pm_Book_waiting an_Book_waiting cd_Book_waiting ct_Book_waiting), sl_Book_waiting⟩)
    (c_Book_waiting : PySem.W.codeIn K cd_Book_waiting "Book.waiting" = true)
    (k_Book_waiting : PySem.W.keepIn K (.ref f_Book_waiting) = true)
    (a_Book_ask_for_changes : PySem.W.findIn K (.ref C_Book) "ask_for_changes" = some (some (.ref f_Book_ask_for_changes)))
    (i_Book_ask_for_changes : PySem.W.isFn K (.ref f_Book_ask_for_changes) = true)
    (l_Book_ask_for_changes : K.lookup f_Book_ask_for_changes = some ⟨oc_Book_ask_for_changes, od_Book_ask_for_changes, .func (PySem.W.fnOf "ask_for_changes" "Book.ask_for_changes" (defArgs s_Book_ask_for_changes) (defBody s_Book_ask_for_changes) (defScope s_Book_ask_for_changes) .none kV_Book_ask_for_changes dc_Book_ask_for_changes pm_Book_ask_for_changes an_Book_ask_for_changes cd_Book_ask_for_changes ct_Book_ask_for_changes), sl_Book_ask_for_changes⟩)
    (c_Book_ask_for_changes : PySem.W.codeIn K cd_Book_ask_for_changes "Book.ask_for_changes" = true)
    (k_Book_ask_for_changes : PySem.W.keepIn K (.ref f_Book_ask_for_changes) = true)
    (a_needs_with : PySem.W.nsIn K mainGlobals "needs_with" = some (some (.ref f_needs_with)))
    (l_needs_with : K.lookup f_needs_with = some ⟨oc_needs_with, od_needs_with, .func (PySem.W.fnOf "needs_with" "needs_with" (defArgs s_needs_with) (defBody s_needs_with) (defScope s_needs_with) .none kV_needs_with dc_needs_with pm_needs_with an_needs_with cd_needs_with ct_needs_with), sl_needs_with⟩)
    (c_needs_with : PySem.W.codeIn K cd_needs_with "needs_with" = true)
    (k_needs_with : PySem.W.keepIn K (.ref f_needs_with) = true)
    (a_Plank_init : PySem.W.findIn K (.ref C_Plank) "__init__" = some (some (.ref f_Plank_init)))
    (i_Plank_init : PySem.W.isFn K (.ref f_Plank_init) = true)
    (l_Plank_init : K.lookup f_Plank_init = some ⟨oc_Plank_init, od_Plank_init, .func (PySem.W.fnOf "__init__" "Plank.__init__" (defArgs s_Plank_init) (defBody s_Plank_init) (defScope s_Plank_init) .none kV_Plank_init dc_Plank_init pm_Plank_init an_Plank_init cd_Plank_init ct_Plank_init), sl_Plank_init⟩)
    (c_Plank_init : PySem.W.codeIn K cd_Plank_init "Plank.__init__" = true)
    (k_Plank_init : PySem.W.keepIn K (.ref f_Plank_init) = true)
    (a_Plank_blocks : PySem.W.findIn K (.ref C_Plank) "blocks" = some (some (.ref f_Plank_blocks)))
    (i_Plank_blocks : PySem.W.isFn K (.ref f_Plank_blocks) = true)
    (l_Plank_blocks : K.lookup f_Plank_blocks = some ⟨oc_Plank_blocks, od_Plank_blocks, .func (PySem.W.fnOf "blocks" "Plank.blocks" (defArgs s_Plank_blocks) (defBody s_Plank_blocks) (defScope s_Plank_blocks) .none kV_Plank_blocks dc_Plank_blocks pm_Plank_blocks an_Plank_blocks cd_Plank_blocks ct_Plank_blocks), sl_Plank_blocks⟩)
    (c_Plank_blocks : PySem.W.codeIn K cd_Plank_blocks "Plank.blocks" = true)
    (k_Plank_blocks : PySem.W.keepIn K (.ref f_Plank_blocks) = true)
    (a_Plank_cells : PySem.W.findIn K (.ref C_Plank) "cells" = some (some (.ref f_Plank_cells)))
    (i_Plank_cells : PySem.W.isFn K (.ref f_Plank_cells) = true)
    (l_Plank_cells : K.lookup f_Plank_cells = some ⟨oc_Plank_cells, od_Plank_cells, .func (PySem.W.fnOf "cells" "Plank.cells" (defArgs s_Plank_cells) (defBody s_Plank_cells) (defScope s_Plank_cells) .none kV_Plank_cells dc_Plank_cells pm_Plank_cells an_Plank_cells cd_Plank_cells ct_Plank_cells), sl_Plank_cells⟩)
    (c_Plank_cells : PySem.W.codeIn K cd_Plank_cells "Plank.cells" = true)
    (k_Plank_cells : PySem.W.keepIn K (.ref f_Plank_cells) = true)
    (a_Plank_writings : PySem.W.findIn K (.ref C_Plank) "writings" = some (some (.ref f_Plank_writings)))
    (i_Plank_writings : PySem.W.isFn K (.ref f_Plank_writings) = true)
    (l_Plank_writings : K.lookup f_Plank_writings = some ⟨oc_Plank_writings, od_Plank_writings, .func (PySem.W.fnOf "writings" "Plank.writings" (defArgs s_Plank_writings) (defBody s_Plank_writings) (defScope s_Plank_writings) .none kV_Plank_writings dc_Plank_writings pm_Plank_writings an_Plank_writings cd_Plank_writings ct_Plank_writings), sl_Plank_writings⟩)
    (c_Plank_writings : PySem.W.codeIn K cd_Plank_writings "Plank.writings" = true)
    (k_Plank_writings : PySem.W.keepIn K (.ref f_Plank_writings) = true)
    (a_Plank_ask_for_block : PySem.W.findIn K (.ref C_Plank) "ask_for_block" = some (some (.ref f_Plank_ask_for_block)))
    (i_Plank_ask_for_block : PySem.W.isFn K (.ref f_Plank_ask_for_block) = true)
    (l_Plank_ask_for_block : K.lookup f_Plank_ask_for_block = some ⟨oc_Plank_ask_for_block, od_Plank_ask_for_block, .func (PySem.W.fnOf "ask_for_block" "Plank.ask_for_block" (defArgs s_Plank_ask_for_block) (defBody s_Plank_ask_for_block) (defScope s_Plank_ask_for_block) .none kV_Plank_ask_for_block dc_Plank_ask_for_block pm_Plank_ask_for_block an_Plank_ask_for_block cd_Plank_ask_for_block ct_Plank_ask_for_block), sl_Plank_ask_for_block⟩)
    (c_Plank_ask_for_block : PySem.W.codeIn K cd_Plank_ask_for_block "Plank.ask_for_block" = true)
    (k_Plank_ask_for_block : PySem.W.keepIn K (.ref f_Plank_ask_for_block) = true)
    (a_law_cell_at : PySem.W.nsIn K mainGlobals "_law_cell_at" = some (some (.ref f_law_cell_at)))
    (l_law_cell_at : K.lookup f_law_cell_at = some ⟨oc_law_cell_at, od_law_cell_at, .func (PySem.W.fnOf "_law_cell_at" "_law_cell_at" (defArgs s_law_cell_at) (defBody s_law_cell_at) (defScope s_law_cell_at) .none kV_law_cell_at dc_law_cell_at pm_law_cell_at an_law_cell_at cd_law_cell_at ct_law_cell_at), sl_law_cell_at⟩)
    (c_law_cell_at : PySem.W.codeIn K cd_law_cell_at "_law_cell_at" = true)
    (k_law_cell_at : PySem.W.keepIn K (.ref f_law_cell_at) = true)
    (a_law_pick : PySem.W.nsIn K mainGlobals "_law_pick" = some (some (.ref f_law_pick)))
    (l_law_pick : K.lookup f_law_pick = some ⟨oc_law_pick, od_law_pick, .func (PySem.W.fnOf "_law_pick" "_law_pick" (defArgs s_law_pick) (defBody s_law_pick) (defScope s_law_pick) .none kV_law_pick dc_law_pick pm_law_pick an_law_pick cd_law_pick ct_law_pick), sl_law_pick⟩)
    (c_law_pick : PySem.W.codeIn K cd_law_pick "_law_pick" = true)
    (k_law_pick : PySem.W.keepIn K (.ref f_law_pick) = true)
    (a_Book_init : PySem.W.findIn K (.ref C_Book) "__init__" = some (some (.ref f_Book_init)))
    (i_Book_init : PySem.W.isFn K (.ref f_Book_init) = true)
    (l_Book_init : K.lookup f_Book_init = some ⟨oc_Book_init, od_Book_init, .func (PySem.W.fnOf "__init__" "Book.__init__" (defArgs s_Book_init) (defBody s_Book_init) (defScope s_Book_init) .none kV_Book_init dc_Book_init pm_Book_init an_Book_init cd_Book_init ct_Book_init), sl_Book_init⟩)
    (c_Book_init : PySem.W.codeIn K cd_Book_init "Book.__init__" = true)
    (k_Book_init : PySem.W.keepIn K (.ref f_Book_init) = true)
    (a_Book_ask_for_place : PySem.W.findIn K (.ref C_Book) "ask_for_place" = some (some (.ref f_Book_ask_for_place)))
    (i_Book_ask_for_place : PySem.W.isFn K (.ref f_Book_ask_for_place) = true)
    (l_Book_ask_for_place : K.lookup f_Book_ask_for_place = some ⟨oc_Book_ask_for_place, od_Book_ask_for_place, .func (PySem.W.fnOf "ask_for_place" "Book.ask_for_place" (defArgs s_Book_ask_for_place) (defBody s_Book_ask_for_place) (defScope s_Book_ask_for_place) .none kV_Book_ask_for_place dc_Book_ask_for_place pm_Book_ask_for_place an_Book_ask_for_place cd_Book_ask_for_place ct_Book_ask_for_place), sl_Book_ask_for_place⟩)
    (c_Book_ask_for_place : PySem.W.codeIn K cd_Book_ask_for_place "Book.ask_for_place" = true)
    (k_Book_ask_for_place : PySem.W.keepIn K (.ref f_Book_ask_for_place) = true)
    (a_Plank_read : PySem.W.findIn K (.ref C_Plank) "read" = some (some (.ref f_Plank_read)))
    (i_Plank_read : PySem.W.isFn K (.ref f_Plank_read) = true)
    (l_Plank_read : K.lookup f_Plank_read = some ⟨oc_Plank_read, od_Plank_read, .func (PySem.W.fnOf "read" "Plank.read" (defArgs s_Plank_read) (defBody s_Plank_read) (defScope s_Plank_read) .none kV_Plank_read dc_Plank_read pm_Plank_read an_Plank_read cd_Plank_read ct_Plank_read), sl_Plank_read⟩)
    (c_Plank_read : PySem.W.codeIn K cd_Plank_read "Plank.read" = true)
    (k_Plank_read : PySem.W.keepIn K (.ref f_Plank_read) = true)
    (a_Plank_write : PySem.W.findIn K (.ref C_Plank) "write" = some (some (.ref f_Plank_write)))
    (i_Plank_write : PySem.W.isFn K (.ref f_Plank_write) = true)
    (l_Plank_write : K.lookup f_Plank_write = some ⟨oc_Plank_write, od_Plank_write, .func (PySem.W.fnOf "write" "Plank.write" (defArgs s_Plank_write) (defBody s_Plank_write) (defScope s_Plank_write) .none kV_Plank_write dc_Plank_write pm_Plank_write an_Plank_write cd_Plank_write ct_Plank_write), sl_Plank_write⟩)
    (c_Plank_write : PySem.W.codeIn K cd_Plank_write "Plank.write" = true)
    (k_Plank_write : PySem.W.keepIn K (.ref f_Plank_write) = true)
    (a_law_text : PySem.W.nsIn K mainGlobals "_law_text" = some (some (.ref f_law_text)))
    (l_law_text : K.lookup f_law_text = some ⟨oc_law_text, od_law_text, .func (PySem.W.fnOf "_law_text" "_law_text" (defArgs s_law_text) (defBody s_law_text) (defScope s_law_text) .none kV_law_text dc_law_text pm_law_text an_law_text cd_law_text ct_law_text), sl_law_text⟩)
    (c_law_text : PySem.W.codeIn K cd_law_text "_law_text" = true)
    (k_law_text : PySem.W.keepIn K (.ref f_law_text) = true)
    (a_law_number : PySem.W.nsIn K mainGlobals "_law_number" = some (some (.ref f_law_number)))
    (l_law_number : K.lookup f_law_number = some ⟨oc_law_number, od_law_number, .func (PySem.W.fnOf "_law_number" "_law_number" (defArgs s_law_number) (defBody s_law_number) (defScope s_law_number) .none kV_law_number dc_law_number pm_law_number an_law_number cd_law_number ct_law_number), sl_law_number⟩)
    (c_law_number : PySem.W.codeIn K cd_law_number "_law_number" = true)
    (k_law_number : PySem.W.keepIn K (.ref f_law_number) = true)
    (a_law_place : PySem.W.nsIn K mainGlobals "_law_place" = some (some (.ref f_law_place)))
    (l_law_place : K.lookup f_law_place = some ⟨oc_law_place, od_law_place, .func (PySem.W.fnOf "_law_place" "_law_place" (defArgs s_law_place) (defBody s_law_place) (defScope s_law_place) .none kV_law_place dc_law_place pm_law_place an_law_place cd_law_place ct_law_place), sl_law_place⟩)
    (c_law_place : PySem.W.codeIn K cd_law_place "_law_place" = true)
    (k_law_place : PySem.W.keepIn K (.ref f_law_place) = true)
    (a_Book_newest : PySem.W.findIn K (.ref C_Book) "newest" = some (some (.ref f_Book_newest)))
    (i_Book_newest : PySem.W.isFn K (.ref f_Book_newest) = true)
    (l_Book_newest : K.lookup f_Book_newest = some ⟨oc_Book_newest, od_Book_newest, .func (PySem.W.fnOf "newest" "Book.newest" (defArgs s_Book_newest) (defBody s_Book_newest) (defScope s_Book_newest) .none kV_Book_newest dc_Book_newest pm_Book_newest an_Book_newest cd_Book_newest ct_Book_newest), sl_Book_newest⟩)
    (c_Book_newest : PySem.W.codeIn K cd_Book_newest "Book.newest" = true)
    (k_Book_newest : PySem.W.keepIn K (.ref f_Book_newest) = true)
    (a_law_value : PySem.W.nsIn K mainGlobals "_law_value" = some (some (.ref f_law_value)))
    (l_law_value : K.lookup f_law_value = some ⟨oc_law_value, od_law_value, .func (PySem.W.fnOf "_law_value" "_law_value" (defArgs s_law_value) (defBody s_law_value) (defScope s_law_value) .none kV_law_value dc_law_value pm_law_value an_law_value cd_law_value ct_law_value), sl_law_value⟩)
    (c_law_value : PySem.W.codeIn K cd_law_value "_law_value" = true)
    (k_law_value : PySem.W.keepIn K (.ref f_law_value) = true)
    (a_Book_change : PySem.W.findIn K (.ref C_Book) "change" = some (some (.ref f_Book_change)))
    (i_Book_change : PySem.W.isFn K (.ref f_Book_change) = true)
    (l_Book_change : K.lookup f_Book_change = some ⟨oc_Book_change, od_Book_change, .func (PySem.W.fnOf "change" "Book.change" (defArgs s_Book_change) (defBody s_Book_change) (defScope s_Book_change) .none kV_Book_change dc_Book_change pm_Book_change an_Book_change cd_Book_change ct_Book_change), sl_Book_change⟩)
    (c_Book_change : PySem.W.codeIn K cd_Book_change "Book.change" = true)
    (k_Book_change : PySem.W.keepIn K (.ref f_Book_change) = true)
    (a_Book_in_hand : PySem.W.findIn K (.ref C_Book) "in_hand" = some (some (.ref f_Book_in_hand)))
    (i_Book_in_hand : PySem.W.isFn K (.ref f_Book_in_hand) = true)
    (l_Book_in_hand : K.lookup f_Book_in_hand = some ⟨oc_Book_in_hand, od_Book_in_hand, .func (PySem.W.fnOf "in_hand" "Book.in_hand" (defArgs s_Book_in_hand) (defBody s_Book_in_hand) (defScope s_Book_in_hand) .none kV_Book_in_hand dc_Book_in_hand pm_Book_in_hand an_Book_in_hand cd_Book_in_hand ct_Book_in_hand), sl_Book_in_hand⟩)
    (c_Book_in_hand : PySem.W.codeIn K cd_Book_in_hand "Book.in_hand" = true)
    (k_Book_in_hand : PySem.W.keepIn K (.ref f_Book_in_hand) = true)
    (a_law_begun : PySem.W.nsIn K mainGlobals "_law_begun" = some (some (.ref f_law_begun)))
    (l_law_begun : K.lookup f_law_begun = some ⟨oc_law_begun, od_law_begun, .func (PySem.W.fnOf "_law_begun" "_law_begun" (defArgs s_law_begun) (defBody s_law_begun) (defScope s_law_begun) .none kV_law_begun dc_law_begun pm_law_begun an_law_begun cd_law_begun ct_law_begun), sl_law_begun⟩)
    (c_law_begun : PySem.W.codeIn K cd_law_begun "_law_begun" = true)
    (k_law_begun : PySem.W.keepIn K (.ref f_law_begun) = true)
    (a_law_rewritten : PySem.W.nsIn K mainGlobals "_law_rewritten" = some (some (.ref f_law_rewritten)))
    (l_law_rewritten : K.lookup f_law_rewritten = some ⟨oc_law_rewritten, od_law_rewritten, .func (PySem.W.fnOf "_law_rewritten" "_law_rewritten" (defArgs s_law_rewritten) (defBody s_law_rewritten) (defScope s_law_rewritten) .none kV_law_rewritten dc_law_rewritten pm_law_rewritten an_law_rewritten cd_law_rewritten ct_law_rewritten), sl_law_rewritten⟩)
    (c_law_rewritten : PySem.W.codeIn K cd_law_rewritten "_law_rewritten" = true)
    (k_law_rewritten : PySem.W.keepIn K (.ref f_law_rewritten) = true)
    (a_law_same : PySem.W.nsIn K mainGlobals "_law_same" = some (some (.ref f_law_same)))
    (l_law_same : K.lookup f_law_same = some ⟨oc_law_same, od_law_same, .func (PySem.W.fnOf "_law_same" "_law_same" (defArgs s_law_same) (defBody s_law_same) (defScope s_law_same) .none kV_law_same dc_law_same pm_law_same an_law_same cd_law_same ct_law_same), sl_law_same⟩)
    (c_law_same : PySem.W.codeIn K cd_law_same "_law_same" = true)
    (k_law_same : PySem.W.keepIn K (.ref f_law_same) = true)
    (a_law_looks : PySem.W.nsIn K mainGlobals "_law_looks" = some (some (.ref f_law_looks)))
    (l_law_looks : K.lookup f_law_looks = some ⟨oc_law_looks, od_law_looks, .func (PySem.W.fnOf "_law_looks" "_law_looks" (defArgs s_law_looks) (defBody s_law_looks) (defScope s_law_looks) .none kV_law_looks dc_law_looks pm_law_looks an_law_looks cd_law_looks ct_law_looks), sl_law_looks⟩)
    (c_law_looks : PySem.W.codeIn K cd_law_looks "_law_looks" = true)
    (k_law_looks : PySem.W.keepIn K (.ref f_law_looks) = true)
    (a_law_changed : PySem.W.nsIn K mainGlobals "_law_changed" = some (some (.ref f_law_changed)))
    (l_law_changed : K.lookup f_law_changed = some ⟨oc_law_changed, od_law_changed, .func (PySem.W.fnOf "_law_changed" "_law_changed" (defArgs s_law_changed) (defBody s_law_changed) (defScope s_law_changed) .none kV_law_changed dc_law_changed pm_law_changed an_law_changed cd_law_changed ct_law_changed), sl_law_changed⟩)
    (c_law_changed : PySem.W.codeIn K cd_law_changed "_law_changed" = true)
    (k_law_changed : PySem.W.keepIn K (.ref f_law_changed) = true)
    (a_law_stays : PySem.W.nsIn K mainGlobals "_law_stays" = some (some (.ref f_law_stays)))
    (l_law_stays : K.lookup f_law_stays = some ⟨oc_law_stays, od_law_stays, .func (PySem.W.fnOf "_law_stays" "_law_stays" (defArgs s_law_stays) (defBody s_law_stays) (defScope s_law_stays) .none kV_law_stays dc_law_stays pm_law_stays an_law_stays cd_law_stays ct_law_stays), sl_law_stays⟩)
    (c_law_stays : PySem.W.codeIn K cd_law_stays "_law_stays" = true)
    (k_law_stays : PySem.W.keepIn K (.ref f_law_stays) = true)
    (a_law_both : PySem.W.nsIn K mainGlobals "_law_both" = some (some (.ref f_law_both)))
    (l_law_both : K.lookup f_law_both = some ⟨oc_law_both, od_law_both, .func (PySem.W.fnOf "_law_both" "_law_both" (defArgs s_law_both) (defBody s_law_both) (defScope s_law_both) .none kV_law_both dc_law_both pm_law_both an_law_both cd_law_both ct_law_both), sl_law_both⟩)
    (c_law_both : PySem.W.codeIn K cd_law_both "_law_both" = true)
    (k_law_both : PySem.W.keepIn K (.ref f_law_both) = true)
    (a_law : PySem.W.nsIn K mainGlobals "law" = some (some (.ref f_law)))
    (l_law : K.lookup f_law = some ⟨oc_law, od_law, .func (PySem.W.fnOf "law" "law" (defArgs s_law) (defBody s_law) (defScope s_law) .none kV_law dc_law pm_law an_law cd_law ct_law), sl_law⟩)
    (c_law : PySem.W.codeIn K cd_law "law" = true)
    (k_law : PySem.W.keepIn K (.ref f_law) = true)
    (np0 : PySem.W.findIn K (.ref C_Plank) "contents" = some none)
    (np1 : PySem.W.findIn K (.ref C_Plank) "width" = some none)
    (np2 : PySem.W.findIn K (.ref C_Plank) "written" = some none)
    (nb0 : PySem.W.findIn K (.ref C_Book) "ground" = some none)
    (nb1 : PySem.W.findIn K (.ref C_Book) "made" = some none)
    (nb2 : PySem.W.findIn K (.ref C_Book) "made_in" = some none)
    (nb3 : PySem.W.findIn K (.ref C_Book) "latest" = some none)
    (nb4 : PySem.W.findIn K (.ref C_Book) "outs" = some none)
    (nh0 : PySem.W.findIn K (.ref C_Change) "place" = some none)
    (nh1 : PySem.W.findIn K (.ref C_Change) "value" = some none)
    (nh2 : PySem.W.findIn K (.ref C_Change) "needs" = some none) :
    ∃ fd : FuncData, (∀ (s : Shared) (v : Value), BindsTo s fd ⟨[v], []⟩ [("script", v)]) ∧ ∀ base : Heap, K.In base → base.Ns mainGlobals mg → FnOk l.prog w K mg base (cxE l.prog w) 12 fa fd ["script"] (spL K) := by
  obtain ⟨a, rfl, rfl, rfl, rfl, rfl⟩ := ad_ex C_NoBlock C_NoChange C_Change C_Book C_Plank
  have e := hfa.symm.trans (PySem.W.mg_of X G a_law)
  cases e
  have T : Txt K mg a := ⟨⟨pg_Book, hd_Book, po_Book, sa_Book⟩, ⟨pg_Change, hd_Change, po_Change, sa_Change⟩, ⟨pg_Plank, hd_Plank, po_Plank, sa_Plank⟩, PySem.W.mg_of X G ac_NoBlock, ⟨_, PySem.W.mg_of X G ac_NoBlock, rfl⟩, ⟨ex_NoBlock⟩, PySem.W.mg_of X G ac_NoChange, ⟨_, PySem.W.mg_of X G ac_NoChange, rfl⟩, ⟨ex_NoChange⟩, PySem.W.mg_none_of X G bl_bool, PySem.W.mg_none_of X G bl_int, PySem.W.mg_none_of X G bl_isinstance, PySem.W.mg_none_of X G bl_len, PySem.W.mg_none_of X G bl_list, PySem.W.mg_none_of X G bl_range, PySem.W.mg_none_of X G bl_set, PySem.W.mg_none_of X G bl_sorted, PySem.W.mg_none_of X G bl_str, PySem.W.mg_none_of X G bl_tuple, PySem.W.mg_none_of X G bl_zip⟩
  have TPk : TPlank K a := ⟨T.c_Plank, np0, np1, np2⟩
  have TBk : TBook K (a "Book") (a "Change") := ⟨T.c_Book, nb0, nb1, nb2, nb3, nb4, T.c_Change, nh0, nh1, nh2⟩
  have F_Change_init := fun_mk (st := s_Change_init) l_Change_init c_Change_init k_Change_init
  have B_Change_init := F_Change_init.binds (ps := ["self", "place", "value", "needs"]) fun _ _ _ _ _ _ => us4 fun _ _ _ _ => rfl
  have F_Book_waiting := fun_mk (st := s_Book_waiting) l_Book_waiting c_Book_waiting k_Book_waiting
  have B_Book_waiting := F_Book_waiting.binds (ps := ["self"]) fun _ _ _ _ _ _ => us1 fun _ => rfl
  have F_Book_ask_for_changes := fun_mk (st := s_Book_ask_for_changes) l_Book_ask_for_changes c_Book_ask_for_changes k_Book_ask_for_changes
  have B_Book_ask_for_changes := F_Book_ask_for_changes.binds (ps := ["self", "numbers"]) fun _ _ _ _ _ _ => us2 fun _ _ => rfl
  have F_needs_with := fun_mk (st := s_needs_with) l_needs_with c_needs_with k_needs_with
  have B_needs_with := F_needs_with.binds (ps := ["needs", "ahead"]) fun _ _ _ _ _ _ => us2 fun _ _ => rfl
  have F_Plank_init := fun_mk (st := s_Plank_init) l_Plank_init c_Plank_init k_Plank_init
  have B_Plank_init := F_Plank_init.binds (ps := ["self", "blocks", "cells"]) fun _ _ _ _ _ _ => us3 fun _ _ _ => rfl
  have F_Plank_blocks := fun_mk (st := s_Plank_blocks) l_Plank_blocks c_Plank_blocks k_Plank_blocks
  have B_Plank_blocks := F_Plank_blocks.binds (ps := ["self"]) fun _ _ _ _ _ _ => us1 fun _ => rfl
  have F_Plank_cells := fun_mk (st := s_Plank_cells) l_Plank_cells c_Plank_cells k_Plank_cells
  have B_Plank_cells := F_Plank_cells.binds (ps := ["self"]) fun _ _ _ _ _ _ => us1 fun _ => rfl
  have F_Plank_writings := fun_mk (st := s_Plank_writings) l_Plank_writings c_Plank_writings k_Plank_writings
  have B_Plank_writings := F_Plank_writings.binds (ps := ["self"]) fun _ _ _ _ _ _ => us1 fun _ => rfl
  have F_Plank_ask_for_block := fun_mk (st := s_Plank_ask_for_block) l_Plank_ask_for_block c_Plank_ask_for_block k_Plank_ask_for_block
  have B_Plank_ask_for_block := F_Plank_ask_for_block.binds (ps := ["self", "block"]) fun _ _ _ _ _ _ => us2 fun _ _ => rfl
  have F_law_cell_at := fun_mk (st := s_law_cell_at) l_law_cell_at c_law_cell_at k_law_cell_at
  have B_law_cell_at := F_law_cell_at.binds (ps := ["script", "k"]) fun _ _ _ _ _ _ => us2 fun _ _ => rfl
  have F_law_pick := fun_mk (st := s_law_pick) l_law_pick c_law_pick k_law_pick
  have B_law_pick := F_law_pick.binds (ps := ["cell", "prime", "many"]) fun _ _ _ _ _ _ => us3 fun _ _ _ => rfl
  have F_Book_init := fun_mk (st := s_Book_init) l_Book_init c_Book_init k_Book_init
  have B_Book_init := F_Book_init.binds (ps := ["self", "plank"]) fun _ _ _ _ _ _ => us2 fun _ _ => rfl
  have F_Book_ask_for_place := fun_mk (st := s_Book_ask_for_place) l_Book_ask_for_place c_Book_ask_for_place k_Book_ask_for_place
  have B_Book_ask_for_place := F_Book_ask_for_place.binds (ps := ["self", "place"]) fun _ _ _ _ _ _ => us2 fun _ _ => rfl
  have F_Plank_read := fun_mk (st := s_Plank_read) l_Plank_read c_Plank_read k_Plank_read
  have B_Plank_read := F_Plank_read.binds (ps := ["self", "block"]) fun _ _ _ _ _ _ => us2 fun _ _ => rfl
  have F_Plank_write := fun_mk (st := s_Plank_write) l_Plank_write c_Plank_write k_Plank_write
  have B_Plank_write := F_Plank_write.binds (ps := ["self", "block", "values"]) fun _ _ _ _ _ _ => us3 fun _ _ _ => rfl
  have F_law_text := fun_mk (st := s_law_text) l_law_text c_law_text k_law_text
  have B_law_text := F_law_text.binds (ps := ["cell", "size"]) fun _ _ _ _ _ _ => us2 fun _ _ => rfl
  have F_law_number := fun_mk (st := s_law_number) l_law_number c_law_number k_law_number
  have B_law_number := F_law_number.binds (ps := ["cell", "prime"]) fun _ _ _ _ _ _ => us2 fun _ _ => rfl
  have F_law_place := fun_mk (st := s_law_place) l_law_place c_law_place k_law_place
  have B_law_place := F_law_place.binds (ps := ["cell", "side"]) fun _ _ _ _ _ _ => us2 fun _ _ => rfl
  have F_Book_newest := fun_mk (st := s_Book_newest) l_Book_newest c_Book_newest k_Book_newest
  have B_Book_newest := F_Book_newest.binds (ps := ["self", "place"]) fun _ _ _ _ _ _ => us2 fun _ _ => rfl
  have F_law_value := fun_mk (st := s_law_value) l_law_value c_law_value k_law_value
  have B_law_value := F_law_value.binds (ps := ["cell"]) fun _ _ _ _ _ _ => us1 fun _ => rfl
  have F_Book_change := fun_mk (st := s_Book_change) l_Book_change c_Book_change k_Book_change
  have B_Book_change := F_Book_change.binds (ps := ["self", "place", "value", "needs"]) fun _ _ _ _ _ _ => us4 fun _ _ _ _ => rfl
  have F_Book_in_hand := fun_mk (st := s_Book_in_hand) l_Book_in_hand c_Book_in_hand k_Book_in_hand
  have B_Book_in_hand := F_Book_in_hand.binds (ps := ["self", "place"]) fun _ _ _ _ _ _ => us2 fun _ _ => rfl
  have F_law_begun := fun_mk (st := s_law_begun) l_law_begun c_law_begun k_law_begun
  have B_law_begun := F_law_begun.binds (ps := ["cell"]) fun _ _ _ _ _ _ => us1 fun _ => rfl
  have F_law_rewritten := fun_mk (st := s_law_rewritten) l_law_rewritten c_law_rewritten k_law_rewritten
  have B_law_rewritten := F_law_rewritten.binds (ps := ["side", "cell"]) fun _ _ _ _ _ _ => us2 fun _ _ => rfl
  have F_law_same := fun_mk (st := s_law_same) l_law_same c_law_same k_law_same
  have B_law_same := F_law_same.binds (ps := ["found", "due"]) fun _ _ _ _ _ _ => us2 fun _ _ => rfl
  have F_law_looks := fun_mk (st := s_law_looks) l_law_looks c_law_looks k_law_looks
  have B_law_looks := F_law_looks.binds (ps := ["book", "side", "place"]) fun _ _ _ _ _ _ => us3 fun _ _ _ => rfl
  have F_law_changed := fun_mk (st := s_law_changed) l_law_changed c_law_changed k_law_changed
  have B_law_changed := F_law_changed.binds (ps := ["book", "side", "place", "cell"]) fun _ _ _ _ _ _ => us4 fun _ _ _ _ => rfl
  have F_law_stays := fun_mk (st := s_law_stays) l_law_stays c_law_stays k_law_stays
  have B_law_stays := F_law_stays.binds (ps := ["book", "side"]) fun _ _ _ _ _ _ => us2 fun _ _ => rfl
  have F_law_both := fun_mk (st := s_law_both) l_law_both c_law_both k_law_both
  have B_law_both := F_law_both.binds (ps := ["books", "sides", "places", "turn"]) fun _ _ _ _ _ _ => us4 fun _ _ _ _ => rfl
  have F_law := fun_mk (st := s_law) l_law c_law k_law
  have B_law := F_law.binds (ps := ["script"]) fun _ _ _ _ _ _ => us1 fun _ => rfl
  refine ⟨PySem.W.fnOf "law" "law" (defArgs s_law) (defBody s_law) (defScope s_law) .none kV_law dc_law pm_law an_law cd_law ct_law, fun s v => .of_eq rfl, fun base _ _ => ?_⟩
  have G_Change_init : FnOk l.prog w K mg base (cxE l.prog w) 1 f_Change_init _ ["self", "place", "value", "needs"] (sp_Change_init K a) := ok_Change_init T F_Change_init  (fun _ _ _ _ h => rdok_Change_init h) (fun _ _ _ _ h => len_Change_init h)
  have G_Book_waiting : FnOk l.prog w K mg base (cxE l.prog w) 1 f_Book_waiting _ ["self"] (sp_Book_waiting K a) := ok_Book_waiting T F_Book_waiting  (fun _ _ _ _ h => rdok_Book_waiting h) (fun _ _ _ _ h => len_Book_waiting h)
  have G_Book_ask_for_changes : FnOk l.prog w K mg base (cxE l.prog w) 1 f_Book_ask_for_changes _ ["self", "numbers"] (sp_Book_ask_for_changes K a) := ok_Book_ask_for_changes T F_Book_ask_for_changes  (fun _ _ _ _ h => rdok_Book_ask_for_changes h) (fun _ _ _ _ h => len_Book_ask_for_changes h)
  have G_needs_with : FnOk l.prog w K mg base (cxE l.prog w) 1 f_needs_with _ ["needs", "ahead"] (sp_needs_with K a) := ok_needs_with T F_needs_with  (fun _ _ _ _ h => rdok_needs_with h) (fun _ _ _ _ h => len_needs_with h)
  have G_Plank_init : FnOk l.prog w K mg base (cxE l.prog w) 1 f_Plank_init _ ["self", "blocks", "cells"] (sp_Plank_init K a) := ok_Plank_init T F_Plank_init  (fun _ _ _ _ h => rdok_Plank_init h) (fun _ _ _ _ h => len_Plank_init h)
  have G_Plank_blocks : FnOk l.prog w K mg base (cxE l.prog w) 1 f_Plank_blocks _ ["self"] (sp_Plank_blocks K a) := ok_Plank_blocks T F_Plank_blocks  (fun _ _ _ _ h => rdok_Plank_blocks h) (fun _ _ _ _ h => len_Plank_blocks h)
  have G_Plank_cells : FnOk l.prog w K mg base (cxE l.prog w) 1 f_Plank_cells _ ["self"] (sp_Plank_cells K a) := ok_Plank_cells T F_Plank_cells  (fun _ _ _ _ h => rdok_Plank_cells h) (fun _ _ _ _ h => len_Plank_cells h)
  have G_Plank_writings : FnOk l.prog w K mg base (cxE l.prog w) 1 f_Plank_writings _ ["self"] (sp_Plank_writings K a) := ok_Plank_writings T F_Plank_writings  (fun _ _ _ _ h => rdok_Plank_writings h) (fun _ _ _ _ h => len_Plank_writings h)
  have G_Plank_ask_for_block : FnOk l.prog w K mg base (cxE l.prog w) 1 f_Plank_ask_for_block _ ["self", "block"] (sp_Plank_ask_for_block K a) := ok_Plank_ask_for_block T F_Plank_ask_for_block  (fun _ _ _ _ h => rdok_Plank_ask_for_block h) (fun _ _ _ _ h => len_Plank_ask_for_block h)
  have G_law_cell_at : FnOk l.prog w K mg base (cxE l.prog w) 1 f_law_cell_at _ ["script", "k"] (sp_law_cell_at K a) := ok_law_cell_at T F_law_cell_at  (fun _ _ _ _ h => rdok_law_cell_at h) (fun _ _ _ _ h => len_law_cell_at h)
  have G_law_pick : FnOk l.prog w K mg base (cxE l.prog w) 1 f_law_pick _ ["cell", "prime", "many"] (sp_law_pick K a) := ok_law_pick T F_law_pick  (fun _ _ _ _ h => rdok_law_pick h) (fun _ _ _ _ h => len_law_pick h)
  have G_Book_init : FnOk l.prog w K mg base (cxE l.prog w) 2 f_Book_init _ ["self", "plank"] (sp_Book_init K a) := ok_Book_init T F_Book_init ⟨_, _, G_Plank_blocks, ⟨a_Plank_blocks, i_Plank_blocks, k_Plank_blocks⟩, B_Plank_blocks⟩ (fun _ _ _ _ h => rdok_Book_init h) (fun _ _ _ _ h => len_Book_init h)
  have G_Book_ask_for_place : FnOk l.prog w K mg base (cxE l.prog w) 2 f_Book_ask_for_place _ ["self", "place"] (sp_Book_ask_for_place K a) := ok_Book_ask_for_place T F_Book_ask_for_place ⟨_, _, G_Plank_cells, ⟨a_Plank_cells, i_Plank_cells, k_Plank_cells⟩, B_Plank_cells⟩ ⟨_, _, G_Plank_blocks, ⟨a_Plank_blocks, i_Plank_blocks, k_Plank_blocks⟩, B_Plank_blocks⟩ (fun _ _ _ _ h => rdok_Book_ask_for_place h) (fun _ _ _ _ h => len_Book_ask_for_place h)
  have G_Plank_read : FnOk l.prog w K mg base (cxE l.prog w) 2 f_Plank_read _ ["self", "block"] (sp_Plank_read K a) := ok_Plank_read T F_Plank_read ⟨_, _, G_Plank_ask_for_block, ⟨a_Plank_ask_for_block, i_Plank_ask_for_block, k_Plank_ask_for_block⟩, B_Plank_ask_for_block⟩ (fun _ _ _ _ h => rdok_Plank_read h) (fun _ _ _ _ h => len_Plank_read h)
  have G_Plank_write : FnOk l.prog w K mg base (cxE l.prog w) 2 f_Plank_write _ ["self", "block", "values"] (sp_Plank_write K a) := ok_Plank_write T F_Plank_write ⟨_, _, G_Plank_ask_for_block, ⟨a_Plank_ask_for_block, i_Plank_ask_for_block, k_Plank_ask_for_block⟩, B_Plank_ask_for_block⟩ (fun _ _ _ _ h => rdok_Plank_write h) (fun _ _ _ _ h => len_Plank_write h)
  have G_law_text : FnOk l.prog w K mg base (cxE l.prog w) 2 f_law_text _ ["cell", "size"] (sp_law_text K a) := ok_law_text T F_law_text ⟨_, _, G_law_pick, PySem.W.mg_of X G a_law_pick, k_law_pick, B_law_pick⟩ (fun _ _ _ _ h => rdok_law_text h) (fun _ _ _ _ h => len_law_text h)
  have G_law_number : FnOk l.prog w K mg base (cxE l.prog w) 2 f_law_number _ ["cell", "prime"] (sp_law_number K a) := ok_law_number T F_law_number ⟨_, _, G_law_pick, PySem.W.mg_of X G a_law_pick, k_law_pick, B_law_pick⟩ (fun _ _ _ _ h => rdok_law_number h) (fun _ _ _ _ h => len_law_number h)
  have G_law_place : FnOk l.prog w K mg base (cxE l.prog w) 2 f_law_place _ ["cell", "side"] (sp_law_place K a) := ok_law_place T F_law_place ⟨_, _, G_law_pick, PySem.W.mg_of X G a_law_pick, k_law_pick, B_law_pick⟩ (fun _ _ _ _ h => rdok_law_place h) (fun _ _ _ _ h => len_law_place h)
  have G_Book_newest : FnOk l.prog w K mg base (cxE l.prog w) 3 f_Book_newest _ ["self", "place"] (sp_Book_newest K a) := ok_Book_newest T F_Book_newest ⟨_, _, G_Book_ask_for_place, ⟨a_Book_ask_for_place, i_Book_ask_for_place, k_Book_ask_for_place⟩, B_Book_ask_for_place⟩ (fun _ _ _ _ h => rdok_Book_newest h) (fun _ _ _ _ h => len_Book_newest h)
  have G_law_value : FnOk l.prog w K mg base (cxE l.prog w) 3 f_law_value _ ["cell"] (sp_law_value K a) := ok_law_value T F_law_value ⟨_, _, G_law_pick, PySem.W.mg_of X G a_law_pick, k_law_pick, B_law_pick⟩ ⟨_, _, G_law_number, PySem.W.mg_of X G a_law_number, k_law_number, B_law_number⟩ ⟨_, _, G_law_text, PySem.W.mg_of X G a_law_text, k_law_text, B_law_text⟩ (fun _ _ _ _ h => rdok_law_value h) (fun _ _ _ _ h => len_law_value h)
  have G_Book_change : FnOk l.prog w K mg base (cxE l.prog w) 4 f_Book_change _ ["self", "place", "value", "needs"] (sp_Book_change K a) := ok_Book_change T F_Book_change ⟨_, _, G_Book_newest, ⟨a_Book_newest, i_Book_newest, k_Book_newest⟩, B_Book_newest⟩ ⟨_, _, G_Book_ask_for_changes, ⟨a_Book_ask_for_changes, i_Book_ask_for_changes, k_Book_ask_for_changes⟩, B_Book_ask_for_changes⟩ ⟨_, _, G_needs_with, PySem.W.mg_of X G a_needs_with, k_needs_with, B_needs_with⟩ ⟨_, _, G_Change_init, ⟨mk_Change, a_Change_init, i_Change_init, kc_Change⟩, PySem.W.mg_of X G ac_Change, B_Change_init⟩ (fun _ _ _ _ h => rdok_Book_change h) (fun _ _ _ _ h => len_Book_change h)
  have G_Book_in_hand : FnOk l.prog w K mg base (cxE l.prog w) 4 f_Book_in_hand _ ["self", "place"] (sp_Book_in_hand K a) := ok_Book_in_hand T F_Book_in_hand ⟨_, _, G_Book_newest, ⟨a_Book_newest, i_Book_newest, k_Book_newest⟩, B_Book_newest⟩ ⟨_, _, G_Plank_read, ⟨a_Plank_read, i_Plank_read, k_Plank_read⟩, B_Plank_read⟩ (fun _ _ _ _ h => rdok_Book_in_hand h) (fun _ _ _ _ h => len_Book_in_hand h)
  have G_law_begun : FnOk l.prog w K mg base (cxE l.prog w) 4 f_law_begun _ ["cell"] (sp_law_begun K a) := ok_law_begun T F_law_begun ⟨_, _, G_law_pick, PySem.W.mg_of X G a_law_pick, k_law_pick, B_law_pick⟩ ⟨_, _, G_Plank_init, ⟨mk_Plank, a_Plank_init, i_Plank_init, kc_Plank⟩, PySem.W.mg_of X G ac_Plank, B_Plank_init⟩ ⟨_, _, G_law_value, PySem.W.mg_of X G a_law_value, k_law_value, B_law_value⟩ ⟨_, _, G_Plank_write, ⟨a_Plank_write, i_Plank_write, k_Plank_write⟩, B_Plank_write⟩ ⟨_, _, G_Plank_writings, ⟨a_Plank_writings, i_Plank_writings, k_Plank_writings⟩, B_Plank_writings⟩ (fun _ _ _ _ h => rdok_law_begun h) (fun _ _ _ _ h => len_law_begun h)
  have G_law_rewritten : FnOk l.prog w K mg base (cxE l.prog w) 4 f_law_rewritten _ ["side", "cell"] (sp_law_rewritten K a) := ok_law_rewritten T F_law_rewritten ⟨_, _, G_law_pick, PySem.W.mg_of X G a_law_pick, k_law_pick, B_law_pick⟩ ⟨_, _, G_law_value, PySem.W.mg_of X G a_law_value, k_law_value, B_law_value⟩ ⟨_, _, G_Plank_write, ⟨a_Plank_write, i_Plank_write, k_Plank_write⟩, B_Plank_write⟩ (fun _ _ _ _ h => rdok_law_rewritten h) (fun _ _ _ _ h => len_law_rewritten h)
  have GR_law_same : ∀ n : Nat, FnOk l.prog w K mg base (cxE l.prog w) (n + 1) f_law_same (PySem.W.fnOf "_law_same" "_law_same" (defArgs s_law_same) (defBody s_law_same) (defScope s_law_same) .none kV_law_same dc_law_same pm_law_same an_law_same cd_law_same ct_law_same) ["found", "due"] (sp_law_same K a n) := by
    intro n
    induction n with
    | zero => exact F_law_same.none sc_law_same (fun _ _ _ _ h => no_law_same h)
    | succ n ih =>
      have I_law_same := ih
      exact (by have z := ok_law_same T F_law_same ⟨_, _, I_law_same, PySem.W.mg_of X G a_law_same, k_law_same, B_law_same⟩ (fun _ _ _ _ h => rdok_law_same h) (fun _ _ _ _ h => len_law_same h); rw [show n + 1 + 1 = n + 1 + 1 from by omega]; exact z)
  have G_law_same : FnOk l.prog w K mg base (cxE l.prog w) 9 f_law_same _ ["found", "due"] (sp_law_same K a 8) := (GR_law_same 8)
  have G_law_looks : FnOk l.prog w K mg base (cxE l.prog w) 10 f_law_looks _ ["book", "side", "place"] (sp_law_looks K a) := ok_law_looks T F_law_looks ⟨_, _, G_Book_newest, ⟨a_Book_newest, i_Book_newest, k_Book_newest⟩, B_Book_newest⟩ ⟨_, _, G_law_same, PySem.W.mg_of X G a_law_same, k_law_same, B_law_same⟩ ⟨_, _, G_Book_in_hand, ⟨a_Book_in_hand, i_Book_in_hand, k_Book_in_hand⟩, B_Book_in_hand⟩ (fun _ _ _ _ h => rdok_law_looks h) (fun _ _ _ _ h => len_law_looks h)
  have G_law_changed : FnOk l.prog w K mg base (cxE l.prog w) 10 f_law_changed _ ["book", "side", "place", "cell"] (sp_law_changed K a) := ok_law_changed T F_law_changed ⟨_, _, G_law_value, PySem.W.mg_of X G a_law_value, k_law_value, B_law_value⟩ ⟨_, _, G_law_pick, PySem.W.mg_of X G a_law_pick, k_law_pick, B_law_pick⟩ ⟨_, _, G_Book_change, ⟨a_Book_change, i_Book_change, k_Book_change⟩, B_Book_change⟩ ⟨_, _, G_law_same, PySem.W.mg_of X G a_law_same, k_law_same, B_law_same⟩ (fun _ _ _ _ h => rdok_law_changed h) (fun _ _ _ _ h => len_law_changed h)
  have G_law_stays : FnOk l.prog w K mg base (cxE l.prog w) 10 f_law_stays _ ["book", "side"] (sp_law_stays K a) := ok_law_stays T F_law_stays ⟨_, _, G_Book_waiting, ⟨a_Book_waiting, i_Book_waiting, k_Book_waiting⟩, B_Book_waiting⟩ ⟨_, _, G_Plank_read, ⟨a_Plank_read, i_Plank_read, k_Plank_read⟩, B_Plank_read⟩ ⟨_, _, G_law_same, PySem.W.mg_of X G a_law_same, k_law_same, B_law_same⟩ ⟨_, _, G_Plank_writings, ⟨a_Plank_writings, i_Plank_writings, k_Plank_writings⟩, B_Plank_writings⟩ (fun _ _ _ _ h => rdok_law_stays h) (fun _ _ _ _ h => len_law_stays h)
  have G_law_both : FnOk l.prog w K mg base (cxE l.prog w) 11 f_law_both _ ["books", "sides", "places", "turn"] (sp_law_both K a) := ok_law_both T F_law_both ⟨_, _, G_law_looks, PySem.W.mg_of X G a_law_looks, k_law_looks, B_law_looks⟩ (fun _ _ _ _ h => rdok_law_both h) (fun _ _ _ _ h => len_law_both h)
  have G_law : FnOk l.prog w K mg base (cxE l.prog w) 12 fa _ ["script"] (sp_law K a) := ok_law T F_law ⟨_, _, G_law_cell_at, PySem.W.mg_of X G a_law_cell_at, k_law_cell_at, B_law_cell_at⟩ ⟨_, _, G_law_begun, PySem.W.mg_of X G a_law_begun, k_law_begun, B_law_begun⟩ ⟨_, _, G_Book_init, ⟨mk_Book, a_Book_init, i_Book_init, kc_Book⟩, PySem.W.mg_of X G ac_Book, B_Book_init⟩ ⟨_, _, G_law_pick, PySem.W.mg_of X G a_law_pick, k_law_pick, B_law_pick⟩ ⟨_, _, G_law_place, PySem.W.mg_of X G a_law_place, k_law_place, B_law_place⟩ ⟨_, _, G_law_both, PySem.W.mg_of X G a_law_both, k_law_both, B_law_both⟩ ⟨_, _, G_law_rewritten, PySem.W.mg_of X G a_law_rewritten, k_law_rewritten, B_law_rewritten⟩ ⟨_, _, G_law_changed, PySem.W.mg_of X G a_law_changed, k_law_changed, B_law_changed⟩ ⟨_, _, G_law_stays, PySem.W.mg_of X G a_law_stays, k_law_stays, B_law_stays⟩ (fun _ _ _ _ h => rdok_law h) (fun _ _ _ _ h => len_law h)
  exact G_law.imp (fun vs H Q E ⟨s, ns, e, hs, hn, q⟩ => ⟨s, ns, e, TBk, TPk, hs, hn, q⟩)
theorem walk {l : PySem.W.OpenLaw} {q : Program} {loose : List Str} {XP : (Str → Option Value) → Heap → Prop} {YP : World → Heap → Prop} {d : DefRec} {K : Params → PySem.W.Frag} (hn : l.most = some 63) (hdf : d.params.defaults = [])
    (hY : ∀ (w : World) (h : Heap), YP w h → (K w.params).In h)
    (F : ∀ (w : World) (mg : Str → Option Value) (fa : Addr) (h : Heap), (K w.params).In h → h.Ns mainGlobals mg → mg d.name = some (.ref fa) →
      ∃ fd : FuncData, (∀ (s : Shared) (u : Value), BindsTo s fd ⟨[u], []⟩ [("script", u)]) ∧ ∀ base : Heap, (K w.params).In base → base.Ns mainGlobals mg → FnOk l.prog w (K w.params) mg base (cxE l.prog w) 12 fa fd ["script"] (spL (K w.params))) :
    PySem.W.WalkO q loose XP YP l.row.toRowW d [] (fun f vs => PySem.call f vs) :=
  L2.walk_of (n := 63) (k := 12) (x := "script") (CX := fun w => cxE l.prog w) (sp := fun w => spL (K w.params)) hn (by decide) hdf ⟨rfl, by decide, by decide⟩ hY F (fun _ _ a ns hl _ hS => ⟨a, ns, rfl, hS, hl, fun _ => rfl⟩) fun _ _ _ _ _ z => cxE_no z
end L2
def PySem.W.Fast.tw4647893660259778788 : Unit := ()
def PySem.W.Fast.tw9118663958835435520 : Unit := ()
def PySem.W.Fast.tw7883330309762233914 : Unit := ()
def PySem.W.Fast.tw17262554399558754993 : Unit := ()
def PySem.W.Fast.tw15011231577724997816 : Unit := ()
def PySem.W.Fast.tw16443243416487323856 : Unit := ()
def PySem.W.Fast.tw4850465772479488529 : Unit := ()
def PySem.W.Fast.tw17369359488823869803 : Unit := ()
def PySem.W.Fast.tw14325826726558553671 : Unit := ()
def PySem.W.Fast.tw15207814812083291892 : Unit := ()
def PySem.W.Fast.tw17218506701863985789 : Unit := ()
def PySem.W.Fast.tw8648064088506475507 : Unit := ()
def PySem.W.Fast.tw12412284536865826035 : Unit := ()
def PySem.W.Fast.tw12058305320968663554 : Unit := ()
def PySem.W.Fast.tw11844008587434065726 : Unit := ()
def PySem.W.Fast.tw2208409615601122478 : Unit := ()
def PySem.W.Fast.tw4450737651834833076 : Unit := ()
def PySem.W.Fast.tw6404545046337986523 : Unit := ()
def PySem.W.Fast.tw14844984780205307936 : Unit := ()
def PySem.W.Fast.tw15416695133828355095 : Unit := ()
def PySem.W.Fast.tw2606261681407550173 : Unit := ()
def PySem.W.Fast.tw17456799477937808021 : Unit := ()
def PySem.W.Fast.tw10443084989322467811 : Unit := ()
def PySem.W.Fast.tw18059714350552302167 : Unit := ()
def PySem.W.Fast.tw6873914514924896583 : Unit := ()
def PySem.W.Fast.tw16634850701473383558 : Unit := ()
def PySem.W.Fast.tw6959791870162874179 : Unit := ()
def PySem.W.Fast.tw4575289061070877103 : Unit := ()
def PySem.W.Fast.tw98362677361451939 : Unit := ()
def PySem.W.Fast.tw7590375014335957059 : Unit := ()
def PySem.W.Fast.tw11384495867481834920 : Unit := ()
def PySem.W.Fast.tw8070416144580349148 : Unit := ()
def PySem.W.Fast.tw1635069330169400729 : Unit := ()
def PySem.W.Fast.tw10990779304064180714 : Unit := ()
def PySem.W.Fast.tw4462983590187140846 : Unit := ()
def PySem.W.Fast.tw17097294925178234690 : Unit := ()
def PySem.W.Fast.tw16077651049825915375 : Unit := ()
def PySem.W.Fast.tw17629996619893660929 : Unit := ()
def PySem.W.Fast.tw2595195411585889796 : Unit := ()
def PySem.W.Fast.tw8123590257638363224 : Unit := ()
def PySem.W.Fast.tw10364645669943651036 : Unit := ()
def PySem.W.Fast.tw16609878854810926199 : Unit := ()
def PySem.W.Fast.tw3234928363011451256 : Unit := ()
def PySem.W.Fast.tw17284434222531167517 : Unit := ()
def PySem.W.Fast.tw6756198442190681976 : Unit := ()
def PySem.W.Fast.tw11420462012344375411 : Unit := ()
def PySem.W.Fast.tw5742484690759042340 : Unit := ()
def PySem.W.Fast.tw1130851127862807767 : Unit := ()
def PySem.W.Fast.tw17506817281087789231 : Unit := ()
def PySem.W.Fast.tw11997603591223469218 : Unit := ()
def PySem.W.Fast.tw15935759318413215997 : Unit := ()
def PySem.W.Fast.tw13193627467394278659 : Unit := ()
def PySem.W.Fast.tw4853831790864425132 : Unit := ()
def PySem.W.Fast.tw443020083844535274 : Unit := ()
def PySem.W.Fast.tw13855545425438145596 : Unit := ()
def PySem.W.Fast.tw15039136134904084096 : Unit := ()
def PySem.W.Fast.tw7664294339516045555 : Unit := ()
def PySem.W.Fast.tw11027329876169298502 : Unit := ()
def PySem.W.Fast.tw152719031479858374 : Unit := ()
def PySem.W.Fast.tw2552935668589991993 : Unit := ()
def PySem.W.Fast.tw10097699416676809899 : Unit := ()
def PySem.W.Fast.tw16501707165438381801 : Unit := ()
def PySem.W.Fast.tw6564513323746077947 : Unit := ()
def PySem.W.Fast.tw6707264505129653429 : Unit := ()
def PySem.W.Fast.tw5215956656446976206 : Unit := ()
def PySem.W.Fast.tw646616616444598812 : Unit := ()
def PySem.W.Fast.tw13083581576163252789 : Unit := ()
def PySem.W.Fast.tw3371492409198915891 : Unit := ()
def PySem.W.Fast.tw9309662489226657709 : Unit := ()
def PySem.W.Fast.tw12687834922043914669 : Unit := ()
def PySem.W.Fast.tw4190728855684323161 : Unit := ()
def PySem.W.Fast.tw12573614804585101373 : Unit := ()
def PySem.W.Fast.tw5018871213317162940 : Unit := ()
def PySem.W.Fast.tw5388206776303825785 : Unit := ()
def PySem.W.Fast.tw17902690813086232665 : Unit := ()
def PySem.W.Fast.tw7618694704948387780 : Unit := ()
def PySem.W.Fast.tw7795835037541628071 : Unit := ()
def PySem.W.Fast.tw1282625219001958289 : Unit := ()
def PySem.W.Fast.tw2542548941754199991 : Unit := ()
def PySem.W.Fast.tw10170545116788115275 : Unit := ()
def PySem.W.Fast.tw14354966803216086767 : Unit := ()
def PySem.W.Fast.tw12466281314637764663 : Unit := ()
def PySem.W.Fast.tw15142134122732877093 : Unit := ()
def PySem.W.Fast.tw6139113465045623153 : Unit := ()
def PySem.W.Fast.tw9177801230163570432 : Unit := ()
def PySem.W.Fast.tw8662713477417980431 : Unit := ()
def PySem.W.Fast.tw17232940850226699770 : Unit := ()
def PySem.W.Fast.tw7196179740778525759 : Unit := ()
def PySem.W.Fast.tw9732753530236768466 : Unit := ()
def PySem.W.Fast.tw6906779474206119423 : Unit := ()
def PySem.W.Fast.tw1248057155525432756 : Unit := ()
def PySem.W.Fast.tw15751711788882168883 : Unit := ()
def PySem.W.Fast.tw2962086165889519583 : Unit := ()
def PySem.W.Fast.tw6205068498666792690 : Unit := ()
def PySem.W.Fast.tw12716395728620255499 : Unit := ()
def PySem.W.Fast.tw5818838062824573611 : Unit := ()
def PySem.W.Fast.tw18317550904988222177 : Unit := ()
def PySem.W.Fast.tw18067834261352356650 : Unit := ()
def PySem.W.Fast.tw2806657645001871623 : Unit := ()
def PySem.W.Fast.tw14996815820756513116 : Unit := ()
def PySem.W.Fast.tw5778061918129355773 : Unit := ()
def PySem.W.Fast.tw14255919797907720322 : Unit := ()
def PySem.W.Fast.tw12802131714148223010 : Unit := ()
def PySem.W.Fast.tw12889362572591741678 : Unit := ()
def PySem.W.Fast.tw681868645267651904 : Unit := ()
def PySem.W.Fast.tw6144646280079377951 : Unit := ()
def PySem.W.Fast.tw10834638280134401085 : Unit := ()
def PySem.W.Fast.tw5820763888348709352 : Unit := ()
def PySem.W.Fast.tw5299774003816969253 : Unit := ()
def PySem.W.Fast.tw17185269091504936908 : Unit := ()
def PySem.W.Fast.tw4094464691565640017 : Unit := ()
def PySem.W.Fast.tw9075899439560512707 : Unit := ()
def PySem.W.Fast.tw12363644475556753882 : Unit := ()
def PySem.W.Fast.tw4117245245895693275 : Unit := ()
def PySem.W.Fast.tw14873350603137874532 : Unit := ()
def PySem.W.Fast.tw4469486415270865378 : Unit := ()
def PySem.W.Fast.tw12910700205714909702 : Unit := ()
def PySem.W.Fast.tw13216540795211022047 : Unit := ()
def PySem.W.Fast.tw4010595889606528558 : Unit := ()
def PySem.W.Fast.tw14987692720648292129 : Unit := ()
def PySem.W.Fast.tw4707215137196562540 : Unit := ()
def PySem.W.Fast.tw15626811937779710137 : Unit := ()
def PySem.W.Fast.tw18142574345705524340 : Unit := ()
def PySem.W.Fast.tw11623161323691190714 : Unit := ()
def PySem.W.Fast.tw5358137219978719752 : Unit := ()
def PySem.W.Fast.tw14170179693367556008 : Unit := ()
def PySem.W.Fast.tw13637766133429687098 : Unit := ()
def PySem.W.Fast.tw12148110991732228445 : Unit := ()
def PySem.W.Fast.tw7563780080798758244 : Unit := ()
def PySem.W.Fast.tw8525940721442762698 : Unit := ()
def PySem.W.Fast.tw6536877568976091529 : Unit := ()
def PySem.W.Fast.tw18150716988773554978 : Unit := ()
def PySem.W.Fast.tw4805297374490925640 : Unit := ()
def PySem.W.Fast.tw6876576510948285867 : Unit := ()
def PySem.W.Fast.tw14059218022279215989 : Unit := ()
def PySem.W.Fast.tw12423197617457919930 : Unit := ()
def PySem.W.Fast.tw10105578696417100641 : Unit := ()
def PySem.W.Fast.tw2005747267664336888 : Unit := ()
def PySem.W.Fast.tw3276827020132367666 : Unit := ()
def PySem.W.Fast.tw17938085268124632436 : Unit := ()
def PySem.W.Fast.tw5348749263622450748 : Unit := ()
def PySem.W.Fast.tw5565973086590605471 : Unit := ()
def PySem.W.Fast.tw4297425235703061003 : Unit := ()
def PySem.W.Fast.tw9206355679998257042 : Unit := ()
def PySem.W.Fast.tw12312808006916880692 : Unit := ()
def PySem.W.Fast.tw17464530212126394097 : Unit := ()
def PySem.W.Fast.tw7781846154385684691 : Unit := ()
def PySem.W.Fast.tw6383248316339347835 : Unit := ()
def PySem.W.Fast.tw16468311810337606811 : Unit := ()
def PySem.W.Fast.tw4816281092704322521 : Unit := ()
def PySem.W.Fast.tw9334263519774163967 : Unit := ()
def PySem.W.Fast.tw2330962093528375337 : Unit := ()
def PySem.W.Fast.tw13729508520248540227 : Unit := ()
def PySem.W.Fast.tw15518703856203261091 : Unit := ()
def PySem.W.Fast.tw17420096543101880431 : Unit := ()
def PySem.W.Fast.tw8045141528677130623 : Unit := ()
def PySem.W.Fast.tw5189279054452686830 : Unit := ()
def PySem.W.Fast.tw10909516807463009236 : Unit := ()
def PySem.W.Fast.tw9650362479571092489 : Unit := ()
def PySem.W.Fast.tw216391690826364921 : Unit := ()
def PySem.W.Fast.tw5566914339849929632 : Unit := ()
def PySem.W.Fast.tw7881314747773495220 : Unit := ()
def PySem.W.Fast.tw9495136978881487702 : Unit := ()
def PySem.W.Fast.tw17985975217732637505 : Unit := ()
def PySem.W.Fast.tw3000811653767142937 : Unit := ()
def PySem.W.Fast.tw2354107277981367784 : Unit := ()
def PySem.W.Fast.tw8512358199662881173 : Unit := ()
def PySem.W.Fast.tw1780192004510271323 : Unit := ()
def PySem.W.Fast.tw16766339242358359848 : Unit := ()
def PySem.W.Fast.tw8361793797247854888 : Unit := ()
def PySem.W.Fast.tw14112928339200883161 : Unit := ()
def PySem.W.Fast.tw8189462886365392122 : Unit := ()
def PySem.W.Fast.tw18192918252756299673 : Unit := ()
def PySem.W.Fast.tw11933937326750760922 : Unit := ()
def PySem.W.Fast.tw12108585972364242564 : Unit := ()
def PySem.W.Fast.tw2225145864242794606 : Unit := ()
def PySem.W.Fast.tw3381414654742080385 : Unit := ()
def PySem.W.Fast.tw4366087941877893464 : Unit := ()
def PySem.W.Fast.tw8122826760995700737 : Unit := ()
def PySem.W.Fast.tw2426055176778780667 : Unit := ()
def PySem.W.Fast.tw6459874668079633658 : Unit := ()
def PySem.W.Fast.tw1645019322897272061 : Unit := ()
def PySem.W.Fast.tw14430629648914053536 : Unit := ()
def PySem.W.Fast.tw7323049515219982018 : Unit := ()
def PySem.W.Fast.tw7820825846895723499 : Unit := ()
def PySem.W.Fast.tw6896244995059412318 : Unit := ()
def PySem.W.Fast.tw244788928027530144 : Unit := ()
def PySem.W.Fast.tw15659413004644234448 : Unit := ()
def PySem.W.Fast.tw1112353477599233262 : Unit := ()
def PySem.W.Fast.tw6464335987451613394 : Unit := ()
def PySem.W.Fast.tw15992892699825135165 : Unit := ()
def PySem.W.Fast.tw11949838608549281090 : Unit := ()
def PySem.W.Fast.tw6209948179015747546 : Unit := ()
def PySem.W.Fast.tw3865902894314228454 : Unit := ()
def PySem.W.Fast.tw11492759208115051604 : Unit := ()
def PySem.W.Fast.tw13037219249477516850 : Unit := ()
def PySem.W.Fast.tw12528716732249948633 : Unit := ()
def PySem.W.Fast.tw15651527219778542412 : Unit := ()
def PySem.W.Fast.tw18194979509562420154 : Unit := ()
def PySem.W.Fast.tw17512409234649877918 : Unit := ()
def PySem.W.Fast.tw10730881685843051097 : Unit := ()
def PySem.W.Fast.tw12298427204226727252 : Unit := ()
def PySem.W.Fast.tw18292044181464134101 : Unit := ()
def PySem.W.Fast.tw10734368473566390783 : Unit := ()
def PySem.W.Fast.tw4529675229763544761 : Unit := ()
def PySem.W.Fast.tw5156906926514553776 : Unit := ()
def PySem.W.Fast.tw13767884072690048119 : Unit := ()
def PySem.W.Fast.tw5305100655374912456 : Unit := ()
def PySem.W.Fast.tw12625186359180480990 : Unit := ()
def PySem.W.Fast.tw3102570015201962384 : Unit := ()
def PySem.W.Fast.tw10196085056453367985 : Unit := ()
def PySem.W.Fast.tw7903858868451262166 : Unit := ()
def PySem.W.Fast.tw11886348849676542307 : Unit := ()
def PySem.W.Fast.tw7566558252472241554 : Unit := ()
def PySem.W.Fast.tw15737238761877126906 : Unit := ()
def PySem.W.Fast.tw15955387094976206316 : Unit := ()
def PySem.W.Fast.tw2516353906132060298 : Unit := ()
def PySem.W.Fast.tw4139894885730092074 : Unit := ()
def PySem.W.Fast.tw9251762768736464802 : Unit := ()
def PySem.W.Fast.tw7647051663048075418 : Unit := ()
def PySem.W.Fast.tw13882244753889046529 : Unit := ()
def PySem.W.Fast.tw1846189373954149999 : Unit := ()
def PySem.W.Fast.tw1913889707880485428 : Unit := ()
def PySem.W.Fast.tw11240245158589610996 : Unit := ()
def PySem.W.Fast.tw18347260895556622477 : Unit := ()
def PySem.W.Fast.tw848819819023384491 : Unit := ()
def PySem.W.Fast.tw6224097942621519246 : Unit := ()
def PySem.W.Fast.tw5287930683396457989 : Unit := ()
def PySem.W.Fast.tw15455307857197770835 : Unit := ()
def PySem.W.Fast.tw18130236726687196036 : Unit := ()
def PySem.W.Fast.tw16420009663778595214 : Unit := ()
def PySem.W.Fast.tw7665035879174430471 : Unit := ()
def PySem.W.Fast.tw13233791762708930908 : Unit := ()
def PySem.W.Fast.tw4252827564847902111 : Unit := ()
def PySem.W.Fast.tw14300760211054779708 : Unit := ()
def PySem.W.Fast.tw5085664390971974874 : Unit := ()
def PySem.W.Fast.tw9160569349554738548 : Unit := ()
def PySem.W.Fast.tw16123748337581659986 : Unit := ()
def PySem.W.Fast.tw1506154851886546780 : Unit := ()
def PySem.W.Fast.tw7122054659343142635 : Unit := ()
def PySem.W.Fast.tw11041351489844499956 : Unit := ()
def PySem.W.Fast.tw1683196677399814739 : Unit := ()
def PySem.W.Fast.tw3522530425895328207 : Unit := ()
def PySem.W.Fast.tw9725609838307663732 : Unit := ()
def PySem.W.Fast.tw3802289215657205171 : Unit := ()
def PySem.W.Fast.tw10027784613245440840 : Unit := ()
def PySem.W.Fast.tw5839443609809447963 : Unit := ()
def PySem.W.Fast.tw645094231618099924 : Unit := ()
def PySem.W.Fast.tw14632206149099820376 : Unit := ()
def PySem.W.Fast.tw678289738079712650 : Unit := ()
def PySem.W.Fast.tw4710762012658816134 : Unit := ()
def PySem.W.Fast.tw7343840977128681827 : Unit := ()
def PySem.W.Fast.tw1711824240482361434 : Unit := ()
def PySem.W.Fast.tw14103103813528802873 : Unit := ()
def PySem.W.Fast.tw16944148709266765412 : Unit := ()
def PySem.W.Fast.tw9427908515803759320 : Unit := ()
def PySem.W.Fast.tw7656309181084656750 : Unit := ()
def PySem.W.Fast.tw15687795565275829818 : Unit := ()
def PySem.W.Fast.tw2572609445201841886 : Unit := ()
def PySem.W.Fast.tw1566067563532315200 : Unit := ()
def PySem.W.Fast.tw11983288300185604943 : Unit := ()
def PySem.W.Fast.tw13994271514245226339 : Unit := ()
def PySem.W.Fast.tw987009523382969806 : Unit := ()
def PySem.W.Fast.tw13719440760953647885 : Unit := ()
def PySem.W.Fast.tw8403838376986256125 : Unit := ()
def PySem.W.Fast.tw10784257434392792969 : Unit := ()
def PySem.W.Fast.tw9439864570205554677 : Unit := ()
def PySem.W.Fast.tw14042726420983093300 : Unit := ()
def PySem.W.Fast.tw6533679113174951958 : Unit := ()
def PySem.W.Fast.tw12750363996180185800 : Unit := ()
def PySem.W.Fast.tw9717852571665704447 : Unit := ()
def PySem.W.Fast.tw15389397925006478947 : Unit := ()
def PySem.W.Fast.tw15888911160449008251 : Unit := ()
def PySem.W.Fast.tw15711486952122550721 : Unit := ()
def PySem.W.Fast.tw572399658653104617 : Unit := ()
def PySem.W.Fast.tw6349113991070727303 : Unit := ()
def PySem.W.Fast.tw14530955343915994827 : Unit := ()
def PySem.W.Fast.tw3090594252865894089 : Unit := ()
def PySem.W.Fast.tw7364721072817551986 : Unit := ()
def PySem.W.Fast.tw15437549705229710688 : Unit := ()
def PySem.W.Fast.tw7324726433089371343 : Unit := ()
def PySem.W.Fast.tw3968708581469211846 : Unit := ()
def PySem.W.Fast.tw3079049726667521751 : Unit := ()
def PySem.W.Fast.tw9310784922746098312 : Unit := ()
open PySem PySem.W PyProof.Rows
set_option Elab.async false
set_option maxRecDepth 100000 in
set_option maxHeartbeats 0 in
theorem PySem.Challenge.cw_holdback_k11_in_hand_holds : PySem.Challenge.rw_holdback_k11_in_hand.Holds := by
  w_on; o_law; k_head; (case hw => w_witness2)
  k_fill
  refine L2.walk (l := PySem.Challenge.rw_holdback_k11_in_hand) rfl rfl (fun w h Y => PySem.W.kIn_of Y) ?F
  case F =>
    intro w mg fa h KX G hmg
    refine' L2.all_mk KX G hmg ?ac_NoBlock ?ac_NoChange ?ac_Change ?ac_Book ?ac_Plank ?pg_Book ?hd_Book ?po_Book ?sa_Book ?pg_Change ?hd_Change ?po_Change ?sa_Change ?pg_Plank ?hd_Plank ?po_Plank ?sa_Plank ?mk_Book ?kc_Book ?mk_Change ?kc_Change ?mk_Plank ?kc_Plank ?ex_NoBlock ?ex_NoChange ?bl_bool ?bl_int ?bl_isinstance ?bl_len ?bl_list ?bl_range ?bl_set ?bl_sorted ?bl_str ?bl_tuple ?bl_zip ?a_Change_init ?i_Change_init ?l_Change_init ?c_Change_init ?k_Change_init ?a_Book_waiting ?i_Book_waiting ?l_Book_waiting ?c_Book_waiting ?k_Book_waiting ?a_Book_ask_for_changes ?i_Book_ask_for_changes ?l_Book_ask_for_changes ?c_Book_ask_for_changes ?k_Book_ask_for_changes ?a_needs_with ?l_needs_with ?c_needs_with ?k_needs_with ?a_Plank_init ?i_Plank_init ?l_Plank_init ?c_Plank_init ?k_Plank_init ?a_Plank_blocks ?i_Plank_blocks ?l_Plank_blocks ?c_Plank_blocks ?k_Plank_blocks ?a_Plank_cells ?i_Plank_cells ?l_Plank_cells ?c_Plank_cells ?k_Plank_cells ?a_Plank_writings ?i_Plank_writings ?l_Plank_writings ?c_Plank_writings ?k_Plank_writings ?a_Plank_ask_for_block ?i_Plank_ask_for_block ?l_Plank_ask_for_block ?c_Plank_ask_for_block ?k_Plank_ask_for_block ?a_law_cell_at ?l_law_cell_at ?c_law_cell_at ?k_law_cell_at ?a_law_pick ?l_law_pick ?c_law_pick ?k_law_pick ?a_Book_init ?i_Book_init ?l_Book_init ?c_Book_init ?k_Book_init ?a_Book_ask_for_place ?i_Book_ask_for_place ?l_Book_ask_for_place ?c_Book_ask_for_place ?k_Book_ask_for_place ?a_Plank_read ?i_Plank_read ?l_Plank_read ?c_Plank_read ?k_Plank_read ?a_Plank_write ?i_Plank_write ?l_Plank_write ?c_Plank_write ?k_Plank_write ?a_law_text ?l_law_text ?c_law_text ?k_law_text ?a_law_number ?l_law_number ?c_law_number ?k_law_number ?a_law_place ?l_law_place ?c_law_place ?k_law_place ?a_Book_newest ?i_Book_newest ?l_Book_newest ?c_Book_newest ?k_Book_newest ?a_law_value ?l_law_value ?c_law_value ?k_law_value ?a_Book_change ?i_Book_change ?l_Book_change ?c_Book_change ?k_Book_change ?a_Book_in_hand ?i_Book_in_hand ?l_Book_in_hand ?c_Book_in_hand ?k_Book_in_hand ?a_law_begun ?l_law_begun ?c_law_begun ?k_law_begun ?a_law_rewritten ?l_law_rewritten ?c_law_rewritten ?k_law_rewritten ?a_law_same ?l_law_same ?c_law_same ?k_law_same ?a_law_looks ?l_law_looks ?c_law_looks ?k_law_looks ?a_law_changed ?l_law_changed ?c_law_changed ?k_law_changed ?a_law_stays ?l_law_stays ?c_law_stays ?k_law_stays ?a_law_both ?l_law_both ?c_law_both ?k_law_both ?a_law ?l_law ?c_law ?k_law ?np0 ?np1 ?np2 ?nb0 ?nb1 ?nb2 ?nb3 ?nb4 ?nh0 ?nh1 ?nh2
    (case ac_NoBlock => k_is)
    (case ac_NoChange => k_is)
    (case ac_Change => k_is)
    (case ac_Book => k_is)
    (case ac_Plank => k_is)
    (case pg_Book => k_is)
    (case hd_Book => k_is)
    (case po_Book => k_is)
    (case sa_Book => k_is)
    (case pg_Change => k_is)
    (case hd_Change => k_is)
    (case po_Change => k_is)
    (case sa_Change => k_is)
    (case pg_Plank => k_is)
    (case hd_Plank => k_is)
    (case po_Plank => k_is)
    (case sa_Plank => k_is)
    (case mk_Book => k_is)
    (case kc_Book => k_is)
    (case mk_Change => k_is)
    (case kc_Change => k_is)
    (case mk_Plank => k_is)
    (case kc_Plank => k_is)
    (case ex_NoBlock => k_exc)
    (case ex_NoChange => k_exc)
    (case bl_bool => k_is)
    (case bl_int => k_is)
    (case bl_isinstance => k_is)
    (case bl_len => k_is)
    (case bl_list => k_is)
    (case bl_range => k_is)
    (case bl_set => k_is)
    (case bl_sorted => k_is)
    (case bl_str => k_is)
    (case bl_tuple => k_is)
    (case bl_zip => k_is)
    (case a_Change_init => k_is)
    (case i_Change_init => k_is)
    (case l_Change_init => k_is)
    (case c_Change_init => k_is)
    (case k_Change_init => k_is)
    (case a_Book_waiting => k_is)
    (case i_Book_waiting => k_is)
    (case l_Book_waiting => k_is)
    (case c_Book_waiting => k_is)
    (case k_Book_waiting => k_is)
    (case a_Book_ask_for_changes => k_is)
    (case i_Book_ask_for_changes => k_is)
    (case l_Book_ask_for_changes => k_is)
    (case c_Book_ask_for_changes => k_is)
    (case k_Book_ask_for_changes => k_is)
    (case a_needs_with => k_is)
    (case l_needs_with => k_is)
    (case c_needs_with => k_is)
    (case k_needs_with => k_is)
    (case a_Plank_init => k_is)
    (case i_Plank_init => k_is)
    (case l_Plank_init => k_is)
    (case c_Plank_init => k_is)
    (case k_Plank_init => k_is)
    (case a_Plank_blocks => k_is)
    (case i_Plank_blocks => k_is)
    (case l_Plank_blocks => k_is)
    (case c_Plank_blocks => k_is)
    (case k_Plank_blocks => k_is)
    (case a_Plank_cells => k_is)
    (case i_Plank_cells => k_is)
    (case l_Plank_cells => k_is)
    (case c_Plank_cells => k_is)
    (case k_Plank_cells => k_is)
    (case a_Plank_writings => k_is)
    (case i_Plank_writings => k_is)
    (case l_Plank_writings => k_is)
    (case c_Plank_writings => k_is)
    (case k_Plank_writings => k_is)
    (case a_Plank_ask_for_block => k_is)
    (case i_Plank_ask_for_block => k_is)
    (case l_Plank_ask_for_block => k_is)
    (case c_Plank_ask_for_block => k_is)
    (case k_Plank_ask_for_block => k_is)
    (case a_law_cell_at => k_is)
    (case l_law_cell_at => k_is)
    (case c_law_cell_at => k_is)
    (case k_law_cell_at => k_is)
    (case a_law_pick => k_is)
    (case l_law_pick => k_is)
    (case c_law_pick => k_is)
    (case k_law_pick => k_is)
    (case a_Book_init => k_is)
    (case i_Book_init => k_is)
    (case l_Book_init => k_is)
    (case c_Book_init => k_is)
    (case k_Book_init => k_is)
    (case a_Book_ask_for_place => k_is)
    (case i_Book_ask_for_place => k_is)
    (case l_Book_ask_for_place => k_is)
    (case c_Book_ask_for_place => k_is)
    (case k_Book_ask_for_place => k_is)
    (case a_Plank_read => k_is)
    (case i_Plank_read => k_is)
    (case l_Plank_read => k_is)
    (case c_Plank_read => k_is)
    (case k_Plank_read => k_is)
    (case a_Plank_write => k_is)
    (case i_Plank_write => k_is)
    (case l_Plank_write => k_is)
    (case c_Plank_write => k_is)
    (case k_Plank_write => k_is)
    (case a_law_text => k_is)
    (case l_law_text => k_is)
    (case c_law_text => k_is)
    (case k_law_text => k_is)
    (case a_law_number => k_is)
    (case l_law_number => k_is)
    (case c_law_number => k_is)
    (case k_law_number => k_is)
    (case a_law_place => k_is)
    (case l_law_place => k_is)
    (case c_law_place => k_is)
    (case k_law_place => k_is)
    (case a_Book_newest => k_is)
    (case i_Book_newest => k_is)
    (case l_Book_newest => k_is)
    (case c_Book_newest => k_is)
    (case k_Book_newest => k_is)
    (case a_law_value => k_is)
    (case l_law_value => k_is)
    (case c_law_value => k_is)
    (case k_law_value => k_is)
    (case a_Book_change => k_is)
    (case i_Book_change => k_is)
    (case l_Book_change => k_is)
    (case c_Book_change => k_is)
    (case k_Book_change => k_is)
    (case a_Book_in_hand => k_is)
    (case i_Book_in_hand => k_is)
    (case l_Book_in_hand => k_is)
    (case c_Book_in_hand => k_is)
    (case k_Book_in_hand => k_is)
    (case a_law_begun => k_is)
    (case l_law_begun => k_is)
    (case c_law_begun => k_is)
    (case k_law_begun => k_is)
    (case a_law_rewritten => k_is)
    (case l_law_rewritten => k_is)
    (case c_law_rewritten => k_is)
    (case k_law_rewritten => k_is)
    (case a_law_same => k_is)
    (case l_law_same => k_is)
    (case c_law_same => k_is)
    (case k_law_same => k_is)
    (case a_law_looks => k_is)
    (case l_law_looks => k_is)
    (case c_law_looks => k_is)
    (case k_law_looks => k_is)
    (case a_law_changed => k_is)
    (case l_law_changed => k_is)
    (case c_law_changed => k_is)
    (case k_law_changed => k_is)
    (case a_law_stays => k_is)
    (case l_law_stays => k_is)
    (case c_law_stays => k_is)
    (case k_law_stays => k_is)
    (case a_law_both => k_is)
    (case l_law_both => k_is)
    (case c_law_both => k_is)
    (case k_law_both => k_is)
    (case a_law => k_is)
    (case l_law => k_is)
    (case c_law => k_is)
    (case k_law => k_is)
    (case np0 => k_is)
    (case np1 => k_is)
    (case np2 => k_is)
    (case nb0 => k_is)
    (case nb1 => k_is)
    (case nb2 => k_is)
    (case nb3 => k_is)
    (case nb4 => k_is)
    (case nh0 => k_is)
    (case nh1 => k_is)
    (case nh2 => k_is)

