import PyProof.Rows.All
import Wide.All
import OpenK.AllK
import Wide.FinOn
import Lean
import PyProof.EqAt
import PyProof.EqKinds
import PyProof.TupleCall
import PyProof.SetScanFacts
import PyProof.Rows.SetFrom
import PyProof.Rows.SortWalk
import PyProof.CollectWalk
import PyProof.DictWalks
import PySem.Challenge.RW_holdback_k31_places_apart
set_option Elab.async false
set_option linter.all false
set_option maxRecDepth 100000
/-! THE HAND LAYER, for ints, bools, texts, own classes, LISTS and tuples (index, slices, in, append, pop ..), calls, loops. Paste it whole ahead of your own text; what your proof does not reach may be deleted. -/
namespace L2
open PySem PySem.Spec PyProof.Rows

/-- a key: an int or a str -/
abbrev Key := Sum Int Str
def keyIs : Key → Value → Bool
  | .inl k, v => Value.isInt k v
  | .inr x, v => Value.isStrOf x v
def keyH (w : World) : Key → Int
  | .inl k => hashInt k
  | .inr x => hashStr w x
theorem keyIs_shape : ∀ {k : Key} {v : Value}, keyIs k v = true → (∃ i t, k = Sum.inl i ∧ v = Value.int i t) ∨ (∃ x t, k = Sum.inr x ∧ v = Value.str x t)
  | .inl i, v, h => by
    obtain ⟨t, e⟩ := Value.isInt_shape (k := i) (v := v) h
    exact .inl ⟨i, t, rfl, e⟩
  | .inr x, v, h => by
    obtain ⟨t, e⟩ := Value.isStrOf_shape (x := x) (v := v) h
    exact .inr ⟨x, t, rfl, e⟩
theorem key_ll (a b : Int) : decide ((Sum.inl a : Key) = Sum.inl b) = (a == b) := by
  by_cases e : a = b
  · subst e; simp
  · have h : ¬ (Sum.inl a : Key) = Sum.inl b := fun q => e (Sum.inl.inj q)
    rw [decide_eq_false h]
    exact (beq_eq_false_iff_ne.mpr e).symm
theorem key_rr (a b : Str) : decide ((Sum.inr a : Key) = Sum.inr b) = decide (a = b) := by
  by_cases e : a = b
  · subst e; simp
  · have h : ¬ (Sum.inr a : Key) = Sum.inr b := fun q => e (Sum.inr.inj q)
    rw [decide_eq_false h, decide_eq_false e]
theorem key_lr (a : Int) (b : Str) : decide ((Sum.inl a : Key) = Sum.inr b) = false := decide_eq_false (fun q => nomatch q)
theorem key_rl (a : Str) (b : Int) : decide ((Sum.inr a : Key) = Sum.inl b) = false := decide_eq_false (fun q => nomatch q)

def mixKind (prog : Program) (w : World) : PySem.KeyKind prog w Key where
  is := keyIs
  hash := keyH w
  inj := fun v a b ha hb => by
    rcases keyIs_shape ha with ⟨i, t, rfl, rfl⟩ | ⟨x, t, rfl, rfl⟩
    · rcases keyIs_shape hb with ⟨j, u, rfl, e⟩ | ⟨y, u, rfl, e⟩
      · injection e with e1 _; rw [e1]
      · exact nomatch e
    · rcases keyIs_shape hb with ⟨j, u, rfl, e⟩ | ⟨y, u, rfl, e⟩
      · exact nomatch e
      · injection e with e1 _; rw [e1]
  byValue := fun k v h => by
    rcases keyIs_shape h with ⟨i, t, rfl, rfl⟩ | ⟨x, t, rfl, rfl⟩ <;> rfl
  pyHash := fun hv h => by
    rcases keyIs_shape hv with ⟨i, t, rfl, rfl⟩ | ⟨x, t, rfl, rfl⟩
    · exact wpAny_pyHash_int h
    · exact wpAny_pyHash_str h
  eqBool := fun hu hv h => by
    rcases keyIs_shape hu with ⟨i, t, rfl, rfl⟩ | ⟨x, t, rfl, rfl⟩
    · rcases keyIs_shape hv with ⟨j, u, rfl, rfl⟩ | ⟨y, u, rfl, rfl⟩
      · rw [key_ll] at h; exact wpAny_eqBool_int h
      · rw [key_lr] at h; exact SeqAt.EqAt.int_str i t y u _ _ _ _ h
    · rcases keyIs_shape hv with ⟨j, u, rfl, rfl⟩ | ⟨y, u, rfl, rfl⟩
      · rw [key_rl] at h; exact SeqAt.EqAt.str_int x t j u _ _ _ _ h
      · rw [key_rr] at h; exact wpAny_eqBool_str h
  «strs» := fun k x t v h => by
    rcases keyIs_shape h with ⟨i, u, rfl, e⟩ | ⟨y, u, rfl, e⟩
    · exact nomatch e
    · injection e with e1 _
      subst e1
      cases v <;> rfl

end L2

namespace L2
open PySem PySem.Spec PyProof.Rows

/-- a value, without the heap -/
inductive V where
  | non | bl (b : Bool) | int (i : Int) | str (x : Str) | byt (b : Array UInt8) | flt (b : UInt64) | ref (a : Addr) | ty (n : String)
  deriving DecidableEq

def RelV : V → Value → Prop
  | .non, u => u = Value.none
  | .bl b, u => u = Value.bool b
  | .int i, u => ∃ t, u = Value.int i t
  | .str x, u => ∃ t, u = Value.str x t
  | .byt b, u => ∃ t, u = Value.bytes b t
  | .flt b, u => ∃ t, u = Value.float b t
  | .ref a, u => u = Value.ref a
  | .ty n, u => u = Value.type n

abbrev Vals : List V → List Value → Prop := Paired RelV
theorem Vals.length {xs : List V} {us : List Value} (r : Vals xs us) : xs.length = us.length := Paired.length r
theorem Vals.get : ∀ {xs : List V} {us : List Value} {i : Nat} {x : V}, Vals xs us → xs[i]? = some x → ∃ u, us[i]? = some u ∧ RelV x u
  | _, _, _, _, .nil, e => by simp at e
  | _, _, 0, _, .cons r _, e => by simp at e; subst e; exact ⟨_, rfl, r⟩
  | _, _, i + 1, x, .cons _ t, e => by
    obtain ⟨u, h1, h2⟩ := Vals.get (i := i) (x := x) t (by simpa using e)
    exact ⟨u, by simpa using h1, h2⟩
theorem Vals.set {x : V} {u : Value} (r : RelV x u) : ∀ {xs : List V} {us : List Value} (i : Nat), Vals xs us → Vals (xs.set i x) (us.set i u)
  | _, _, _, .nil => .nil
  | _, _, 0, .cons _ t => .cons r t
  | _, _, i + 1, .cons q t => .cons q (Vals.set r i t)
theorem Vals.append : ∀ {xs ys : List V} {us ws : List Value}, Vals xs us → Vals ys ws → Vals (xs ++ ys) (us ++ ws)
  | _, _, _, _, .nil, s => s
  | _, _, _, _, .cons r t, s => .cons r (Vals.append t s)
theorem Vals.take : ∀ {xs : List V} {us : List Value} (n : Nat), Vals xs us → Vals (xs.take n) (us.take n)
  | _, _, 0, _ => .nil
  | _, _, _ + 1, .nil => .nil
  | _, _, n + 1, .cons r t => .cons r (Vals.take n t)
theorem Vals.drop : ∀ {xs : List V} {us : List Value} (n : Nat), Vals xs us → Vals (xs.drop n) (us.drop n)
  | _, _, 0, r => r
  | _, _, _ + 1, .nil => .nil
  | _, _, n + 1, .cons _ t => Vals.drop n t
theorem Vals.none_of : ∀ {xs : List V} {us : List Value} {i : Nat}, Vals xs us → xs[i]? = none → us[i]? = none := fun {xs us i} r e => by
  have h1 := r.length
  have h2 : xs.length ≤ i := List.getElem?_eq_none_iff.mp e
  exact List.getElem?_eq_none_iff.mpr (by omega)

def RelO : Option V → Option Value → Prop
  | some v, some u => RelV v u
  | none, none => True
  | _, _ => False
def KV {κ : Type} : List (κ × V) → List (κ × Value) → Prop := Paired fun (p : κ × V) (q : κ × Value) => p.1 = q.1 ∧ RelV p.2 q.2

/-- a key of a dict (00_mix): an int or a text -/
def kV : Key → V
  | .inl i => .int i
  | .inr x => .str x

/-- what stands at a tracked address -/
inductive HO where
  /-- a list -/
  | lst (xs : List V)
  /-- a tuple (never changes) -/
  | tup (xs : List V)
  /-- a dict whose keys are ints and texts; one whose keys are tuples of ints and texts (the empty one is both) -/
  | dK (kvs : List (Key × V)) | dT (kvs : List (List Key × V))
  /-- a set of ints: its members, its size -/
  | set (S : Int → Bool) (n : Nat)
  /-- an instance of the class at C, its dict at dx, its attributes -/
  | ins (C dx : Addr) (fs : List (Str × V))
  /-- the dict of the instance at x -/
  | own (x : Addr)
  /-- the dict of an exception -/
  | xd (fs : List (Str × V))
  /-- a bound method, f of x -/
  | met (f x : Addr)
  /-- a range object lo, lo + 1, .. below hi -/
  | rng (lo hi : Int)
  /-- a thing that is known to the object (the script; a dict while a loop walks it): read, never written while it is so -/
  | frz (o : Obj) (u : HO)
  /-- a code object's table -/
  | tbl (ps : Array Value)
  /-- any other thing, by what is true of its one object (a def of one's own: SetO a S n := HO.ext fun h => ..) -/
  | ext (φ : Heap → Prop)

abbrev Hp := Addr → Option HO
def upd (H : Hp) (a : Addr) (o : HO) : Hp := fun b => if b = a then some o else H b
theorem upd_same {H : Hp} {a : Addr} {o : HO} : upd H a o a = some o := by unfold upd; rw [if_pos rfl]
theorem upd_ne {H : Hp} {a b : Addr} {o : HO} (h : b ≠ a) : upd H a o b = H b := by unfold upd; rw [if_neg h]
theorem upd_upd {H : Hp} {a : Addr} {o u : HO} : upd (upd H a o) a u = upd H a u := by
  funext b; unfold upd; split <;> rfl
/-- two objects of different content stand apart -/
theorem ne_of {H : Hp} {a b : Addr} {o u : HO} (h : H a = some o) (h' : H b = some u) (d : o ≠ u) : a ≠ b := by
  intro e; subst e; rw [h] at h'; exact d (Option.some.inj h')
theorem ne_of_none {H : Hp} {a b : Addr} {o : HO} (h : H a = some o) (h' : H b = none) : a ≠ b := by
  intro e; subst e; rw [h] at h'; cases h'

section
variable (P : Program) (w : World)
def ObjOk (H : Hp) (h : Heap) (a : Addr) : HO → Prop
  | .lst xs => xs.length ≤ sizeLine ∧ ∃ (its : List Value) (n : Nat), Vals xs its ∧ h.get? a = some { cls := .type "list", data := .seq its.toArray n }
  | .tup xs => xs.length ≤ sizeLine ∧ ∃ its : List Value, Vals xs its ∧ IsTup h a its.toArray
  | .dK kvs => kvs.length ≤ sizeLine ∧ (a == sysModules) = false ∧ ∃ vs, KV kvs vs ∧ h.DictOf (mixKind P w) a vs
  | .dT kvs => kvs.length ≤ sizeLine ∧ (a == sysModules) = false ∧ ∃ xs : List (List Key × Addr × Value),
      Paired (fun (p : List Key × V) (q : List Key × Addr × Value) => p.1 = q.1 ∧ H q.2.1 = some (.tup (p.1.map kV)) ∧ RelV p.2 q.2.2) kvs xs ∧
      ∃ o es ep, h.get? a = some o ∧ o.ExactDict ∧ o.data = .dict es ep ∧ es.toList = xs.map (entryOfKey (tupleKind (mixKind P w))) ∧ (xs.map (·.1)).Nodup
  | .set S n => h.SetOf (intKind P w) a S n
  | .ins C dx fs => H dx = some (.own a) ∧ fs.length ≤ 1000 ∧ dx ≠ a ∧ h.get? a = some (PySem.W.instObj C dx) ∧
      ∃ mA, h.Ns1 dx mA ∧ (∀ f, RelO (fs.lookup f) (mA f)) ∧ PySem.Within mA (fs.map (·.1))
  | .own _ => ∃ o, h.get? a = some o
  | .xd fs => ∃ mA, h.Ns1 a mA ∧ ∀ f, RelO (fs.lookup f) (mA f)
  | .rng lo hi => ∃ t u v, h.get? a = some { cls := .type "range", data := .fields #[.int lo t, .int hi u, .int 1 v] }
  | .frz o u => h.get? a = some o ∧ ObjOk H h a u
  | .tbl ps => h.get? a = some { cls := .none, data := .fields ps }
  | .met f x => h.get? a = some (PySem.W.methodObj (.ref f) (.ref x))
  | .ext φ => φ h ∧ (∃ o, h.get? a = some o) ∧ ∀ h1 h2 : Heap, φ h1 → (∀ o, h1.get? a = some o → h2.get? a = some o) → φ h2
/-- the abstract heap is held -/
def HOk (H : Hp) (h : Heap) : Prop := ∀ a o, H a = some o → ObjOk P w H h a o
end

section
variable {P : Program} {w : World} {H H' : Hp} {h h' : Heap} {a : Addr} {o : HO}
theorem ObjOk.lt (x : ObjOk P w H h a o) : a < h.objs.size := by
  cases o with
  | lst xs => obtain ⟨_, _, _, _, e⟩ := x; exact Heap.lt_size e
  | tup xs => obtain ⟨_, _, _, p⟩ := x; exact p.lt
  | dK kvs => obtain ⟨_, _, _, _, o, _, _, e, _⟩ := x; exact Heap.lt_size e
  | dT kvs => obtain ⟨_, _, _, _, o, _, _, e, _⟩ := x; exact Heap.lt_size e
  | set S n => obtain ⟨o, _, _, _, e, _⟩ := x; exact Heap.lt_size e
  | ins C dx fs => obtain ⟨_, _, _, e, _⟩ := x; exact Heap.lt_size e
  | own y => obtain ⟨_, e⟩ := x; exact Heap.lt_size e
  | xd fs => obtain ⟨_, ⟨_, _, _, e, _⟩, _⟩ := x; exact Heap.lt_size e
  | rng lo hi => obtain ⟨_, _, _, e⟩ := x; exact Heap.lt_size e
  | frz ob u => obtain ⟨e, _⟩ := x; exact Heap.lt_size e
  | tbl ps => exact Heap.lt_size (show h.get? a = some _ from x)
  | met f y => exact Heap.lt_size (show h.get? a = some _ from x)
  | ext φ => obtain ⟨_, ⟨_, e⟩, _⟩ := x; exact Heap.lt_size e
theorem Paired.mapP {α β : Type} {F G : α → β → Prop} : ∀ {l₁ : List α} {l₂ : List β}, Paired F l₁ l₂ → (∀ a b, F a b → G a b) → Paired G l₁ l₂
  | _, _, .nil, _ => .nil
  | _, _, .cons r t, f => .cons (f _ _ r) (Paired.mapP t f)
/-- what an object's description leans on: its own object, its own dict, the tuples -/
theorem ObjOk.stay (x : ObjOk P w H h a o) (k : ∀ b u, (b = a ∨ H b = some (.own a)) → h.get? b = some u → h'.get? b = some u)
    (ho : ∀ b, H b = some (.own a) → H' b = some (.own a)) (ht : ∀ b xs, H b = some (.tup xs) → H' b = some (.tup xs)) : ObjOk P w H' h' a o := by
  induction o with
  | lst xs => obtain ⟨z, its, n, r, e⟩ := x; exact ⟨z, its, n, r, k _ _ (.inl rfl) e⟩
  | tup xs => obtain ⟨z, its, r, ob, e, c⟩ := x; exact ⟨z, its, r, ob, k _ _ (.inl rfl) e, c⟩
  | dK kvs => obtain ⟨z, y, vs, r, ob, es, ep, e, c⟩ := x; exact ⟨z, y, vs, r, ob, es, ep, k _ _ (.inl rfl) e, c⟩
  | dT kvs =>
    obtain ⟨z, y, xs, r, ob, es, ep, e, c⟩ := x
    exact ⟨z, y, xs, Paired.mapP r fun p q z => ⟨z.1, ht _ _ z.2.1, z.2.2⟩, ob, es, ep, k _ _ (.inl rfl) e, c⟩
  | set S n => obtain ⟨ob, es, ep, t, e, c⟩ := x; exact ⟨ob, es, ep, t, k _ _ (.inl rfl) e, c⟩
  | ins C dx fs =>
    obtain ⟨d, z, ne, e, mA, ⟨od, es, ep, e2, c⟩, r⟩ := x
    exact ⟨ho _ d, z, ne, k _ _ (.inl rfl) e, mA, ⟨od, es, ep, k _ _ (.inr d) e2, c⟩, r⟩
  | own y => obtain ⟨ob, e⟩ := x; exact ⟨ob, k _ _ (.inl rfl) e⟩
  | xd fs => obtain ⟨mA, ⟨od, es, ep, e, c⟩, r⟩ := x; exact ⟨mA, ⟨od, es, ep, k _ _ (.inl rfl) e, c⟩, r⟩
  | rng lo hi => obtain ⟨t, u, v, e⟩ := x; exact ⟨t, u, v, k _ _ (.inl rfl) e⟩
  | frz ob u ih => obtain ⟨e, q⟩ := x; exact ⟨k _ _ (.inl rfl) e, ih q⟩
  | tbl ps =>
    have e : h.get? a = some { cls := .none, data := .fields ps } := x
    show h'.get? a = some { cls := .none, data := .fields ps }
    exact k a _ (.inl rfl) e
  | met f y =>
    have e : h.get? a = some (PySem.W.methodObj (.ref f) (.ref y)) := x
    show h'.get? a = some (PySem.W.methodObj (.ref f) (.ref y))
    exact k a _ (.inl rfl) e
  | ext φ => obtain ⟨p, ⟨o, e⟩, st⟩ := x; exact ⟨st _ _ p fun o q => k _ _ (.inl rfl) q, ⟨o, k _ _ (.inl rfl) e⟩, st⟩
theorem HOk.lt (x : HOk P w H h) (e : H a = some o) : a < h.objs.size := (x a o e).lt
theorem HOk.fresh (x : HOk P w H h) (e : h.objs.size ≤ a) : H a = none := by
  cases q : H a with
  | none => rfl
  | some u => exact absurd (Nat.lt_of_lt_of_le (x.lt q) e) (Nat.lt_irrefl _)
/-- every object of the heap is kept -/
theorem HOk.kept (x : HOk P w H h) (k : ∀ b u, h.get? b = some u → h'.get? b = some u) : HOk P w H h' := fun a o e =>
  (x a o e).stay (fun b u _ q => k b u q) (fun _ q => q) fun _ _ q => q
/-- a new object is laid and tracked -/
theorem HOk.laid (x : HOk P w H h) (k : ∀ b u, h.get? b = some u → h'.get? b = some u) (hp : h.objs.size ≤ a) (new : ObjOk P w (upd H a o) h' a o) : HOk P w (upd H a o) h' := fun b u e => by
  have hn := x.fresh hp
  by_cases hb : b = a
  · subst hb; rw [upd_same] at e; cases e; exact new
  · rw [upd_ne hb] at e
    exact (x b u e).stay (fun c v _ q => k c v q) (fun c q => by rw [upd_ne (ne_of_none q hn)]; exact q) fun c xs q => by rw [upd_ne (ne_of_none q hn)]; exact q
end

/-- what may be read as u: it is u, or a known u -/
def Rd (H : Hp) (a : Addr) (u : HO) : Prop := H a = some u ∨ ∃ o, H a = some (.frz o u)
theorem Rd.of {H : Hp} {a : Addr} {u : HO} (h : H a = some u) : Rd H a u := .inl h
theorem Rd.ok {P : Program} {w : World} {H : Hp} {h : Heap} {a : Addr} {u : HO} (r : Rd H a u) (x : HOk P w H h) : ObjOk P w H h a u := by
  rcases r with r | ⟨o, r⟩
  · exact x a u r
  · obtain ⟨_, q⟩ := x a _ r
    exact q
/-- what may be written -/
def Mut : Option HO → Prop
  | some (.lst _) => True
  | some (.dK _) => True
  | some (.dT _) => True
  | some (.set _ _) => True
  | some (.ins _ _ _) => True
  | some (.ext _) => True
  | _ => False
section
variable {P : Program} {w : World} {H : Hp} {h h' : Heap} {x e : Addr} {o' : HO}
/-- the object at e is changed: x itself, or the dict of the instance x -/
theorem HOk.write (ok : HOk P w H h) (mu : Mut (H x)) (he : e = x ∨ H e = some (.own x)) (k : ∀ b u, b ≠ e → h.get? b = some u → h'.get? b = some u) (heo : ∃ u, h'.get? e = some u)
    (new : ObjOk P w (upd H x o') h' x o') : HOk P w (upd H x o') h' := fun b u q => by
  have nown : ∀ c y, H c = some (.own y) → c ≠ x := fun c y r z => by subst z; rw [r] at mu; exact mu
  have ntup : ∀ c xs, H c = some (.tup xs) → c ≠ x := fun c xs r z => by subst z; rw [r] at mu; exact mu
  by_cases hb : b = x
  · subst hb; rw [upd_same] at q; cases q; exact new
  · rw [upd_ne hb] at q
    by_cases hbe : b = e
    · have q' : H b = some (.own x) := by
        rcases he with z | z
        · exact absurd (hbe.trans z) hb
        · rw [hbe]; exact z
      rw [q] at q'; cases q'
      obtain ⟨v, hv⟩ := heo
      exact ⟨v, by rw [hbe]; exact hv⟩
    · refine (ok b u q).stay (fun c v hc r => k c v ?_ r) (fun c r => by rw [upd_ne (nown c b r)]; exact r) fun c xs r => by rw [upd_ne (ntup c xs r)]; exact r
      rcases hc with rfl | hc
      · exact hbe
      · rintro rfl
        rcases he with z | z
        · exact nown c b hc z
        · rw [hc] at z; cases z; exact hb rfl
end

/-! ### kept unless tracked; of the frames at fs (the callers') the slots may change (an exception that passes writes there); of the records at ex (iterators) nothing is said -/
structure Un (fs ex : List Addr) (H H' : Hp) (h h' : Heap) : Prop where
  keep : ∀ b o, h.get? b = some o → H b = none → b ∉ fs → b ∉ ex → h'.get? b = some o
  slot : ∀ b o, h.get? b = some o → H b = none → b ∈ fs → b ∉ ex → ∃ sl, h'.get? b = some { o with slots := sl }
  free : ∀ b o, h.get? b = some o → H b = none → b ∉ ex → H' b = none
  there : ∀ b o, h.get? b = some o → b ∉ ex → ∃ o', h'.get? b = some o'
  tups : ∀ b xs, H b = some (.tup xs) → H' b = some (.tup xs)
  frzs : ∀ b o u, H b = some (.frz o u) → H' b = some (.frz o u)
  tbls : ∀ b ps, H b = some (.tbl ps) → ∃ more, H' b = some (.tbl (ps ++ more))
section
variable {fs fs' ex ex' : List Addr} {H H1 H2 : Hp} {h h1 h2 h' : Heap} {a x e : Addr} {o : HO}
theorem Un.any (u : Un fs ex H H1 h h1) {b : Addr} {ob : Obj} (q : h.get? b = some ob) (n : H b = none) (hx : b ∉ ex) : ∃ sl, h1.get? b = some { ob with slots := sl } := by
  by_cases hb : b ∈ fs
  · exact u.slot b ob q n hb hx
  · exact ⟨ob.slots, u.keep b ob q n hb hx⟩
theorem Un.trans (a : Un fs ex H H1 h h1) (b : Un fs ex H1 H2 h1 h2) : Un fs ex H H2 h h2 where
  keep := fun c ob q n hc hx => b.keep c ob (a.keep c ob q n hc hx) (a.free c ob q n hx) hc hx
  slot := fun c ob q n hc hx => by
    obtain ⟨sl, e1⟩ := a.slot c ob q n hc hx
    obtain ⟨sl', e2⟩ := b.slot c _ e1 (a.free c ob q n hx) hc hx
    exact ⟨sl', e2⟩
  free := fun c ob q n hx => by
    obtain ⟨o', e1⟩ := a.there c ob q hx
    exact b.free c o' e1 (a.free c ob q n hx) hx
  there := fun c ob q hx => by
    obtain ⟨o', e1⟩ := a.there c ob q hx
    exact b.there c o' e1 hx
  tups := fun c xs q => b.tups c xs (a.tups c xs q)
  frzs := fun c ob xs q => b.frzs c ob xs (a.frzs c ob xs q)
  tbls := fun c ps q => by
    obtain ⟨m1, e1⟩ := a.tbls c ps q
    obtain ⟨m2, e2⟩ := b.tbls c _ e1
    exact ⟨m1 ++ m2, by rw [e2, Array.append_assoc]⟩
theorem Un.kept (k : ∀ b u, h.get? b = some u → h'.get? b = some u) : Un fs ex H H h h' :=
  ⟨fun b ob q _ _ _ => k b ob q, fun b ob q _ _ _ => ⟨ob.slots, k b ob q⟩, fun _ _ _ n _ => n, fun b ob q _ => ⟨ob, k b ob q⟩, fun _ _ q => q, fun _ _ _ q => q, fun _ ps q => ⟨#[], by rw [q]; simp⟩⟩
theorem Un.refl : Un fs ex H H h h := Un.kept fun _ _ q => q
theorem Un.laid (k : ∀ b u, h.get? b = some u → h'.get? b = some u) (hp : h.objs.size ≤ a) (hn : H a = none) : Un fs ex H (upd H a o) h h' where
  keep := fun b u q _ _ _ => k b u q
  slot := fun b u q _ _ _ => ⟨u.slots, k b u q⟩
  free := fun b u q n _ => by rw [upd_ne (Nat.ne_of_lt (Nat.lt_of_lt_of_le (Heap.lt_size q) hp))]; exact n
  there := fun b u q _ => ⟨u, k b u q⟩
  tups := fun b xs q => by rw [upd_ne (ne_of_none q hn)]; exact q
  frzs := fun b u xs q => by rw [upd_ne (ne_of_none q hn)]; exact q
  tbls := fun b ps q => ⟨#[], by rw [upd_ne (ne_of_none q hn), q]; simp⟩
theorem Un.write (mu : Mut (H x)) (he : e = x ∨ H e = some (.own x)) (k : ∀ b u, b ≠ e → h.get? b = some u → h'.get? b = some u) (heo : ∃ u, h'.get? e = some u) : Un fs ex H (upd H x o) h h' := by
  have hx : ∀ b, H b = none → b ≠ x := fun b n z => by subst z; rw [n] at mu; exact mu
  have hb : ∀ b, H b = none → b ≠ e := fun b n z => by
    subst z
    rcases he with r | r
    · exact hx b n r
    · rw [n] at r; cases r
  have hm : ∀ b u, H b = some u → ¬ Mut (some u) → b ≠ x := fun b u q nm z => by subst z; rw [q] at mu; exact nm mu
  refine ⟨fun b u q n _ _ => k b u (hb b n) q, fun b u q n _ _ => ⟨u.slots, k b u (hb b n) q⟩, fun b u q n _ => by rw [upd_ne (hx b n)]; exact n, fun b u q _ => ?_,
    fun b xs q => by rw [upd_ne (hm b _ q fun z => z)]; exact q, fun b u xs q => by rw [upd_ne (hm b _ q fun z => z)]; exact q, fun b ps q => ⟨#[], by rw [upd_ne (hm b _ q fun z => z), q]; simp⟩⟩
  by_cases hbe : b = e
  · subst hbe; exact heo
  · exact ⟨u, k b u hbe q⟩
theorem Un.mono (u : Un fs ex H H1 h h1) (hs : ∀ b ∈ fs, b ∈ fs') (hx : ∀ b ∈ ex, b ∈ ex') : Un fs' ex' H H1 h h1 :=
  ⟨fun b ob q n hb he => u.keep b ob q n (fun z => hb (hs b z)) fun z => he (hx b z), fun _ _ q n _ he => u.any q n fun z => he (hx _ z), fun b ob q n he => u.free b ob q n fun z => he (hx b z), fun b ob q he => u.there b ob q fun z => he (hx b z), u.tups, u.frzs, u.tbls⟩
end

/-! ### the heap without what is tracked -/
def trk (h : Heap) (H : Hp) : List Addr := (List.range h.objs.size).filter fun a => (H a).isSome
def hidT (h : Heap) (H : Hp) : Heap := PySem.W.hideAll h (trk h H)
theorem hidT_size (h : Heap) (H : Hp) : (hidT h H).objs.size = h.objs.size := PySem.W.hideAll_size _ _
theorem hidT_get {h : Heap} {H : Hp} {b : Addr} {o : Obj} (e : h.get? b = some o) (n : H b = none) : (hidT h H).get? b = some o :=
  PySem.W.hideAll_get _ e fun hm => by
    have q : (H b).isSome = true := (List.mem_filter.mp hm).2
    rw [n] at q; simp at q
theorem of_hidT {h : Heap} {H : Hp} {b : Addr} {o : Obj} (e : (hidT h H).get? b = some o) : h.get? b = some o ∧ H b = none := by
  have e' : h.get? b = some o := PySem.W.of_hideAll (trk h H) e
  refine ⟨e', ?_⟩
  cases q : H b with
  | none => rfl
  | some x =>
    have hm : b ∈ trk h H := List.mem_filter.mpr ⟨List.mem_range.mpr (Heap.lt_size e'), by simp [q]⟩
    have z : (hidT h H).get? b = none := PySem.W.hideAll_none (trk h H) hm
    rw [z] at e; cases e

/-! ### OpenK's ledger, filled with every new object but one -/
def allNews (g h : Heap) (L : Addr) : List (Addr × Obj) := (List.range h.objs.size).filterMap fun a => if a = L ∨ (g.get? a).isSome = true then none else (h.get? a).map fun o => (a, o)
def rest (g h : Heap) (L d : Addr) : List (Addr × Obj) := (allNews g h L).filter fun p => decide (p.1 ≠ d)
end L2

namespace L2
open PySem PySem.Spec PyProof.Rows

/-- the module's facts, over the base: the heap at the law's entry without what is tracked there -/
structure Mod (K : PySem.W.Frag) (mg : Str → Option Value) (base : Heap) : Prop where
  kin : K.In base
  glob : base.Ns mainGlobals mg
  blt : ∃ mb, base.Ns builtinsNs mb ∧ ∀ x : Str, x ≠ "__name__" → mb x = bootBuiltins x
  nolimit : base.NoLimit

/-- the context: a def's body (or a comprehension's block) running. base: fixed through the whole law; s₀, H₀: the entry; outer: the frames whose slots others may change (a def's callers); stack: all frames that run;
   ex: iterators that were made ahead of the entry and are walked here (a comprehension's); fn: the names whose cells were made at the entry (a def: all; a comprehension's block: its own); calm: not within an except suite; pn: pins that every state bears; xe: what is wanted of an exception that leaves the code -/
structure Cx where
  prog : Program
  w : World
  K : PySem.W.Frag
  mg : Str → Option Value
  base : Heap
  A : Around
  N : List Str
  s₀ : Shared
  H₀ : Hp
  env : Env
  outer : List Env
  stack : List Env
  ex : List Addr
  fn : Str → Bool
  calm : Bool
  pn : List (Addr × Obj)
  xe : Value → Shared → Prop
/-- the callers' frames -/
def frs (l : List Env) : List Addr := l.filterMap (·.frame)
abbrev Cx.fs (X : Cx) : List Addr := frs X.outer

def Vis (sc : Scope) (x : Str) : Prop := sc.names.lookup x = some .local ∨ sc.names.lookup x = some .cell ∨ sc.names.lookup x = some .free
def Loc (sc : Scope) (x : Str) : Prop := sc.names.lookup x = some .local ∨ sc.names.lookup x = some .cell
def Look (env : Env) (h : Heap) (m : Str → Option Value) (x : Str) (u : Value) : Prop :=
  (env.kindOf x = some .local ∧ m x = some u) ∨ ((env.kindOf x = some .cell ∨ env.kindOf x = some .free) ∧ ∃ c, env.cells.lookup x = some c ∧ h.IsCell c (some u))

structure Cx.Ok (X : Cx) : Prop where
  mod : Mod X.K X.mg X.base
  kind : X.env.scope.kind = .function
  glob : X.env.globals = mainGlobals
  blt : X.env.builtins = builtinsNs
  above : X.s₀.heap.objs.size ≤ X.env.locals
  inj : ∀ x y c, X.env.cells.lookup x = some c → X.env.cells.lookup y = some c → x = y
  has : ∀ x, (X.env.kindOf x = some .cell ∨ X.env.kindOf x = some .free) → ∃ c, X.env.cells.lookup x = some c
  cab : ∀ x c, X.fn x = true → X.env.cells.lookup x = some c → X.s₀.heap.objs.size ≤ c
  hd : X.calm = true → X.A.handled = none
  frames : X.A.frames = some X.stack
  stk : X.stack = X.outer ∨ (X.stack = X.env :: X.outer ∧ X.env.frame = some X.env.locals)
  exf : ∀ b ∈ X.ex, b ≠ X.env.locals ∧ ∀ x c, X.env.cells.lookup x = some c → c ≠ b
  bs : ∀ b o, X.base.get? b = some o → X.s₀.heap.get? b = some o ∧ X.H₀ b = none
  bsz : X.base.objs.size ≤ X.s₀.heap.objs.size
  noex : ∀ b o, X.base.get? b = some o → b ∉ X.ex
  exfs : ∀ b ∈ X.ex, b ∉ X.fs
  funs : X.s₀.heap.FunFrames X.base X.outer
  frf : ∀ b ∈ X.fs, X.H₀ b = none

structure Inv (X : Cx) (pins : List (Addr × Obj)) (σ : List (Option V)) (H : Hp) (s : Shared) : Prop where
  ok : X.Ok
  os : s.os = X.s₀.os
  bare : AllBare s.gens
  base : Un X.fs X.ex X.H₀ H X.s₀.heap s.heap
  loc : ∃ m, s.heap.Ns X.env.locals m ∧ ∀ (i : Nat) (x : Str) (v : V), X.N[i]? = some x → σ[i]? = some (some v) → Vis X.env.scope x → ∃ u, RelV v u ∧ Look X.env s.heap m x u
  cell : ∀ x c, X.env.cells.lookup x = some c → ∃ v, s.heap.IsCell c v
  free : H X.env.locals = none
  freeC : ∀ x c, X.env.cells.lookup x = some c → H c = none
  pin : ∀ p ∈ X.pn ++ pins, s.heap.get? p.1 = some p.2 ∧ H p.1 = none ∧ p.1 ≠ X.env.locals ∧ p.1 ∉ X.fs ∧ ∀ v, p.2.data ≠ .cell v
  hok : HOk X.prog X.w H s.heap
  len : σ.length = X.N.length

section
variable {X : Cx} {pins : List (Addr × Obj)} {σ : List (Option V)} {H H' : Hp} {s : Shared} {h' : Heap}

theorem Cx.Ok.nofr (ok : X.Ok) {b : Addr} {o : Obj} (e : X.base.get? b = some o) : b ∉ X.fs := fun hb => by
  have := (ok.funs.mem hb).1
  rw [e] at this; cases this
theorem Inv.bs (I : Inv X pins σ H s) : ∀ b o, X.base.get? b = some o → s.heap.get? b = some o ∧ H b = none := fun b o e =>
  ⟨I.base.keep b o (I.ok.bs b o e).1 (I.ok.bs b o e).2 (I.ok.nofr e) (I.ok.noex b o e), I.base.free b o (I.ok.bs b o e).1 (I.ok.bs b o e).2 (I.ok.noex b o e)⟩
theorem Inv.bk (I : Inv X pins σ H s) : ∀ b o, X.base.get? b = some o → s.heap.get? b = some o := fun b o e => (I.bs b o e).1
theorem Inv.mod (I : Inv X pins σ H s) : Mod X.K X.mg X.base := I.ok.mod
theorem Inv.kIn (I : Inv X pins σ H s) : X.K.In s.heap := I.ok.mod.kin.keeps I.bk
theorem Inv.nolimit (I : Inv X pins σ H s) : s.heap.NoLimit := I.ok.mod.nolimit.keeps I.bk
/-- the frame over the base: for OpenK's rules (K.In X.base is I.mod.kin) -/
theorem Inv.fr (I : Inv X pins σ H s) : ∃ m, Fr X.base X.env.locals s.heap m :=
  let ⟨m, hn, _⟩ := I.loc
  ⟨m, hn, I.bk, Nat.le_trans I.ok.bsz I.ok.above⟩
theorem Inv.lt (I : Inv X pins σ H s) : X.env.locals < s.heap.objs.size := let ⟨_, hn, _⟩ := I.loc; hn.lt
theorem Inv.sz (I : Inv X pins σ H s) : X.s₀.heap.objs.size ≤ s.heap.objs.size := Nat.le_trans I.ok.above (Nat.le_of_lt I.lt)
theorem Inv.nofs (I : Inv X pins σ H s) {a : Addr} (h : s.heap.objs.size ≤ a) : a ∉ X.fs := fun hb => by
  obtain ⟨_, o, ho, _⟩ := I.ok.funs.mem hb
  exact absurd (Nat.lt_of_lt_of_le (Heap.lt_size ho) (Nat.le_trans I.sz h)) (Nat.lt_irrefl _)
theorem Inv.cne (I : Inv X pins σ H s) : ∀ x c, X.env.cells.lookup x = some c → c ≠ X.env.locals := fun x c e z => by
  obtain ⟨v, o, ho, hd⟩ := I.cell x c e
  obtain ⟨m, ⟨o', es, ep, ho', hd', _⟩, _⟩ := I.loc
  rw [z, ho'] at ho; cases ho; rw [hd'] at hd; cases hd
theorem Inv.funs (I : Inv X pins σ H s) : s.heap.FunFrames X.base X.outer := by
  have all : ∀ (l : List Env), (∀ b ∈ frs l, b ∈ X.fs) → X.s₀.heap.FunFrames X.base l → s.heap.FunFrames X.base l := by
    intro l
    induction l with
    | nil => intro _ _; trivial
    | cons env r ih =>
      intro hs hl
      obtain ⟨hk, ⟨L, o, hf, hn, ho, hd⟩, hr⟩ := hl
      have hL : L ∈ X.fs := hs L (by unfold frs; rw [List.filterMap_cons, hf]; exact List.mem_cons_self)
      obtain ⟨sl, e⟩ := I.base.slot L o ho (I.ok.frf L hL) hL fun z => I.ok.exfs L z hL
      exact ⟨hk, ⟨L, _, hf, hn, e, hd⟩, ih (fun b hb => hs b (by unfold frs; rw [List.filterMap_cons, hf]; exact List.mem_cons_of_mem _ hb)) hr⟩
  exact all X.outer (fun _ hb => hb) I.ok.funs

/-- the frames that run, for a call -/
theorem Inv.stack (I : Inv X pins σ H s) : s.heap.FunFrames X.base X.stack := by
  rcases I.ok.stk with e | ⟨e, hf⟩
  · rw [e]; exact I.funs
  · rw [e]
    obtain ⟨m, hn, _⟩ := I.loc
    refine .cons (by rw [I.ok.kind]; decide) hf hn ?_ I.funs
    exact Heap.get?_none_of_le (Nat.le_trans I.ok.bsz I.ok.above)
theorem Inv.stkSub (I : Inv X pins σ H s) : ∀ b ∈ frs X.stack, b ∈ X.env.locals :: X.fs := fun b hb => by
  rcases I.ok.stk with e | ⟨e, hf⟩
  · rw [e] at hb; exact List.mem_cons_of_mem _ hb
  · rw [e] at hb
    unfold frs at hb
    rw [List.filterMap_cons, hf] at hb
    exact hb
theorem Inv.stkFree (I : Inv X pins σ H s) : ∀ b ∈ frs X.stack, H b = none := fun b hb => by
  rcases List.mem_cons.mp (I.stkSub b hb) with e | hb
  · rw [e]; exact I.free
  · obtain ⟨_, o, ho, _⟩ := I.ok.funs.mem hb
    exact I.base.free b o ho (I.ok.frf b hb) fun z => I.ok.exfs b z hb

/-- THE STEP: the untracked objects but the frame and the records at ch are kept (the callers' frames up to slots), the frame's map is kept, the new abstract heap is held -/
theorem Inv.step {g' : Array GenState} {t' : Nat} {d' : Drawn} {ch : List Addr} (I : Inv X pins σ H s)
    (hch : ∀ b ∈ ch, (b ∈ X.ex ∨ X.s₀.heap.objs.size ≤ b) ∧ b ≠ X.env.locals ∧ (∀ x c, X.env.cells.lookup x = some c → c ≠ b) ∧ ∀ p ∈ X.pn ++ pins, p.1 ≠ b)
    (keep : ∀ b o, b ≠ X.env.locals → b ∉ X.fs → b ∉ ch → s.heap.get? b = some o → H b = none → h'.get? b = some o)
    (slot : ∀ b o, b ≠ X.env.locals → b ∈ X.fs → b ∉ ch → s.heap.get? b = some o → H b = none → ∃ sl, h'.get? b = some { o with slots := sl }) (free : ∀ b o, b ∉ ch → s.heap.get? b = some o → H b = none → H' b = none)
    (there : ∀ b o, b ∉ ch → s.heap.get? b = some o → ∃ o', h'.get? b = some o')
    (tups : ∀ b xs, H b = some (.tup xs) → H' b = some (.tup xs)) (frzs : ∀ b o u, H b = some (.frz o u) → H' b = some (.frz o u)) (tbls : ∀ b ps, H b = some (.tbl ps) → ∃ more, H' b = some (.tbl (ps ++ more)))
    (ns : ∀ m, s.heap.Ns X.env.locals m → h'.Ns X.env.locals m) (hok : HOk X.prog X.w H' h') (hg : AllBare g') :
    Inv X pins σ H' { s with heap := h', gens := g', drawn := d', toks := t' } := by
  have neL : ∀ b o, X.s₀.heap.get? b = some o → b ≠ X.env.locals := fun b o e => Nat.ne_of_lt (Nat.lt_of_lt_of_le (Heap.lt_size e) I.ok.above)
  have neC : ∀ b o, X.s₀.heap.get? b = some o → b ∉ X.ex → b ∉ ch := fun b o e hx hb => by
    rcases (hch b hb).1 with z | z
    · exact hx z
    · exact absurd (Nat.lt_of_lt_of_le (Heap.lt_size e) z) (Nat.lt_irrefl _)
  have cellK : ∀ x c, X.env.cells.lookup x = some c → ∀ v, s.heap.IsCell c v → h'.IsCell c v := fun x c e v ⟨o, ho, hd⟩ => by
    have nch : c ∉ ch := fun z => (hch c z).2.2.1 x c e rfl
    by_cases hc : c ∈ X.fs
    · obtain ⟨sl, q⟩ := slot c o (I.cne x c e) hc nch ho (I.freeC x c e)
      exact ⟨_, q, hd⟩
    · exact ⟨o, keep c o (I.cne x c e) hc nch ho (I.freeC x c e), hd⟩
  refine ⟨I.ok, I.os, hg, ⟨fun b o e n hb hx => ?_, fun b o e n hb hx => ?_, fun b o e n hx => ?_, fun b o e hx => ?_, fun b xs e => tups b xs (I.base.tups b xs e), fun b o xs e => frzs b o xs (I.base.frzs b o xs e), fun b ps e => ?_⟩, ?_, fun x c e => ?_, ?_, fun x c e => ?_, fun p hp => ?_, hok, I.len⟩
  · exact keep b o (neL b o e) hb (neC b o e hx) (I.base.keep b o e n hb hx) (I.base.free b o e n hx)
  · obtain ⟨sl, e1⟩ := I.base.slot b o e n hb hx
    obtain ⟨sl', e2⟩ := slot b _ (neL b o e) hb (neC b o e hx) e1 (I.base.free b o e n hx)
    exact ⟨sl', e2⟩
  · obtain ⟨o', e1⟩ := I.base.there b o e hx
    exact free b o' (neC b o e hx) e1 (I.base.free b o e n hx)
  · obtain ⟨o', e1⟩ := I.base.there b o e hx
    exact there b o' (neC b o e hx) e1
  · obtain ⟨m1, e1⟩ := I.base.tbls b ps e
    obtain ⟨m2, e2⟩ := tbls b _ e1
    exact ⟨m1 ++ m2, by rw [e2, Array.append_assoc]⟩
  · obtain ⟨m, hn, hl⟩ := I.loc
    refine ⟨m, ns m hn, fun i x v e1 e2 e3 => ?_⟩
    obtain ⟨u, r, l⟩ := hl i x v e1 e2 e3
    refine ⟨u, r, ?_⟩
    rcases l with l | ⟨k, c, e, z⟩
    · exact .inl l
    · exact .inr ⟨k, c, e, cellK x c e _ z⟩
  · obtain ⟨v, z⟩ := I.cell x c e
    exact ⟨v, cellK x c e v z⟩
  · obtain ⟨m, ⟨o, _, _, ho, _⟩, _⟩ := I.loc
    exact free _ o (fun z => (hch _ z).2.1 rfl) ho I.free
  · obtain ⟨v, o, ho, hd⟩ := I.cell x c e
    exact free c o (fun z => (hch c z).2.2.1 x c e rfl) ho (I.freeC x c e)
  · obtain ⟨e, n, ne, nf, d⟩ := I.pin p hp
    have nch : p.1 ∉ ch := fun z => (hch p.1 z).2.2.2 p hp rfl
    exact ⟨keep p.1 p.2 ne nf nch e n, free p.1 p.2 nch e n, ne, nf, d⟩
/-- .. where the frame's own object is kept too -/
theorem Inv.un {t' : Nat} (I : Inv X pins σ H s) (u : Un X.fs [] H H' s.heap h') (hok : HOk X.prog X.w H' h') : Inv X pins σ H' { s with heap := h', toks := t' } := by
  obtain ⟨m, ⟨o, es, ep, ho, r⟩, _⟩ := id I.loc
  obtain ⟨sl, hL⟩ := u.any ho I.free (by simp)
  exact I.step (g' := s.gens) (d' := s.drawn) (ch := []) (fun _ z => nomatch z) (fun b o _ hb _ e n => u.keep b o e n hb (by simp)) (fun b o _ hb _ e n => u.slot b o e n hb (by simp)) (fun b o _ e n => u.free b o e n (by simp)) (fun b o _ e => u.there b o e (by simp)) u.tups u.frzs u.tbls (fun m' hm => by
    obtain ⟨o', es', ep', ho', r'⟩ := hm
    rw [ho] at ho'; cases ho'
    exact ⟨_, es', ep', hL, r'⟩) hok I.bare
/-- behind a call (or a comprehension's block): the slots of this frame may have changed too, the records at ch may have turned -/
theorem Inv.call {g' : Array GenState} {t' : Nat} {d' : Drawn} {ch : List Addr} (I : Inv X pins σ H s) (u : Un (frs X.stack) ch H H' s.heap h') (hok : HOk X.prog X.w H' h') (hg : AllBare g')
    (hch : ∀ b ∈ ch, (b ∈ X.ex ∨ X.s₀.heap.objs.size ≤ b) ∧ b ≠ X.env.locals ∧ (∀ x c, X.env.cells.lookup x = some c → c ≠ b) ∧ ∀ p ∈ X.pn ++ pins, p.1 ≠ b) :
    Inv X pins σ H' { s with heap := h', gens := g', drawn := d', toks := t' } := by
  obtain ⟨m, ⟨o, es, ep, ho, r⟩, _⟩ := id I.loc
  obtain ⟨sl, hL⟩ := u.any ho I.free fun z => (hch _ z).2.1 rfl
  exact I.step (ch := ch) hch (fun b o hL hb hc e n => u.keep b o e n (fun z => (List.mem_cons.mp (I.stkSub b z)).elim hL hb) hc) (fun b o _ _ hc e n => u.any e n hc) (fun b o hc e n => u.free b o e n hc) (fun b o hc e => u.there b o e hc) u.tups u.frzs u.tbls (fun m' hm => by
    obtain ⟨o', es', ep', ho', r'⟩ := hm
    rw [ho] at ho'; cases ho'
    exact ⟨_, es', ep', hL, r'⟩) hok hg
/-- an untracked record of ours (an iterator) has turned -/
theorem Inv.turned {t' : Nat} {it : Addr} (I : Inv X pins σ H s) (k : ∀ b o, b ≠ it → s.heap.get? b = some o → h'.get? b = some o) (hn : H it = none) (hL : it ≠ X.env.locals)
    (h1 : it ∈ X.ex ∨ X.s₀.heap.objs.size ≤ it) (h2 : ∀ x c, X.env.cells.lookup x = some c → c ≠ it) (h3 : ∀ p ∈ X.pn ++ pins, p.1 ≠ it) : Inv X pins σ H { s with heap := h', toks := t' } := by
  have nit : ∀ b u, H b = some u → b ≠ it := fun b u e z => by rw [z, hn] at e; cases e
  refine I.step (g' := s.gens) (d' := s.drawn) (ch := [it]) (fun b hb => ?_) (fun b o _ _ hc e _ => k b o (fun z => hc (by simp [z])) e) (fun b o _ _ hc e _ => ⟨o.slots, k b o (fun z => hc (by simp [z])) e⟩) (fun _ _ _ _ n => n)
    (fun b o hc e => ⟨o, k b o (fun z => hc (by simp [z])) e⟩) (fun _ _ e => e) (fun _ _ _ e => e) (fun b ps e => ⟨#[], by rw [e]; simp⟩) (fun m hm => ?_) (fun b u e => ?_) I.bare
  · have e : b = it := by simpa using hb
    subst e
    exact ⟨h1, hL, h2, h3⟩
  · obtain ⟨o, es, ep, ho, r⟩ := hm
    exact ⟨o, es, ep, k _ o (Ne.symm hL) ho, r⟩
  · refine (I.hok b u e).stay (fun c v hc q => k c v ?_ q) (fun _ q => q) fun _ _ q => q
    rcases hc with z | z
    · rw [z]; exact nit b u e
    · exact nit c _ z
theorem Inv.tok (I : Inv X pins σ H s) (t : Nat) : Inv X pins σ H { s with toks := t } := I.un (h' := s.heap) (t' := t) Un.refl I.hok
/-- all objects kept -/
theorem Inv.kept {t' : Nat} (I : Inv X pins σ H s) (k : ∀ b u, s.heap.get? b = some u → h'.get? b = some u) : Inv X pins σ H { s with heap := h', toks := t' } := I.un (Un.kept k) (I.hok.kept k)
/-- a new object laid and tracked -/
theorem Inv.laid {a : Addr} {o : HO} {t' : Nat} (I : Inv X pins σ H s) (k : ∀ b u, s.heap.get? b = some u → h'.get? b = some u) (hp : s.heap.objs.size ≤ a) (new : ObjOk X.prog X.w (upd H a o) h' a o) :
    Inv X pins σ (upd H a o) { s with heap := h', toks := t' } := I.un (Un.laid k hp (I.hok.fresh hp)) (I.hok.laid k hp new)
/-- an object written -/
theorem Inv.write {x e : Addr} {o : HO} {t' : Nat} (I : Inv X pins σ H s) (mu : Mut (H x)) (he : e = x ∨ H e = some (.own x)) (k : ∀ b u, b ≠ e → s.heap.get? b = some u → h'.get? b = some u) (heo : ∃ u, h'.get? e = some u)
    (new : ObjOk X.prog X.w (upd H x o) h' x o) : Inv X pins σ (upd H x o) { s with heap := h', toks := t' } := I.un (Un.write mu he k heo) (I.hok.write mu he k heo new)
theorem Inv.pins_of {pins' : List (Addr × Obj)} (I : Inv X pins σ H s) (h : ∀ p ∈ pins', s.heap.get? p.1 = some p.2 ∧ H p.1 = none ∧ p.1 ≠ X.env.locals ∧ p.1 ∉ X.fs ∧ ∀ v, p.2.data ≠ .cell v) : Inv X pins' σ H s :=
  ⟨I.ok, I.os, I.bare, I.base, I.loc, I.cell, I.free, I.freeC, fun p hp => (List.mem_append.mp hp).elim (fun z => I.pin p (List.mem_append_left _ z)) (h p), I.hok, I.len⟩

theorem nodup_ix {N : List Str} (hN : N.Nodup) {i j : Nat} {x : Str} (a : N[i]? = some x) (b : N[j]? = some x) : i = j := by
  obtain ⟨h1, e1⟩ := List.getElem?_eq_some_iff.mp a
  obtain ⟨h2, e2⟩ := List.getElem?_eq_some_iff.mp b
  exact (List.getElem_inj hN).mp (e1.trans e2.symm)

/-- a name is stored; what changed -/
theorem store_ok2 {M : Model} {A : Around} {E : Value → Shared → Prop} {i : Nat} {x : Str} {v : V} {u : Value} {Q : Unit → Shared → Prop} (I : Inv X pins σ H s) (hN : X.N.Nodup) (hi : X.N[i]? = some x) (hx : Loc X.env.scope x) (r : RelV v u)
    (h : ∀ s', Inv X pins (σ.set i (some v)) H s' → (∃ a, Heap.SameBut a s.heap s'.heap ∧ (a = X.env.locals ∨ X.env.cells.lookup x = some a)) → Q () s') (hf : X.fn x = true ∨ X.env.scope.names.lookup x = some .local := by first | exact .inl rfl | exact .inr rfl | assumption) : wpAny M A (storeName X.env x u) Q E s := by
  obtain ⟨m, hn, hl⟩ := id I.loc
  have hcls : (X.env.scope.kind == .class || (X.env.scope.kind == .module && X.env.locals != X.env.globals)) = false := by rw [I.ok.kind]; rfl
  have hiσ : i < σ.length := by rw [I.len]; exact (List.getElem?_eq_some_iff.mp hi).1
  have cne := I.cne
  have tracked : ∀ {a : Addr} {h' : Heap}, (∃ o, s.heap.get? a = some o ∧ H a = none) → Heap.SameBut a s.heap h' → HOk X.prog X.w H h' := fun {a h'} ha hs b ob e => by
    obtain ⟨_, _, hfree⟩ := ha
    refine (I.hok b ob e).stay (fun c w' hc q => (hs.2 c ?_).trans q) (fun _ q => q) fun _ _ q => q
    rintro rfl
    rcases hc with rfl | hc
    · rw [hfree] at e; cases e
    · rw [hfree] at hc; cases hc
  rcases hx with hk | hk
  · refine wpAny_storeName_local hk hn (fun h' hn' hs => ?_) hcls
    obtain ⟨oL, _, _, hoL, _⟩ := id hn
    refine h _ ⟨I.ok, I.os, I.bare, ⟨fun b o e n hb hx => ?_, fun b o e n hb hx => ?_, I.base.free, fun b o e hx => ?_, I.base.tups, I.base.frzs, I.base.tbls⟩, ⟨_, hn', fun j y v' e1 e2 e3 => ?_⟩, fun y c e => ?_, I.free, I.freeC, fun p hp => ?_, tracked ⟨oL, hoL, I.free⟩ hs, by simpa using I.len⟩ ⟨_, hs, .inl rfl⟩
    · exact (hs.2 b (Nat.ne_of_lt (Nat.lt_of_lt_of_le (Heap.lt_size e) I.ok.above))).trans (I.base.keep b o e n hb hx)
    · obtain ⟨sl, e1⟩ := I.base.slot b o e n hb hx
      exact ⟨sl, (hs.2 b (Nat.ne_of_lt (Nat.lt_of_lt_of_le (Heap.lt_size e) I.ok.above))).trans e1⟩
    · obtain ⟨o', e1⟩ := I.base.there b o e hx
      exact ⟨o', (hs.2 b (Nat.ne_of_lt (Nat.lt_of_lt_of_le (Heap.lt_size e) I.ok.above))).trans e1⟩
    · by_cases hj : j = i
      · subst hj
        rw [hi] at e1; cases e1
        rw [List.getElem?_set_self hiσ] at e2
        cases e2
        exact ⟨u, r, .inl ⟨hk, by simp⟩⟩
      · rw [List.getElem?_set_ne (Ne.symm hj)] at e2
        obtain ⟨u', r', q⟩ := hl j y v' e1 e2 e3
        refine ⟨u', r', ?_⟩
        rcases q with ⟨k, e⟩ | ⟨k, c, e, z⟩
        · refine .inl ⟨k, ?_⟩
          have : y ≠ x := fun e => hj (nodup_ix hN e1 (e ▸ hi))
          simp [this, e]
        · exact .inr ⟨k, c, e, z.sameBut hs (cne y c e)⟩
    · obtain ⟨w', z⟩ := I.cell y c e
      exact ⟨w', z.sameBut hs (cne y c e)⟩
    · obtain ⟨e, n, ne, nf, d⟩ := I.pin p hp
      exact ⟨(hs.2 p.1 ne).trans e, n, ne, nf, d⟩
  · have hfn : X.fn x = true := by
      rcases hf with z | z
      · exact z
      · rw [z] at hk; cases hk
    obtain ⟨c, hc⟩ := I.ok.has x (.inl hk)
    obtain ⟨w', z⟩ := I.cell x c hc
    refine wpAny_storeName_cell I.ok.kind hk hc z (fun h' hc' hs => ?_)
    obtain ⟨oc, hoc, hocd⟩ := id z
    refine h { s with heap := h' } ⟨I.ok, I.os, I.bare, ⟨fun b o e n hb hx => ?_, fun b o e n hb hx => ?_, I.base.free, fun b o e hx => ?_, I.base.tups, I.base.frzs, I.base.tbls⟩, ⟨m, hn.sameBut hs (Ne.symm (cne x c hc)), fun j y v' e1 e2 e3 => ?_⟩, fun y c' e => ?_, I.free, I.freeC, fun p hp => ?_, tracked ⟨oc, hoc, I.freeC x c hc⟩ hs, by simpa using I.len⟩ ⟨c, hs, .inr hc⟩
    · exact (hs.2 b (Nat.ne_of_lt (Nat.lt_of_lt_of_le (Heap.lt_size e) (I.ok.cab x c hfn hc)))).trans (I.base.keep b o e n hb hx)
    · obtain ⟨sl, e1⟩ := I.base.slot b o e n hb hx
      exact ⟨sl, (hs.2 b (Nat.ne_of_lt (Nat.lt_of_lt_of_le (Heap.lt_size e) (I.ok.cab x c hfn hc)))).trans e1⟩
    · obtain ⟨o', e1⟩ := I.base.there b o e hx
      exact ⟨o', (hs.2 b (Nat.ne_of_lt (Nat.lt_of_lt_of_le (Heap.lt_size e) (I.ok.cab x c hfn hc)))).trans e1⟩
    · by_cases hj : j = i
      · subst hj
        rw [hi] at e1; cases e1
        rw [List.getElem?_set_self hiσ] at e2
        cases e2
        exact ⟨u, r, .inr ⟨.inl hk, c, hc, hc'⟩⟩
      · rw [List.getElem?_set_ne (Ne.symm hj)] at e2
        obtain ⟨u', r', q⟩ := hl j y v' e1 e2 e3
        refine ⟨u', r', ?_⟩
        rcases q with q | ⟨k, c', e, z'⟩
        · exact .inl q
        · refine .inr ⟨k, c', e, z'.sameBut hs ?_⟩
          rintro rfl
          exact hj (nodup_ix hN e1 (I.ok.inj _ _ _ e hc ▸ hi))
    · by_cases hcc : c' = c
      · subst hcc; exact ⟨_, hc'⟩
      · obtain ⟨w2, z2⟩ := I.cell y c' e
        exact ⟨w2, z2.sameBut hs hcc⟩
    · obtain ⟨e, n, ne, nf, d⟩ := I.pin p hp
      refine ⟨(hs.2 p.1 ?_).trans e, n, ne, nf, d⟩
      intro q
      rw [q, hoc] at e
      have q' : oc = p.2 := Option.some.inj e
      exact d w' (by rw [← q']; exact hocd)
theorem store_ok {M : Model} {A : Around} {E : Value → Shared → Prop} {i : Nat} {x : Str} {v : V} {u : Value} {Q : Unit → Shared → Prop} (I : Inv X pins σ H s) (hN : X.N.Nodup) (hi : X.N[i]? = some x) (hx : Loc X.env.scope x) (r : RelV v u)
    (h : ∀ s', Inv X pins (σ.set i (some v)) H s' → Q () s') (hf : X.fn x = true ∨ X.env.scope.names.lookup x = some .local := by first | exact .inl rfl | exact .inr rfl | assumption) : wpAny M A (storeName X.env x u) Q E s :=
  store_ok2 I hN hi hx r (fun s' I' _ => h s' I') hf
/-- behind a call or a block, the state as it is -/
theorem Inv.call' {s' : Shared} {ch : List Addr} (I : Inv X pins σ H s) (ho : s'.os = s.os) (u : Un (frs X.stack) ch H H' s.heap s'.heap) (hok : HOk X.prog X.w H' s'.heap) (hg : AllBare s'.gens)
    (hch : ∀ b ∈ ch, (b ∈ X.ex ∨ X.s₀.heap.objs.size ≤ b) ∧ b ≠ X.env.locals ∧ (∀ x c, X.env.cells.lookup x = some c → c ≠ b) ∧ ∀ p ∈ X.pn ++ pins, p.1 ≠ b) : Inv X pins σ H' s' := by
  obtain ⟨h', g', d', t', o'⟩ := s'
  have e : o' = s.os := ho
  subst e
  exact I.call (g' := g') (t' := t') (d' := d') u hok hg hch
end

/-! ### the judgements -/
/-- an exception: its class, its own dict's address (where it has one), the abstract heap behind it -/
abbrev XK := Value → Option Addr → Hp → Prop
abbrev St := List (Option V)
abbrev VK := V → Hp → Prop
/-- an expression's reading; a test's; an argument list's -/
abbrev TE := St → Hp → VK → Prop
abbrev TT := St → Hp → (Bool → Hp → Prop) → Prop
abbrev TA := St → Hp → (List V → Hp → Prop) → Prop
/-- what is wanted behind a statement -/
structure Ends where
  nx : St → Hp → Prop
  rt : VK
  bk : St → Hp → Prop := fun _ _ => False
  ct : St → Hp → Prop := fun _ _ => False
abbrev TS := Ends → St → Hp → Prop

def EP (X : Cx) (pins : List (Addr × Obj)) (σ : St) (Q : VK) (u : Value) (s' : Shared) : Prop := ∃ v H', Inv X pins σ H' s' ∧ RelV v u ∧ Q v H'
def TP (X : Cx) (pins : List (Addr × Obj)) (σ : St) (Q : Bool → Hp → Prop) (b : Bool) (s' : Shared) : Prop := ∃ H', Inv X pins σ H' s' ∧ Q b H'
def AP (X : Cx) (pins : List (Addr × Obj)) (σ : St) (Q : List V → Hp → Prop) (us : List Value) (s' : Shared) : Prop := ∃ vs H', Inv X pins σ H' s' ∧ Vals vs us ∧ Q vs H'
def SP (X : Cx) (pins : List (Addr × Obj)) (D : Ends) (f : Flow) (s' : Shared) : Prop :=
  match f with
  | .next => ∃ σ' H', Inv X pins σ' H' s' ∧ D.nx σ' H'
  | .brk => ∃ σ' H', Inv X pins σ' H' s' ∧ D.bk σ' H'
  | .cont => ∃ σ' H', Inv X pins σ' H' s' ∧ D.ct σ' H'
  | .ret u => ∃ v σ' H', Inv X pins σ' H' s' ∧ RelV v u ∧ D.rt v H'

def PE (X : Cx) (e : Expr) (t : TE) : Prop :=
  ∀ (pins : List (Addr × Obj)) (s : Shared) (σ : St) (H : Hp) (Q : VK), Inv X pins σ H s → t σ H Q → wpAny (model X.prog X.w) X.A (eval e X.env) (EP X pins σ Q) X.xe s
def PT (X : Cx) (e : Expr) (t : TT) : Prop :=
  ∀ (pins : List (Addr × Obj)) (s : Shared) (σ : St) (H : Hp) (Q : Bool → Hp → Prop), Inv X pins σ H s → t σ H Q → wpAny (model X.prog X.w) X.A (isTrue e X.env (eval e X.env)) (TP X pins σ Q) X.xe s
/-- a test whatever its 'whole' is (and, or) -/
def PW (X : Cx) (e : Expr) (t : TT) : Prop :=
  ∀ (whole : Sem Value) (pins : List (Addr × Obj)) (s : Shared) (σ : St) (H : Hp) (Q : Bool → Hp → Prop), Inv X pins σ H s → t σ H Q → wpAny (model X.prog X.w) X.A (isTrue e X.env whole) (TP X pins σ Q) X.xe s
theorem PW.pt {X : Cx} {e : Expr} {t : TT} (h : PW X e t) : PT X e t := h _
/-- an argument list (no star), from the left -/
def PA (X : Cx) (es : List Expr) (t : TA) : Prop :=
  ∀ (pos : Pos) (pins : List (Addr × Obj)) (s : Shared) (σ : St) (H : Hp) (Q : List V → Hp → Prop), Inv X pins σ H s → t σ H Q → wpAny (model X.prog X.w) X.A (spliced (backTo pos (starEach es X.env))) (AP X pins σ Q) X.xe s
def PS (X : Cx) (st : Stmt) (t : TS) : Prop :=
  ∀ (pins : List (Addr × Obj)) (s : Shared) (σ : St) (H : Hp) (D : Ends), Inv X pins σ H s → t D σ H → wpAny (model X.prog X.w) X.A (exec st X.env) (SP X pins D) X.xe s
def PSs (X : Cx) (st : List Stmt) (t : TS) : Prop :=
  ∀ (pins : List (Addr × Obj)) (s : Shared) (σ : St) (H : Hp) (D : Ends), Inv X pins σ H s → t D σ H → wpAny (model X.prog X.w) X.A (execs st X.env) (SP X pins D) X.xe s
/-- weaken the end -/
theorem thn {α : Type} {t : Sem α} {Q Q' : α → Shared → Prop} {M : Model} {A : Around} {E : Value → Shared → Prop} {s : Shared} (h : wpAny M A t Q E s) (hQ : ∀ a s, Q a s → Q' a s) : wpAny M A t Q' E s := wpAny_mono h hQ fun _ _ x => x
end L2

namespace L2
open PySem PySem.Spec PyProof.Rows
section
variable {X : Cx}

/-! ### names and constants -/
def tVar (i : Nat) : TE := fun σ H Q => ∃ v, σ[i]? = some (some v) ∧ Q v H
def tC (v : V) : TE := fun _ H Q => Q v H
theorem pe_var {i : Nat} {x : Str} {pos : Pos} (hN : X.N[i]? = some x) (hv : Vis X.env.scope x) (hd : (x == ("__debug__" : Str)) = false := by decide) (hcd : (x == ("__classdict__" : Str)) = false := by decide) : PE X (.Name x pos) (tVar i) := by
  intro pins s σ H Q I h
  obtain ⟨v, e, h⟩ := h
  obtain ⟨m, hn, hl⟩ := I.loc
  obtain ⟨u, r, l⟩ := hl i x v hN e hv
  have fin : EP X pins σ Q u s := ⟨v, H, I, r, h⟩
  rcases l with ⟨hk, hm⟩ | ⟨hk, c, hc, hcell⟩
  · exact wpAny_Name (wpAny_loadName_local I.ok.kind hk hn hm fin) hd
  · rcases hk with hk | hk
    · exact wpAny_Name (wpAny_loadName_cell I.ok.kind hk hc hcell fin) hd
    · exact wpAny_Name (wpAny_loadName_free I.ok.kind hk hc hcell fin hcd) hd
theorem pe_int {i j pos} : PE X (.Constant (.int i) j pos) (tC (.int i)) := fun _ _ _ H _ I h => wpAny_Constant_int ⟨.int i, H, I.tok _, ⟨_, rfl⟩, h⟩
theorem pe_bl {b j pos} : PE X (.Constant (.bool b) j pos) (tC (.bl b)) := fun _ _ _ H _ I h => Constant_bool ⟨.bl b, H, I, rfl, h⟩
theorem pe_non {j pos} : PE X (.Constant .none j pos) (tC .non) := fun _ _ _ H _ I h => Constant_none ⟨.non, H, I, rfl, h⟩
theorem pe_str {x j pos} : PE X (.Constant (.str x) j pos) (tC (.str x)) := fun _ _ _ H _ I h => Calls.Constant_str ⟨.str x, H, I.tok _, ⟨_, rfl⟩, h⟩

/-- a global name of the def -/
def Gl (X : Cx) (x : Str) : Prop := X.env.kindOf x = some .globalImplicit
theorem ld_glob {E : Value → Shared → Prop} {pins : List (Addr × Obj)} {s : Shared} {σ : St} {H : Hp} {x : Str} {u : Value} {pos : Pos} {Q : Value → Shared → Prop} (I : Inv X pins σ H s) (hg : Gl X x) (hm : X.mg x = some u) (h : Q u s)
    (hd : (x == ("__debug__" : Str)) = false := by decide) : wpAny (model X.prog X.w) X.A (eval (.Name x pos) X.env) Q E s :=
  Calls.Name_function_global I.ok.kind hg (Calls.loadGlobal_global (by rw [I.ok.glob]; exact I.mod.glob.keeps I.bk) hm h) hd
theorem ld_blt {E : Value → Shared → Prop} {pins : List (Addr × Obj)} {s : Shared} {σ : St} {H : Hp} {x : Str} {u : Value} {pos : Pos} {Q : Value → Shared → Prop} (I : Inv X pins σ H s) (hg : Gl X x) (hm : X.mg x = none) (hv : bootBuiltins x = some u) (h : Q u s)
    (hn : x ≠ "__name__" := by decide) (hd : (x == ("__debug__" : Str)) = false := by decide) : wpAny (model X.prog X.w) X.A (eval (.Name x pos) X.env) Q E s := by
  obtain ⟨mb, h1, h2⟩ := I.mod.blt
  exact Calls.Name_function_global I.ok.kind hg (Calls.loadGlobal_builtin (by rw [I.ok.glob]; exact I.mod.glob.keeps I.bk) hm (by rw [I.ok.blt]; exact h1.keeps I.bk) ((h2 x hn).trans hv) h) hd
theorem pe_bltn {x : Str} {v : V} {u : Value} {pos : Pos} (hg : Gl X x) (hm : X.mg x = none) (hv : bootBuiltins x = some u) (r : RelV v u) (hn : x ≠ "__name__" := by decide) (hd : (x == ("__debug__" : Str)) = false := by decide) : PE X (.Name x pos) (tC v) :=
  fun _ _ _ H _ I h => ld_blt I hg hm hv ⟨v, H, I, r, h⟩ hn hd

/-! ### arithmetic -/
variable {a b : Expr} {ta tb : TE} {pos : Pos}
/-! ### comparisons -/
/-! ### and, or, not -/
variable {tA tB' : TT} {rest : List Expr}
def tAnd (t u : TT) : TT := fun σ H Q => t σ H fun c H1 => if c = true then u σ H1 Q else Q false H1
def tOr (t u : TT) : TT := fun σ H Q => t σ H fun c H1 => if c = true then Q true H1 else u σ H1 Q
def tNot (t : TT) : TT := fun σ H Q => t σ H fun c H1 => Q (!c) H1
theorem pw_and1 (ha : PT X a tA) : PW X (.BoolOp .And [a] pos) tA := by
  intro wh pins s σ H Q I h
  refine isTrue_and (thn (ha pins s σ H Q I h) fun c s1 e => ?_)
  cases c with
  | true => exact isTrue_and_nil e
  | false => exact e
theorem pw_or1 (ha : PT X a tA) : PW X (.BoolOp .Or [a] pos) tA := by
  intro wh pins s σ H Q I h
  refine isTrue_or (thn (ha pins s σ H Q I h) fun c s1 e => ?_)
  cases c with
  | false => exact isTrue_or_nil e
  | true => exact e
theorem pw_and (ha : PT X a tA) (hb : PW X (.BoolOp .And (b :: rest) pos) tB') : PW X (.BoolOp .And (a :: b :: rest) pos) (tAnd tA tB') := by
  intro wh pins s σ H Q I h
  refine isTrue_and (thn (ha pins s σ H _ I h) fun c s1 ⟨H1, I1, q1⟩ => ?_)
  cases c with
  | true => exact hb wh pins s1 σ H1 Q I1 q1
  | false => exact ⟨H1, I1, q1⟩
theorem pw_or (ha : PT X a tA) (hb : PW X (.BoolOp .Or (b :: rest) pos) tB') : PW X (.BoolOp .Or (a :: b :: rest) pos) (tOr tA tB') := by
  intro wh pins s σ H Q I h
  refine isTrue_or (thn (ha pins s σ H _ I h) fun c s1 ⟨H1, I1, q1⟩ => ?_)
  cases c with
  | true => exact ⟨H1, I1, q1⟩
  | false => exact hb wh pins s1 σ H1 Q I1 q1
theorem pt_not (ha : PT X a tA) : PT X (.UnaryOp .Not a pos) (tNot tA) := by
  intro pins s σ H Q I h
  exact isTrue_not (ha pins s σ H (fun c H1 => Q (!c) H1) I h)
/-- .. as values (bools) -/
def tAndV (ta tb : TE) : TE := fun σ H Q => ta σ H fun x H1 => ∃ c, x = .bl c ∧ if c = true then tb σ H1 Q else Q (.bl false) H1
def tOrV (ta tb : TE) : TE := fun σ H Q => ta σ H fun x H1 => ∃ c, x = .bl c ∧ if c = true then Q (.bl true) H1 else tb σ H1 Q
theorem pe_one {op} {t : TE} (h : PE X a t) : PE X (.BoolOp op [a] pos) t := fun pins s σ H Q I hw => BoolOp_one (h pins s σ H Q I hw)
theorem pe_and (ha : PE X a ta) (hb : PE X (.BoolOp .And (b :: rest) pos) tb) : PE X (.BoolOp .And (a :: b :: rest) pos) (tAndV ta tb) := by
  intro pins s σ H Q I h
  refine BoolOp_and (thn (ha pins s σ H _ I h) fun v s1 ⟨x, H1, I1, r1, q1⟩ => ?_)
  obtain ⟨c, rfl, q1⟩ := q1
  cases r1
  refine wpAny_truthy_bool ?_
  cases c with
  | true => exact hb pins s1 σ H1 Q I1 q1
  | false => exact ⟨.bl false, H1, I1, rfl, q1⟩
/-- a if t else b -/
def tIf (t : TT) (ta tb : TE) : TE := fun σ H Q => t σ H fun c H1 => if c = true then ta σ H1 Q else tb σ H1 Q
end
end L2

namespace L2
open PySem PySem.Spec PyProof.Rows

/-! ### a list, a tuple that is read: tracked, frozen, or an object of the module -/
def SqL (K : PySem.W.Frag) (H : Hp) (a : Addr) (xs : List V) : Prop :=
  Rd H a (.lst xs) ∨
    ∃ (o : Obj) (its : Array Value) (n : Nat), K.lookup a = some o ∧ o.cls = .type "list" ∧ o.dict = none ∧ o.data = .seq its n ∧ its.size ≤ sizeLine ∧ Vals xs its.toList
def SqT (K : PySem.W.Frag) (H : Hp) (a : Addr) (xs : List V) : Prop :=
  Rd H a (.tup xs) ∨
    ∃ (o : Obj) (its : Array Value) (n : Nat), K.lookup a = some o ∧ o.cls = .type "tuple" ∧ o.data = .seq its n ∧ its.size ≤ sizeLine ∧ Vals xs its.toList
def absV : Value → Option V
  | .none => some .non
  | .bool b => some (.bl b)
  | .int i _ => some (.int i)
  | .str x _ => some (.str x)
  | .bytes b _ => some (.byt b)
  | .float b _ => some (.flt b)
  | .ref a => some (.ref a)
  | .type n => some (.ty n)
  | _ => none
theorem RelV.abs {x : V} {u : Value} (r : RelV x u) : absV u = some x := by
  cases x with
  | non => cases r; rfl
  | bl _ => cases r; rfl
  | int _ => obtain ⟨t, rfl⟩ := r; rfl
  | str _ => obtain ⟨t, rfl⟩ := r; rfl
  | byt _ => obtain ⟨t, rfl⟩ := r; rfl
  | flt _ => obtain ⟨t, rfl⟩ := r; rfl
  | ref _ => cases r; rfl
  | ty _ => cases r; rfl
theorem RelV.inj {x y : V} {u : Value} (r : RelV x u) (q : RelV y u) : x = y := Option.some.inj (r.abs.symm.trans q.abs)
theorem Vals.inj : ∀ {xs ys : List V} {us : List Value}, Vals xs us → Vals ys us → xs = ys
  | _, _, _, .nil, .nil => rfl
  | _, _, _, .cons r t, .cons r' t' => by rw [r.inj r', Vals.inj t t']
section
variable {X : Cx} {pins : List (Addr × Obj)} {σ : St} {H : Hp} {s : Shared} {a : Addr} {xs ys : List V}
theorem SqL.of {K : PySem.W.Frag} (h : H a = some (.lst xs)) : SqL K H a xs := .inl (.inl h)
theorem SqT.of {K : PySem.W.Frag} (h : H a = some (.tup xs)) : SqT K H a xs := .inl (.inl h)
theorem Inv.list (I : Inv X pins σ H s) (h : SqL X.K H a xs) : ∃ its : List Value, Vals xs its ∧ PlainL s.heap a its.toArray ∧ xs.length ≤ sizeLine := by
  rcases h with h | ⟨o, its, n, hk, hc, hd, hs, hz, r⟩
  · obtain ⟨z, its, n, r, e⟩ := h.ok I.hok
    exact ⟨its, r, ⟨_, n, e, rfl, rfl, rfl⟩, z⟩
  · refine ⟨its.toList, r, ⟨o, n, I.kIn a o hk, hc, hd, by simpa using hs⟩, ?_⟩
    have e := r.length
    simp only [Array.length_toList] at e
    omega
theorem Inv.tuple (I : Inv X pins σ H s) (h : SqT X.K H a xs) : ∃ its : List Value, Vals xs its ∧ IsTup s.heap a its.toArray ∧ xs.length ≤ sizeLine := by
  rcases h with h | ⟨o, its, n, hk, hc, hs, hz, r⟩
  · obtain ⟨z, its, r, p⟩ := h.ok I.hok
    exact ⟨its, r, p, z⟩
  · refine ⟨its.toList, r, ⟨o, I.kIn a o hk, hc, n, by simpa using hs⟩, ?_⟩
    have e := r.length
    simp only [Array.length_toList] at e
    omega
theorem Inv.list_inj (I : Inv X pins σ H s) (h : SqL X.K H a xs) (h' : SqL X.K H a ys) : xs = ys := by
  obtain ⟨its, r, ⟨o, n, e, _, _, d⟩, _⟩ := I.list h
  obtain ⟨its', r', ⟨o', n', e', _, _, d'⟩, _⟩ := I.list h'
  rw [e] at e'; cases e'
  rw [d] at d'
  injection d' with d1 _
  have : its = its' := by simpa using congrArg Array.toList d1
  subst this
  exact r.inj r'
theorem Inv.tuple_inj (I : Inv X pins σ H s) (h : SqT X.K H a xs) (h' : SqT X.K H a ys) : xs = ys := by
  obtain ⟨its, r, ⟨o, e, _, n, d⟩, _⟩ := I.tuple h
  obtain ⟨its', r', ⟨o', e', _, n', d'⟩, _⟩ := I.tuple h'
  rw [e] at e'; cases e'
  rw [d] at d'
  injection d' with d1 _
  have : its = its' := by simpa using congrArg Array.toList d1
  subst this
  exact r.inj r'
end

/-! ### another wish about exceptions -/
abbrev Cx.wish (X : Cx) (E : Value → Shared → Prop) : Cx := { X with xe := E }
/-- no exception leaves -/
abbrev Cx.nox (X : Cx) : Cx := X.wish fun _ _ => False
theorem Cx.Ok.wish {X : Cx} (ok : X.Ok) (E : Value → Shared → Prop) : (X.wish E).Ok :=
  ⟨ok.mod, ok.kind, ok.glob, ok.blt, ok.above, ok.inj, ok.has, ok.cab, ok.hd, ok.frames, ok.stk, ok.exf, ok.bs, ok.bsz, ok.noex, ok.exfs, ok.funs, ok.frf⟩
theorem Cx.Ok.unwish {X : Cx} {E : Value → Shared → Prop} (ok : (X.wish E).Ok) : X.Ok :=
  ⟨ok.mod, ok.kind, ok.glob, ok.blt, ok.above, ok.inj, ok.has, ok.cab, ok.hd, ok.frames, ok.stk, ok.exf, ok.bs, ok.bsz, ok.noex, ok.exfs, ok.funs, ok.frf⟩
section
variable {X : Cx} {pins : List (Addr × Obj)} {σ : St} {H : Hp} {s : Shared} {E : Value → Shared → Prop}
theorem Inv.wish (I : Inv X pins σ H s) (E : Value → Shared → Prop) : Inv (X.wish E) pins σ H s := ⟨I.ok.wish E, I.os, I.bare, I.base, I.loc, I.cell, I.free, I.freeC, I.pin, I.hok, I.len⟩
theorem Inv.unwish (I : Inv (X.wish E) pins σ H s) : Inv X pins σ H s := ⟨I.ok.unwish, I.os, I.bare, I.base, I.loc, I.cell, I.free, I.freeC, I.pin, I.hok, I.len⟩
theorem SP.unwish {D : Ends} {f : Flow} {s' : Shared} (h : SP (X.wish E) pins D f s') : SP X pins D f s' := by
  cases f with
  | next => obtain ⟨σ', H', I, q⟩ := h; exact ⟨σ', H', I.unwish, q⟩
  | brk => obtain ⟨σ', H', I, q⟩ := h; exact ⟨σ', H', I.unwish, q⟩
  | cont => obtain ⟨σ', H', I, q⟩ := h; exact ⟨σ', H', I.unwish, q⟩
  | ret u => obtain ⟨v, σ', H', I, r, q⟩ := h; exact ⟨v, σ', H', I.unwish, r, q⟩
theorem PE.nox {e : Expr} {t : TE} (h : PE X.nox e t) : PE X e t := fun pins s σ H Q I hw =>
  wpAny_mono (h pins s σ H Q (I.wish _) hw) (fun _ _ ⟨v, H', I', r, q⟩ => ⟨v, H', I'.unwish, r, q⟩) fun _ _ z => False.elim z
theorem PT.nox {e : Expr} {t : TT} (h : PT X.nox e t) : PT X e t := fun pins s σ H Q I hw =>
  wpAny_mono (h pins s σ H Q (I.wish _) hw) (fun _ _ ⟨H', I', q⟩ => ⟨H', I'.unwish, q⟩) fun _ _ z => False.elim z
theorem PSs.nox {st : List Stmt} {t : TS} (h : PSs X.nox st t) : PSs X st t := fun pins s σ H D I hw =>
  wpAny_mono (h pins s σ H D (I.wish _) hw) (fun _ _ q => q.unwish) fun _ _ z => False.elim z
end

/-! ### blocks and small statements -/
section
variable {X : Cx} {st : Stmt} {rest : List Stmt} {t u : TS} {e : Expr} {te : TE} {pos : Pos}
def tNext : TS := fun D σ H => D.nx σ H
def tSeq (t u : TS) : TS := fun D σ H => t { D with nx := u D } σ H
theorem pss_nil : PSs X [] tNext := fun _ _ σ H _ I h => wpAny_execs_nil ⟨σ, H, I, h⟩
theorem pss_cons (h1 : PS X st t) (h2 : PSs X rest u) : PSs X (st :: rest) (tSeq t u) := by
  intro pins s σ H D I h
  refine wpAny_execs_cons (thn (h1 pins s σ H { D with nx := u D } I h) fun f s1 q => ?_)
  cases f with
  | next =>
    obtain ⟨σ', H', I', q⟩ := q
    exact h2 pins s1 σ' H' D I' q
  | ret v => exact q
  | brk => exact q
  | cont => exact q
theorem pss_one (h1 : PS X st t) : PSs X [st] t := by
  intro pins s σ H D I h
  refine wpAny_execs_cons (thn (h1 pins s σ H D I h) fun f s1 q => ?_)
  cases f with
  | next => exact wpAny_execs_nil q
  | ret v => exact q
  | brk => exact q
  | cont => exact q
def tBreak : TS := fun D σ H => D.bk σ H
def tCont : TS := fun D σ H => D.ct σ H
/-- in a def's body nothing is shown -/
theorem Inv.quiet {pins : List (Addr × Obj)} {σ : St} {H : Hp} {s : Shared} (I : Inv X pins σ H s) : interactive X.env = false := by simp [interactive, I.ok.kind]
/-- an expression whose value is dropped -/
def tDrop (te : TE) : TS := fun D σ H => te σ H fun _ H1 => D.nx σ H1
theorem ps_expr (he : PE X e te) (hs : swapsWith e none pos.line X.env = pure false := by rfl) : PS X (.Expr e pos) (tDrop te) := by
  intro pins s σ H D I h
  exact wpAny_Expr_any (thn (he pins s σ H _ I h) fun v s1 ⟨x, H1, I1, r1, q1⟩ => ⟨σ, H1, I1, q1⟩) I.quiet hs
def tRet (te : TE) : TS := fun D σ H => te σ H D.rt
theorem ps_ret (he : PE X e te) : PS X (.Return (some e) pos) (tRet te) := by
  intro pins s σ H D I h
  exact wpAny_Return_some (thn (he pins s σ H _ I h) fun v s1 ⟨x, H1, I1, r1, q1⟩ => ⟨x, σ, H1, I1, r1, q1⟩)
def tRetN : TS := fun D _ H => D.rt .non H
def tIfS (c : TT) (t u : TS) : TS := fun D σ H => c σ H fun b H1 => if b = true then t D σ H1 else u D σ H1
theorem ps_if {c : Expr} {a b : List Stmt} {tc : TT} (hc : PT X c tc) (ha : PSs X a t) (hb : PSs X b u) : PS X (.If c a b pos) (tIfS tc t u) := by
  intro pins s σ H D I h
  refine wpAny_If (thn (hc pins s σ H _ I h) fun d s1 ⟨H1, I1, q1⟩ => ?_)
  cases d with
  | true => exact ha pins s1 σ H1 D I1 q1
  | false => exact hb pins s1 σ H1 D I1 q1
end

/-! ### targets -/
abbrev TG := V → St → Hp → (St → Hp → Prop) → Prop
abbrev TGs := List V → St → Hp → (St → Hp → Prop) → Prop
def PG (X : Cx) (target : Expr) (t : TG) : Prop :=
  ∀ (pins : List (Addr × Obj)) (s : Shared) (σ : St) (H : Hp) (v : V) (u : Value) (Q : St → Hp → Prop), Inv X pins σ H s → RelV v u → t v σ H Q →
    wpAny (model X.prog X.w) X.A (assign target X.env u) (fun _ s' => ∃ σ' H', Inv X pins σ' H' s' ∧ Q σ' H') X.xe s
/-- o[i] = v, by values -/
abbrev TSet := V → V → V → Hp → (Hp → Prop) → Prop
def PSet (X : Cx) (t : TSet) : Prop :=
  ∀ (pins : List (Addr × Obj)) (s : Shared) (σ : St) (H : Hp) (o i v : V) (ov iv u : Value) (Q : Hp → Prop), Inv X pins σ H s → RelV o ov → RelV i iv → RelV v u → t o i v H Q →
    wpAny (model X.prog X.w) X.A (setItem ov iv u) (fun _ s' => ∃ H', Inv X pins σ H' s' ∧ Q H') X.xe s
/-- a op= b, by values -/
abbrev TIp := V → V → Hp → VK → Prop
section
variable {X : Cx} {pos : Pos}
def gName (i : Nat) : TG := fun v σ H Q => Q (σ.set i (some v)) H
theorem pg_name {i : Nat} {x : Str} (hN : X.N.Nodup) (hi : X.N[i]? = some x) (hx : Loc X.env.scope x) (hf : X.fn x = true ∨ X.env.scope.names.lookup x = some .local := by first | exact .inl rfl | exact .inr rfl | assumption) : PG X (.Name x pos) (gName i) := by
  intro pins s σ H v u Q I r h
  exact wpAny_assign_Name (store_ok I hN hi hx r (fun s' I' => ⟨_, H, I', h⟩) hf)
def gNil : TGs := fun vs σ H Q => vs = [] ∧ Q σ H
def gCons (t : TG) (u : TGs) : TGs := fun vs σ H Q => ∃ v r, vs = v :: r ∧ t v σ H fun σ' H' => u r σ' H' Q
/-- (a, b, ..) = a tuple of that length -/
def gTup (K : PySem.W.Frag) (n : Nat) (t : TGs) : TG := fun v σ H Q => ∃ a xs, v = .ref a ∧ SqT K H a xs ∧ xs.length = n ∧ t xs σ H Q
/-- o[i] = .. -/
def gSub (to ti : TE) (t : TSet) : TG := fun v σ H Q => to σ H fun o H1 => ti σ H1 fun i H2 => t o i v H2 fun H3 => Q σ H3
theorem pg_sub {o i : Expr} {to ti : TE} {t : TSet} (ho : PE X o to) (hi : PE X i ti) (hs : PSet X t)
    (ha : ∀ v, assign (.Subscript o i pos) X.env v = (do
      let ov ← holding [v] (eval o X.env)
      let iv ← holding [v, ov] (eval i X.env)
      standAt pos
      holding [v, ov, iv] (setItem ov iv v)
      release [v, ov, iv] []) := by intro _; rfl) : PG X (.Subscript o i pos) (gSub to ti t) := by
  intro pins s σ H v u Q I r h
  rw [ha]
  refine wpAny_bind (wpAny_holding (thn (ho pins s σ H _ I h) fun ov s1 ⟨x, H1, I1, r1, q1⟩ => ?_))
  refine wpAny_bind (wpAny_holding (thn (hi pins s1 σ H1 _ I1 q1) fun iv s2 ⟨y, H2, I2, r2, q2⟩ => ?_))
  refine wpAny_bind (wpAny_standAt (wpAny_bind (wpAny_holding (thn (hs pins s2 σ H2 x y v ov iv u _ I2 r1 r2 r q2) fun _ s3 ⟨H3, I3, q3⟩ => ?_))))
  exact wpAny_release ⟨σ, H3, I3, q3⟩
/-- target = value -/
def tAsg (te : TE) (g : TG) : TS := fun D σ H => te σ H fun x H1 => g x σ H1 D.nx
theorem ps_asg {tg e : Expr} {te : TE} {g : TG} (he : PE X e te) (hg : PG X tg g) (hs : swapsWithSole [tg] e pos.line X.env = pure false := by rfl) (hw : swappedStores [tg] e X.env = pure none := by rfl)
    (h1 : (assignEach [tg] X.env).map (·.2) = [assign tg X.env] := by rfl) : PS X (.Assign [tg] e pos) (tAsg te g) := by
  intro pins s σ H D I h
  refine wpAny_Assign_stores (thn (he pins s σ H _ I h) fun v s1 ⟨x, H1, I1, r1, q1⟩ => ?_) hs hw
  rw [h1]
  exact thn (hg pins s1 σ H1 x v _ I1 r1 q1) fun _ s2 q => q
/-- name = value -/
theorem ps_set {i : Nat} {x : Str} {e : Expr} {te : TE} {pos' : Pos} (hN : X.N.Nodup) (hi : X.N[i]? = some x) (hx : Loc X.env.scope x) (he : PE X e te) (hs : swapsWith e (some (.Name x pos')) pos.line X.env = pure false := by rfl) (hf : X.fn x = true ∨ X.env.scope.names.lookup x = some .local := by first | exact .inl rfl | exact .inr rfl | assumption) :
    PS X (.Assign [.Name x pos'] e pos) (tAsg te (gName i)) := by
  intro pins s σ H D I h
  refine wpAny_Assign_Name (thn (he pins s σ H _ I h) fun v s1 ⟨y, H1, I1, r1, q1⟩ => ?_) hs
  exact store_ok I1 hN hi hx r1 (fun s2 I2 => ⟨_, H1, I2, q1⟩) hf
/-- name op= e -/
def tAug (i : Nat) (te : TE) (ti : TIp) : TS := fun D σ H => ∃ x, σ[i]? = some (some x) ∧ te σ H fun y H1 => ti x y H1 fun z H2 => D.nx (σ.set i (some z)) H2
/-- ints -/
def ipI (f : Int → Int → Int) : TIp := fun x y H Q => ∃ i j, x = .int i ∧ y = .int j ∧ Q (.int (f i j)) H
end

/-! ### while -/
section
variable {X : Cx} {pos : Pos}
end

/-! ### what a loop or a comprehension walks -/
/-- at turn i: it yields x (the heap may grow), or it stops -/
structure It where
  go : Nat → Hp → Prop
  yld : Nat → Hp → V → Hp → Prop
  stop : Nat → Hp → Prop
/-- the iterator's own objects may turn: they are not the frame's, not pinned, younger than the entry (or a comprehension's own) -/
def FpOk (X : Cx) (pins : List (Addr × Obj)) (H : Hp) (b : Addr) : Prop :=
  H b = none ∧ b ≠ X.env.locals ∧ b ∉ X.fs ∧ (b ∈ X.ex ∨ X.s₀.heap.objs.size ≤ b) ∧ (∀ x c, X.env.cells.lookup x = some c → c ≠ b) ∧ ∀ p ∈ X.pn ++ pins, p.1 ≠ b
theorem Inv.fpOk {X : Cx} {pins : List (Addr × Obj)} {σ : St} {H H' : Hp} {s : Shared} {b : Addr} (I : Inv X pins σ H s) (hb : s.heap.objs.size ≤ b) (hn : H' b = none) : FpOk X pins H' b := by
  refine ⟨hn, Nat.ne_of_gt (Nat.lt_of_lt_of_le I.lt hb), I.nofs hb, .inr (Nat.le_trans I.sz hb), fun x c e z => ?_, fun p hp z => ?_⟩
  · obtain ⟨v, q⟩ := I.cell x c e
    exact absurd (Nat.lt_of_lt_of_le q.lt (by rw [z]; exact hb)) (Nat.lt_irrefl _)
  · exact absurd (Nat.lt_of_lt_of_le (Heap.lt_size (I.pin p hp).1) (by rw [z]; exact hb)) (Nat.lt_irrefl _)
structure Turn (P : Program) (w : World) (K : PySem.W.Frag) (tg : Expr) (J : It) (fp : List Addr) (it : Addr) (tn : Nat → Heap → Prop) : Prop where
  mem : it ∈ fp
  obj : ∀ i h, tn i h → ∀ b ∈ fp, ∃ o, h.get? b = some o ∧ ∀ v, o.data ≠ .cell v
  keep : ∀ i h h', tn i h → (∀ b ∈ fp, ∀ o, h.get? b = some o → h'.get? b = some o) → tn i h'
  item : ∀ (X : Cx), X.prog = P → X.w = w → X.K = K → X.calm = true → ∀ (i : Nat) (pins : List (Addr × Obj)) (s : Shared) (σ : St) (H : Hp) (E : Value → Shared → Prop), Inv X pins σ H s → (∀ b ∈ fp, FpOk X pins H b) → tn i s.heap → J.go i H →
    wpAny (model P w) X.A (pyNext (.ref it)) (fun r s1 => ∃ u, r = some u ∧
      wpAny (model P w) X.A (letOwnedTupleGo tg (.ref it) u) (fun _ s2 => ∃ x H', Inv X pins σ H' s2 ∧ RelV x u ∧ J.yld i H x H' ∧ tn (i + 1) s2.heap ∧ ∀ b ∈ fp, H' b = none) E s1) E s
  done : ∀ (X : Cx), X.prog = P → X.w = w → X.K = K → X.calm = true → ∀ (i : Nat) (pins : List (Addr × Obj)) (s : Shared) (σ : St) (H : Hp) (E : Value → Shared → Prop), Inv X pins σ H s → (∀ b ∈ fp, FpOk X pins H b) → tn i s.heap → J.stop i H →
    wpAny (model P w) X.A (pyNext (.ref it)) (fun r s1 => r = none ∧ Inv X pins σ H s1) E s
  self : ∀ (A : Around) (i : Nat) (s : Shared) (Q : Value → Shared → Prop) (E : Value → Shared → Prop), tn i s.heap → Q (.ref it) s → wpAny (model P w) A (pyIter (.ref it)) Q E s
abbrev TI := St → Hp → (It → Hp → Prop) → Prop
/-- an iterator has come -/
def PIE (X : Cx) (pins : List (Addr × Obj)) (σ : St) (tg : Expr) (R : It → Hp → Prop) (itv : Value) (s2 : Shared) : Prop :=
  ∃ (it : Addr) (fp : List Addr) (tn : Nat → Heap → Prop) (J : It) (H' : Hp), itv = .ref it ∧ Inv X pins σ H' s2 ∧ Turn X.prog X.w X.K tg J fp it tn ∧ tn 0 s2.heap ∧ (∀ b ∈ fp, FpOk X pins H' b) ∧ R J H'
def PI (X : Cx) (tg iter : Expr) (wi : TI) : Prop :=
  ∀ (pins : List (Addr × Obj)) (s : Shared) (σ : St) (H : Hp) (R : It → Hp → Prop), Inv X pins σ H s → wi σ H R →
    wpAny (model X.prog X.w) X.A (eval iter X.env) (fun v s1 => wpAny (model X.prog X.w) X.A (pyIter v) (PIE X pins σ tg R) X.xe s1) X.xe s

/-- the step ahead of the store is nothing for an iterator that keeps no tuple -/
theorem go_of {M : Model} {A : Around} {E : Value → Shared → Prop} {s : Shared} {tg : Expr} {it : Addr} {u : Value} {o : Obj} {n : String} {vs : Array Value} {Q : Unit → Shared → Prop} (ho : s.heap.get? it = some o) (hc : o.cls = .type n) (hd : o.data = .fields vs)
    (hn : ["enumerate", "zip", "dict_itemiterator", "dict_reverseitemiterator", "odict_iterator", "itertools.zip_longest", "itertools.pairwise"].contains n = false) (hQ : Q () s) : wpAny M A (letOwnedTupleGo tg (.ref it) u) Q E s := by
  unfold letOwnedTupleGo
  cases tg <;> first
    | exact wpAny_pure hQ
    | (cases u <;> first
        | exact wpAny_pure hQ
        | (refine wpAny_bind (wpAny_load ho ?_)
           rw [hc, hd]
           show wpAny M A (if (["enumerate", "zip", "dict_itemiterator", "dict_reverseitemiterator", "odict_iterator", "itertools.zip_longest", "itertools.pairwise"].contains n && vs[0]? == some (rawInt _)) = true then _ else _) Q E s
           rw [if_neg (by intro h; rw [hn, Bool.false_and] at h; cases h)]
           exact wpAny_pure hQ))

/-- the list at a, as it stands at each turn (a loop may append to it) -/
def Itl (K : PySem.W.Frag) (a : Addr) : It :=
  ⟨fun i H => ∃ xs x, SqL K H a xs ∧ xs[i]? = some x, fun i H x H' => H' = H ∧ ∀ xs, SqL K H a xs → xs[i]? = some x, fun i H => ∃ xs, SqL K H a xs ∧ xs.length ≤ i⟩
def Itt (K : PySem.W.Frag) (a : Addr) : It :=
  ⟨fun i H => ∃ xs x, SqT K H a xs ∧ xs[i]? = some x, fun i H x H' => H' = H ∧ ∀ xs, SqT K H a xs → xs[i]? = some x, fun i H => ∃ xs, SqT K H a xs ∧ xs.length ≤ i⟩
/-- lo, lo + 1, .. (n of them) -/
def Itr (lo : Int) (n : Nat) : It := ⟨fun i _ => i < n, fun i H x H' => H' = H ∧ x = .int (lo + i), fun i _ => n ≤ i⟩
theorem turn_list {P : Program} {w : World} {K : PySem.W.Frag} {tg : Expr} (a it : Addr) : Turn P w K tg (Itl K a) [it] it (fun i h => h.IsListIter it a i) where
  mem := by simp
  obj := fun i h st b hb => by
    have e : b = it := by simpa using hb
    subst e
    obtain ⟨o, e, c, d⟩ := st
    exact ⟨o, e, fun v z => by rw [d] at z; cases z⟩
  keep := fun i h h' st k => st.at fun o e => k it (by simp) o e
  item := by
    intro X hP hw hK hc i pins s σ H E I hf st hg
    subst hP hw hK
    obtain ⟨xs, x, hq, hx⟩ := hg
    obtain ⟨its, rv, p, hz⟩ := I.list hq
    obtain ⟨u, hu, ru⟩ := rv.get hx
    obtain ⟨f0, f1, f2, f3, f4, f5⟩ := hf it (by simp)
    refine wpAny_pyNext_list_item st p.isList (x := u) (by simpa using hu) fun h' st' sb => ?_
    have I1 : Inv X pins σ H { s with heap := h' } := I.turned (t' := s.toks) (fun b o hb e => (sb.2 b hb).trans e) f0 f1 f3 f4 f5
    obtain ⟨o, e, c, d⟩ := id st'
    exact ⟨u, rfl, go_of (s := { s with heap := h' }) e c d (by decide) ⟨x, H, I1, ru, ⟨rfl, fun ys hy => by rw [I.list_inj hy hq]; exact hx⟩, st', fun b hb => (hf b hb).1⟩⟩
  done := by
    intro X hP hw hK hc i pins s σ H E I hf st hg
    subst hP hw hK
    obtain ⟨xs, hq, hx⟩ := hg
    obtain ⟨its, rv, p, hz⟩ := I.list hq
    obtain ⟨f0, f1, f2, f3, f4, f5⟩ := hf it (by simp)
    have hl := rv.length
    exact wpAny_pyNext_list_end (I.ok.hd hc) st p.isList (by simp; omega) fun h' eb => ⟨rfl, I.turned (t' := s.toks) (fun b o hb e => eb b o hb e) f0 f1 f3 f4 f5⟩
  self := fun _ _ _ _ _ st h => wpAny_pyIter_listiter st h
theorem turn_tuple {P : Program} {w : World} {K : PySem.W.Frag} {tg : Expr} (a it : Addr) : Turn P w K tg (Itt K a) [it] it (fun i h => h.IsTupleIter it a i) where
  mem := by simp
  obj := fun i h st b hb => by
    have e : b = it := by simpa using hb
    subst e
    obtain ⟨o, e, c, d⟩ := st
    exact ⟨o, e, fun v z => by rw [d] at z; cases z⟩
  keep := fun i h h' st k => st.at fun o e => k it (by simp) o e
  item := by
    intro X hP hw hK hc i pins s σ H E I hf st hg
    subst hP hw hK
    obtain ⟨xs, x, hq, hx⟩ := hg
    obtain ⟨its, rv, p, hz⟩ := I.tuple hq
    obtain ⟨u, hu, ru⟩ := rv.get hx
    obtain ⟨f0, f1, f2, f3, f4, f5⟩ := hf it (by simp)
    refine wpAny_pyNext_tuple_item st (show s.heap.IsTuple a its.toArray from p) (x := u) (by simpa using hu) fun h' st' sb => ?_
    have I1 : Inv X pins σ H { s with heap := h' } := I.turned (t' := s.toks) (fun b o hb e => (sb.2 b hb).trans e) f0 f1 f3 f4 f5
    obtain ⟨o, e, c, d⟩ := id st'
    exact ⟨u, rfl, go_of (s := { s with heap := h' }) e c d (by decide) ⟨x, H, I1, ru, ⟨rfl, fun ys hy => by rw [I.tuple_inj hy hq]; exact hx⟩, st', fun b hb => (hf b hb).1⟩⟩
  done := by
    intro X hP hw hK hc i pins s σ H E I hf st hg
    subst hP hw hK
    obtain ⟨xs, hq, hx⟩ := hg
    obtain ⟨its, rv, p, hz⟩ := I.tuple hq
    obtain ⟨f0, f1, f2, f3, f4, f5⟩ := hf it (by simp)
    have hl := rv.length
    exact wpAny_pyNext_tuple_end (I.ok.hd hc) st (show s.heap.IsTuple a its.toArray from p) (by simp; omega) fun h' eb => ⟨rfl, I.turned (t' := s.toks) (fun b o hb e => eb b o hb e) f0 f1 f3 f4 f5⟩
  self := fun _ _ _ _ _ st h => wpAny_pyIter_tupleiter st h
theorem turn_range {P : Program} {w : World} {K : PySem.W.Frag} {tg : Expr} (it : Addr) (lo : Int) (n : Nat) : Turn P w K tg (Itr lo n) [it] it (fun i h => IsRangeIter h it (lo + (i : Nat) * 1) ((n : Int) - (i : Nat)) 1) where
  mem := by simp
  obj := fun i h st b hb => by
    have e : b = it := by simpa using hb
    subst e
    exact ⟨_, st, fun v z => by
      have z' : Data.fields _ = Data.cell v := z
      cases z'⟩
  keep := fun i h h' st k => k it (by simp) _ st
  item := by
    intro X hP hw hK hc i pins s σ H E I hf st hg
    subst hP hw hK
    obtain ⟨f0, f1, f2, f3, f4, f5⟩ := hf it (by simp)
    have W := Walks.range (prog := X.prog) (w := X.w) (I.ok.hd hc) it lo 1 n
    refine W.item i s _ _ hg st fun v h' tk hv st' kk => ?_
    obtain ⟨t, rfl⟩ := hv
    have I1 : Inv X pins σ H { s with heap := h', toks := tk } := I.turned (fun b o hb e => kk b o (by simpa using hb) e) f0 f1 f3 f4 f5
    refine ⟨_, rfl, go_of (s := { s with heap := h', toks := tk }) (n := "range_iterator") st' rfl rfl (by decide) ⟨.int (lo + i), H, I1, ⟨t, ?_⟩, ⟨rfl, rfl⟩, st', fun b hb => (hf b hb).1⟩⟩
    rw [Int.mul_one]
  done := by
    intro X hP hw hK hc i pins s σ H E I hf st hg
    subst hP hw hK
    obtain ⟨f0, f1, f2, f3, f4, f5⟩ := hf it (by simp)
    exact wpAny_pyNext_range_end (I.ok.hd hc) st (by have : n ≤ i := hg; omega) fun h' eb => ⟨rfl, I.turned (t' := s.toks) (fun b o hb e => eb b o hb e) f0 f1 f3 f4 f5⟩
  self := fun _ _ _ _ _ st h => wpAny_pyIter_rangeiter st h
end L2

namespace L2
open PySem PySem.Spec PyProof.Rows
section
variable {X : Cx} {tg : Expr}
/-- a range object just made, walked -/
theorem range_it {pins : List (Addr × Obj)} {σ : St} {H : Hp} {s : Shared} {R : It → Hp → Prop} {E : Value → Shared → Prop} {lo hi : Int} {t u v : Tok} {tk : Nat} (I : Inv X pins σ H s) (h1 : -(2 ^ 62) ≤ lo) (h2 : lo < 2 ^ 62) (h3 : -(2 ^ 62) ≤ hi) (h4 : hi < 2 ^ 62)
    (q : R (Itr lo (hi - lo).toNat) H) : wpAny (model X.prog X.w) X.A (pyIter (.ref s.heap.objs.size)) (PIE X pins σ tg R) E { s with heap := s.heap.push { cls := .type "range", data := .fields #[.int lo t, .int hi u, .int 1 v] }, toks := tk } := by
  refine wpAny_pyIter_range (IsRange.new ..) (small_one h1 h2 h3 h4) ?_
  have I1 : Inv X pins σ H { s with heap := s.heap.push { cls := .type "range", data := .fields #[.int lo t, .int hi u, .int 1 v] }, toks := tk } := I.kept fun b o e => Heap.get?_push_of_some _ e
  refine ⟨(s.heap.push { cls := .type "range", data := .fields #[.int lo t, .int hi u, .int 1 v] }).objs.size, [(s.heap.push { cls := .type "range", data := .fields #[.int lo t, .int hi u, .int 1 v] }).objs.size], _, _, H, rfl,
    I1.kept (t' := tk) fun b o e => Heap.get?_push_of_some _ e, turn_range _ lo (hi - lo).toNat, ?_, fun b hb => ?_, q⟩
  · have e1 : lo + ((0 : Nat) : Int) * 1 = lo := by simp
    have e2 : (((hi - lo).toNat : Nat) : Int) - ((0 : Nat) : Int) = Builtin.Range.rangeSize lo hi 1 := by rw [rangeSize_one]; split <;> omega
    show IsRangeIter _ _ (lo + ((0 : Nat) : Int) * 1) ((((hi - lo).toNat : Nat) : Int) - ((0 : Nat) : Int)) 1
    rw [e1, e2]
    exact Heap.get?_push_size _ rfl
  · have e : b = (s.heap.push { cls := .type "range", data := .fields #[.int lo t, .int hi u, .int 1 v] }).objs.size := by simpa using hb
    subst e
    exact I1.fpOk (Nat.le_refl _) (I1.hok.fresh (Nat.le_refl _))
def iRng1 (ta : TA) : TI := fun σ H R => ta σ H fun vs H1 => ∃ j : Int, vs = [.int j] ∧ -(2 ^ 62) ≤ j ∧ j < 2 ^ 62 ∧ R (Itr 0 j.toNat) H1
def iRng2 (ta : TA) : TI := fun σ H R => ta σ H fun vs H1 => ∃ i j : Int, vs = [.int i, .int j] ∧ (-(2 ^ 62) ≤ i ∧ i < 2 ^ 62 ∧ -(2 ^ 62) ≤ j ∧ j < 2 ^ 62) ∧ R (Itr i (j - i).toNat) H1
theorem pi_range1 {a : Expr} {ta : TA} {p pos : Pos} (hg : Gl X "range") (hm : X.mg "range" = none) (ha : PA X [a] ta) (hs : starEach [a] X.env = [(false, eval a X.env)] := by rfl) : PI X tg (.Call (.Name "range" p) [a] [] pos) (iRng1 ta) := by
  intro pins s σ H R I h
  refine Call_ (ld_blt I hg hm boot_range (PyProof.Rows.callWith_type1 (thn (ha pos pins s σ H _ I h) fun us s1 ⟨vs, H1, I1, r1, q1⟩ => ?_) hs rfl))
  obtain ⟨j, e, q1, q2, q⟩ := q1
  subst e
  cases r1 with
  | cons r rr =>
    cases rr
    obtain ⟨t, rfl⟩ := r
    exact call_range_1 (range_it I1 (by omega) (by omega) q1 q2 (by simpa using q))
/-! ### for -/
/-- W: the invariant by the turn and a measure; N: what the body is to reach -/
def tFor (wi : TI) (g : TG) (tb : TS) : TS := fun D σ H => wi σ H fun J H1 => ∃ W : Nat → Nat → St → Hp → Prop, (∃ m, W 0 m σ H1) ∧ ∀ i m σ H, W i m σ H →
  (J.stop i H ∧ D.nx σ H) ∨ (J.go i H ∧ ∃ N : St → Hp → Prop, (∀ σ' H', N σ' H' → ∃ m', m' < m ∧ W (i + 1) m' σ' H') ∧ ∀ x H', J.yld i H x H' → g x σ H' fun σ2 H2 => tb { D with nx := N, ct := N, bk := D.nx } σ2 H2)
/-- the records at fp as they stand -/
def pinsAt (fp : List Addr) (h : Heap) : List (Addr × Obj) := fp.filterMap fun b => (h.get? b).map fun o => (b, o)
theorem mem_pinsAt {fp : List Addr} {h : Heap} {b : Addr} {o : Obj} (hb : b ∈ fp) (e : h.get? b = some o) : (b, o) ∈ pinsAt fp h := List.mem_filterMap.mpr ⟨b, hb, by rw [e]; rfl⟩
theorem of_pinsAt {fp : List Addr} {h : Heap} {p : Addr × Obj} (hp : p ∈ pinsAt fp h) : p.1 ∈ fp ∧ h.get? p.1 = some p.2 := by
  obtain ⟨b, hb, e⟩ := List.mem_filterMap.mp hp
  cases q : h.get? b with
  | none => rw [q] at e; cases e
  | some o =>
    rw [q] at e
    have e' : (b, o) = p := Option.some.inj e
    subst e'
    exact ⟨hb, q⟩
theorem Inv.pinned {pins : List (Addr × Obj)} {σ : St} {H : Hp} {s : Shared} {fp : List Addr} (I : Inv X pins σ H s) (hf : ∀ b ∈ fp, FpOk X pins H b) (ho : ∀ b ∈ fp, ∃ o, s.heap.get? b = some o ∧ ∀ v, o.data ≠ .cell v) : Inv X (pins ++ pinsAt fp s.heap) σ H s :=
  I.pins_of fun p hp => (List.mem_append.mp hp).elim (fun z => I.pin p (List.mem_append_right _ z)) fun z => by
    obtain ⟨hb, e⟩ := of_pinsAt z
    obtain ⟨f0, f1, f2, _⟩ := hf p.1 hb
    obtain ⟨o, e', d⟩ := ho p.1 hb
    rw [e] at e'; cases e'
    exact ⟨e, f0, f1, f2, d⟩
theorem Inv.unpinned {pins pl : List (Addr × Obj)} {σ : St} {H : Hp} {s : Shared} (I : Inv X (pins ++ pl) σ H s) : Inv X pins σ H s := I.pins_of fun p hp => I.pin p (List.mem_append_right _ (List.mem_append_left _ hp))
theorem ps_for {iter : Expr} {body : List Stmt} {wi : TI} {g : TG} {tb : TS} {pos : Pos} (hp : PassesOwn (model X.prog X.w) X.A X.env X.xe) (hc : X.calm = true) (hi : PI X tg iter wi) (hg : PG X tg g) (hb : PSs X body tb)
    (hs : ∀ x, foldedSetIterable iter X.env x = pure x := by intro _; rfl) : PS X (.For tg iter body [] pos) (tFor wi g tb) := by
  intro pins s σ H D I h
  refine wpAny_For (thn (hi pins s σ H _ I h) fun v s1 h1 => thn h1 fun itv s2 h2 => ?_) hs
  obtain ⟨it, fp, tn, J, H2, e, I2, T, st2, f2, W, ⟨m0, w0⟩, turn⟩ := h2
  subst e
  -- what stays true of the iterator's objects through the loop
  have stat : ∀ {H' : Hp}, (∀ b ∈ fp, H' b = none) → ∀ b ∈ fp, FpOk X pins H' b := fun hn b hb => ⟨hn b hb, (f2 b hb).2⟩
  refine codeAny_forLoop_any (fun n s' => ∃ i σ' H', Inv X pins σ' H' s' ∧ tn i s'.heap ∧ (∀ b ∈ fp, H' b = none) ∧ W i n σ' H') ?_ m0 ⟨0, σ, H2, I2, st2, fun b hb => (f2 b hb).1, w0⟩
  rintro n s3 ⟨i, σ3, H3, I3, st3, fr3, w3⟩
  rcases turn i n σ3 H3 w3 with ⟨stop, qn⟩ | ⟨go, N, hN, step⟩
  · refine wpAny_passesOwn hp (thn (T.done X rfl rfl rfl hc i pins s3 σ3 H3 X.xe I3 (stat fr3) st3 stop) fun r s4 ⟨hr, I4⟩ => ?_)
    subst hr
    exact wpAny_execs_nil ⟨σ3, H3, I4, qn⟩
  · refine wpAny_passesOwn hp (thn (T.item X rfl rfl rfl hc i pins s3 σ3 H3 X.xe I3 (stat fr3) st3 go) fun r s4 ⟨u, hr, h4⟩ => ?_)
    subst hr
    refine wpAny_passesOwn hp (thn h4 fun _ s5 ⟨x, H5, I5, r5, y5, st5, fr5⟩ => ?_)
    have I5' := I5.pinned (stat fr5) (T.obj _ _ st5)
    refine wpAny_passesOwn hp (thn (hg _ s5 σ3 H5 x u _ I5' r5 (step x H5 y5)) fun _ s6 ⟨σ6, H6, I6, q6⟩ => ?_)
    refine wpAny_passesOwn hp (thn (hb _ s6 σ6 H6 _ I6 q6) fun f s7 q7 => ?_)
    have again : ∀ {σ7 : St} {H7 : Hp}, Inv X (pins ++ pinsAt fp s5.heap) σ7 H7 s7 → N σ7 H7 → ∃ m, m < n ∧ ∃ i σ' H', Inv X pins σ' H' s7 ∧ tn i s7.heap ∧ (∀ b ∈ fp, H' b = none) ∧ W i m σ' H' := fun {σ7 H7} I7 n7 => by
      obtain ⟨m', hm, w7⟩ := hN σ7 H7 n7
      refine ⟨m', hm, i + 1, σ7, H7, I7.unpinned, T.keep _ _ _ st5 fun b hb o e => (I7.pin (b, o) (List.mem_append_right _ (List.mem_append_right _ (mem_pinsAt hb e)))).1, fun b hb => ?_, w7⟩
      obtain ⟨o, e, d⟩ := T.obj _ _ st5 b hb
      exact (I7.pin (b, o) (List.mem_append_right _ (List.mem_append_right _ (mem_pinsAt hb e)))).2.1
    cases f with
    | next => obtain ⟨σ7, H7, I7, n7⟩ := q7; exact again I7 n7
    | cont => obtain ⟨σ7, H7, I7, n7⟩ := q7; exact again I7 n7
    | brk => obtain ⟨σ7, H7, I7, q7⟩ := q7; exact ⟨σ7, H7, I7.unpinned, q7⟩
    | ret v => obtain ⟨x7, σ7, H7, I7, r7, q7⟩ := q7; exact ⟨x7, σ7, H7, I7.unpinned, r7, q7⟩
end

/-! ### the forms one uses -/
/-- over a list that the body leaves as it is -/
theorem for_list {K : PySem.W.Frag} {a : Addr} {xs : List V} {g : TG} {tb : TS} {D : Ends} {σ : St} {H : Hp} (Pv : Nat → St → Hp → Prop) (h0 : Pv 0 σ H) (hl : ∀ i σ H, i ≤ xs.length → Pv i σ H → SqL K H a xs)
    (hs : ∀ i x σ H, xs[i]? = some x → Pv i σ H → g x σ H fun σ2 H2 => tb { D with nx := Pv (i + 1), ct := Pv (i + 1), bk := D.nx } σ2 H2) (hd : ∀ σ H, Pv xs.length σ H → D.nx σ H) :
    ∃ W : Nat → Nat → St → Hp → Prop, (∃ m, W 0 m σ H) ∧ ∀ i m σ H, W i m σ H →
      ((Itl K a).stop i H ∧ D.nx σ H) ∨ ((Itl K a).go i H ∧ ∃ N : St → Hp → Prop, (∀ σ' H', N σ' H' → ∃ m', m' < m ∧ W (i + 1) m' σ' H') ∧ ∀ x H', (Itl K a).yld i H x H' → g x σ H' fun σ2 H2 => tb { D with nx := N, ct := N, bk := D.nx } σ2 H2) := by
  refine ⟨fun i m σ H => m = xs.length - i ∧ i ≤ xs.length ∧ Pv i σ H, ⟨xs.length, by simp, Nat.zero_le _, h0⟩, ?_⟩
  rintro i m σ H ⟨rfl, hi, p⟩
  have q := hl i σ H hi p
  by_cases hlt : i < xs.length
  · refine .inr ⟨⟨xs, xs[i], q, by simp [hlt]⟩, Pv (i + 1), fun σ' H' p' => ⟨xs.length - (i + 1), by omega, rfl, hlt, p'⟩, fun x H' y => ?_⟩
    obtain ⟨e, y⟩ := y
    subst e
    exact hs i x σ _ (y xs q) p
  · have e : i = xs.length := by omega
    subst e
    exact .inl ⟨⟨xs, q, Nat.le_refl _⟩, hd σ H p⟩
theorem for_range {lo : Int} {n : Nat} {g : TG} {tb : TS} {D : Ends} {σ : St} {H : Hp} (Pv : Nat → St → Hp → Prop) (h0 : Pv 0 σ H)
    (hs : ∀ i σ H, i < n → Pv i σ H → g (.int (lo + i)) σ H fun σ2 H2 => tb { D with nx := Pv (i + 1), ct := Pv (i + 1), bk := D.nx } σ2 H2) (hd : ∀ σ H, Pv n σ H → D.nx σ H) :
    ∃ W : Nat → Nat → St → Hp → Prop, (∃ m, W 0 m σ H) ∧ ∀ i m σ H, W i m σ H →
      ((Itr lo n).stop i H ∧ D.nx σ H) ∨ ((Itr lo n).go i H ∧ ∃ N : St → Hp → Prop, (∀ σ' H', N σ' H' → ∃ m', m' < m ∧ W (i + 1) m' σ' H') ∧ ∀ x H', (Itr lo n).yld i H x H' → g x σ H' fun σ2 H2 => tb { D with nx := N, ct := N, bk := D.nx } σ2 H2) := by
  refine ⟨fun i m σ H => m = n - i ∧ i ≤ n ∧ Pv i σ H, ⟨n, by simp, Nat.zero_le _, h0⟩, ?_⟩
  rintro i m σ H ⟨rfl, hi, p⟩
  by_cases hlt : i < n
  · refine .inr ⟨hlt, Pv (i + 1), fun σ' H' p' => ⟨n - (i + 1), by omega, rfl, hlt, p'⟩, fun x H' y => ?_⟩
    obtain ⟨e, y⟩ := y
    subst e y
    exact hs i σ _ hlt p
  · have e : i = n := by omega
    subst e
    exact .inl ⟨Nat.le_refl _, hd σ H p⟩
end L2

namespace L2
open PySem PySem.Spec PyProof.Rows

abbrev R2 := V → V → Hp → VK → Prop
/-- a two-place operation on values: f is binaryOp op, inplaceOp op or compareOp op -/
def OpR (X : Cx) (f : Value → Value → Sem Value) (r : R2) : Prop :=
  ∀ (pins : List (Addr × Obj)) (s : Shared) (σ : St) (H : Hp) (x y : V) (v u : Value) (Q : VK), Inv X pins σ H s → RelV x v → RelV y u → r x y H Q →
    wpAny (model X.prog X.w) X.A (f v u) (EP X pins σ Q) X.xe s
/-- a one-place operation -/
def UnR (X : Cx) (f : Value → Sem Value) (r : V → Hp → VK → Prop) : Prop :=
  ∀ (pins : List (Addr × Obj)) (s : Shared) (σ : St) (H : Hp) (x : V) (v : Value) (Q : VK), Inv X pins σ H s → RelV x v → r x H Q →
    wpAny (model X.prog X.w) X.A (f v) (EP X pins σ Q) X.xe s
/-- a call of a value that is known (a builtin, a type) with values -/
def CallR (X : Cx) (f : Value) (r : List V → Hp → VK → Prop) : Prop :=
  ∀ (pins : List (Addr × Obj)) (s : Shared) (σ : St) (H : Hp) (xs : List V) (us : List Value) (Q : VK), Inv X pins σ H s → Vals xs us → r xs H Q →
    wpAny (model X.prog X.w) X.A (call f us) (EP X pins σ Q) X.xe s
/-- a value's truth -/
def TruR (X : Cx) (r : V → Hp → (Bool → Hp → Prop) → Prop) : Prop :=
  ∀ (pins : List (Addr × Obj)) (s : Shared) (σ : St) (H : Hp) (x : V) (v : Value) (Q : Bool → Hp → Prop), Inv X pins σ H s → RelV x v → r x H Q →
    wpAny (model X.prog X.w) X.A (truthy v) (TP X pins σ Q) X.xe s

def tOp (r : R2) (ta tb : TE) : TE := fun σ H Q => ta σ H fun x H1 => tb σ H1 fun y H2 => r x y H2 Q
def tUn (r : V → Hp → VK → Prop) (ta : TE) : TE := fun σ H Q => ta σ H fun x H1 => r x H1 Q
/-- ints in, under C, and a value out -/
def rI (C : Int → Int → Prop) (g : Int → Int → V) : R2 := fun x y H Q => ∃ i j, x = .int i ∧ y = .int j ∧ C i j ∧ Q (g i j) H
def rI0 (g : Int → Int → V) : R2 := fun x y H Q => ∃ i j, x = .int i ∧ y = .int j ∧ Q (g i j) H
def rU (g : Int → V) : V → Hp → VK → Prop := fun x H Q => ∃ i, x = .int i ∧ Q (g i) H

section
variable {X : Cx} {a b c : Expr} {ta tb tc : TE} {pos : Pos}

theorem binT (ha : PE X a ta) (hb : PE X b tb) {pins : List (Addr × Obj)} {s : Shared} {σ : St} {H : Hp} {R : V → V → Hp → Prop} (I : Inv X pins σ H s)
    (h : ta σ H fun x H1 => tb σ H1 fun y H2 => R x y H2) {Q : Value → Shared → Prop} {f : Value → Value → Sem Value}
    (hf : ∀ v u s2 x y H2, Inv X pins σ H2 s2 → RelV x v → RelV y u → R x y H2 → wpAny (model X.prog X.w) X.A (f v u) Q X.xe s2) :
    wpAny (model X.prog X.w) X.A (eval a X.env) (fun v s₁ => wpAny (model X.prog X.w) X.A (eval b X.env) (fun u s₂ => wpAny (model X.prog X.w) X.A (f v u) Q X.xe s₂) X.xe s₁) X.xe s := by
  refine thn (ha pins s σ H _ I h) fun v s1 ⟨x, H1, I1, r1, q1⟩ => ?_
  refine thn (hb pins s1 σ H1 _ I1 q1) fun u s2 ⟨y, H2, I2, r2, q2⟩ => ?_
  exact hf v u s2 x y H2 I2 r1 r2 q2

theorem pe_op {op : Operator} {r : R2} (ho : OpR X (binaryOp op) r) (ha : PE X a ta) (hb : PE X b tb) : PE X (.BinOp a op b pos) (tOp r ta tb) := by
  intro pins s σ H Q I h
  exact wpAny_BinOp (binT ha hb I h fun v u s2 x y H2 I2 rx ry q => ho pins s2 σ H2 x y v u Q I2 rx ry q)
theorem pe_un {op : UnaryOp} {r : V → Hp → VK → Prop} (ho : UnR X (unaryOp op) r) (ha : PE X a ta) : PE X (.UnaryOp op a pos) (tUn r ta) := by
  intro pins s σ H Q I h
  exact UnaryOp_ (thn (ha pins s σ H _ I h) fun v s1 ⟨x, H1, I1, r1, q1⟩ => ho pins s1 σ H1 x v Q I1 r1 q1)
/-! ### ints -/
theorem opI {f : Value → Value → Sem Value} {C : Int → Int → Prop} {g : Int → Int → Int}
    (rule : ∀ (i j : Int) (t u : Tok) (s : Shared) (Q : Value → Shared → Prop) (E : Value → Shared → Prop), C i j → Q (.int (g i j) s.toks) { s with toks := s.toks + 1 } → wpAny (model X.prog X.w) X.A (f (.int i t) (.int j u)) Q E s) :
    OpR X f (rI C fun i j => .int (g i j)) := by
  intro pins s σ H x y v u Q I rx ry h
  obtain ⟨i, j, rfl, rfl, hc, q⟩ := h
  obtain ⟨t, rfl⟩ := rx
  obtain ⟨t', rfl⟩ := ry
  exact rule i j t t' s _ _ hc ⟨.int (g i j), H, I.tok _, ⟨_, rfl⟩, q⟩
theorem opI0 {f : Value → Value → Sem Value} {g : Int → Int → Int}
    (rule : ∀ (i j : Int) (t u : Tok) (s : Shared) (Q : Value → Shared → Prop) (E : Value → Shared → Prop), Q (.int (g i j) s.toks) { s with toks := s.toks + 1 } → wpAny (model X.prog X.w) X.A (f (.int i t) (.int j u)) Q E s) :
    OpR X f (rI0 fun i j => .int (g i j)) := by
  intro pins s σ H x y v u Q I rx ry h
  obtain ⟨i, j, rfl, rfl, q⟩ := h
  obtain ⟨t, rfl⟩ := rx
  obtain ⟨t', rfl⟩ := ry
  exact rule i j t t' s _ _ ⟨.int (g i j), H, I.tok _, ⟨_, rfl⟩, q⟩
theorem opB0 {f : Value → Value → Sem Value} {g : Int → Int → Bool}
    (rule : ∀ (i j : Int) (t u : Tok) (s : Shared) (Q : Value → Shared → Prop) (E : Value → Shared → Prop), Q (.bool (g i j)) s → wpAny (model X.prog X.w) X.A (f (.int i t) (.int j u)) Q E s) :
    OpR X f (rI0 fun i j => .bl (g i j)) := by
  intro pins s σ H x y v u Q I rx ry h
  obtain ⟨i, j, rfl, rfl, q⟩ := h
  obtain ⟨t, rfl⟩ := rx
  obtain ⟨t', rfl⟩ := ry
  exact rule i j t t' s _ _ ⟨.bl (g i j), H, I, rfl, q⟩

def CDiv (i j : Int) : Prop := 0 < j ∧ j < 1073741824
def CPow (i j : Int) : Prop := 0 ≤ j ∧ j ≤ 1000000 ∧ i.natAbs < 2 ^ 64
def CMul (i j : Int) : Prop := (-(2 ^ 64) < i ∧ i < 2 ^ 64) ∨ (-(2 ^ 64) < j ∧ j < 2 ^ 64)
theorem CMul.ok {i j : Int} (h : CMul i j) : IntMulOk i j := by
  rcases h with ⟨h1, h2⟩ | ⟨h1, h2⟩
  · exact .of_left (intBits_le_64 h1 h2)
  · exact .of_right (intBits_le_64 h1 h2)
theorem op_add : OpR X (binaryOp .Add) (rI0 fun i j => .int (i + j)) := opI0 fun _ _ _ _ _ _ _ q => add_int q
theorem op_sub : OpR X (binaryOp .Sub) (rI0 fun i j => .int (i - j)) := opI0 fun _ _ _ _ _ _ _ q => sub_int q
theorem op_mul : OpR X (binaryOp .Mult) (rI CMul fun i j => .int (i * j)) := opI fun _ _ _ _ _ _ _ hc q => mul_int q hc.ok
/-- // by a positive divisor -/
theorem op_fdiv : OpR X (binaryOp .FloorDiv) (rI CDiv fun i j => .int (i / j)) := opI fun i j _ _ _ _ _ hc q => by
  have h1 : (0 : Int) < j := hc.1
  have h2 : j < 1073741824 := hc.2
  exact floordiv_int (by omega) (by rw [Int.fdiv_eq_ediv_of_nonneg i (by omega)]; exact q) (.inl (PyProof.noPylong_small (by omega)))
/-- % by a positive divisor of any size -/
theorem op_mod : OpR X (binaryOp .Mod) (rI (fun _ j => 0 < j) fun i j => .int (i % j)) := opI fun i j _ _ _ _ _ hc q => by
  have h1 : (0 : Int) < j := hc
  exact mod_int' (by omega) (by rw [Int.fmod_eq_emod_of_nonneg i (by omega)]; exact q)
theorem unI {f : Value → Sem Value} {g : Int → Int}
    (rule : ∀ (i : Int) (t : Tok) (s : Shared) (Q : Value → Shared → Prop) (E : Value → Shared → Prop), Q (.int (g i) s.toks) { s with toks := s.toks + 1 } → wpAny (model X.prog X.w) X.A (f (.int i t)) Q E s) :
    UnR X f (rU fun i => .int (g i)) := by
  intro pins s σ H x v Q I rx h
  obtain ⟨i, rfl, q⟩ := h
  obtain ⟨t, rfl⟩ := rx
  exact rule i t s _ _ ⟨.int (g i), H, I.tok _, ⟨_, rfl⟩, q⟩
theorem un_neg : UnR X (unaryOp .USub) (rU fun i => .int (-i)) := unI fun _ _ _ _ _ q => neg_int q
/-! ### bools among ints: n += (a < b) -/
end

/-! ### comparisons -/
/-- the scalars that == tells apart as data does -/
def scal : V → V → Bool
  | .non, .non => true | .non, .int _ => true | .int _, .non => true | .non, .bl _ => true | .bl _, .non => true | .non, .str _ => true | .str _, .non => true
  | .int _, .int _ => true | .bl _, .bl _ => true | .str _, .str _ => true | .byt _, .byt _ => true
  | .int _, .str _ => true | .str _, .int _ => true | .bl _, .str _ => true | .str _, .bl _ => true
  | _, _ => false
def rEq : R2 := fun x y H Q => scal x y = true ∧ Q (.bl (decide (x = y))) H
def rNe : R2 := fun x y H Q => scal x y = true ∧ Q (.bl (!decide (x = y))) H

theorem dec_int {i j : Int} : decide (V.int i = V.int j) = (i == j) := by
  rw [Bool.eq_iff_iff]
  simp
theorem dec_bl {i j : Bool} : decide (V.bl i = V.bl j) = (i == j) := by
  rw [Bool.eq_iff_iff]
  simp
theorem dec_str {i j : Str} : decide (V.str i = V.str j) = (i == j) := by
  rw [Bool.eq_iff_iff]
  simp
theorem dec_byt {i j : Array UInt8} : decide (V.byt i = V.byt j) = (i.toList == j.toList) := by
  rw [Bool.eq_iff_iff]
  cases i
  cases j
  simp

section
variable {X : Cx} {a b c : Expr} {ta tb tc : TE} {pos : Pos}
theorem fin_bl {pins : List (Addr × Obj)} {σ : St} {H : Hp} {s : Shared} {Q : VK} {k k' : Bool} (I : Inv X pins σ H s) (q : Q (.bl k) H) (e : k = k') : EP X pins σ Q (.bool k') s := by
  subst e
  exact ⟨.bl k, H, I, rfl, q⟩
theorem op_eq : OpR X (compareOp .Eq) rEq := by
  intro pins s σ H x y v u Q I rx ry h
  obtain ⟨hs, q⟩ := h
  cases x with
  | non =>
    cases rx
    cases y with
    | non => cases ry; exact PySem.EqNone.eq_none_none (fin_bl I q (by simp))
    | bl j => cases ry; exact PySem.EqNone.eq_none_bool (fin_bl I q (by simp))
    | int j => obtain ⟨t', rfl⟩ := ry; exact PySem.EqNone.eq_none_int (fin_bl I q (by simp))
    | str j => obtain ⟨t', rfl⟩ := ry; exact PySem.EqNone.eq_none_str (fin_bl I q (by simp))
    | _ => exact absurd (show false = true from hs) Bool.false_ne_true
  | bl i =>
    cases rx
    cases y with
    | non => cases ry; exact PySem.EqNone.eq_bool_none (fin_bl I q (by simp))
    | bl j => cases ry; exact eq_bool (fin_bl I q dec_bl)
    | str j => obtain ⟨t', rfl⟩ := ry; exact PySem.EqMixed.eq_bool_str (fin_bl I q (by simp))
    | _ => exact absurd (show false = true from hs) Bool.false_ne_true
  | int i =>
    obtain ⟨t, rfl⟩ := rx
    cases y with
    | non => cases ry; exact PySem.EqNone.eq_int_none (fin_bl I q (by simp))
    | int j => obtain ⟨t', rfl⟩ := ry; exact eq_int (fin_bl I q dec_int)
    | str j => obtain ⟨t', rfl⟩ := ry; exact PySem.EqMixed.eq_int_str (fin_bl I q (by simp))
    | _ => exact absurd (show false = true from hs) Bool.false_ne_true
  | str i =>
    obtain ⟨t, rfl⟩ := rx
    cases y with
    | non => cases ry; exact PySem.EqNone.eq_str_none (fin_bl I q (by simp))
    | bl j => cases ry; exact PySem.EqMixed.eq_str_bool (fin_bl I q (by simp))
    | int j => obtain ⟨t', rfl⟩ := ry; exact PySem.EqMixed.eq_str_int (fin_bl I q (by simp))
    | str j => obtain ⟨t', rfl⟩ := ry; exact eq_str (fin_bl I q dec_str)
    | _ => exact absurd (show false = true from hs) Bool.false_ne_true
  | byt i =>
    obtain ⟨t, rfl⟩ := rx
    cases y with
    | byt j => obtain ⟨t', rfl⟩ := ry; exact PySem.W.eq_bytes (fin_bl I q dec_byt)
    | _ => exact absurd (show false = true from hs) Bool.false_ne_true
  | _ => cases y <;> exact absurd (show false = true from hs) Bool.false_ne_true
theorem op_ne : OpR X (compareOp .NotEq) rNe := by
  intro pins s σ H x y v u Q I rx ry h
  obtain ⟨hs, q⟩ := h
  cases x with
  | non =>
    cases rx
    cases y with
    | non => cases ry; exact PySem.EqNone.ne_none_none (fin_bl I q (by simp))
    | bl j => cases ry; exact PySem.EqNone.ne_none_bool (fin_bl I q (by simp))
    | int j => obtain ⟨t', rfl⟩ := ry; exact PySem.EqNone.ne_none_int (fin_bl I q (by simp))
    | str j => obtain ⟨t', rfl⟩ := ry; exact PySem.EqNone.ne_none_str (fin_bl I q (by simp))
    | _ => exact absurd (show false = true from hs) Bool.false_ne_true
  | bl i =>
    cases rx
    cases y with
    | non => cases ry; exact PySem.EqNone.ne_bool_none (fin_bl I q (by simp))
    | bl j => cases ry; exact ne_bool (fin_bl I q (congrArg not dec_bl))
    | str j => obtain ⟨t', rfl⟩ := ry; exact PySem.EqMixed.ne_bool_str (fin_bl I q (by simp))
    | _ => exact absurd (show false = true from hs) Bool.false_ne_true
  | int i =>
    obtain ⟨t, rfl⟩ := rx
    cases y with
    | non => cases ry; exact PySem.EqNone.ne_int_none (fin_bl I q (by simp))
    | int j => obtain ⟨t', rfl⟩ := ry; exact ne_int (fin_bl I q (congrArg not dec_int))
    | str j => obtain ⟨t', rfl⟩ := ry; exact PySem.EqMixed.ne_int_str (fin_bl I q (by simp))
    | _ => exact absurd (show false = true from hs) Bool.false_ne_true
  | str i =>
    obtain ⟨t, rfl⟩ := rx
    cases y with
    | non => cases ry; exact PySem.EqNone.ne_str_none (fin_bl I q (by simp))
    | bl j => cases ry; exact PySem.EqMixed.ne_str_bool (fin_bl I q (by simp))
    | int j => obtain ⟨t', rfl⟩ := ry; exact PySem.EqMixed.ne_str_int (fin_bl I q (by simp))
    | str j => obtain ⟨t', rfl⟩ := ry; exact ne_str (fin_bl I q (congrArg not dec_str))
    | _ => exact absurd (show false = true from hs) Bool.false_ne_true
  | byt i =>
    obtain ⟨t, rfl⟩ := rx
    cases y with
    | byt j => obtain ⟨t', rfl⟩ := ry; exact PySem.W.ne_bytes (fin_bl I q (congrArg not dec_byt))
    | _ => exact absurd (show false = true from hs) Bool.false_ne_true
  | _ => cases y <;> exact absurd (show false = true from hs) Bool.false_ne_true

theorem op_lt : OpR X (compareOp .Lt) (rI0 fun i j => .bl (decide (i < j))) := opB0 fun _ _ _ _ _ _ _ q => lt_int q
theorem op_le : OpR X (compareOp .LtE) (rI0 fun i j => .bl (decide (i ≤ j))) := opB0 fun _ _ _ _ _ _ _ q => le_int q
/-- two rules for one operation: by cases -/
theorem OpR.or {f : Value → Value → Sem Value} {r r' : R2} (h : OpR X f r) (h' : OpR X f r') : OpR X f (fun x y H Q => r x y H Q ∨ r' x y H Q) := by
  intro pins s σ H x y v u Q I rx ry q
  rcases q with q | q
  · exact h pins s σ H x y v u Q I rx ry q
  · exact h' pins s σ H x y v u Q I rx ry q

theorem nomark (b : Expr) {op : CmpOp} (h : op ≠ .In := by decide) (h2 : op ≠ .NotIn := by decide) : behindInMarks op b = false := by
  have e1 : (op == CmpOp.In) = false := by cases op <;> first | rfl | exact absurd rfl h
  have e2 : (op == CmpOp.NotIn) = false := by cases op <;> first | rfl | exact absurd rfl h2
  cases b <;> simp [behindInMarks, e1, e2]
/-- a comparison as a value; hm: nomark b, or (for in, not in) by with_unfolding_all rfl -/
theorem pe_cmpR {op : CmpOp} {r : R2} (ho : OpR X (compareOp op) r) (ha : PE X a ta) (hb : PE X b tb) (hm : behindInMarks op b = false) : PE X (.Compare a [op] [b] pos) (tOp r ta tb) := by
  intro pins s σ H Q I h
  exact wpAny_Compare1 (binT ha hb I h fun v u s2 x y H2 I2 rx ry q => ho pins s2 σ H2 x y v u Q I2 rx ry q) hm
/-- a reading of a value as a test -/
def tTest (t : TE) : TT := fun σ H Q => t σ H fun x H' => ∃ k, x = .bl k ∧ Q k H'
theorem pt_cmpR {op : CmpOp} {r : R2} (ho : OpR X (compareOp op) r) (ha : PE X a ta) (hb : PE X b tb) (hm : behindInMarks op b = false) : PT X (.Compare a [op] [b] pos) (tTest (tOp r ta tb)) := by
  intro pins s σ H Q I h
  refine wpAny_isTrue_Compare1 (thn (ha pins s σ H _ I h) fun v s1 ⟨x, H1, I1, r1, q1⟩ => thn (hb pins s1 σ H1 _ I1 q1) fun u s2 ⟨y, H2, I2, r2, q2⟩ =>
    thn (ho pins s2 σ H2 x y v u _ I2 r1 r2 q2) fun c s3 ⟨z, H3, I3, r3, k, e, q3⟩ => ?_) hm
  subst e
  cases r3
  exact wpAny_truthy_bool ⟨H3, I3, q3⟩
/-- a op1 b op2 c -/
def tChain (r r' : R2) (ta tb tc : TE) : TE := fun σ H Q => ta σ H fun x H1 => tb σ H1 fun y H2 => r x y H2 fun z H3 => ∃ k, z = .bl k ∧
  (if k = true then tc σ H3 fun w' H4 => r' y w' H4 Q else Q (.bl false) H3)
theorem pt_chain {op op' : CmpOp} {r r' : R2} (ho : OpR X (compareOp op) r) (ho' : OpR X (compareOp op') r') (ha : PE X a ta) (hb : PE X b tb) (hc : PE X c tc)
    (hm : lastMarks [op, op'] [b, c] = false := by with_unfolding_all rfl) : PT X (.Compare a [op, op'] [b, c] pos) (tTest (tChain r r' ta tb tc)) := by
  intro pins s σ H Q I h
  refine isTrue_chain (thn (ha pins s σ H _ I h) fun v s1 ⟨x, H1, I1, r1, q1⟩ => test_link (thn (hb pins s1 σ H1 _ I1 q1) fun u s2 ⟨y, H2, I2, r2, q2⟩ =>
    thn (ho pins s2 σ H2 x y v u _ I2 r1 r2 q2) fun d s3 ⟨z, H3, I3, r3, k, e, q3⟩ => ?_)) hm
  subst e
  cases r3
  refine wpAny_truthy_bool ?_
  cases k with
  | false =>
    obtain ⟨k', e', q'⟩ := q3
    cases e'
    exact ite_ff ⟨H3, I3, q'⟩
  | true =>
    refine ite_tt (test_last (thn (hc pins s3 σ H3 _ I3 q3) fun w' s4 ⟨z', H4, I4, r4, q4⟩ => thn (ho' pins s4 σ H4 y z' u w' _ I4 r2 r4 q4) fun d' s5 ⟨z2, H5, I5, r5, k2, e2, q5⟩ => ?_))
    subst e2
    cases r5
    exact wpAny_truthy_bool ⟨H5, I5, q5⟩

/-! ### truth -/
/-- a value's truth by the abstract heap -/
def TruV (K : PySem.W.Frag) (x : V) (H : Hp) (k : Bool) : Prop :=
  match x with
  | .non => k = false
  | .bl b => k = b
  | .int i => k = (i != 0)
  | .str y => y.length ≤ sizeLine ∧ k = ((y.length : Int) != 0)
  | .byt y => y.size ≤ sizeLine ∧ k = ((y.size : Int) != 0)
  | .ref p => (∃ xs, SqL K H p xs ∧ k = !xs.isEmpty) ∨ (∃ xs, SqT K H p xs ∧ k = !xs.isEmpty) ∨ ∃ kvs, H p = some (.dK kvs) ∧ k = !kvs.isEmpty
  | _ => False
theorem isEmpty_kv {κ : Type} {kvs : List (κ × V)} {vs : List (κ × Value)} (r : KV kvs vs) : (!vs.isEmpty) = !kvs.isEmpty := by
  cases r <;> rfl
theorem isEmpty_of {xs : List V} {its : List Value} (r : Vals xs its) : (!its.toArray.isEmpty) = !xs.isEmpty := by
  cases r <;> simp
theorem line63 : (sizeLine : Nat) < 2 ^ 63 := by rw [sizeLine_eq]; decide
theorem tru_ok : TruR X (fun x H Q => ∃ k, TruV X.K x H k ∧ Q k H) := by
  intro pins s σ H x v Q I rx h
  obtain ⟨k, e, q⟩ := h
  have hl := line63
  have hs : sizeLine = 16777216 := sizeLine_eq
  cases x with
  | non =>
    cases rx
    have e' : k = false := e
    subst e'
    exact truthy_none ⟨H, I, q⟩
  | bl b =>
    cases rx
    have e' : k = b := e
    subst e'
    exact wpAny_truthy_bool ⟨H, I, q⟩
  | int i =>
    obtain ⟨t, rfl⟩ := rx
    have e' : k = (i != 0) := e
    subst e'
    exact PySem.P.truthy_int ⟨H, I, q⟩
  | str y =>
    obtain ⟨t, rfl⟩ := rx
    obtain ⟨hy, e'⟩ : y.length ≤ sizeLine ∧ k = ((y.length : Int) != 0) := e
    subst e'
    exact PySem.P.truthy_str (by omega) ⟨H, I.tok _, q⟩
  | byt y =>
    obtain ⟨t, rfl⟩ := rx
    obtain ⟨hy, e'⟩ : y.size ≤ sizeLine ∧ k = ((y.size : Int) != 0) := e
    subst e'
    exact PySem.W.truthy_bytes (by omega) ⟨H, I.tok _, q⟩
  | ref p =>
    cases rx
    have e' : (∃ xs, SqL X.K H p xs ∧ k = !xs.isEmpty) ∨ (∃ xs, SqT X.K H p xs ∧ k = !xs.isEmpty) ∨ ∃ kvs, H p = some (.dK kvs) ∧ k = !kvs.isEmpty := e
    rcases e' with ⟨xs, hx, e'⟩ | ⟨xs, hx, e'⟩ | ⟨kvs, hx, e'⟩
    · subst e'
      obtain ⟨its, r, pl, hz⟩ := I.list hx
      have hlen := r.length
      exact wpAny_truthy_list pl.isList (by simp only [List.size_toArray]; omega) ⟨H, I.tok _, by rw [isEmpty_of r]; exact q⟩
    · subst e'
      obtain ⟨its, r, pl, hz⟩ := I.tuple hx
      have hlen := r.length
      exact truthy_tuple pl (by simp only [List.size_toArray]; omega) ⟨H, I.tok _, by rw [isEmpty_of r]; exact q⟩
    · subst e'
      obtain ⟨hz, hS, vs, r, m⟩ : kvs.length ≤ sizeLine ∧ (p == sysModules) = false ∧ ∃ vs, KV kvs vs ∧ s.heap.DictOf (mixKind X.prog X.w) p vs := I.hok p _ hx
      have hlen : kvs.length = vs.length := Paired.length r
      exact wpAny_truthy_dict hS m (by omega) ⟨H, I.tok _, by rw [isEmpty_kv r]; exact q⟩
  | _ => exact (show False from e).elim
/-- any expression whose test is its value's truth (a name, a call, a subscript, a field ..: he by fun _ => rfl) -/
theorem pt_truth (ha : PE X a ta) (he : ∀ whole, isTrue a X.env whole = (do let v ← whole; standAt a.pos; holding [v] (truthy v))) :
    PT X a (fun σ H Q => ta σ H fun x H' => ∃ k, TruV X.K x H' k ∧ Q k H') := by
  intro pins s σ H Q I h
  exact isTrue_plain (thn (ha pins s σ H _ I h) fun v s1 ⟨x, H1, I1, r1, q1⟩ => tru_ok pins s1 σ H1 x v Q I1 r1 q1) (he _)

/-! ### strs and bytes -/
theorem op_add_str : OpR X (binaryOp .Add) (fun x y H Q => ∃ i j, x = .str i ∧ y = .str j ∧ i.length + j.length ≤ sizeLine ∧ Q (.str (i ++ j)) H) := by
  intro pins s σ H x y v u Q I rx ry h
  obtain ⟨i, j, rfl, rfl, hz, q⟩ := h
  obtain ⟨t, rfl⟩ := rx
  obtain ⟨t', rfl⟩ := ry
  exact add_str (fun t' tk => ⟨.str (i ++ j), H, I.tok _, ⟨_, rfl⟩, q⟩) hz
/-! ### scalar builtins, by CallR -/
theorem vals1 {x : V} {us : List Value} (r : Vals [x] us) : ∃ u, us = [u] ∧ RelV x u := by
  cases r with
  | cons r1 r2 => cases r2; exact ⟨_, rfl, r1⟩
theorem call_int1 : CallR X (.type "int") (fun xs H Q => (∃ i, xs = [.int i] ∧ Q (.int i) H) ∨ ∃ k, xs = [.bl k] ∧ Q (.int (if k then 1 else 0)) H) := by
  intro pins s σ H xs us Q I r h
  rcases h with ⟨i, rfl, q⟩ | ⟨k, rfl, q⟩
  · obtain ⟨u, rfl, t, rfl⟩ := vals1 r
    exact call_int_int ⟨.int i, H, I, ⟨_, rfl⟩, q⟩
  · obtain ⟨u, rfl, r1⟩ := vals1 r
    cases r1
    exact call_int_bool ⟨.int (if k then 1 else 0), H, I.tok _, ⟨_, rfl⟩, q⟩
/-- len of a str, a bytes, a list, a tuple -/
def LenV (K : PySem.W.Frag) (x : V) (H : Hp) (n : Nat) : Prop :=
  match x with
  | .str y => y.length ≤ sizeLine ∧ n = y.length
  | .byt y => y.size ≤ sizeLine ∧ n = y.size
  | .ref p => (∃ xs, SqL K H p xs ∧ n = xs.length) ∨ ∃ xs, SqT K H p xs ∧ n = xs.length
  | _ => False
theorem call_len : CallR X (.builtin "len") (fun xs H Q => ∃ x n, xs = [x] ∧ LenV X.K x H n ∧ Q (.int n) H) := by
  intro pins s σ H xs us Q I r h
  obtain ⟨x, n, rfl, e, q⟩ := h
  obtain ⟨u, rfl, rx⟩ := vals1 r
  have hl := line63
  have hs : sizeLine = 16777216 := sizeLine_eq
  cases x with
  | str y =>
    obtain ⟨t, rfl⟩ := rx
    obtain ⟨hy, e'⟩ : y.length ≤ sizeLine ∧ n = y.length := e
    subst e'
    exact len_str (by omega) ⟨.int _, H, I.tok _, ⟨_, rfl⟩, q⟩
  | byt y =>
    obtain ⟨t, rfl⟩ := rx
    obtain ⟨hy, e'⟩ : y.size ≤ sizeLine ∧ n = y.size := e
    subst e'
    exact PySem.W.len_bytes (by omega) ⟨.int _, H, I.tok _, ⟨_, rfl⟩, q⟩
  | ref p =>
    cases rx
    have e' : (∃ xs, SqL X.K H p xs ∧ n = xs.length) ∨ ∃ xs, SqT X.K H p xs ∧ n = xs.length := e
    rcases e' with ⟨xs, hx, e'⟩ | ⟨xs, hx, e'⟩
    · subst e'
      obtain ⟨its, r', pl, hz⟩ := I.list hx
      have hlen := r'.length
      exact Calls.call_len_list pl.isList (by simp only [List.size_toArray]; omega) ⟨.int xs.length, H, I.tok _, ⟨_, by simp only [List.size_toArray]; rw [hlen]⟩, q⟩
    · subst e'
      obtain ⟨its, r', pl, hz⟩ := I.tuple hx
      have hlen := r'.length
      exact len_tuple pl (by simp only [List.size_toArray]; omega) ⟨.int xs.length, H, I.tok _, ⟨_, by simp only [List.size_toArray]; rw [hlen]⟩, q⟩
  | _ => exact (show False from e).elim
end
end L2

namespace L2
open PySem PySem.Spec PyProof.Rows

/-! ### an instance, its attributes a map -/
structure ObjM (h : Heap) (x dx C : Addr) (mA : Str → Option Value) : Prop where
  obj : h.get? x = some (PySem.W.instObj C dx)
  ns : h.Ns1 dx mA
  ne : dx ≠ x

theorem lookIn_ns {h : Heap} {dx : Addr} {mA : Str → Option Value} (n : h.Ns1 dx mA) : ∃ od, h.get? dx = some od ∧ ∀ name, PySem.W.lookIn name od = some (mA name) := by
  obtain ⟨o, es, ep, ho, hd, hk, _, hm⟩ := n
  refine ⟨o, ho, fun name => ?_⟩
  have e := hm name
  unfold nsFind findBy at e
  rw [← Array.find?_toList] at e
  unfold PySem.W.lookIn
  rw [hd]
  dsimp only
  split
  · rename_i y q
    rw [q] at e
    exact congrArg some e
  · rename_i q
    rw [q] at e
    have a : es.toList.any (·.refKey) = false := by
      rw [List.any_eq_false]
      intro y hy
      obtain ⟨z, t, hkey⟩ := hk y (Array.mem_toList_iff.mp hy)
      simp [DictEntry.refKey, hkey]
    have a' : ¬ es.toList.any (·.refKey) = true := by rw [a]; exact Bool.false_ne_true
    rw [if_neg a']
    exact congrArg some e

theorem ObjM.look {h : Heap} {x dx C : Addr} {mA : Str → Option Value} (I : ObjM h x dx C mA) : ∃ od, PySem.W.InstAt h x (PySem.W.instObj C dx) C (some od) ∧ ∀ name, PySem.W.lookIn name od = some (mA name) :=
  let ⟨od, ho, hl⟩ := lookIn_ns I.ns
  ⟨od, ⟨I.obj, rfl, rfl, ho⟩, hl⟩

section
variable {prog : Program} {w : World} {A : Around} {E : Value → Shared → Prop} {s : Shared} {K : PySem.W.Frag} {x dx C f : Addr} {mA : Str → Option Value} {name : Str} {v : Value}

theorem get_map {expr : Bool} {Q : Value → Shared → Prop} (X : K.In s.heap) (I : ObjM s.heap x dx C mA) (hg : PySem.W.plainGet K C name = true) (hh : PySem.W.hasDictIn K C = true)
    (ha : PySem.W.findIn K (.ref C) name = some none) (hv : mA name = some v) (hv' : PySem.W.handedIn v = true) (h : Q v { s with toks := s.toks + 1 }) :
    wpAny (model prog w) A (getAttr (.ref x) name expr) Q E s := by
  obtain ⟨od, J, hl⟩ := I.look
  exact PySem.W.get_value X J (PySem.W.plainGet_of hg).1 (PySem.W.findObj_own hh ha rfl (by rw [hl, hv])) hv' h

theorem get_meth {pl : Sem Bool} {Q : Value × List Value → Shared → Prop} (X : K.In s.heap) (I : ObjM s.heap x dx C mA) (hg : PySem.W.plainGet K C name = true)
    (hf : PySem.W.findIn K (.ref C) name = some (some (.ref f))) (ht : PySem.W.isFn K (.ref f) = true) (hv : mA name = none) (h : Q (.ref f, [.ref x]) s) :
    wpAny (model prog w) A (getMethod (.ref x) name pl) Q E s := by
  obtain ⟨od, J, hl⟩ := I.look
  exact PySem.W.method_fn X J (PySem.W.plainGet_of hg).1 (PySem.W.plainGet_of hg).2 hf (beq_iff_eq.mp ht) (by show (PySem.W.lookIn name od).map (·.isSome) = some false; rw [hl, hv]; rfl) h

theorem set_map {ns : List Str} {Q : Unit → Shared → Prop} (X : K.In s.heap) (I : ObjM s.heap x dx C mA)
    (hs : PySem.W.findIn K (.ref C) "__setattr__" = some (some (.builtin "object.__setattr__"))) (hp : PySem.W.plainOver K C = true) (ht : PySem.W.takerIn K C name = some none) (hh : PySem.W.hasDictIn K C = true)
    (hw : PySem.Within mA ns) (hsz : ns.length ≤ sizeLine)
    (h : ∀ h', ObjM h' x dx C (fun y => if y = name then some v else mA y) → Heap.SameBut dx s.heap h' → Q () { s with heap := h', toks := s.toks + 2 }) :
    wpAny (model prog w) A (setAttr (.ref x) name v) Q E s := by
  obtain ⟨od, J, hl⟩ := I.look
  refine PySem.W.set_plain X J hs (PySem.W.osa_open (s := { s with toks := s.toks + 1 }) (r := none) X J hp ht fun b => ?_)
  obtain ⟨cd, hc, hd'⟩ := PySem.W.any_some hh
  have hx : s.heap.get? x = some ⟨.ref C, some dx, .plain, #[]⟩ := I.obj
  refine wpAny_bind (wpAny_pure (wpAny_bind (wpAny_bind (wpAny_loadPart hx (wpAny_bind (PySem.W.Looks.here (s := { s with toks := s.toks + 1 }) (PySem.W.looks_clsIn X hc) ?_))))))
  rw [hd']
  refine wpAny_pure (a := some dx) (wpAny_bind (wpAny_pure (wpAny_bind ?_)))
  refine wpAny_nsSet1 (s := { s with toks := s.toks + 1 }) I.ns fun h' hn2 hs2 => ?_
  obtain ⟨oD, esD, epD, hoD, hdD, hcD⟩ := hn2.count (PySem.Within.cons name v hw)
  refine wpAny_bind (wpAny_lookBehind hoD (by rw [hdD]; exact pastItsLine_dict (Nat.le_trans hcD (by rw [List.length_cons]; omega))) ?_)
  exact wpAny_pure (h _ ⟨(hs2.2 _ (Ne.symm I.ne)).trans I.obj, hn2, I.ne⟩ hs2)

/-- C(..): the dict at the heap's end, the instance behind it; then its __init__ -/
theorem make_map {R : Result → Shared → Prop} {vs : List Value} {kw : List (Str × Value)} (X : K.In s.heap) (hm : PySem.W.makesIn K C = true)
    (hi : PySem.W.findIn K (.ref C) "__init__" = some (some (.ref f))) (hf : PySem.W.typeIn K (.ref f) = some (.type "function"))
    (h : codeAny (model prog w) (A.under (.builtin "type.__call__" ⟨.ref C :: vs, kw⟩)) (.call (.ref f) ⟨.ref (s.heap.objs.size + 1) :: vs, kw⟩) (PySem.W.InitBack (s.heap.objs.size + 1) R)
      { s with heap := (s.heap.push PySem.W.emptyDict).push (PySem.W.instObj C s.heap.objs.size) }) :
    codeAny (model prog w) A (.call (.ref C) ⟨vs, kw⟩) R s := by
  obtain ⟨hh, g, d, t, os⟩ := s
  exact PySem.W.make_core (PySem.W.makes_of X hm) (PySem.W.looks_findIn X hi) (fun self => PySem.W.bind_fn X self hf) (.inl rfl) h
end

/-! ### the attributes as a list of pairs -/
def putF (f : Str) (v : V) : List (Str × V) → List (Str × V)
  | [] => [(f, v)]
  | (g, x) :: r => if g = f then (g, v) :: r else (g, x) :: putF f v r
theorem lookup_putF (f g : Str) (v : V) : ∀ fs : List (Str × V), (putF f v fs).lookup g = if g = f then some v else fs.lookup g
  | [] => by
    show List.lookup g [(f, v)] = _
    by_cases h : g = f
    · have hb : (g == f) = true := beq_iff_eq.mpr h
      simp only [List.lookup, hb, if_pos h]
    · have hb : (g == f) = false := beq_eq_false_iff_ne.mpr h
      simp only [List.lookup, hb, if_neg h]
  | (k, x) :: r => by
    have ih := lookup_putF f g v r
    rw [show putF f v ((k, x) :: r) = (if k = f then (k, v) :: r else (k, x) :: putF f v r) from rfl]
    by_cases hk : k = f
    · rw [if_pos hk]
      by_cases h : g = k
      · have hb : (g == k) = true := beq_iff_eq.mpr h
        simp only [List.lookup, hb, if_pos (h.trans hk)]
      · have hb : (g == k) = false := beq_eq_false_iff_ne.mpr h
        simp only [List.lookup, hb, if_neg (fun e : g = f => h (e.trans hk.symm))]
    · rw [if_neg hk]
      by_cases h : g = k
      · have hb : (g == k) = true := beq_iff_eq.mpr h
        simp only [List.lookup, hb, if_neg (fun e : g = f => hk (h.symm.trans e))]
      · have hb : (g == k) = false := beq_eq_false_iff_ne.mpr h
        simp only [List.lookup, hb]
        exact ih
theorem keys_putF (f : Str) (v : V) : ∀ fs : List (Str × V), f ∈ (putF f v fs).map (·.1) ∧ ∀ g, g ∈ fs.map (·.1) → g ∈ (putF f v fs).map (·.1)
  | [] => ⟨by simp [putF], fun g h => by simp at h⟩
  | (k, x) :: r => by
    obtain ⟨i1, i2⟩ := keys_putF f v r
    rw [show putF f v ((k, x) :: r) = (if k = f then (k, v) :: r else (k, x) :: putF f v r) from rfl]
    by_cases hk : k = f
    · rw [if_pos hk]
      subst hk
      exact ⟨by simp, fun g h => by simpa using h⟩
    · rw [if_neg hk]
      refine ⟨?_, fun g h => ?_⟩
      · rw [List.map_cons]
        exact List.mem_cons_of_mem _ i1
      · rw [List.map_cons] at h ⊢
        rcases List.mem_cons.mp h with e | e
        · exact List.mem_cons.mpr (.inl e)
        · exact List.mem_cons_of_mem _ (i2 g e)
theorem length_putF (f : Str) (v : V) : ∀ fs : List (Str × V), (putF f v fs).length ≤ fs.length + 1
  | [] => by simp [putF]
  | (k, x) :: r => by
    have ih := length_putF f v r
    rw [show putF f v ((k, x) :: r) = (if k = f then (k, v) :: r else (k, x) :: putF f v r) from rfl]
    by_cases hk : k = f
    · rw [if_pos hk, List.length_cons, List.length_cons]; omega
    · rw [if_neg hk, List.length_cons, List.length_cons]; omega

theorem RelO.some_of {v : V} {o : Option Value} (r : RelO (some v) o) : ∃ u, o = some u ∧ RelV v u := by
  cases o with
  | none => exact (show False from r).elim
  | some u => exact ⟨u, rfl, r⟩
theorem RelO.none_of {o : Option Value} (r : RelO none o) : o = none := by
  cases o with
  | none => rfl
  | some u => exact (show False from r).elim
theorem handed_of {v : V} {u : Value} (r : RelV v u) : PySem.W.handedIn u = true := by
  cases v with
  | non => cases (show u = Value.none from r); rfl
  | bl b => cases (show u = Value.bool b from r); rfl
  | int i => obtain ⟨t, e⟩ := (show ∃ t, u = Value.int i t from r); cases e; rfl
  | str x => obtain ⟨t, e⟩ := (show ∃ t, u = Value.str x t from r); cases e; rfl
  | byt b => obtain ⟨t, e⟩ := (show ∃ t, u = Value.bytes b t from r); cases e; rfl
  | flt b => obtain ⟨t, e⟩ := (show ∃ t, u = Value.float b t from r); cases e; rfl
  | ref a => cases (show u = Value.ref a from r); rfl
  | ty n => cases (show u = Value.type n from r); rfl

section
variable {P : Program} {w : World} {H H' : Hp} {h h' : Heap} {a C dx : Addr} {fs fs' : List (Str × V)}
theorem ins_get (hok : HOk P w H h) (e : H a = some (.ins C dx fs)) : ∃ mA, ObjM h a dx C mA ∧ (∀ f, RelO (fs.lookup f) (mA f)) ∧ PySem.Within mA (fs.map (·.1)) ∧ fs.length ≤ 1000 ∧ H dx = some (.own a) := by
  obtain ⟨d, z, ne, ob, mA, n, r, q⟩ := (show ObjOk P w H h a (.ins C dx fs) from hok a _ e)
  exact ⟨mA, ⟨ob, n, ne⟩, r, q, z, d⟩
end

/-! ### what of the text a class must have -/
structure Cls (K : PySem.W.Frag) (C : Addr) : Prop where
  pg : PySem.W.plainGet K C Str.empty = true
  hd : PySem.W.hasDictIn K C = true
  po : PySem.W.plainOver K C = true
  sa : PySem.W.findIn K (.ref C) "__setattr__" = some (some (.builtin "object.__setattr__"))
theorem Cls.get {K : PySem.W.Frag} {C : Addr} (c : Cls K C) (f : Str) : PySem.W.plainGet K C f = true := c.pg
/-- no class of it has the name -/
def NoAttr (K : PySem.W.Frag) (C : Addr) (f : Str) : Prop := PySem.W.findIn K (.ref C) f = some none
theorem NoAttr.taker {K : PySem.W.Frag} {C : Addr} {f : Str} (n : NoAttr K C f) : PySem.W.takerIn K C f = some none := by
  unfold PySem.W.takerIn
  rw [show PySem.W.findIn K (.ref C) f = some none from n]
  rfl
/-- a constant of the class -/
structure Con (K : PySem.W.Frag) (C : Addr) (f : Str) (v : V) (u : Value) : Prop where
  at_ : PySem.W.findIn K (.ref C) f = some (some u)
  rel : RelV v u
  get : PySem.W.specialIn K u "__get__" = some none
  cp : PySem.W.copiedNames.contains f = false
/-- a method: a plain def of the class or of one above it -/
structure Meth (K : PySem.W.Frag) (C : Addr) (m : Str) (f : Addr) : Prop where
  at_ : PySem.W.findIn K (.ref C) m = some (some (.ref f))
  fn : PySem.W.isFn K (.ref f) = true
  kp : PySem.W.keepIn K (.ref f) = true

section
variable {X : Cx} {pins : List (Addr × Obj)} {σ : St} {H : Hp} {s : Shared} {a C dx : Addr} {fs : List (Str × V)} {f : Str} {v : V} {A : Around} {E : Value → Shared → Prop}

theorem getattr_ok {b : Bool} {Q : Value → Shared → Prop} (I : Inv X pins σ H s) (e : H a = some (.ins C dx fs)) (c : Cls X.K C) (n : NoAttr X.K C f) (l : fs.lookup f = some v)
    (h : ∀ u s', Inv X pins σ H s' → RelV v u → Q u s') : wpAny (model X.prog X.w) A (getAttr (.ref a) f b) Q E s := by
  obtain ⟨mA, O, r, _, _, _⟩ := ins_get I.hok e
  obtain ⟨u, hu, ru⟩ := RelO.some_of (v := v) (o := mA f) (by rw [← l]; exact r f)
  exact get_map I.kIn O (c.get f) c.hd n hu (handed_of ru) (h u _ (I.tok _) ru)

theorem getmeth_ok {m : Str} {g : Addr} {pl : Sem Bool} {Q : Value × List Value → Shared → Prop} (I : Inv X pins σ H s) (e : H a = some (.ins C dx fs)) (c : Cls X.K C) (k : Meth X.K C m g) (l : fs.lookup m = none)
    (h : Q (.ref g, [.ref a]) s) : wpAny (model X.prog X.w) A (getMethod (.ref a) m pl) Q E s := by
  obtain ⟨mA, O, r, _, _, _⟩ := ins_get I.hok e
  have hn : mA m = none := RelO.none_of (by rw [← l]; exact r m)
  exact get_meth I.kIn O (c.get m) k.at_ k.fn hn h

theorem setattr_ok {y : V} {u : Value} {Q : Unit → Shared → Prop} (I : Inv X pins σ H s) (e : H a = some (.ins C dx fs)) (c : Cls X.K C) (n : NoAttr X.K C f) (hl : fs.length < 1000) (ry : RelV y u)
    (h : ∀ s', Inv X pins σ (upd H a (.ins C dx (putF f y fs))) s' → Q () s') : wpAny (model X.prog X.w) A (setAttr (.ref a) f u) Q E s := by
  obtain ⟨mA, O, r, wi, _, ho⟩ := ins_get I.hok e
  have hz : (fs.map (·.1)).length ≤ sizeLine := by rw [List.length_map, sizeLine_eq]; omega
  refine set_map I.kIn O c.sa c.po n.taker c.hd wi hz fun h' O' sb => h _ ?_
  have hd : ∃ o, h'.get? dx = some o := let ⟨o, _, _, e', _⟩ := O'.ns; ⟨o, e'⟩
  refine I.write (x := a) (e := dx) (by rw [e]; exact True.intro) (.inr ho) (fun b q hb z => (sb.2 b hb).trans z) hd ?_
  refine ⟨by rw [upd_ne O.ne]; exact ho, ?_, O.ne, O'.obj, _, O'.ns, fun g => ?_, fun g hg => ?_⟩
  · have := length_putF f y fs; omega
  · show RelO ((putF f y fs).lookup g) (if g = f then some u else mA g)
    rw [lookup_putF]
    by_cases q : g = f
    · rw [if_pos q, if_pos q]; exact ry
    · rw [if_neg q, if_neg q]; exact r g
  · by_cases q : g = f
    · rw [q]; exact (keys_putF f y fs).1
    · refine (keys_putF f y fs).2 g (wi g fun z => hg ?_)
      show (if g = f then some u else mA g) = none
      rw [if_neg q]; exact z

/-- a new instance, tracked, without attributes -/
theorem Inv.made (I : Inv X pins σ H s) : Inv X pins σ (upd (upd H s.heap.objs.size (.own (s.heap.objs.size + 1))) (s.heap.objs.size + 1) (.ins C s.heap.objs.size []))
    { s with heap := (s.heap.push PySem.W.emptyDict).push (PySem.W.instObj C s.heap.objs.size) } := by
  have e1 : (s.heap.push PySem.W.emptyDict).get? s.heap.objs.size = some PySem.W.emptyDict := Heap.get?_push_size s.heap rfl
  have e2 : ((s.heap.push PySem.W.emptyDict).push (PySem.W.instObj C s.heap.objs.size)).get? (s.heap.objs.size + 1) = some (PySem.W.instObj C s.heap.objs.size) := by
    have := Heap.get?_push_size (s.heap.push PySem.W.emptyDict) (o := PySem.W.instObj C s.heap.objs.size) rfl
    rwa [Heap.size_push] at this
  have e3 : (s.heap.push PySem.W.emptyDict).Ns s.heap.objs.size (fun _ => none) := ⟨PySem.W.emptyDict, #[], _, e1, rfl, (fun e he => absurd he (by simp)), fun _ => rfl⟩
  have I1 := I.laid (a := s.heap.objs.size) (o := .own (s.heap.objs.size + 1)) (h' := s.heap.push PySem.W.emptyDict) (t' := s.toks) (fun b u q => Heap.get?_push_of_some _ q) (Nat.le_refl _) ⟨_, e1⟩
  refine I1.laid (a := s.heap.objs.size + 1) (o := .ins C s.heap.objs.size []) (t' := s.toks) (fun b u q => Heap.get?_push_of_some _ q) (Nat.le_of_eq (Heap.size_push _ _)) ?_
  have ne : s.heap.objs.size ≠ s.heap.objs.size + 1 := Nat.ne_of_lt (Nat.lt_succ_self _)
  refine ⟨by rw [upd_ne ne, upd_same], Nat.zero_le _, ne, e2, fun _ => none, (Heap.Ns1.of_empty e3).at fun o q => Heap.get?_push_of_some _ q, fun _ => True.intro, fun y hy => absurd rfl hy⟩

/-- e.f where nothing but the object is asked: through attributeBase (super) and the last hold -/
theorem attr_of {prog : Program} {w : World} {env : Env} {e : Expr} {f : Str} {pos : Pos} {s : Shared} {Q : Value → Shared → Prop} (hb : attributeBase e f env (eval e env) = eval e env)
    (h : wpAny (model prog w) A (eval e env) (fun o s₁ => wpAny (model prog w) A (getAttr o f true) Q E s₁) E s) : wpAny (model prog w) A (eval (.Attribute e f pos) env) Q E s :=
  Attribute_any_ h (by rw [arm_eval_Attribute, hb])
end

/-! ### readings and rules -/
/-- e.f, an attribute of the instance -/
def tFld (K : PySem.W.Frag) (ta : TE) (f : Str) : TE := fun σ H Q => ta σ H fun x H1 => ∃ a C dx fs v, x = .ref a ∧ H1 a = some (.ins C dx fs) ∧ Cls K C ∧ NoAttr K C f ∧ fs.lookup f = some v ∧ Q v H1
/-- e.f = value -/
def sFld (K : PySem.W.Frag) (ta tv : TE) (f : Str) : TS := fun D σ H => tv σ H fun y H1 => ta σ H1 fun x H2 => ∃ a C dx fs, x = .ref a ∧ H2 a = some (.ins C dx fs) ∧ Cls K C ∧ NoAttr K C f ∧ fs.length < 1000 ∧
  D.nx σ (upd H2 a (.ins C dx (putF f y fs)))
/-- an augmented operator on two values -/
def InOp (X : Cx) (op : Operator) (rd : V → V → Hp → VK → Prop) : Prop :=
  ∀ (pins : List (Addr × Obj)) (s : Shared) (σ : St) (H : Hp) (x y : V) (u v : Value) (Q : VK), Inv X pins σ H s → RelV x u → RelV y v → rd x y H Q → wpAny (model X.prog X.w) X.A (inplaceOp op u v) (EP X pins σ Q) X.xe s
/-- e.f op= value -/
def sFldAug (K : PySem.W.Frag) (ta tv : TE) (rd : V → V → Hp → VK → Prop) (f : Str) : TS := fun D σ H => ta σ H fun x H1 => ∃ a C dx fs v, x = .ref a ∧ H1 a = some (.ins C dx fs) ∧ Cls K C ∧ NoAttr K C f ∧ fs.lookup f = some v ∧
  tv σ H1 fun y H2 => rd v y H2 fun z H3 => ∃ dx' fs', H3 a = some (.ins C dx' fs') ∧ fs'.length < 1000 ∧ D.nx σ (upd H3 a (.ins C dx' (putF f z fs')))

section
variable {X : Cx} {o e value : Expr} {f : Str} {pos pos' tpos : Pos} {ta tv : TE}
theorem pe_fld (he : PE X e ta) (hb : attributeBase e f X.env (eval e X.env) = eval e X.env) : PE X (.Attribute e f pos) (tFld X.K ta f) := by
  intro pins s σ H Q I h
  refine attr_of hb (thn (he pins s σ H _ I h) fun u s1 ⟨x, H1, I1, rx, a, C, dx, fs, v, ex, ea, c, n, l, q⟩ => ?_)
  subst ex
  obtain rfl : u = Value.ref a := rx
  exact getattr_ok I1 ea c n l fun u' s2 I2 ru => ⟨v, H1, I2, ru, q⟩
theorem ps_fld (ha : PE X o ta) (hv : PE X value tv) (hs : swapsWith value (some (.Attribute o f pos')) pos.line X.env = pure false) : PS X (.Assign [.Attribute o f pos'] value pos) (sFld X.K ta tv f) := by
  intro pins s σ H D I h
  refine plainObj_wpAny_Assign_Attribute (thn (hv pins s σ H _ I h) fun u s1 ⟨y, H1, I1, ry, q⟩ => thn (ha pins s1 σ H1 _ I1 q) fun ov s2 ⟨x, H2, I2, rx, a, C, dx, fs, ex, ea, c, n, l, q2⟩ => ?_) hs
  subst ex
  obtain rfl : ov = Value.ref a := rx
  exact setattr_ok I2 ea c n l ry fun s3 I3 => ⟨σ, _, I3, q2⟩
theorem ps_fldaug {op : Operator} {rd : V → V → Hp → VK → Prop} (ha : PE X o ta) (hv : PE X value tv) (hop : InOp X op rd) : PS X (.AugAssign (.Attribute o f tpos) op value pos) (sFldAug X.K ta tv rd f) := by
  intro pins s σ H D I h
  refine wpAny_AugAssign_AttributeAny (thn (ha pins s σ H _ I h) fun ov s1 ⟨x, H1, I1, rx, a, C, dx, fs, v, ex, ea, c, n, l, q⟩ => ?_)
  subst ex
  obtain rfl : ov = Value.ref a := rx
  refine getattr_ok I1 ea c n l fun u s2 I2 ru => thn (hv pins s2 σ H1 _ I2 q) fun w3 s3 ⟨y, H2, I3, ry, q3⟩ => thn (hop pins s3 σ H2 v y u w3 _ I3 ru ry q3) fun w4 s4 ⟨z, H3, I4, rz, dx', fs', ea', l', q4⟩ => ?_
  exact setattr_ok I4 ea' c n l' rz fun s5 I5 => ⟨σ, _, I5, q4⟩
def rAdd : V → V → Hp → VK → Prop := fun x y H Q => ∃ i j, x = .int i ∧ y = .int j ∧ Q (.int (i + j)) H
theorem in_add : InOp X .Add rAdd := by
  rintro pins s σ H x y u v Q I rx ry ⟨i, j, rfl, rfl, q⟩
  obtain ⟨t, rfl⟩ := (show ∃ t, u = Value.int i t from rx)
  obtain ⟨t', rfl⟩ := (show ∃ t', v = Value.int j t' from ry)
  exact PyProof.Rows.iadd_int ⟨.int (i + j), H, I.tok _, ⟨_, rfl⟩, q⟩
end

/-! ### isinstance -/
section
variable {X : Cx} {pins : List (Addr × Obj)} {σ : St} {H : Hp} {s : Shared} {A : Around} {E : Value → Shared → Prop} {Q : Value → Shared → Prop} {c : Value} {b : Bool}
/-- the type of a value, as the fragment's deciders take it; for an instance its class -/
inductive TyOf (K : PySem.W.Frag) (H : Hp) : V → Value → Prop where
  | non : TyOf K H .non (.type "NoneType")
  | bl (x : Bool) : TyOf K H (.bl x) (.type "bool")
  | int (i : Int) : TyOf K H (.int i) (.type "int")
  | str (x : Str) : TyOf K H (.str x) (.type "str")
  | flt (x : UInt64) : TyOf K H (.flt x) (.type "float")
  | lst {a : Addr} {xs : List V} (e : H a = some (.lst xs)) : TyOf K H (.ref a) (.type "list")
  | frz {a : Addr} {o : Obj} {xs : List V} (e : H a = some (.frz o (.lst xs))) : TyOf K H (.ref a) (.type "list")
  | tup {a : Addr} {xs : List V} (e : H a = some (.tup xs)) : TyOf K H (.ref a) (.type "tuple")
  | dK {a : Addr} {kvs : List (Key × V)} (e : H a = some (.dK kvs)) : TyOf K H (.ref a) (.type "dict")
  | dT {a : Addr} {kvs : List (List Key × V)} (e : H a = some (.dT kvs)) : TyOf K H (.ref a) (.type "dict")
  | ins {a C dx : Addr} {fs : List (Str × V)} (e : H a = some (.ins C dx fs)) (cl : Cls K C) (ha : PySem.W.findIn K (.ref C) "__class__" = some (some (.builtin "object.__class__")))
      (hn : PySem.W.specialIn K (.builtin "object.__class__") "__get__" = some (some (.builtin "getset_descriptor.__get__"))) (htk : PySem.W.takesIn K (.builtin "object.__class__") = some true)
      (hm : PySem.W.mroIn K C (.type "object") = some true) : TyOf K H (.ref a) (.ref C)
end
end L2

namespace L2
open PySem PySem.Spec PyProof.Rows

/-! ### room -/
structure Room (k : Nat) (A : Around) : Prop where
  hd : A.handled = none
  dp : A.depth + 3 * k + 5 < recursionLimit
  un : A.units + 16 * k + 200 < cLine
theorem Room.mono {j k : Nat} {A : Around} (r : Room k A) (h : j ≤ k) : Room j A := ⟨r.hd, by have := r.dp; omega, by have := r.un; omega⟩
theorem Room.deeper {k : Nat} {A : Around} (r : Room (k + 1) A) (env : Env) : Room k (A.deeper env) :=
  ⟨r.hd, by have := r.dp; show A.depth + 1 + 3 * k + 5 < _; omega, by have := r.un; show A.units + 3 + 16 * k + 200 < _; omega⟩
theorem Room.in1 {k : Nat} {A : Around} (r : Room (k + 1) A) : Room k A.in1 :=
  ⟨r.hd, by have := r.dp; show A.depth + 3 * k + 5 < _; omega, by have := r.un; show A.units + 1 + 16 * k + 200 < _; omega⟩
theorem make_depth {A : Around} {C : Addr} {us : List Value} {kw : List (Str × Value)} : (A.under (.builtin "type.__call__" ⟨.ref C :: us, kw⟩)).depth = A.depth + 1 := by
  first | rfl | simp [Around.under, Code.weight, Code.isCreation, Code.isGuard, Code.isCaller, Code.frames, Code.isFrame, guardIds]
theorem make_units {A : Around} {C : Addr} {us : List Value} {kw : List (Str × Value)} : (A.under (.builtin "type.__call__" ⟨.ref C :: us, kw⟩)).units = A.units + 1 := by
  first | rfl | simp [Around.under, Code.cUnits, Code.frames, Code.isFrame]
theorem Room.make {k : Nat} {A : Around} (r : Room (k + 1) A) (C : Addr) (us : List Value) (kw : List (Str × Value)) : Room k (A.under (.builtin "type.__call__" ⟨.ref C :: us, kw⟩)) :=
  ⟨r.hd, by have := r.dp; rw [make_depth]; omega, by have := r.un; rw [make_units]; omega⟩
theorem Room.depth {k : Nat} {A : Around} (r : Room k A) : A.depth < recursionLimit := by have := r.dp; omega
theorem Room.units {k : Nat} {A : Around} (r : Room k A) : A.units + 64 < cLine := by have := r.un; omega
/-! ### argument lists and displays -/
def tNil : TA := fun _ H Q => Q [] H
def tCons (ta : TE) (tr : TA) : TA := fun σ H Q => ta σ H fun x H1 => tr σ H1 fun xs H2 => Q (x :: xs) H2
section
variable {X : Cx} {e : Expr} {es : List Expr} {te : TE} {t : TA} {pos : Pos}
theorem pa_nil : PA X [] tNil := fun _ _ _ _ H Q I h => Calls.spliced_nil ⟨[], H, I, .nil, h⟩
theorem pa_cons (ha : PE X e te) (hr : PA X es t) (hs : starEach (e :: es) X.env = (false, eval e X.env) :: starEach es X.env := by rfl) : PA X (e :: es) (tCons te t) := by
  intro pos pins s σ H Q I h
  rw [hs]
  show wpAny _ _ (spliced ((false, eval e X.env) :: backTo pos (starEach es X.env))) _ _ s
  refine Calls.spliced_cons (thn (ha pins s σ H _ I h) fun u s1 ⟨x, H1, I1, r1, q1⟩ => ?_)
  exact thn (hr pos pins s1 σ H1 _ I1 q1) fun us s2 ⟨xs, H2, I2, r2, q2⟩ => ⟨x :: xs, H2, I2, .cons r1 r2, q2⟩

/-- a tuple, a list of written items -/
def tTup (t : TA) : TE := fun σ H Q => t σ H fun xs H1 => xs.length ≤ sizeLine ∧ ∀ p, H1 p = none → Q (.ref p) (upd H1 p (.tup xs))
def tLst (t : TA) : TE := fun σ H Q => t σ H fun xs H1 => xs.length ≤ sizeLine ∧ ∀ p, H1 p = none → Q (.ref p) (upd H1 p (.lst xs))
theorem pe_tup {x1} (h : PA X es t) : PE X (.Tuple es x1 pos) (tTup t) := by
  intro pins s σ H Q I hq
  refine wpAny_Tuple_spliced (thn (h pos pins s σ H _ I hq) fun us s1 ⟨xs, H1, I1, r, z, q⟩ => ⟨by rw [← r.length]; exact z, ?_⟩)
  have hf : H1 s1.heap.objs.size = none := I1.hok.fresh (Nat.le_refl _)
  refine ⟨.ref s1.heap.objs.size, upd H1 s1.heap.objs.size (.tup xs), I1.laid (t' := s1.toks) (fun b u e => Heap.get?_push_of_some _ e) (Nat.le_refl _) ?_, rfl, q _ hf⟩
  exact ⟨z, us, r, ⟨_, Heap.get?_push_size _ rfl, rfl, _, rfl⟩⟩
theorem pe_lst (h : PA X es t) : PE X (.List es pos) (tLst t) := by
  intro pins s σ H Q I hq
  refine wpAny_List_spliced (thn (h pos pins s σ H _ I hq) fun us s1 ⟨xs, H1, I1, r, z, q⟩ => ⟨by rw [← r.length]; exact z, ?_⟩)
  have hf : H1 s1.heap.objs.size = none := I1.hok.fresh (Nat.le_refl _)
  refine ⟨.ref s1.heap.objs.size, upd H1 s1.heap.objs.size (.lst xs), I1.laid (t' := s1.toks) (fun b u e => Heap.get?_push_of_some _ e) (Nat.le_refl _) ?_, rfl, q _ hf⟩
  exact ⟨z, us, 0, r, Heap.get?_push_size _ rfl⟩
end

/-! ### what a def promises -/
/-- a def's promise: the bound arguments in the parameters' order, the heap, the wanted end, the wanted exception -/
abbrev Sp := List V → Hp → VK → XK → Prop
/-- how an exception lies behind a call (file 08 gives it): the callers' frames, abstract heap and state ahead of the call, the wish, the exception, the state -/
abbrev CXT := List Env → Hp → Shared → XK → Value → Shared → Prop

/-- the state at a call -/
structure Env0 (P : Program) (w : World) (K : PySem.W.Frag) (mg : Str → Option Value) (base : Heap) (A : Around) (outer : List Env) (s : Shared) (H : Hp) : Prop where
  frames : A.frames = some outer
  mod : Mod K mg base
  bs : ∀ b o, base.get? b = some o → s.heap.get? b = some o ∧ H b = none
  bsz : base.objs.size ≤ s.heap.objs.size
  funs : s.heap.FunFrames base outer
  frf : ∀ b ∈ frs outer, H b = none
  hok : HOk P w H s.heap
  bare : AllBare s.gens
/-- a call's end -/
def CE (outer : List Env) (P : Program) (w : World) (H : Hp) (s : Shared) (Q : VK) (u : Value) (s' : Shared) : Prop :=
  ∃ v H', s'.os = s.os ∧ AllBare s'.gens ∧ Un (frs outer) [] H H' s.heap s'.heap ∧ HOk P w H' s'.heap ∧ RelV v u ∧ Q v H'
def CR (CX : CXT) (outer : List Env) (P : Program) (w : World) (H : Hp) (s : Shared) (Q : VK) (E : XK) (r : Result) (s' : Shared) : Prop :=
  match r with
  | .ok (.ret u) => CE outer P w H s Q u s'
  | .ok _ => False
  | .error e => CX outer H s E e s'
structure FnOk (P : Program) (w : World) (K : PySem.W.Frag) (mg : Str → Option Value) (base : Heap) (CX : CXT) (k : Nat) (f : Addr) (fd : FuncData) (ps : List Str) (sp : Sp) : Prop where
  len : ∀ vs H Q E, sp vs H Q E → vs.length = ps.length
  run : ∀ (A : Around) (outer : List Env) (s : Shared) (H : Hp) (args : Args) (us : List Value) (vs : List V) (Q : VK) (E : XK), Room k A → Env0 P w K mg base A outer s H → BindsTo s fd args (ps.zip us) → Vals vs us → sp vs H Q E →
    codeAny (model P w) A (.call (.ref f) args) (CR CX outer P w H s Q E) s
theorem FnOk.mono {P : Program} {w : World} {K : PySem.W.Frag} {mg : Str → Option Value} {base : Heap} {CX : CXT} {j k : Nat} {f : Addr} {fd : FuncData} {ps : List Str} {sp : Sp} (F : FnOk P w K mg base CX j f fd ps sp) (h : j ≤ k) :
    FnOk P w K mg base CX k f fd ps sp := ⟨F.len, fun A outer s H args us vs Q E hr => F.run A outer s H args us vs Q E (hr.mono h)⟩
/-- a weaker promise -/
theorem FnOk.imp {P : Program} {w : World} {K : PySem.W.Frag} {mg : Str → Option Value} {base : Heap} {CX : CXT} {k : Nat} {f : Addr} {fd : FuncData} {ps : List Str} {sp sp' : Sp} (F : FnOk P w K mg base CX k f fd ps sp)
    (h : ∀ vs H Q E, sp' vs H Q E → sp vs H Q E) : FnOk P w K mg base CX k f fd ps sp' :=
  ⟨fun vs H Q E q => F.len vs H Q E (h _ _ _ _ q), fun A outer s H args us vs Q E hr he hb hv hs => F.run A outer s H args us vs Q E hr he hb hv (h _ _ _ _ hs)⟩

theorem Env0.make {P : Program} {w : World} {K : PySem.W.Frag} {mg : Str → Option Value} {base : Heap} {A : Around} {outer : List Env} {s : Shared} {H : Hp} (e : Env0 P w K mg base A outer s H) (C : Addr) (us : List Value) (kw : List (Str × Value)) :
    Env0 P w K mg base (A.under (.builtin "type.__call__" ⟨.ref C :: us, kw⟩)) outer s H := ⟨by first | exact e.frames | (simpa [Around.under, Code.envs, Code.isFrame, pushEnvs] using e.frames), e.mod, e.bs, e.bsz, e.funs, e.frf, e.hok, e.bare⟩
theorem Env0.in1 {P : Program} {w : World} {K : PySem.W.Frag} {mg : Str → Option Value} {base : Heap} {A : Around} {outer : List Env} {s : Shared} {H : Hp} (e : Env0 P w K mg base A outer s H) :
    Env0 P w K mg base A.in1 outer s H := ⟨e.frames, e.mod, e.bs, e.bsz, e.funs, e.frf, e.hok, e.bare⟩

section
variable {X : Cx} {pins : List (Addr × Obj)} {σ : St} {H : Hp} {s s' : Shared}
/-- from a body: what a callee wants -/
theorem Inv.env0 (I : Inv X pins σ H s) : Env0 X.prog X.w X.K X.mg X.base X.A X.stack s H :=
  ⟨I.ok.frames, I.ok.mod, I.bs, Nat.le_trans I.ok.bsz I.sz, I.stack, I.stkFree, I.hok, I.bare⟩
/-- behind a call -/
theorem Inv.after {Q : VK} {u : Value} (I : Inv X pins σ H s) (h : CE X.stack X.prog X.w H s Q u s') : EP X pins σ Q u s' := by
  obtain ⟨v, H', os, bare, un, hok, r, q⟩ := h
  obtain ⟨hh, g, d, t, os'⟩ := s'
  obtain rfl : os' = s.os := os
  exact ⟨v, H', I.call (h' := hh) (g' := g) (d' := d) (t' := t) (ch := []) un hok bare (fun b z => absurd z (by simp)), r, q⟩
end

/-! ### calls -/
/-- f(..): the written arguments, then the defaults dvs; E: what is wanted of an exception -/
def tCall (sp : Sp) (dvs : List V) (E : St → XK) (t : TA) : TE := fun σ H Q => t σ H fun vs H1 => sp (vs ++ dvs) H1 Q (E σ)
/-- o.m(..) of an instance of the class at C -/
def tMeth (C : Addr) (m : Str) (sp : Sp) (dvs : List V) (E : St → XK) (ta : TE) (t : TA) : TE := fun σ H Q => ta σ H fun x H1 => ∃ a dx fs, x = .ref a ∧ H1 a = some (.ins C dx fs) ∧ fs.lookup m = none ∧
  t σ H1 fun vs H2 => sp (x :: (vs ++ dvs)) H2 Q (E σ)
/-- C(..): a new instance and its dict, then __init__ -/
def tMake (C : Addr) (sp : Sp) (dvs : List V) (E : St → XK) (t : TA) : TE := fun σ H Q => t σ H fun vs H1 => ∀ x dx, H1 x = none → H1 dx = none → dx ≠ x →
  sp (.ref x :: (vs ++ dvs)) (upd (upd H1 dx (.own x)) x (.ins C dx [])) (fun v H2 => v = .non ∧ Q (.ref x) H2) (E σ)

/-- how the parameters are bound: us the positional arguments, kw the keywords' values by name, ds the defaults that fill up -/
def Binds (K : PySem.W.Frag) (fd : FuncData) (ps : List Str) (ds : List Value) : Prop :=
  ∀ (s : Shared) (us : List Value), K.In s.heap → (us ++ ds).length = ps.length → BindsTo s fd ⟨us, []⟩ (ps.zip (us ++ ds))
/-- every parameter is given -/
theorem Binds.all {K : PySem.W.Frag} {fd : FuncData} {ps : List Str} (h : ∀ us : List Value, us.length = ps.length → bindArgs fd ⟨us, []⟩ = pure (ps.zip us)) : Binds K fd ps [] := fun s us _ hl => by
  rw [List.append_nil] at hl ⊢
  exact .of_eq (h us hl)

/-- an exception of a callee reaches what this body wants of exceptions -/
def Passes (CX : CXT) (X : Cx) (E : St → XK) : Prop := ∀ (pins : List (Addr × Obj)) (σ : St) (H : Hp) (s : Shared) (e : Value) (s' : Shared), Inv X pins σ H s → CX X.stack H s (E σ) e s' → X.xe e s'

section
variable {X : Cx} {CX : CXT} {k : Nat} {f C : Addr} {fd : FuncData} {ps : List Str} {sp : Sp} {dvs : List V} {ds : List Value} {E : St → XK} {x m : Str} {p pos apos : Pos} {e o : Expr} {es : List Expr} {ta : TE} {t : TA}

/-- the callee runs -/
theorem run_fn {pins : List (Addr × Obj)} {σ : St} {H : Hp} {s : Shared} {Q : VK} {us : List Value} {vs : List V} (F : FnOk X.prog X.w X.K X.mg X.base CX k f fd ps sp) (hr : Room k X.A) (hb : Binds X.K fd ps ds) (hd : Vals dvs ds) (hx : Passes CX X E)
    (I : Inv X pins σ H s) (r : Vals vs us) (h : sp (vs ++ dvs) H Q (E σ)) : wpAny (model X.prog X.w) X.A (call (.ref f) us) (EP X pins σ Q) X.xe s := by
  have r2 : Vals (vs ++ dvs) (us ++ ds) := r.append hd
  have hl : (us ++ ds).length = ps.length := by rw [← r2.length]; exact F.len _ _ _ _ h
  refine wpAny_call (codeAny_mono (F.run X.A X.stack s H ⟨us, []⟩ (us ++ ds) (vs ++ dvs) Q (E σ) hr I.env0 (hb s us I.kIn hl) r2 h) fun r s' hq => ?_)
  cases r with
  | error e => exact hx pins σ H s e s' I hq
  | ok fl =>
    cases fl with
    | ret u => exact I.after hq
    | next => exact False.elim hq
    | brk => exact False.elim hq
    | cont => exact False.elim hq

theorem pe_call (F : FnOk X.prog X.w X.K X.mg X.base CX k f fd ps sp) (hr : Room k X.A) (hg : Gl X x) (hm : X.mg x = some (.ref f)) (hk : PySem.W.keepIn X.K (.ref f) = true) (hb : Binds X.K fd ps ds) (hd : Vals dvs ds) (hx : Passes CX X E)
    (ha : PA X (e :: es) t) (hdb : (x == ("__debug__" : Str)) = false := by decide) (he : starEach (e :: es) X.env = (false, eval e X.env) :: starEach es X.env := by rfl) (hpl : (backTo pos (starEach es X.env)).any (·.1) = false := by rfl) :
    PE X (.Call (.Name x p) (e :: es) [] pos) (tCall sp dvs E t) := by
  intro pins s σ H Q I h
  refine wpAny_Call_Name_kw (ld_glob I hg hm ?_ hdb)
  refine PySem.W.callWith_K (h₀ := X.base) I.ok.mod.kin hk (thn (ha pos pins s σ H _ I h) fun us s1 ⟨vs, H1, I1, r, q⟩ => ⟨I1.kIn, ?_⟩) he hpl
  exact run_fn F hr hb hd hx I1 r q
/-- o.m(e, ..) -/
theorem pe_meth {pl : Sem Bool} (he : PE X o ta) (c : Cls X.K C) (hm : Meth X.K C m f) (F : FnOk X.prog X.w X.K X.mg X.base CX k f fd ps sp) (hr : Room k X.A) (hb : Binds X.K fd ps ds) (hd : Vals dvs ds) (hx : Passes CX X E) (ha : PA X (e :: es) t)
    (hst : starEach (e :: es) X.env = (false, eval e X.env) :: starEach es X.env := by rfl) (hpl : (backTo pos (starEach es X.env)).any (·.1) = false := by rfl)
    (ht : eval (.Call (.Attribute o m apos) (e :: es) [] pos) X.env = (do
      let ov ← eval o X.env
      standAt apos.atName
      let (f, first) ← holding [ov] (getMethod ov m pl)
      callWith pos f first (backTo pos (starEach (e :: es) X.env)) (backToKw pos (keywordEach [] X.env))) := by rfl) :
    PE X (.Call (.Attribute o m apos) (e :: es) [] pos) (tMeth C m sp dvs E ta t) := by
  intro pins s σ H Q I h
  refine PySem.W.methodCall_KW (pl := pl) (thn (he pins s σ H _ I h) fun u s1 ⟨x, H1, I1, rx, a, dx, fs, ex, ea, l, q⟩ => ?_) ht
  subst ex
  obtain rfl : u = Value.ref a := rx
  refine getmeth_ok I1 ea c hm l ?_
  refine PySem.W.callWith_K (first := [.ref a]) (h₀ := X.base) I.ok.mod.kin hm.kp (thn (ha pos pins s1 σ H1 _ I1 q) fun us s2 ⟨vs, H2, I2, r, q2⟩ => ⟨I2.kIn, ?_⟩) hst hpl
  exact run_fn (us := .ref a :: us) (vs := .ref a :: vs) F hr hb hd hx I2 (.cons rfl r) q2
/-- o.m() -/
theorem pe_meth0 {pl : Sem Bool} (he : PE X o ta) (c : Cls X.K C) (hm : Meth X.K C m f) (F : FnOk X.prog X.w X.K X.mg X.base CX k f fd ps sp) (hr : Room k X.A) (hb : Binds X.K fd ps ds) (hd : Vals dvs ds) (hx : Passes CX X E)
    (ht : eval (.Call (.Attribute o m apos) [] [] pos) X.env = (do
      let ov ← eval o X.env
      standAt apos.atName
      let (f, first) ← holding [ov] (getMethod ov m pl)
      callWith pos f first (backTo pos (starEach [] X.env)) (backToKw pos (keywordEach [] X.env))) := by rfl) :
    PE X (.Call (.Attribute o m apos) [] [] pos) (tMeth C m sp dvs E ta tNil) := by
  intro pins s σ H Q I h
  refine PySem.W.methodCall_KW (pl := pl) (thn (he pins s σ H _ I h) fun u s1 ⟨x, H1, I1, rx, a, dx, fs, ex, ea, l, q⟩ => ?_) ht
  subst ex
  obtain rfl : u = Value.ref a := rx
  refine getmeth_ok I1 ea c hm l ?_
  exact PySem.W.callWith_K0 (first := [.ref a]) I1.kIn hm.kp (run_fn (us := [.ref a]) (vs := [.ref a]) F hr hb hd hx I1 (.cons rfl .nil) q)

/-- what a class must have to be made -/
structure Mk (K : PySem.W.Frag) (C f : Addr) : Prop where
  makes : PySem.W.makesIn K C = true
  init : PySem.W.findIn K (.ref C) "__init__" = some (some (.ref f))
  fn : PySem.W.isFn K (.ref f) = true
  kp : PySem.W.keepIn K (.ref C) = true

theorem run_make {pins : List (Addr × Obj)} {σ : St} {H : Hp} {s : Shared} {Q : VK} {us : List Value} {vs : List V} (M : Mk X.K C f) (F : FnOk X.prog X.w X.K X.mg X.base CX k f fd ps sp) (hr : Room (k + 1) X.A) (hb : Binds X.K fd ps ds) (hd : Vals dvs ds)
    (hx : Passes CX X E) (I : Inv X pins σ H s) (r : Vals vs us)
    (h : ∀ x dx, H x = none → H dx = none → dx ≠ x → sp (.ref x :: (vs ++ dvs)) (upd (upd H dx (.own x)) x (.ins C dx [])) (fun v H2 => v = .non ∧ Q (.ref x) H2) (E σ)) :
    wpAny (model X.prog X.w) X.A (call (.ref C) us) (EP X pins σ Q) X.xe s := by
  have hq := h (s.heap.objs.size + 1) s.heap.objs.size (I.hok.fresh (Nat.le_succ _)) (I.hok.fresh (Nat.le_refl _)) (Nat.ne_of_lt (Nat.lt_succ_self _))
  have I2 := Inv.made (C := C) I
  have r2 : Vals (V.ref (s.heap.objs.size + 1) :: (vs ++ dvs)) (Value.ref (s.heap.objs.size + 1) :: (us ++ ds)) := .cons rfl (r.append hd)
  have hl : (Value.ref (s.heap.objs.size + 1) :: us ++ ds).length = ps.length := by
    have e := r2.length
    rw [F.len _ _ _ _ hq] at e
    exact e.symm
  refine wpAny_call (make_map (f := f) I.kIn M.makes M.init (beq_iff_eq.mp M.fn) (codeAny_mono (F.run _ X.stack _ _ ⟨Value.ref (s.heap.objs.size + 1) :: us, []⟩ (Value.ref (s.heap.objs.size + 1) :: (us ++ ds)) _ _ (E σ) (hr.make C us [])
    (I2.env0.make C us []) (hb _ (Value.ref (s.heap.objs.size + 1) :: us) I2.kIn hl) r2 hq) fun r s' hq' => ?_))
  cases r with
  | error e => exact hx pins σ _ _ e s' I2 hq'
  | ok fl =>
    cases fl with
    | ret u =>
      obtain ⟨v, H', I3, rv, ev, q3⟩ := I2.after hq'
      subst ev
      exact ⟨rv, ⟨V.ref (s.heap.objs.size + 1), H', I3, rfl, q3⟩⟩
    | next => exact False.elim hq'
    | brk => exact False.elim hq'
    | cont => exact False.elim hq'
theorem pe_make (M : Mk X.K C f) (F : FnOk X.prog X.w X.K X.mg X.base CX k f fd ps sp) (hr : Room (k + 1) X.A) (hg : Gl X x) (hm : X.mg x = some (.ref C)) (hb : Binds X.K fd ps ds) (hd : Vals dvs ds) (hx : Passes CX X E)
    (ha : PA X (e :: es) t) (hdb : (x == ("__debug__" : Str)) = false := by decide) (he : starEach (e :: es) X.env = (false, eval e X.env) :: starEach es X.env := by rfl) (hpl : (backTo pos (starEach es X.env)).any (·.1) = false := by rfl) :
    PE X (.Call (.Name x p) (e :: es) [] pos) (tMake C sp dvs E t) := by
  intro pins s σ H Q I h
  refine wpAny_Call_Name_kw (ld_glob I hg hm ?_ hdb)
  refine PySem.W.callWith_K (h₀ := X.base) I.ok.mod.kin M.kp (thn (ha pos pins s σ H _ I h) fun us s1 ⟨vs, H1, I1, r, q⟩ => ⟨I1.kIn, ?_⟩) he hpl
  exact run_make M F hr hb hd hx I1 r q
end

/-! ### keywords -/
section
variable {X : Cx} {CX : CXT} {k : Nat} {f C : Addr} {fd : FuncData} {ps ks : List Str} {sp : Sp} {E : St → XK} {x m : Str} {p pos apos kpos : Pos} {e o : Expr} {es : List Expr} {kws : List Keyword} {te ta : TE} {t tk : TA} {nm : Option Str}
/-- how a call with keywords binds: g puts the positional values us and the keywords' values ws (names ks) in the parameters' order, defaults among them -/
structure KBinds (K : PySem.W.Frag) (fd : FuncData) (ps ks : List Str) (g : List Value → List Value → List Value) (gV : List V → List V → List V) : Prop where
  to : ∀ (s : Shared) (us ws : List Value), K.In s.heap → (g us ws).length = ps.length → BindsTo s fd ⟨us, ks.zip ws⟩ (ps.zip (g us ws))
  rel : ∀ {vs : List V} {us : List Value} {zs : List V} {ws : List Value}, Vals vs us → Vals zs ws → Vals (gV vs zs) (g us ws)
variable {g : List Value → List Value → List Value} {gV : List V → List V → List V}
end

/-! ### a def's body keeps its promise -/
/-- names: the parameters first -/
structure FnScope (N P : List Str) (sc : Scope) : Prop where
  kind : sc.kind = .function
  co : sc.isCoroutine = false
  gen : sc.isGenerator = false
  nd : N.Nodup
  pre : N.take P.length = P
  par : ∀ x ∈ P, sc.names.lookup x = some .local ∨ sc.names.lookup x = some .cell
  nofree : ∀ y ∈ sc.names, y.2 ≠ .free

theorem bindL_out {kindOf : Str → Option NameKind} {x : Str} : ∀ {binds : List (Str × Value)} {m : Str → Option Value}, (∀ v, (x, v) ∉ binds) → bindL kindOf binds m x = m x
  | [], _, _ => rfl
  | (n, v) :: r, m, h => by
    unfold bindL
    rw [bindL_out fun w hw => h w (List.mem_cons_of_mem _ hw)]
    split
    · have : x ≠ n := by rintro rfl; exact h v List.mem_cons_self
      simp [this]
    · rfl
theorem bindC_out {kindOf : Str → Option NameKind} {x : Str} : ∀ {binds : List (Str × Value)} {m : Str → Option Value}, (∀ v, (x, v) ∉ binds) → bindC kindOf binds m x = m x
  | [], _, _ => rfl
  | (n, v) :: r, m, h => by
    unfold bindC
    rw [bindC_out fun w hw => h w (List.mem_cons_of_mem _ hw)]
    split
    · rfl
    · have : x ≠ n := by rintro rfl; exact h v List.mem_cons_self
      simp [this]
theorem bindL_get {kindOf : Str → Option NameKind} {x : Str} {v : Value} : ∀ {P : List Str} {vs : List Value} {i : Nat} {m : Str → Option Value}, P.Nodup → P[i]? = some x → vs[i]? = some v → kindOf x = some .local →
    bindL kindOf (P.zip vs) m x = some v
  | [], _, _, _, _, h, _, _ => by simp at h
  | _ :: _, [], _, _, _, _, h, _ => by simp at h
  | p :: P, w :: vs, 0, m, nd, h1, h2, hk => by
    simp at h1 h2; subst h1; subst h2
    show bindL kindOf ((p, w) :: P.zip vs) m p = _
    unfold bindL
    rw [bindL_out fun v hv => (List.nodup_cons.mp nd).1 (List.of_mem_zip hv).1, if_pos hk]
    simp
  | p :: P, w :: vs, i + 1, m, nd, h1, h2, hk => by
    show bindL kindOf ((p, w) :: P.zip vs) m x = _
    unfold bindL
    exact bindL_get (i := i) (List.nodup_cons.mp nd).2 (by simpa using h1) (by simpa using h2) hk
theorem bindC_get {kindOf : Str → Option NameKind} {x : Str} {v : Value} : ∀ {P : List Str} {vs : List Value} {i : Nat} {m : Str → Option Value}, P.Nodup → P[i]? = some x → vs[i]? = some v → kindOf x ≠ some .local →
    bindC kindOf (P.zip vs) m x = some v
  | [], _, _, _, _, h, _, _ => by simp at h
  | _ :: _, [], _, _, _, _, h, _ => by simp at h
  | p :: P, w :: vs, 0, m, nd, h1, h2, hk => by
    simp at h1 h2; subst h1; subst h2
    show bindC kindOf ((p, w) :: P.zip vs) m p = _
    unfold bindC
    rw [bindC_out fun v hv => (List.nodup_cons.mp nd).1 (List.of_mem_zip hv).1, if_neg hk]
    simp
  | p :: P, w :: vs, i + 1, m, nd, h1, h2, hk => by
    show bindC kindOf ((p, w) :: P.zip vs) m x = _
    unfold bindC
    exact bindC_get (i := i) (List.nodup_cons.mp nd).2 (by simpa using h1) (by simpa using h2) hk

/-- the names' values at the entry -/
def start (N : List Str) (vs : List V) : St := vs.map some ++ List.replicate (N.length - vs.length) none

/-- the context of a def's body, at its entry; an exception leaves the frame, then lies as CX says -/
def cxOf (CX : CXT) (P : Program) (w : World) (K : PySem.W.Frag) (mg : Str → Option Value) (base : Heap) (N : List Str) (qual : Str) (scope : Scope) (f : Addr) (cd : Value) (A : Around) (outer : List Env) (s : Shared) (H : Hp) (E : XK) : Cx where
  prog := P
  w := w
  K := K
  mg := mg
  base := base
  A := A.deeper (envOfC qual scope s.heap.objs.size f cd)
  N := N
  s₀ := s
  H₀ := H
  env := envOfC qual scope s.heap.objs.size f cd
  outer := outer
  stack := envOfC qual scope s.heap.objs.size f cd :: outer
  ex := []
  calm := true
  fn := fun _ => true
  pn := []
  xe := fun e s' => wpAny (model P w) (A.deeper (envOfC qual scope s.heap.objs.size f cd)) (leaving (envOfC qual scope s.heap.objs.size f cd) e) (fun _ s'' => CX outer H s E e s'') (fun e' s'' => CX outer H s E e' s'') s'

theorem cell_has {sc : Scope} {n : Nat} {x : Str} (h : sc.names.lookup x = some .cell) : ∃ c, (cellsFrom n sc.names []).lookup x = some c := by
  have q := PySem.W.cellsFrom_some sc.names n [] (.inl h)
  exact Option.isSome_iff_exists.mp q

theorem inv_start {CX : CXT} {P : Program} {w : World} {K : PySem.W.Frag} {mg : Str → Option Value} {base : Heap} {N ps : List Str} {qual : Str} {scope : Scope} {f : Addr} {cd : Value} {A : Around} {outer : List Env} {s s1 : Shared} {H : Hp} {E : XK} {us : List Value} {vs : List V}
    (S : FnScope N ps scope) (hd : A.handled = none) (e0 : Env0 P w K mg base A outer s H) (hl : vs.length = ps.length) (r : Vals vs us)
    (x : InCallC s s.heap.objs.size (bindL (envOfC qual scope s.heap.objs.size f cd).kindOf (ps.zip us) fun _ => none) (cellsFrom (s.heap.objs.size + 1) scope.names []) (bindC (envOfC qual scope s.heap.objs.size f cd).kindOf (ps.zip us) fun _ => none) s1) :
    Inv (cxOf CX P w K mg base N qual scope f cd A outer s H E) [] (start N vs) H s1 := by
  have hpl : ps.length ≤ N.length := by have := congrArg List.length S.pre; rw [List.length_take] at this; omega
  obtain ⟨h1, tk, rfl, hk⟩ := x.done
  have noA : ∀ b : Addr, b ∉ (cxOf CX P w K mg base N qual scope f cd A outer s H E).ex := fun b z => absurd (show b ∈ ([] : List Addr) from z) (by simp)
  refine ⟨⟨e0.mod, S.kind, rfl, rfl, Nat.le_refl _, fun y z c h1 h2 => ?_, fun y hy => ?_, fun y c _ h => ?_, fun _ => hd, Around.frames_deeper e0.frames, .inr ⟨rfl, rfl⟩, fun b z => absurd z (noA b), e0.bs, e0.bsz, fun b _ _ => noA b, fun b z => absurd z (noA b), e0.funs, e0.frf⟩,
    rfl, e0.bare, Un.kept hk, ⟨_, x.toInCall.ns, fun i y v h1 h2 h3 => ?_⟩, fun y c h => ⟨_, x.cell y c h⟩, e0.hok.fresh (Nat.le_refl _), fun y c h => ?_, fun p hp => absurd (show p ∈ ([] : List (Addr × Obj)) from hp) (by simp), e0.hok.kept hk, ?_⟩
  · exact name_of_addr x.apart (PySem.mem_of_lookup h1) (PySem.mem_of_lookup h2)
  · have hy : scope.names.lookup y = some .cell ∨ scope.names.lookup y = some .free := hy
    rcases hy with hy | hy
    · exact cell_has hy
    · exact absurd rfl (S.nofree _ (PySem.mem_of_lookup hy))
  · exact Nat.le_of_lt (x.above y c (PySem.mem_of_lookup h))
  · have hi : i < vs.length := by
      unfold start at h2
      by_cases hi : i < vs.length
      · exact hi
      · rw [List.getElem?_append_right (by simpa using hi)] at h2
        rw [List.getElem?_replicate] at h2
        split at h2 <;> cases h2
    have ha : vs[i]? = some v := by
      unfold start at h2
      rw [List.getElem?_append_left (by simpa using hi), List.getElem?_map] at h2
      cases e : vs[i]? with
      | none => rw [e] at h2; cases h2
      | some a => rw [e] at h2; cases h2; rfl
    obtain ⟨u, hu, rv⟩ := r.get ha
    have hp : ps[i]? = some y := by
      rw [← S.pre, List.getElem?_take_of_lt (by omega)]; exact h1
    have ndP : ps.Nodup := by rw [← S.pre]; exact S.nd.sublist (List.take_sublist _ _)
    refine ⟨u, rv, ?_⟩
    rcases S.par y (List.mem_of_getElem? hp) with k | k
    · exact .inl ⟨k, bindL_get ndP hp hu k⟩
    · obtain ⟨c, e⟩ := cell_has (n := s.heap.objs.size + 1) k
      refine .inr ⟨.inl k, c, e, ?_⟩
      have q := x.cell y c e
      rw [bindC_get ndP hp hu (by show scope.names.lookup y ≠ _; rw [k]; decide)] at q
      exact q
  · exact e0.hok.fresh (Nat.le_of_lt (x.above y c (PySem.mem_of_lookup h)))
  · unfold start
    show _ = N.length
    rw [List.length_append, List.length_map, List.length_replicate]
    omega

/-- THE RULE: a def (or a method) of the text, by its body. The body's reading t is chosen for each entry; it is run at the parameters' values -/
theorem fn_of {CX : CXT} {P : Program} {w : World} {K : PySem.W.Frag} {mg : Str → Option Value} {base : Heap} {k : Nat} {f : Addr} {name qual : Str} {params : Arguments} {body : List Stmt} {scope : Scope} {dV kV doc pm cdv ct oc : Value} {an od : Option Addr}
    {osl : Array (Option Value)} {N ps : List Str} {sp : Sp} (lk : K.lookup f = some ⟨oc, od, .func (PySem.W.fnOf name qual params body scope dV kV doc pm an cdv ct), osl⟩) (hcd : PySem.W.codeIn K cdv qual = true) (S : FnScope N ps scope)
    (len : ∀ vs H Q E, sp vs H Q E → vs.length = ps.length)
    (hbody : ∀ (A : Around) (outer : List Env) (s : Shared) (H : Hp) (vs : List V) (Q : VK) (E : XK), Room k (A.deeper (envOfC qual scope s.heap.objs.size f cdv)) → sp vs H Q E →
      ∃ t, PSs (cxOf CX P w K mg base N qual scope f cdv A outer s H E) body t ∧ t { nx := fun _ H' => Q .non H', rt := Q } (start N vs) H) :
    FnOk P w K mg base CX (k + 1) f (PySem.W.fnOf name qual params body scope dV kV doc pm an cdv ct) ps sp := by
  refine ⟨len, fun A outer s H args us vs Q E hr e0 hb r hsp => ?_⟩
  have hl := len _ _ _ _ hsp
  have KX : K.In s.heap := e0.mod.kin.keeps fun b o e => (e0.bs b o e).1
  have lim : s.heap.NoLimit := e0.mod.nolimit.keeps fun b o e => (e0.bs b o e).1
  have hkind : ∀ y ∈ ps.zip us, scope.names.lookup y.1 = some .local ∨ (scope.names.lookup y.1 = some .cell ∧ ((cellsFrom (s.heap.objs.size + 1) scope.names []).lookup y.1).isSome = true) := fun ⟨n, v⟩ hy => by
    rcases S.par n (List.of_mem_zip hy).1 with q | q
    · exact .inl q
    · exact .inr ⟨q, PySem.W.cellsFrom_some _ _ _ (.inl q)⟩
  refine codeAny_call_function hr.depth (KX _ _ lk) rfl S.co S.gen rfl (PySem.W.codeRec_of KX hcd) (hb _ _ _ _ ?_)
  refine wpAny_newFunctionEnv_cells S.kind hkind fun env he s1 x => ?_
  subst he
  refine ⟨lim.keeps x.toInCall.keep, codeAny_func ?_⟩
  obtain ⟨t, ht, hq⟩ := hbody A outer s H vs Q E (hr.deeper _) hsp
  have I : Inv (cxOf CX P w K mg base N qual scope f cdv A outer s H E) [] (start N vs) H s1 := inv_start S hr.hd e0 hl r x
  refine wpAny_mono (ht [] s1 (start N vs) H _ I hq) (fun fl s' hs => ?_) fun e s' hs => hs
  have fin : ∀ {σ' : St} {H' : Hp} {v : V} {u : Value}, Inv (cxOf CX P w K mg base N qual scope f cdv A outer s H E) [] σ' H' s' → RelV v u → Q v H' → CE outer P w H s Q u s' :=
    fun {σ' H' v u} J rv q => ⟨v, H', J.os, J.bare, J.base, J.hok, rv, q⟩
  cases fl with
  | ret u =>
    obtain ⟨v, σ', H', J, rv, q⟩ := hs
    exact fin J rv q
  | next =>
    obtain ⟨σ', H', J, q⟩ := hs
    exact fin (v := V.non) (u := Value.none) J rfl q
  | brk =>
    obtain ⟨_, _, _, q⟩ := hs
    exact False.elim q
  | cont =>
    obtain ⟨_, _, _, q⟩ := hs
    exact False.elim q
end L2

namespace L2
open PySem PySem.Spec PyProof.Rows
section
variable {X : Cx} {x : Str} {p pos : Pos} {e : Expr} {es : List Expr} {t : TA} {id T : String} {r : List V → Hp → VK → Prop}

def tCB (r : List V → Hp → VK → Prop) (t : TA) : TE := fun σ H Q => t σ H fun vs H1 => r vs H1 Q
/-- f(e, ..), f a built-in function -/
theorem pe_callB (hc : CallR X (.builtin id) r) (hg : Gl X x) (hm : X.mg x = none) (hv : bootBuiltins x = some (.builtin id)) (ha : PA X (e :: es) t) (hn : x ≠ "__name__" := by decide) (hdb : (x == ("__debug__" : Str)) = false := by decide)
    (he : starEach (e :: es) X.env = (false, eval e X.env) :: starEach es X.env := by rfl) (hpl : (backTo pos (starEach es X.env)).any (·.1) = false := by rfl) : PE X (.Call (.Name x p) (e :: es) [] pos) (tCB r t) := by
  intro pins s σ H Q I h
  refine wpAny_Call_Name_kw (ld_blt I hg hm hv ?_ hn hdb)
  exact PyProof.Rows.callWith_builtin1 (thn (ha pos pins s σ H _ I h) fun us s1 ⟨vs, H1, I1, r1, q1⟩ => hc pins s1 σ H1 vs us Q I1 r1 q1) he hpl
/-- T(e, ..), T a built-in type -/
theorem pe_callTy (hc : CallR X (.type T) r) (hg : Gl X x) (hm : X.mg x = none) (hv : bootBuiltins x = some (.type T)) (ha : PA X (e :: es) t) (hn : x ≠ "__name__" := by decide) (hdb : (x == ("__debug__" : Str)) = false := by decide)
    (he : starEach (e :: es) X.env = (false, eval e X.env) :: starEach es X.env := by rfl) (hpl : (backTo pos (starEach es X.env)).any (·.1) = false := by rfl) : PE X (.Call (.Name x p) (e :: es) [] pos) (tCB r t) := by
  intro pins s σ H Q I h
  refine wpAny_Call_Name_kw (ld_blt I hg hm hv ?_ hn hdb)
  exact PyProof.Rows.callWith_type1 (thn (ha pos pins s σ H _ I h) fun us s1 ⟨vs, H1, I1, r1, q1⟩ => hc pins s1 σ H1 vs us Q I1 r1 q1) he hpl
end
end L2

namespace HT
open PySem PyProof.Rows

section
open PySem.SeqAt
open PySem.AutoSeq1 (wpAny_loadPart')
open PySem.MeetsSeq PySem.MeetsSeq2 PySem.MeetsSeq3

end

section
variable {prog : Program} {w : World} {A : Around} {E : Value → Shared → Prop} {s : Shared}

/-- t + u, t not empty -/
theorem cat_tup {t b : Addr} {vs ws : List Value} {Q : Value → Shared → Prop} (ht : IsTup s.heap t vs.toArray) (hb : IsTup s.heap b ws.toArray) (hv : vs ≠ [])
    (h1 : ws = [] → Q (.ref t) s) (h2 : ws ≠ [] → Q (.ref s.heap.objs.size) { s with heap := s.heap.push { cls := .type "tuple", data := .seq (vs ++ ws).toArray } })
    (hsz : vs.length + ws.length ≤ sizeLine) : wpAny (model prog w) A (binaryOp .Add (.ref t) (.ref b)) Q E s := by
  obtain ⟨⟨cls, dd, data, sl⟩, ho, hc, n, hd⟩ := id ht
  obtain ⟨⟨cls2, dd2, data2, sl2⟩, ho2, hc2, n2, hd2⟩ := id hb
  simp only at hc hd hc2 hd2
  subst hc hd hc2 hd2
  have e : vs.toArray ++ ws.toArray = (vs ++ ws).toArray := by simp
  by_cases hw : ws = []
  · exact concat_meets ⟨_, ho, rfl⟩ ⟨_, ho2, rfl⟩ noFill_tuple_add seq_tuple_add PySem.F.slot_tuple_add PySem.F.entry_tuple_add (PySem.F.args_tuple_add_2 _ _)
      (tuple_addW1 t b vs.toArray ws.toArray n n2 dd dd2 sl sl2 (by simpa using hv) (by simp [hw])) ⟨ho, ho2, h1 hw⟩
  · refine concat_meets ⟨_, ho, rfl⟩ ⟨_, ho2, rfl⟩ noFill_tuple_add seq_tuple_add PySem.F.slot_tuple_add PySem.F.entry_tuple_add (PySem.F.args_tuple_add_2 _ _)
      (tuple_addW2 t b vs.toArray ws.toArray n n2 dd dd2 sl sl2 (by simpa using hv) (by simpa using hw) (by rw [List.size_toArray, List.size_toArray]; exact hsz)) ⟨ho, ho2, ?_⟩
    rw [e]
    exact h2 hw

/-! ### t[a:b], not the whole -/
/-- a slice's bound as a place among n (d where it is left out) -/
def sIx (n d : Nat) : Option Int → Nat
  | none => d
  | some v => if v < 0 then (v + (n : Int)).toNat else min v.toNat n
theorem sIx_none (n d : Nat) : sIx n d none = d := rfl
theorem sIx_le (n d : Nat) (hd : d ≤ n) (o : Option Int) : sIx n d o ≤ n := by
  cases o with
  | none => exact hd
  | some v =>
    show (if v < 0 then (v + (n : Int)).toNat else min v.toNat n) ≤ n
    by_cases hv : v < 0
    · rw [if_pos hv]; omega
    · rw [if_neg hv]; exact Nat.min_le_right _ _
theorem clip_eq (v : Int) (n d : Nat) : (if v < 0 then max (v + (n : Int)) 0 else min v (n : Int)) = ((sIx n d (some v) : Nat) : Int) := by
  show (if v < 0 then max (v + (n : Int)) 0 else min v (n : Int)) = (((if v < 0 then (v + (n : Int)).toNat else min v.toNat n) : Nat) : Int)
  by_cases hv : v < 0
  · simp only [if_pos hv]; omega
  · simp only [if_neg hv]; omega
theorem adjust_gen (lo hi : Option Int) (n : Nat) : Builtin.Slice.sliceAdjust lo hi 1 (n : Int) = (((sIx n 0 lo : Nat) : Int), ((sIx n n hi : Nat) : Int)) := by
  have h1 : ¬ ((1 : Int) < 0) := by omega
  unfold Builtin.Slice.sliceAdjust
  simp only [h1, if_false]
  refine Prod.ext ?_ ?_
  · cases lo with
    | none => rfl
    | some v => exact clip_eq v n 0
  · cases hi with
    | none => rfl
    | some v => exact clip_eq v n n
theorem places_gen (i j : Nat) : Builtin.Slice.slicePlaces (i : Int) (j : Int) 1 = j - i := by
  unfold Builtin.Slice.slicePlaces
  have h1 : (1 : Int) > 0 := by omega
  simp only [h1, if_true, Int.ediv_one]
  split <;> omega
theorem slicePart_ {v : Value} {o : Option Int} {Q : Option Int → Shared → Prop} (p : IsPart v o) (h : Q o s) : wpAny (model prog w) A (Builtin.Slice.slicePartIndex v) Q E s := by
  cases p with
  | none => exact slicePart_none h
  | int i t => exact slicePart_int h
theorem sliceApplied_gen {sl : Addr} {vl vu : Value} {lo hi : Option Int} {n : Nat} {Q : Int × Int × Nat → Shared → Prop} (hs : s.heap.IsSliceOf sl vl vu .none) (pl : IsPart vl lo) (pu : IsPart vu hi)
    (h : Q (((sIx n 0 lo : Nat) : Int), 1, sIx n n hi - sIx n 0 lo) s) : wpAny (model prog w) A (Builtin.Slice.sliceApplied (.ref sl) (pure (n : Int))) Q E s := by
  obtain ⟨os, hos, hcs, hds⟩ := id hs
  unfold Builtin.Slice.sliceApplied Builtin.Slice.sliceFields
  refine wpAny_bind (wpAny_bind (wpAny_field hos hds (x := vl) rfl (wpAny_bind (wpAny_field hos hds (x := vu) rfl (wpAny_bind (wpAny_field hos hds (x := .none) rfl (wpAny_pure ?_)))))))
  refine wpAny_bind (slicePart_none ?_)
  show wpAny _ _ (if ((1 : Int) == 0) = true then _ else _) _ _ s
  rw [if_neg (by decide)]
  refine wpAny_bind (slicePart_ pl (wpAny_bind (slicePart_ pu (wpAny_bind (wpAny_pure ?_)))))
  show wpAny _ _ (match Builtin.Slice.sliceAdjust lo hi 1 (n : Int) with | (lo, hi) => pure (lo, (1 : Int), Builtin.Slice.slicePlaces lo hi 1)) _ _ s
  rw [adjust_gen lo hi n]
  show wpAny _ _ (pure (((sIx n 0 lo : Nat) : Int), (1 : Int), Builtin.Slice.slicePlaces ((sIx n 0 lo : Nat) : Int) ((sIx n n hi : Nat) : Int) 1)) _ _ s
  rw [places_gen]
  exact wpAny_pure h
theorem pick_gen (xs : Array Value) (i k : Nat) : ((List.range k).filterMap fun (m : Nat) => xs[((i : Int) + (m : Int) * 1).toNat]?).toArray = ((xs.toList.drop i).take k).toArray := by
  have e : (fun (m : Nat) => xs[((i : Int) + (m : Int) * 1).toNat]?) = fun m => xs[i + m]? := by
    funext m
    have : ((i : Int) + (m : Int) * 1).toNat = i + m := by omega
    rw [this]
  rw [e]
  have := pick_run xs i k
  rw [List.filterMap_map] at this
  have e2 : ((fun x => xs[x]?) ∘ fun x => i + x) = fun m => xs[i + m]? := rfl
  rw [e2] at this
  rw [this]

theorem getItem_tuple_cut {t sl : Addr} {items : Array Value} {vl vu : Value} {lo hi : Option Int} {Q : Value → Shared → Prop} (ht : IsTup s.heap t items) (hs : s.heap.IsSliceOf sl vl vu .none) (pl : IsPart vl lo) (pu : IsPart vu hi)
    (hw : ¬ (sIx items.size 0 lo = 0 ∧ sIx items.size items.size hi = items.size))
    (h : Q (.ref s.heap.objs.size) { s with heap := s.heap.push { cls := .type "tuple", data := .seq ((items.toList.drop (sIx items.size 0 lo)).take (sIx items.size items.size hi - sIx items.size 0 lo)).toArray } })
    (hsz : items.size ≤ sizeLine) : wpAny (model prog w) A (getItem (.ref t) (.ref sl)) Q E s := by
  have htake : sizeOk (.seq ((items.toList.drop (sIx items.size 0 lo)).take (sIx items.size items.size hi - sIx items.size 0 lo)).toArray) := by
    show ((items.toList.drop (sIx items.size 0 lo)).take (sIx items.size items.size hi - sIx items.size 0 lo)).toArray.size ≤ sizeLine
    rw [List.size_toArray, List.length_take, List.length_drop, Array.length_toList]
    omega
  have hj : sIx items.size items.size hi ≤ items.size := sIx_le _ _ (Nat.le_refl _) hi
  obtain ⟨os, hos, hcs, hds⟩ := id hs
  have hTs : s.TypeIs (.ref sl) "slice" := ⟨os, hos, hcs⟩
  unfold getItem
  try with_reducible refine wpAny_holding ?_
  first | refine wpAny_bind (wpAny_pure ?_) | skip
  refine wpAny_bind (wpAny_sequenceKey ht.typeIs (by decide) ?_)
  refine wpAny_bind (wpAny_callSpecial?_slot (name := Str.ofString "__getitem__") ht.typeIs PyProof.Rows.slot_tuple_getitem
    (wpAny_call_entry PyProof.Rows.slot_tuple_getitem ht.typeIs entry_tuple_getitem ?_ (args_tuple_getitem _ _)))
  show wpAny _ _ (Builtin.Tuple.tupleItemsOf (.ref t) >>= _) _ _ s
  refine wpAny_bind (tupleItemsOf_ ht ?_)
  refine wpAny_bind (wpAny_typeOf hTs ?_)
  rw [if_pos (by decide)]
  refine wpAny_bind (sliceApplied_gen hs pl pu ?_)
  have hno : ¬ ((((sIx items.size 0 lo : Nat) : Int) == 0 && (1 : Int) == 1 && (sIx items.size items.size hi - sIx items.size 0 lo) == items.size) = true) := by
    intro q
    rw [Bool.and_eq_true, Bool.and_eq_true] at q
    have q1 : ((sIx items.size 0 lo : Nat) : Int) = 0 := eq_of_beq q.1.1
    have q2 : sIx items.size items.size hi - sIx items.size 0 lo = items.size := eq_of_beq q.2
    exact hw ⟨by omega, by omega⟩
  show wpAny _ _ (if (((sIx items.size 0 lo : Nat) : Int) == 0 && (1 : Int) == 1 && (sIx items.size items.size hi - sIx items.size 0 lo) == items.size) = true then _ else _) _ _ s
  rw [if_neg hno, pick_gen]
  first
    | exact wpAny_bind (m := Builtin.Tuple.tupleExact _) (wpAny_newObj_type (wpAny_pure ⟨_, rfl, wpAny_pure h⟩) htake)
    | exact wpAny_bind (m := Builtin.Tuple.tupleExact _) (wpAny_newObj_type (wpAny_bind (wpAny_pure (wpAny_pure ⟨_, rfl, wpAny_pure h⟩))) htake)
    | exact wpAny_bind (wpAny_bind (m := Builtin.Tuple.tupleExact _) (wpAny_newObj_type (wpAny_pure (wpAny_pure ⟨_, rfl, wpAny_pure h⟩)) htake))
    | exact wpAny_bind (wpAny_bind (m := Builtin.Tuple.tupleExact _) (wpAny_newObj_type (wpAny_pure ⟨_, rfl, wpAny_pure h⟩) htake))
end
end HT

namespace L2
open PySem PySem.Spec PyProof.Rows

/-! ### the parts of a slice -/
abbrev TO := St → Hp → (Option Int → Hp → Prop) → Prop
/-- a slice's part (left out, or an int) -/
def PO (X : Cx) (e : Option Expr) (t : TO) : Prop :=
  ∀ (pins : List (Addr × Obj)) (s : Shared) (σ : St) (H : Hp) (Q : Option Int → Hp → Prop), Inv X pins σ H s → t σ H Q →
    wpAny (model X.prog X.w) X.A (evalPart e X.env) (fun u s' => ∃ o H', Inv X pins σ H' s' ∧ IsPart u o ∧ Q o H') X.xe s
def tNoPart : TO := fun _ H Q => Q none H
def tPart (t : TE) : TO := fun σ H Q => t σ H fun x H1 => ∃ i, x = .int i ∧ Q (some i) H1

section
variable {X : Cx} {e : Expr} {te : TE} {lo hi : Option Expr} {tl th : TO} {pos p2 : Pos}

theorem po_none : PO X none tNoPart := by
  intro pins s σ H Q I h
  rw [evalPart_none]
  exact wpAny_pure ⟨none, H, I, .none, h⟩
theorem po_some (h : PE X e te) : PO X (some e) (tPart te) := by
  intro pins s σ H Q I hw
  rw [evalPart_some]
  refine thn (h pins s σ H _ I hw) fun u s1 ⟨x, H1, I1, r1, q1⟩ => ?_
  obtain ⟨i, rfl, q⟩ := q1
  obtain ⟨t, rfl⟩ := r1
  exact ⟨some i, H1, I1, .int i t, q⟩

/-- what a slice of a value is, by values: the slice object stands at sl -/
def SlR (X : Cx) (r : V → Option Int → Option Int → Hp → VK → Prop) : Prop :=
  ∀ (pins : List (Addr × Obj)) (s : Shared) (σ : St) (H : Hp) (x : V) (v vl vu : Value) (lo hi : Option Int) (sl : Addr) (Q : VK), Inv X pins σ H s → RelV x v → s.heap.IsSliceOf sl vl vu .none → IsPart vl lo → IsPart vu hi → r x lo hi H Q →
    ∃ T id, typeLookup (.type T) "__getitem__" = pure (some (.builtin id)) ∧ s.TypeIs v T ∧ wpAny (model X.prog X.w) X.A (getItem v (.ref sl)) (EP X pins σ Q) X.xe s
theorem SlR.or {r r' : V → Option Int → Option Int → Hp → VK → Prop} (h : SlR X r) (h' : SlR X r') : SlR X (fun x lo hi H Q => r x lo hi H Q ∨ r' x lo hi H Q) := by
  intro pins s σ H x v vl vu lo hi sl Q I rx hs pl pu q
  rcases q with q | q
  · exact h pins s σ H x v vl vu lo hi sl Q I rx hs pl pu q
  · exact h' pins s σ H x v vl vu lo hi sl Q I rx hs pl pu q
def tSl (r : V → Option Int → Option Int → Hp → VK → Prop) (te : TE) (tl th : TO) : TE := fun σ H Q => te σ H fun x H1 => tl σ H1 fun l H2 => th σ H2 fun u H3 => r x l u H3 Q
/-- a[lo:hi], any a -/
theorem pe_slice {r : V → Option Int → Option Int → Hp → VK → Prop} (hr : SlR X r) (he : PE X e te) (hl : PO X lo tl) (hu : PO X hi th) : PE X (.Subscript e (.Slice lo hi none p2) pos) (tSl r te tl th) := by
  intro pins s σ H Q I h
  refine Subscript_ (thn (he pins s σ H _ I h) fun v s1 ⟨x, H1, I1, r1, q1⟩ => ?_)
  refine wpAny_Slice (thn (hl pins s1 σ H1 _ I1 q1) fun vl s2 ⟨l, H2, I2, pl, q2⟩ => thn (hu pins s2 σ H2 _ I2 q2) fun vu s3 ⟨u, H3, I3, pu, q3⟩ => ?_)
  rw [evalPart_none]
  refine wpAny_pure ?_
  have I4 : Inv X pins σ H3 { s3 with heap := s3.heap.push { cls := .type "slice", data := .fields #[vl, vu, .none] } } := I3.kept (t' := s3.toks) fun b ob q => Heap.get?_push_of_some _ q
  obtain ⟨T, id, hT, ht, hg⟩ := hr pins { s3 with heap := s3.heap.push { cls := .type "slice", data := .fields #[vl, vu, .none] } } σ H3 x v vl vu l u s3.heap.objs.size Q I4 r1 (Heap.IsSliceOf.new ..) pl pu q3
  show wpAny (model X.prog X.w) X.A (subscriptTail e (.Slice lo hi none p2) v (.ref s3.heap.objs.size)) (EP X pins σ Q) X.xe { s3 with heap := s3.heap.push { cls := .type "slice", data := .fields #[vl, vu, .none] } }
  exact tail_any (ops := [.ref s3.heap.objs.size, v]) ht hT hg (by with_unfolding_all rfl)

/-- the items of xs[lo:hi] -/
def cutV (xs : List V) (lo hi : Option Int) : List V := (xs.drop (HT.sIx xs.length 0 lo)).take (HT.sIx xs.length xs.length hi - HT.sIx xs.length 0 lo)
theorem cutV_length (xs : List V) (lo hi : Option Int) : (cutV xs lo hi).length ≤ xs.length := by
  unfold cutV
  rw [List.length_take, List.length_drop]
  omega
/-- t[lo:hi], not the whole of it (the whole would be t itself) -/
def rSlT (K : PySem.W.Frag) : V → Option Int → Option Int → Hp → VK → Prop := fun x lo hi H Q => ∃ a xs, x = .ref a ∧ SqT K H a xs ∧
  ¬ (HT.sIx xs.length 0 lo = 0 ∧ HT.sIx xs.length xs.length hi = xs.length) ∧ ∀ p, H p = none → Q (.ref p) (upd H p (.tup (cutV xs lo hi)))
theorem sl_tup : SlR X (rSlT X.K) := by
  intro pins s σ H x v vl vu lo hi sl Q I rx hs pl pu h
  obtain ⟨a, xs, rfl, hx, hw, q⟩ := h
  cases rx
  obtain ⟨its, r, ht, hz⟩ := I.tuple hx
  have hlen : its.toArray.size = xs.length := by rw [List.size_toArray]; exact r.length.symm
  refine ⟨"tuple", _, PyProof.Rows.slot_tuple_getitem.lookup, ht.typeIs, ?_⟩
  refine HT.getItem_tuple_cut ht hs pl pu (by rw [hlen]; exact hw) ?_ (by rw [hlen]; exact hz)
  rw [hlen]
  refine ⟨.ref s.heap.objs.size, _, I.laid (t' := s.toks) (o := .tup (cutV xs lo hi)) (fun b ob q => Heap.get?_push_of_some _ q) (Nat.le_refl _) ?_, rfl, q _ (I.hok.fresh (Nat.le_refl _))⟩
  exact ⟨Nat.le_trans (cutV_length xs lo hi) hz, _, (r.drop (HT.sIx xs.length 0 lo)).take (HT.sIx xs.length xs.length hi - HT.sIx xs.length 0 lo), IsTup.new _ _⟩

/-! ### t < u, t + u -/
/-- t + u, t not empty: u empty gives t itself -/
def rCatT (K : PySem.W.Frag) : R2 := fun x y H Q => ∃ a b xs ys, x = .ref a ∧ y = .ref b ∧ SqT K H a xs ∧ SqT K H b ys ∧ xs ≠ [] ∧ xs.length + ys.length ≤ sizeLine ∧
  (ys = [] → Q (.ref a) H) ∧ (ys ≠ [] → ∀ p, H p = none → Q (.ref p) (upd H p (.tup (xs ++ ys))))
theorem Vals.nil_iff {xs : List V} {us : List Value} (r : Vals xs us) : us = [] ↔ xs = [] := by
  cases r with
  | nil => simp
  | cons _ _ => simp
theorem op_catT : OpR X (binaryOp .Add) (rCatT X.K) := by
  intro pins s σ H x y v u Q I rx ry h
  obtain ⟨a, b, xs, ys, rfl, rfl, ha, hb, hx, hz, q1, q2⟩ := h
  cases rx
  cases ry
  obtain ⟨its, r1, p1, _⟩ := I.tuple ha
  obtain ⟨its2, r2, p2, _⟩ := I.tuple hb
  refine HT.cat_tup p1 p2 (fun z => hx (r1.nil_iff.mp z)) (fun z => ⟨.ref a, H, I, rfl, q1 (r2.nil_iff.mp z)⟩) (fun z => ?_) (by rw [← r1.length, ← r2.length]; exact hz)
  refine ⟨.ref s.heap.objs.size, _, I.laid (t' := s.toks) (o := .tup (xs ++ ys)) (fun b ob q => Heap.get?_push_of_some _ q) (Nat.le_refl _) ?_, rfl, q2 (fun w => z (r2.nil_iff.mpr w)) _ (I.hok.fresh (Nat.le_refl _))⟩
  exact ⟨by rw [List.length_append]; exact hz, _, r1.append r2, IsTup.new _ _⟩
end
end L2

namespace L2
open PySem PySem.Spec PyProof.Rows

/-! ### places -/
/-- the place that an index of any sign means -/
def ixN (n : Nat) (i : Int) : Option Nat := if 0 ≤ i then (if i < n then some i.toNat else none) else if -(n : Int) ≤ i then some (i + n).toNat else none
def atI {α : Type} (xs : List α) (i : Int) : Option α := (ixN xs.length i).bind fun j => xs[j]?
theorem ixN_seq {n : Nat} {i : Int} {j : Nat} (h : ixN n i = some j) : seqIndex? i n = some j ∧ j < n ∧ -(n : Int) ≤ i ∧ i < n := by
  unfold ixN at h
  by_cases h0 : 0 ≤ i
  · rw [if_pos h0] at h
    by_cases h1 : i < n
    · rw [if_pos h1] at h
      have e : i.toNat = j := Option.some.inj h
      exact ⟨by rw [seqIndex_of h0 h1, e], by omega, by omega, h1⟩
    · rw [if_neg h1] at h; cases h
  · rw [if_neg h0] at h
    by_cases h1 : -(n : Int) ≤ i
    · rw [if_pos h1] at h
      have e : (i + n).toNat = j := Option.some.inj h
      exact ⟨by rw [seqIndex_neg (by omega) h1, e], by omega, h1, by omega⟩
    · rw [if_neg h1] at h; cases h
theorem atI_get {α : Type} {xs : List α} {i : Int} {v : α} (h : atI xs i = some v) : ∃ j, seqIndex? i xs.length = some j ∧ xs[j]? = some v ∧ j < xs.length ∧ -(xs.length : Int) ≤ i ∧ i < xs.length := by
  unfold atI at h
  cases e : ixN xs.length i with
  | none => rw [e] at h; cases h
  | some j =>
    rw [e] at h
    obtain ⟨h1, h2, h3, h4⟩ := ixN_seq e
    exact ⟨j, h1, h, h2, h3, h4⟩
theorem atI_nat {α : Type} {xs : List α} {j : Nat} {v : α} (h : xs[j]? = some v) : atI xs (j : Int) = some v := by
  have hj : j < xs.length := (List.getElem?_eq_some_iff.mp h).1
  have e : ixN xs.length (j : Int) = some j := by
    unfold ixN
    rw [if_pos (by omega), if_pos (by omega)]; simp
  unfold atI; rw [e]; exact h
/-! ### what may be subscripted -/
/-- what stands as an index of a plain subscript -/
def PlainIx (b : Expr) : Prop := ∀ o i, subscripted b false o i = operate [o, i] (getItem o i)
/-- a subscript by values -/
def IxR (X : Cx) (r : R2) : Prop :=
  ∀ (value slice : Expr) (pins : List (Addr × Obj)) (s : Shared) (σ : St) (H : Hp) (x y : V) (v u : Value) (Q : VK), Inv X pins σ H s → RelV x v → RelV y u → r x y H Q →
    subscripted slice false v u = operate [v, u] (getItem v u) → wpAny (model X.prog X.w) X.A (subscriptTail value slice v u) (EP X pins σ Q) X.xe s
/-- a call of a builtin's method by values: the receiver, the arguments -/
def MtR (X : Cx) (id : String) (r : V → List V → Hp → VK → Prop) : Prop :=
  ∀ (pins : List (Addr × Obj)) (s : Shared) (σ : St) (H : Hp) (x : V) (xs : List V) (v : Value) (us : List Value) (Q : VK), Inv X pins σ H s → RelV x v → Vals xs us → r x xs H Q →
    wpAny (model X.prog X.w) X.A (call (.builtin id) (v :: us)) (EP X pins σ Q) X.xe s
section
variable {X : Cx} {a b : Expr} {ta tb : TE} {pos : Pos}
theorem IxR.or {r r' : R2} (h : IxR X r) (h' : IxR X r') : IxR X (fun x y H Q => r x y H Q ∨ r' x y H Q) := by
  intro value slice pins s σ H x y v u Q I rx ry q hs
  rcases q with q | q
  · exact h value slice pins s σ H x y v u Q I rx ry q hs
  · exact h' value slice pins s σ H x y v u Q I rx ry q hs
theorem MtR.or {id : String} {r r' : V → List V → Hp → VK → Prop} (h : MtR X id r) (h' : MtR X id r') : MtR X id (fun x xs H Q => r x xs H Q ∨ r' x xs H Q) := by
  intro pins s σ H x xs v us Q I rx rs q
  rcases q with q | q
  · exact h pins s σ H x xs v us Q I rx rs q
  · exact h' pins s σ H x xs v us Q I rx rs q
/-- a[b] -/
theorem pe_ix {r : R2} (hr : IxR X r) (ha : PE X a ta) (hb : PE X b tb) (hs : PlainIx b) : PE X (.Subscript a b pos) (tOp r ta tb) := by
  intro pins s σ H Q I h
  exact Subscript_ (binT ha hb I h fun v u s2 x y H2 I2 rx ry q => hr a b pins s2 σ H2 x y v u Q I2 rx ry q (hs _ _))

def rIxL (K : PySem.W.Frag) : R2 := fun x y H Q => ∃ p xs i v, x = .ref p ∧ y = .int i ∧ SqL K H p xs ∧ atI xs i = some v ∧ Q v H
def rIxT (K : PySem.W.Frag) : R2 := fun x y H Q => ∃ p xs i v, x = .ref p ∧ y = .int i ∧ SqT K H p xs ∧ atI xs i = some v ∧ Q v H
def rIxS : R2 := fun x y H Q => ∃ z i c, x = .str z ∧ y = .int i ∧ z.length ≤ sizeLine ∧ atI z.cps.toList i = some c ∧ Q (.str ⟨#[c]⟩) H
theorem ix_list : IxR X (rIxL X.K) := by
  intro value slice pins s σ H x y v u Q I rx ry h hs
  obtain ⟨p, xs, i, z, rfl, rfl, hq, he, q⟩ := h
  cases rx
  obtain ⟨t, rfl⟩ := ry
  obtain ⟨its, r, pl, hz⟩ := I.list hq
  obtain ⟨j, h1, h2, h3, h4, h5⟩ := atI_get he
  obtain ⟨w, ew, rw'⟩ := r.get h2
  have hl := r.length
  have hn := line63
  have fin : EP X pins σ Q w s := ⟨z, H, I, rw', q⟩
  by_cases h0 : 0 ≤ i
  · have hj : i.toNat = j := by
      rw [seqIndex_of h0 h5] at h1
      exact Option.some.inj h1
    exact item_listR pl.isList h0 (by omega) (by rw [hj]; simpa using ew) fin hs
  · have hj : (i + (its.toArray.size : Int)).toNat = j := by
      rw [seqIndex_neg (by omega) h4] at h1
      rw [List.size_toArray, ← hl]
      exact Option.some.inj h1
    exact subscriptTail_builtinR (x := w) pl.isList.typeIs slot_list_getitem.lookup
      (wpAny_getItem_list_neg (Q := fun r s' => r = w ∧ EP X pins σ Q r s') pl.isList (by omega) (by rw [List.size_toArray] <;> omega) (by omega) (by rw [hj]; simpa using ew) ⟨rfl, fin⟩) hs
theorem ix_tup : IxR X (rIxT X.K) := by
  intro value slice pins s σ H x y v u Q I rx ry h hs
  obtain ⟨p, xs, i, z, rfl, rfl, hq, he, q⟩ := h
  cases rx
  obtain ⟨t, rfl⟩ := ry
  obtain ⟨its, r, pl, hz⟩ := I.tuple hq
  obtain ⟨j, h1, h2, h3, h4, h5⟩ := atI_get he
  obtain ⟨w, ew, rw'⟩ := r.get h2
  have hl := r.length
  have hn := line63
  have fin : EP X pins σ Q w s := ⟨z, H, I, rw', q⟩
  exact subscriptTail_builtinR (x := w) pl.typeIs slot_tuple_getitem.lookup
    (getItem_tuple (j := j) (Q := fun r s' => r = w ∧ EP X pins σ Q r s') pl (by omega) (by omega) (by rw [List.size_toArray, ← hl]; exact h1) (by simpa using ew) ⟨rfl, fin⟩) hs
theorem ix_str : IxR X rIxS := by
  intro value slice pins s σ H x y v u Q I rx ry h hs
  obtain ⟨z, i, c, rfl, rfl, hz, he, q⟩ := h
  obtain ⟨t, rfl⟩ := rx
  obtain ⟨t', rfl⟩ := ry
  obtain ⟨j, h1, h2, h3, h4, h5⟩ := atI_get he
  have hl : z.cps.toList.length = z.length := by simp [Str.length]
  rw [hl] at h1 h4 h5
  have hn := line63
  exact tail_any (typeIs_str s z t) slot_str_getitem.lookup (getItem_str (c := c) (by
    have e1 : decide (i < -(2 ^ 63 : Int)) = false := decide_eq_false (by omega)
    have e2 : decide (i ≥ 2 ^ 63) = false := decide_eq_false (by omega)
    rw [e1, e2, Bool.or_false]) (by rw [h1]; simpa using h2) ⟨.str ⟨#[c]⟩, H, I.tok _, ⟨_, rfl⟩, q⟩) hs
/-- list, tuple or str -/
def rIx (K : PySem.W.Frag) : R2 := fun x y H Q => rIxL K x y H Q ∨ rIxT K x y H Q ∨ rIxS x y H Q
theorem ix_seq : IxR X (rIx X.K) := ix_list.or (ix_tup.or ix_str)

/-! ### xs[i] = v, any sign -/
/-- the list's object behind a store -/
theorem mapSeq_set (its : List Value) (n j : Nat) (u : Value) : Obj.mapSeq (·.setIfInBounds j u) { cls := .type "list", data := .seq its.toArray n } = { cls := .type "list", data := .seq (its.set j u).toArray n } := by
  simp [Obj.mapSeq]
theorem Inv.lst {pins : List (Addr × Obj)} {σ : St} {H : Hp} {s : Shared} {p : Addr} {xs : List V} (I : Inv X pins σ H s) (h : H p = some (.lst xs)) :
    ∃ (its : List Value) (n : Nat), Vals xs its ∧ s.heap.get? p = some { cls := .type "list", data := .seq its.toArray n } ∧ xs.length ≤ sizeLine := by
  obtain ⟨z, its, n, r, e⟩ := I.hok p _ h
  exact ⟨its, n, r, e, z⟩
/-- the list at p is written by an update of its object -/
theorem Inv.lstUpd {pins : List (Addr × Obj)} {σ : St} {H : Hp} {s : Shared} {p : Addr} {xs ys : List V} {its its' : List Value} {n n' : Nat} {f : Obj → Obj} (I : Inv X pins σ H s) (h : H p = some (.lst xs))
    (ho : s.heap.get? p = some { cls := .type "list", data := .seq its.toArray n }) (hf : f { cls := .type "list", data := .seq its.toArray n } = { cls := .type "list", data := .seq its'.toArray n' }) (r : Vals ys its') (hz : ys.length ≤ sizeLine) (t : Nat) :
    Inv X pins σ (upd H p (.lst ys)) { s with heap := s.heap.update p f, toks := t } := by
  have e : (s.heap.update p f).get? p = some { cls := .type "list", data := .seq its'.toArray n' } := by
    rw [Heap.get?_update_self f ho (by rw [hf] <;> rfl), hf]
  refine I.write (x := p) (e := p) (by rw [h]; trivial) (.inl rfl) (fun b u hb q => (Heap.get?_update_other _ _ (Ne.symm hb)).trans q) ⟨_, e⟩ ?_
  exact ⟨hz, its', n', r, e⟩
def rSetL : V → V → V → Hp → (Hp → Prop) → Prop := fun o i v H Q => ∃ p xs k j, o = .ref p ∧ i = .int k ∧ H p = some (.lst xs) ∧ ixN xs.length k = some j ∧ Q (upd H p (.lst (xs.set j v)))
theorem set_list : PSet X rSetL := by
  intro pins s σ H o i v ov iv u Q I ro ri rv h
  obtain ⟨p, xs, k, j, rfl, rfl, hp, hj, q⟩ := h
  cases ro
  obtain ⟨t, rfl⟩ := ri
  obtain ⟨its, n, r, ho, hz⟩ := I.lst hp
  obtain ⟨h1, h2, h3, h4⟩ := ixN_seq hj
  have hl := r.length
  have hn := line63
  have I' : Inv X pins σ (upd H p (.lst (xs.set j v))) { s with heap := s.heap.update p (Obj.mapSeq (·.setIfInBounds j u)) } :=
    I.lstUpd hp ho (mapSeq_set its n j u) (r.set rv j) (by rw [List.length_set]; exact hz) s.toks
  by_cases h0 : 0 ≤ k
  · have hk : k.toNat = j := by
      rw [seqIndex_of h0 h4] at h1
      exact Option.some.inj h1
    exact PySem.W.ki_setAt ho h0 (by omega) (by rw [List.size_toArray, ← hl]; exact h4) (by rw [hk]; exact ⟨_, I', q⟩)
  · have hk : (k + (its.toArray.size : Int)).toNat = j := by
      rw [seqIndex_neg (by omega) h3] at h1
      rw [List.size_toArray, ← hl]
      exact Option.some.inj h1
    exact PySem.W.ki_setBack ho (by omega) (by rw [List.size_toArray, ← hl]; exact h3) (by omega) (by rw [hk]; exact ⟨_, I', q⟩)

/-! ### slices -/
theorem slice_bounds (lo hi : Option Int) (n : Nat) : (sliceBounds lo hi none n).1 = ((HT.sIx n 0 lo : Nat) : Int) ∧ (sliceBounds lo hi none n).2.1 = ((HT.sIx n n hi : Nat) : Int) ∧ (sliceBounds lo hi none n).2.2 = 1 := by
  refine ⟨?_, ?_, rfl⟩
  · cases lo with
    | none => simp [sliceBounds, HT.sIx]
    | some i =>
      simp only [sliceBounds, HT.sIx, Option.getD_none, show (1 : Int) > 0 by decide, if_true]
      by_cases h : i < 0
      · simp only [h, if_true] <;> omega
      · simp only [h, if_false] <;> omega
  · cases hi with
    | none => simp [sliceBounds, HT.sIx]
    | some i =>
      simp only [sliceBounds, HT.sIx, Option.getD_none, show (1 : Int) > 0 by decide, if_true]
      by_cases h : i < 0
      · simp only [h, if_true] <;> omega
      · simp only [h, if_false] <;> omega
theorem slicePick_cut (its : List Value) (lo hi : Option Int) : slicePick its.toArray lo hi none = ((its.drop (HT.sIx its.length 0 lo)).take (HT.sIx its.length its.length hi - HT.sIx its.length 0 lo)).toArray := by
  obtain ⟨h1, h2, h3⟩ := slice_bounds lo hi its.toArray.size
  unfold slicePick
  rw [h1, h2, h3]
  simp only [sliceRange_one, pick_run, List.size_toArray] <;> rfl
/-- xs[lo:hi] of a list: a new list -/
def rSlL (K : PySem.W.Frag) : V → Option Int → Option Int → Hp → VK → Prop := fun x lo hi H Q => ∃ a xs, x = .ref a ∧ SqL K H a xs ∧ ∀ p, H p = none → Q (.ref p) (upd H p (.lst (cutV xs lo hi)))
theorem sl_list : SlR X (rSlL X.K) := by
  intro pins s σ H x v vl vu lo hi sl Q I rx hs pl pu h
  obtain ⟨a, xs, rfl, hx, q⟩ := h
  cases rx
  obtain ⟨its, r, ht, hz⟩ := I.list hx
  have hlen := r.length
  refine ⟨"list", _, slot_list_getitem.lookup, ht.isList.typeIs, ?_⟩
  refine wpAny_getItem_list_slice ht.isList hs pl pu .none (by simp) ?_ (by rw [List.size_toArray] <;> omega)
  rw [slicePick_cut, ← hlen]
  refine ⟨.ref s.heap.objs.size, _, I.laid (t' := s.toks) (o := .lst (cutV xs lo hi)) (fun b ob q => Heap.get?_push_of_some _ q) (Nat.le_refl _) ?_, rfl, q _ (I.hok.fresh (Nat.le_refl _))⟩
  exact ⟨Nat.le_trans (cutV_length xs lo hi) hz, _, 0, (r.drop (HT.sIx xs.length 0 lo)).take (HT.sIx xs.length xs.length hi - HT.sIx xs.length 0 lo), Heap.get?_push_size _ rfl⟩

/-! ### in, not in: flat items -/
/-! ### len, list(x), tuple(x) of any list or tuple that is read -/
theorem CallR.or {f : Value} {r r' : List V → Hp → VK → Prop} (h : CallR X f r) (h' : CallR X f r') : CallR X f (fun xs H Q => r xs H Q ∨ r' xs H Q) := by
  intro pins s σ H xs us Q I rs q
  rcases q with q | q
  · exact h pins s σ H xs us Q I rs q
  · exact h' pins s σ H xs us Q I rs q
theorem call_list_of : CallR X (.type "list") (fun xs H Q => ∃ p ys, xs = [.ref p] ∧ (SqL X.K H p ys ∨ SqT X.K H p ys) ∧ ∀ l, H l = none → Q (.ref l) (upd H l (.lst ys))) := by
  intro pins s σ H xs us Q I r h
  obtain ⟨p, ys, rfl, hq, q⟩ := h
  obtain ⟨u, rfl, rx⟩ := vals1 r
  cases rx
  have fin : ∀ (its : List Value), Vals ys its → ys.length ≤ sizeLine → ∀ (h' : Heap) (c' : Nat), (∀ b o', s.heap.get? b = some o' → h'.get? b = some o') →
      h'.get? s.heap.objs.size = some { cls := .type "list", dict := none, data := .seq its.toArray c', slots := #[] } → EP X pins σ Q (.ref s.heap.objs.size) { s with heap := h' } := fun its r' hz h' c' kp e =>
    ⟨.ref s.heap.objs.size, _, I.laid (t' := s.toks) kp (Nat.le_refl _) (show ObjOk X.prog X.w _ h' _ (.lst ys) from ⟨hz, its, c', r', e⟩), rfl, q _ (I.hok.fresh (Nat.le_refl _))⟩
  rcases hq with hq | hq
  · obtain ⟨its, r', pl, hz⟩ := I.list hq
    have hlen := r'.length
    obtain ⟨o, ho, hc, n, hd⟩ := pl.isList
    exact call_list_seq p (.inl rfl) ho hc hd (fun h' c' kp e => fin its r' hz h' c' kp e) (by simp only [List.size_toArray] <;> omega)
  · obtain ⟨its, r', pl, hz⟩ := I.tuple hq
    have hlen := r'.length
    obtain ⟨o, ho, hc, n, hd⟩ := pl
    exact call_list_seq p (.inr rfl) ho hc hd (fun h' c' kp e => fin its r' hz h' c' kp e) (by simp only [List.size_toArray] <;> omega)
theorem call_tuple_of : CallR X (.type "tuple") (fun xs H Q => ∃ p ys, xs = [.ref p] ∧ ((SqL X.K H p ys ∧ ∀ l, H l = none → Q (.ref l) (upd H l (.tup ys))) ∨ (SqT X.K H p ys ∧ Q (.ref p) H))) := by
  intro pins s σ H xs us Q I r h
  obtain ⟨p, ys, rfl, h⟩ := h
  obtain ⟨u, rfl, rx⟩ := vals1 r
  cases rx
  rcases h with ⟨hq, q⟩ | ⟨hq, q⟩
  · obtain ⟨its, r', pl, hz⟩ := I.list hq
    have hlen := r'.length
    refine call_tuple_list pl.isList (fun h' kp => ?_) (by simp only [List.size_toArray] <;> omega)
    have I1 : Inv X pins σ H { s with heap := h' } := I.kept (t' := s.toks) kp
    have I2 : Inv X pins σ (upd H h'.objs.size (.tup ys)) { s with heap := h'.push { cls := .type "tuple", data := .seq its.toArray } } :=
      I1.laid (t' := s.toks) (fun b o e => Heap.get?_push_of_some _ e) (Nat.le_refl _) (show ObjOk X.prog X.w _ _ _ (.tup ys) from ⟨hz, its, r', IsTup.new _ _⟩)
    exact ⟨.ref h'.objs.size, _, I2, rfl, q _ (I1.hok.fresh (Nat.le_refl _))⟩
  · obtain ⟨its, r', pl, hz⟩ := I.tuple hq
    exact call_tuple_same pl ⟨.ref p, H, I, rfl, q⟩

/-! ### the call of a builtin's method: o.m(..) -/
/-- the value is of that builtin type -/
def tyV (K : PySem.W.Frag) (T : String) (x : V) (H : Hp) : Prop := match x with
  | .str _ => T = "str"
  | .int _ => T = "int"
  | .ref p => (T = "list" ∧ ∃ xs, SqL K H p xs) ∨ (T = "tuple" ∧ ∃ o, K.lookup p = some o ∧ o.cls = .type "tuple" ∧ o.dict = none) ∨
      (T = "dict" ∧ ((∃ kvs, H p = some (.dK kvs)) ∨ ∃ kvs, H p = some (.dT kvs))) ∨ (T = "set" ∧ ∃ S n, H p = some (.set S n))
  | _ => False
theorem tyV_is {pins : List (Addr × Obj)} {σ : St} {H : Hp} {s : Shared} {T : String} {x : V} {v : Value} (I : Inv X pins σ H s) (r : RelV x v) (ty : tyV X.K T x H) :
    s.TypeIs v T ∧ ∀ a, v = .ref a → ∃ ob, s.heap.get? a = some ob ∧ ob.dict = none := by
  cases x with
  | str z =>
    obtain ⟨t, rfl⟩ := r
    cases (show T = "str" from ty)
    exact ⟨typeIs_str s z t, fun _ e => nomatch e⟩
  | int i =>
    obtain ⟨t, rfl⟩ := r
    cases (show T = "int" from ty)
    exact ⟨typeIs_int s i t, fun _ e => nomatch e⟩
  | ref p =>
    cases r
    rcases ty with ⟨rfl, xs, hq⟩ | ⟨rfl, o, hk, hc, hd⟩ | ⟨rfl, hk⟩ | ⟨rfl, S, n, hk⟩
    · obtain ⟨its, _, pl, _⟩ := I.list hq
      refine ⟨pl.isList.typeIs, fun a e => ?_⟩
      cases e
      obtain ⟨o, n, e, c, hd, _⟩ := pl
      exact ⟨o, e, hd⟩
    · refine ⟨⟨o, I.kIn p o hk, hc⟩, fun a e => ?_⟩
      cases e
      exact ⟨o, I.kIn _ o hk, hd⟩
    · have z : ∃ o, s.heap.get? p = some o ∧ o.ExactDict := by
        rcases hk with ⟨kvs, hk⟩ | ⟨kvs, hk⟩
        · obtain ⟨_, _, _, _, o, _, _, e, ex, _⟩ := I.hok p _ hk
          exact ⟨o, e, ex⟩
        · obtain ⟨_, _, _, _, o, _, _, e, ex, _⟩ := I.hok p _ hk
          exact ⟨o, e, ex⟩
      obtain ⟨o, e, ex⟩ := z
      refine ⟨⟨o, e, ex.1⟩, fun a e2 => ?_⟩
      cases e2
      exact ⟨o, e, ex.2.1⟩
    · obtain ⟨o, _, _, _, e, ex, _⟩ := I.hok p _ hk
      refine ⟨⟨o, e, ex.1⟩, fun a e2 => ?_⟩
      cases e2
      exact ⟨o, e, ex.2.1⟩
  | _ => exact False.elim ty
def tBM0 (K : PySem.W.Frag) (T : String) (r : V → List V → Hp → VK → Prop) (to : TE) : TE := fun σ H Q => to σ H fun x H1 => tyV K T x H1 ∧ r x [] H1 Q
def tBM (K : PySem.W.Frag) (T : String) (r : V → List V → Hp → VK → Prop) (to : TE) (t : TA) : TE := fun σ H Q => to σ H fun x H1 => tyV K T x H1 ∧ t σ H1 fun xs H2 => r x xs H2 Q
variable {o e : Expr} {es : List Expr} {to : TE} {t : TA} {name : Str} {apos cpos : Pos} {T id : String} {r : V → List V → Hp → VK → Prop}
theorem pe_bm0 (pa : PlainAttrs T) (slot : Slot T name id) (hty : typeOf (.builtin id) = pure (.type "method_descriptor")) (hm : MtR X id r) (ho : PE X o to)
    (hbase : attributeBase o name X.env (eval o X.env) = eval o X.env := by rfl) (hline : (apos.endLine == cpos.line) = true := by rfl) : PE X (.Call (.Attribute o name apos) [] [] cpos) (tBM0 X.K T r to) := by
  intro pins s σ H Q I h
  refine wpAny_Call_method0_late hbase hline (thn (ho pins s σ H _ I h) fun v s1 ⟨x, H1, I1, r1, ty, q1⟩ => ?_)
  obtain ⟨h1, h2⟩ := tyV_is I1 r1 ty
  exact ⟨T, id, pa, slot, hty, h1, h2, Calls.callWith_builtin rfl (PySem.evalArgs_none (hm pins s1 σ H1 x [] v [] Q I1 r1 .nil q1))⟩
theorem pe_bm (pa : PlainAttrs T) (slot : Slot T name id) (hty : typeOf (.builtin id) = pure (.type "method_descriptor")) (hm : MtR X id r) (ho : PE X o to) (ha : PA X (e :: es) t)
    (hbase : attributeBase o name X.env (eval o X.env) = eval o X.env := by rfl)
    (hfew : ((backTo cpos (starEach (e :: es) X.env)).all (fun x => !x.1) && (backToKw cpos (keywordEach [] X.env)).all (fun x => x.1.isSome)
      && decide ((e :: es).length + ([] : List Keyword).length + (if ([] : List Keyword).isEmpty then 0 else 1) < 30)) = true := by rfl)
    (hline : (apos.endLine == cpos.line) = true := by rfl) (hs : starEach (e :: es) X.env = (false, eval e X.env) :: starEach es X.env := by rfl) (hplain : (backTo cpos (starEach es X.env)).any (·.1) = false := by rfl) :
    PE X (.Call (.Attribute o name apos) (e :: es) [] cpos) (tBM X.K T r to t) := by
  intro pins s σ H Q I h
  refine wpAny_Call_method_late hbase hfew hline rfl (thn (ho pins s σ H _ I h) fun v s1 ⟨x, H1, I1, r1, ty, q1⟩ => ?_)
  obtain ⟨h1, h2⟩ := tyV_is I1 r1 ty
  refine ⟨T, id, pa, slot, hty, h1, h2, ?_⟩
  have hA := ha cpos pins s1 σ H1 _ I1 q1
  rw [hs] at hA ⊢
  refine Calls.callWith_builtin (by show (false || (backTo cpos (starEach es X.env)).any (·.1)) = false; rw [hplain] <;> rfl) (Calls.evalArgs_plain ?_)
  exact thn hA fun us s2 ⟨vs, H2, I2, r2, q2⟩ => hm pins s2 σ H2 x vs v us Q I2 r1 r2 q2
/- xs.append(e), list.index on a module's tuple .. are MtR facts of 06m -/
end
end L2

namespace L2
open PySem PySem.Spec PyProof.Rows

def MtM (X : Cx) (id : String) (r : V → List V → Hp → VK → Prop) : Prop :=
  ∀ (pins : List (Addr × Obj)) (s : Shared) (σ : St) (H : Hp) (x : V) (xs : List V) (v : Value) (us : List Value) (Q : VK), Inv X pins σ H s → RelV x v → Vals xs us → r x xs H Q →
    wpAny (model X.prog X.w) X.A (call (.builtin id) (v :: us)) (EP X pins σ Q) X.xe s

/-! ### lists of values -/
theorem Vals.one : ∀ {x : V} {us : List Value}, Vals [x] us → ∃ u, us = [u] ∧ RelV x u
  | _, _, .cons r .nil => ⟨_, rfl, r⟩
theorem Vals.two : ∀ {x y : V} {us : List Value}, Vals [x, y] us → ∃ u v, us = [u, v] ∧ RelV x u ∧ RelV y v
  | _, _, _, .cons r (.cons q .nil) => ⟨_, _, rfl, r, q⟩
theorem Vals.zero : ∀ {us : List Value}, Vals [] us → us = []
  | _, .nil => rfl
theorem Vals.reverse {xs : List V} {us : List Value} (h : Vals xs us) : Vals xs.reverse us.reverse := by
  induction h with
  | nil => exact .nil
  | cons r t ih => rw [List.reverse_cons, List.reverse_cons]; exact Vals.append ih (.cons r .nil)
theorem Vals.rep {xs : List V} {us : List Value} (h : Vals xs us) : ∀ k : Nat, Vals (List.replicate k xs).flatten (List.replicate k us).flatten
  | 0 => .nil
  | k + 1 => by
    rw [List.replicate_succ, List.replicate_succ, List.flatten_cons, List.flatten_cons]
    exact Vals.append h (Vals.rep h k)
theorem foldl_rep (its : List Value) : ∀ (k : Nat) (acc : List Value),
    List.foldl (fun x1 x2 => x1 ++ x2) acc.toArray (List.replicate k its.toArray) = (acc ++ (List.replicate k its).flatten).toArray
  | 0, acc => by simp
  | k + 1, acc => by
    have e : acc.toArray ++ its.toArray = (acc ++ its).toArray := by simp
    have e2 : (acc ++ its) ++ (List.replicate k its).flatten = acc ++ (List.replicate (k + 1) its).flatten := by
      rw [List.replicate_succ, List.flatten_cons, List.append_assoc]
    rw [← e2, ← foldl_rep its k (acc ++ its), ← e, List.replicate_succ, List.foldl_cons]

section
variable {X : Cx} {pins : List (Addr × Obj)} {σ : St} {H : Hp} {s : Shared} {l b : Addr} {xs ys zs : List V}

/-! ### the two steps: a tracked list is rewritten, a new list is laid -/
theorem Inv.lset {its its' : List Value} {n : Nat} {f : Array Value → Array Value} {t' : Nat} (I : Inv X pins σ H s) (hH : H l = some (.lst xs))
    (e : s.heap.get? l = some { cls := .type "list", data := .seq its.toArray n }) (hf : f its.toArray = its'.toArray) (hv : Vals ys its') (hz : ys.length ≤ sizeLine) :
    Inv X pins σ (upd H l (.lst ys)) { s with heap := s.heap.update l (Obj.mapSeq f), toks := t' } := by
  have q := PySem.IsL.update e f
  rw [hf] at q
  refine I.write (x := l) (e := l) (by rw [hH]; exact trivial) (.inl rfl) (fun b' u hb hu => (Heap.get?_update_other s.heap (Obj.mapSeq f) (Ne.symm hb)).trans hu) ⟨_, q⟩ ?_
  exact ⟨hz, its', _, hv, q⟩
theorem Inv.lnew {its : List Value} {t' : Nat} (I : Inv X pins σ H s) (hv : Vals ys its) (hz : ys.length ≤ sizeLine) :
    Inv X pins σ (upd H s.heap.objs.size (.lst ys)) { s with heap := s.heap.push { cls := .type "list", data := .seq its.toArray }, toks := t' } :=
  I.laid (fun _ _ q => Heap.get?_push_of_some _ q) (Nat.le_refl _) ⟨hz, its, 0, hv, Heap.get?_push_size _ rfl⟩
theorem Inv.fresh (I : Inv X pins σ H s) : H s.heap.objs.size = none := I.hok.fresh (Nat.le_refl _)
theorem Inv.lstM (I : Inv X pins σ H s) (hH : H l = some (.lst xs)) : xs.length ≤ sizeLine ∧ ∃ (its : List Value) (n : Nat), Vals xs its ∧ xs.length = its.length ∧ s.heap.get? l = some { cls := .type "list", data := .seq its.toArray n } := by
  obtain ⟨z, its, n, r, e⟩ := I.hok l _ hH
  exact ⟨z, its, n, r, r.length, e⟩

theorem notLongL {n : Nat} (h : n ≤ sizeLine) : Builtin.List.listTooLong n = false := by
  unfold Builtin.List.listTooLong
  exact decide_eq_false (by omega)
end

section
variable {X : Cx}

/-! ### methods -/
def rAppend : V → List V → Hp → VK → Prop := fun x vs H Q => ∃ l xs y, x = .ref l ∧ vs = [y] ∧ H l = some (.lst xs) ∧ xs.length < sizeLine ∧ Q .non (upd H l (.lst (xs ++ [y])))
theorem mt_append : MtM X "list.append" rAppend := by
  intro pins s σ H x vs v us Q I rx rv h
  obtain ⟨l, xs, y, rfl, rfl, hH, hz, q⟩ := h
  cases rx
  obtain ⟨u, rfl, ru⟩ := rv.one
  obtain ⟨z, its, n, r, hl, e⟩ := I.lstM hH
  refine call_meets F.slot_list_append ⟨_, e, rfl⟩ F.entry_list_append (F.args_list_append_2 _ _) (PySem.list_append l its.toArray n u (by rw [List.size_toArray]; omega)) ⟨e, ?_⟩
  refine ⟨.non, _, I.lset (its' := its ++ [u]) hH e (by simp) (r.append (.cons ru .nil)) ?_, rfl, q⟩
  rw [List.length_append, List.length_singleton]
  omega

def rClear : V → List V → Hp → VK → Prop := fun x vs H Q => ∃ l xs, x = .ref l ∧ vs = [] ∧ H l = some (.lst xs) ∧ Q .non (upd H l (.lst []))
theorem mt_clear : MtM X "list.clear" rClear := by
  intro pins s σ H x vs v us Q I rx rv h
  obtain ⟨l, xs, rfl, rfl, hH, q⟩ := h
  cases rx
  have hus := rv.zero
  subst hus
  obtain ⟨z, its, n, r, hl, e⟩ := I.lstM hH
  refine call_meets F.slot_list_clear ⟨_, e, rfl⟩ F.entry_list_clear (F.args_list_clear_1 _) (AutoSeq1.list_clear_list_0 l its.toArray n (by rw [List.size_toArray]; omega)) ⟨e, ?_⟩
  exact ⟨.non, _, I.lset (its' := []) (ys := []) hH e rfl .nil (Nat.zero_le _), rfl, q⟩

/-! ### list + list, list += list, list * int -/
def rCat : R2 := fun x y H Q => ∃ l b xs zs, x = .ref l ∧ y = .ref b ∧ H l = some (.lst xs) ∧ H b = some (.lst zs) ∧ xs.length + zs.length ≤ sizeLine ∧ ∀ p, H p = none → Q (.ref p) (upd H p (.lst (xs ++ zs)))
theorem op_cat : OpR X (binaryOp .Add) rCat := by
  intro pins s σ H x y v u Q I rx ry h
  obtain ⟨l, b, xs, zs, rfl, rfl, hH, hB, hz, q⟩ := h
  cases rx
  cases ry
  obtain ⟨z, its, n, r, hl, e⟩ := I.lstM hH
  obtain ⟨z2, its2, n2, r2, hl2, e2⟩ := I.lstM hB
  refine PySem.P.add_list e e2 ?_ (by rw [List.size_toArray, List.size_toArray]; omega)
  have ea : its.toArray ++ its2.toArray = (its ++ its2).toArray := by simp
  rw [ea]
  exact ⟨.ref _, _, I.lnew (t' := s.toks) (r.append r2) (by rw [List.length_append]; omega), rfl, q _ I.fresh⟩
/-- a list times an int (a negative one is nothing) -/
def rRep : R2 := fun x y H Q => ∃ l k xs, x = .ref l ∧ y = .int k ∧ H l = some (.lst xs) ∧ -(2 ^ 63) ≤ k ∧ k < 2 ^ 63 ∧ xs.length * k.toNat ≤ sizeLine ∧
  ∀ p, H p = none → Q (.ref p) (upd H p (.lst (List.replicate k.toNat xs).flatten))
theorem len_rep {α : Type} (xs : List α) (k : Nat) : (List.replicate k xs).flatten.length = k * xs.length := by
  induction k with
  | zero => simp
  | succ k ih => rw [List.replicate_succ, List.flatten_cons, List.length_append, ih, Nat.succ_mul, Nat.add_comm]
theorem op_rep : OpR X (binaryOp .Mult) rRep := by
  intro pins s σ H x y v u Q I rx ry h
  obtain ⟨l, k, xs, rfl, rfl, hH, h1, h2, hz, q⟩ := h
  cases rx
  obtain ⟨t, rfl⟩ := ry
  obtain ⟨z, its, n, r, hl, e⟩ := I.lstM hH
  have hlen : its.toArray.size * k.toNat ≤ sizeLine := by rw [List.size_toArray, ← hl]; exact hz
  have hcap : ¬ its.toArray.size * k.toNat > (2 ^ 63 - 1) / 8 := by
    have : (sizeLine : Nat) ≤ (2 ^ 63 - 1) / 8 := by decide
    omega
  have hfit : ¬ (!Builtin.List.listFitsIndex k) = true := by
    rw [fitsIndex_both h1 h2]
    exact Bool.false_ne_true
  have hlong : ¬ Builtin.List.listTooLong (its.toArray.size * k.toNat) = true := by
    rw [notLongL hlen]
    exact Bool.false_ne_true
  have hnew : List.foldl (fun x1 x2 => x1 ++ x2) #[] (List.replicate (if its.toArray.isEmpty = true then 0 else k.toNat) its.toArray) = (List.replicate k.toNat its).flatten.toArray := by
    have f0 : ∀ m : Nat, List.foldl (fun x1 x2 => x1 ++ x2) #[] (List.replicate m its.toArray) = (List.replicate m its).flatten.toArray := fun m => by
      have := foldl_rep its m []
      rw [List.nil_append] at this
      exact this
    rw [f0]
    cases its with
    | nil => simp
    | cons a r' => rw [if_neg (by simp)]
  refine wpAny_binaryOp_repeat_ref (T := "list") (U := "int") (by decide) ⟨_, e, rfl⟩ (fun s' => typeIs_int s' k t) noFill_list_mul F.fills_int_mul F.slot_int_rmul repeat_list F.slot_int_index.lookup
    (call_meets F.slot_int_rmul (typeIs_int s k t) F.entry_int_rmul (F.args_int_rmul_2 _ _) (int___rmul___int_list k t l its.toArray n)
      ⟨e, rfl, ⟨_, e, rfl⟩, call_meets F.slot_list_mul ⟨_, e, rfl⟩ F.entry_list_mul (F.args_list_mul_2 _ _) (AutoListH.list___mul___list_int_3 l its.toArray n k t hfit hcap hlong) ⟨e, ?_⟩⟩)
  rw [hnew]
  exact ⟨.ref _, _, I.lnew (t' := s.toks) (r.rep k.toNat) (by rw [len_rep, Nat.mul_comm]; exact hz), rfl, q _ I.fresh⟩

/-! ### del xs[i] -/
end

/-! ### xs[a:b] = ys -/
section
variable {prog : Program} {w : World} {A : Around} {E : Value → Shared → Prop} {s : Shared}
set_option maxRecDepth 100000 in
end

section
variable {X : Cx}
end
end L2

namespace L2
open PySem PySem.Spec PyProof.Rows

/-! ### lists of pairs as tables -/
section
variable {κ : Type} [DecidableEq κ]
def valV (kvs : List (κ × V)) (k : κ) : Option V := (kvs.find? fun kv => decide (kv.1 = k)).map (·.2)
/-- in its place, or at the end -/
def putK (kvs : List (κ × V)) (k : κ) (v : V) : List (κ × V) :=
  if (kvs.any fun kv => decide (kv.1 = k)) = true then kvs.map (fun kv => if kv.1 = k then (kv.1, v) else kv) else kvs ++ [(k, v)]
def dropK (kvs : List (κ × V)) (k : κ) : List (κ × V) := kvs.filter fun kv => decide (kv.1 ≠ k)

theorem valV_pos {p : κ × V} {r : List (κ × V)} {k : κ} (e : p.1 = k) : valV (p :: r) k = some p.2 := by simp [valV, List.find?_cons, e]
theorem valV_neg {p : κ × V} {r : List (κ × V)} {k : κ} (e : ¬ p.1 = k) : valV (p :: r) k = valV r k := by simp [valV, List.find?_cons, e]
theorem valV_any (k : κ) : ∀ kvs : List (κ × V), (kvs.any fun kv => decide (kv.1 = k)) = (valV kvs k).isSome
  | [] => rfl
  | p :: r => by
    rw [List.any_cons]
    by_cases e : p.1 = k
    · simp only [valV_pos e, decide_eq_true e, Bool.true_or, Option.isSome_some]
    · rw [valV_neg e, decide_eq_false e, Bool.false_or]; exact valV_any k r
theorem putK_new {kvs : List (κ × V)} {k : κ} (v : V) (h : valV kvs k = none) : putK kvs k v = kvs ++ [(k, v)] := by
  unfold putK
  rw [valV_any, h]
  exact if_neg (by decide)

theorem RelO.isSome_eq {o : Option V} {u : Option Value} (r : RelO o u) : o.isSome = u.isSome := by
  cases o with
  | none => cases u with
    | none => rfl
    | some _ => exact (show False from r).elim
  | some _ => cases u with
    | none => exact (show False from r).elim
    | some _ => rfl
theorem RelO.getD {o : Option V} {u : Option Value} {d : V} {d' : Value} (r : RelO o u) (rd : RelV d d') : RelV (o.getD d) (u.getD d') := by
  cases o with
  | none => cases u with
    | none => exact rd
    | some _ => exact (show False from r).elim
  | some _ => cases u with
    | none => exact (show False from r).elim
    | some _ => exact r

/-- raw tables of the same keys -/
theorem KV.val {kvs : List (κ × V)} {vs : List (κ × Value)} (r : KV kvs vs) (k : κ) : RelO (valV kvs k) (valueAt vs k) := by
  unfold KV at r
  induction r with
  | nil => exact True.intro
  | @cons p q ps qs h t ih =>
    obtain ⟨h1, h2⟩ := h
    by_cases e : p.1 = k
    · have e' : q.1 = k := h1.symm.trans e
      have b : valueAt (q :: qs) k = some q.2 := by simp [valueAt, List.find?_cons, e']
      rw [valV_pos e, b]; exact h2
    · have e' : ¬ q.1 = k := fun z => e (h1.trans z)
      have b : valueAt (q :: qs) k = valueAt qs k := by simp [valueAt, List.find?_cons, e']
      rw [valV_neg e, b]; exact ih
theorem KV.any {kvs : List (κ × V)} {vs : List (κ × Value)} (r : KV kvs vs) (k : κ) : (kvs.any fun kv => decide (kv.1 = k)) = vs.any fun kv => decide (kv.1 = k) := by
  unfold KV at r
  induction r with
  | nil => rfl
  | cons h t ih => rw [List.any_cons, List.any_cons, ih, h.1]
theorem KV.repl {kvs : List (κ × V)} {vs : List (κ × Value)} (r : KV kvs vs) (k : κ) {y : V} {u : Value} (ry : RelV y u) :
    KV (kvs.map fun kv => if kv.1 = k then (kv.1, y) else kv) (vs.map fun kv => if kv.1 = k then (kv.1, u) else kv) := by
  unfold KV at r ⊢
  induction r with
  | nil => exact .nil
  | @cons p q ps qs h t ih =>
    rw [List.map_cons, List.map_cons]
    refine .cons ?_ ih
    obtain ⟨h1, h2⟩ := h
    by_cases e : p.1 = k
    · rw [if_pos e, if_pos (h1.symm.trans e)]; exact ⟨h1, ry⟩
    · rw [if_neg e, if_neg (fun z => e (h1.trans z))]; exact ⟨h1, h2⟩
theorem KV.put {kvs : List (κ × V)} {vs : List (κ × Value)} (r : KV kvs vs) (k : κ) {y : V} {u : Value} (ry : RelV y u) : KV (putK kvs k y) (stored vs k u) := by
  unfold putK stored
  rw [r.any k]
  by_cases e : (vs.any fun kv => decide (kv.1 = k)) = true
  · rw [if_pos e, if_pos e]; exact r.repl k ry
  · rw [if_neg e, if_neg e]; exact Paired.snoc r ⟨rfl, ry⟩
theorem KV.drop {kvs : List (κ × V)} {vs : List (κ × Value)} (r : KV kvs vs) (k : κ) : KV (dropK kvs k) (without vs k) := by
  unfold KV at r ⊢
  unfold dropK without
  induction r with
  | nil => exact .nil
  | @cons p q ps qs h t ih =>
    obtain ⟨h1, h2⟩ := h
    rw [List.filter_cons, List.filter_cons]
    by_cases e : p.1 = k
    · have a : ¬ decide (p.1 ≠ k) = true := by simp [e]
      have b : ¬ decide (q.1 ≠ k) = true := by simp [h1.symm.trans e]
      rw [if_neg a, if_neg b]; exact ih
    · have e' : ¬ q.1 = k := fun z => e (h1.trans z)
      have a : decide (p.1 ≠ k) = true := by simp [e]
      have b : decide (q.1 ≠ k) = true := by simp [e']
      rw [if_pos a, if_pos b]; exact .cons ⟨h1, h2⟩ ih
theorem KV.keys {kvs : List (κ × V)} {vs : List (κ × Value)} (r : KV kvs vs) : kvs.map (·.1) = vs.map (·.1) := by
  unfold KV at r
  induction r with
  | nil => rfl
  | cons h t ih => rw [List.map_cons, List.map_cons, ih, h.1]
theorem KV.length {kvs : List (κ × V)} {vs : List (κ × Value)} (r : KV kvs vs) : kvs.length = vs.length := Paired.length r
end


/-! ### a tracked dict, its keys ints and texts or tuples of these -/
/-- raw entries of a dict with tuple keys -/
abbrev KT (H : Hp) : List (List Key × V) → List (List Key × Addr × Value) → Prop := Paired fun p q => p.1 = q.1 ∧ H q.2.1 = some (.tup (p.1.map kV)) ∧ RelV p.2 q.2.2
theorem KT.val {H : Hp} {kvs : List (List Key × V)} {xs : List (List Key × Addr × Value)} (r : KT H kvs xs) (k : List Key) : RelO (valV kvs k) ((atKey xs k).map (·.2)) := by
  induction r with
  | nil => exact True.intro
  | @cons p q ps qs h t ih =>
    obtain ⟨h1, _, h2⟩ := h
    by_cases e : p.1 = k
    · have e' : q.1 = k := h1.symm.trans e
      have b : atKey (q :: qs) k = some q.2 := by simp [atKey, List.find?_cons, e']
      rw [valV_pos e, b]; exact h2
    · have e' : ¬ q.1 = k := fun z => e (h1.trans z)
      have b : atKey (q :: qs) k = atKey qs k := by simp [atKey, List.find?_cons, e']
      rw [valV_neg e, b]; exact ih
theorem KT.repl {H : Hp} {kvs : List (List Key × V)} {xs : List (List Key × Addr × Value)} (r : KT H kvs xs) (k : List Key) {y : V} {u : Value} (ry : RelV y u) :
    KT H (kvs.map fun kv => if kv.1 = k then (kv.1, y) else kv) (xs.map (putAt k u)) := by
  induction r with
  | nil => exact .nil
  | @cons p q ps qs h t ih =>
    rw [List.map_cons, List.map_cons]
    refine .cons ?_ ih
    obtain ⟨h1, h2, h3⟩ := h
    unfold putAt
    by_cases e : p.1 = k
    · rw [if_pos e, if_pos (h1.symm.trans e)]; exact ⟨h1, h2, ry⟩
    · rw [if_neg e, if_neg (fun z => e (h1.trans z))]; exact ⟨h1, h2, h3⟩
theorem KT.put {H : Hp} {kvs : List (List Key × V)} {xs : List (List Key × Addr × Value)} (r : KT H kvs xs) (k : List Key) {b : Addr} {y : V} {u : Value} (hb : H b = some (.tup (k.map kV))) (ry : RelV y u) :
    KT H (putK kvs k y) (storedH xs k b u) := by
  have e : (kvs.any fun kv => decide (kv.1 = k)) = (atKey xs k).isSome := by
    rw [valV_any, (r.val k).isSome_eq, Option.isSome_map]
  unfold putK storedH
  rw [e]
  by_cases q : (atKey xs k).isSome = true
  · rw [if_pos q, if_pos q]; exact r.repl k ry
  · rw [if_neg q, if_neg q]; exact Paired.snoc r ⟨rfl, hb, ry⟩
theorem KT.keeps {H H' : Hp} {kvs : List (List Key × V)} {xs : List (List Key × Addr × Value)} (r : KT H kvs xs) (ht : ∀ b ys, H b = some (.tup ys) → H' b = some (.tup ys)) : KT H' kvs xs :=
  Paired.mapP r fun _ _ z => ⟨z.1, ht _ _ z.2.1, z.2.2⟩

section
variable {P : Program} {w : World} {H : Hp} {h : Heap} {a : Addr}
end

/-- what the dict at a holds at the key y -/
def DGet (H : Hp) (a : Addr) (y : V) (r : Option V) : Prop :=
  (∃ kvs k, Rd H a (.dK kvs) ∧ y = kV k ∧ r = valV kvs k) ∨ ∃ kvs k b, Rd H a (.dT kvs) ∧ y = .ref b ∧ H b = some (.tup (k.map kV)) ∧ r = valV kvs k
/-- the heap behind a[y] = v -/
def DPut (H : Hp) (a : Addr) (y v : V) (H' : Hp) : Prop :=
  (∃ kvs k, H a = some (.dK kvs) ∧ y = kV k ∧ kvs.length < sizeLine ∧ H' = upd H a (.dK (putK kvs k v))) ∨
  ∃ kvs k b, H a = some (.dT kvs) ∧ y = .ref b ∧ H b = some (.tup (k.map kV)) ∧ kvs.length < sizeLine ∧ H' = upd H a (.dT (putK kvs k v))
theorem DGet.k {H : Hp} {a : Addr} {kvs : List (Key × V)} {k : Key} (e : H a = some (.dK kvs)) : DGet H a (kV k) (valV kvs k) := .inl ⟨kvs, k, .inl e, rfl, rfl⟩
theorem DGet.t {H : Hp} {a b : Addr} {kvs : List (List Key × V)} {k : List Key} (e : H a = some (.dT kvs)) (eb : H b = some (.tup (k.map kV))) : DGet H a (.ref b) (valV kvs k) := .inr ⟨kvs, k, b, .inl e, rfl, eb, rfl⟩
theorem DPut.k {H : Hp} {a : Addr} {kvs : List (Key × V)} {k : Key} {v : V} (e : H a = some (.dK kvs)) (hl : kvs.length < sizeLine) : DPut H a (kV k) v (upd H a (.dK (putK kvs k v))) := .inl ⟨kvs, k, e, rfl, hl, rfl⟩
theorem DPut.t {H : Hp} {a b : Addr} {kvs : List (List Key × V)} {k : List Key} {v : V} (e : H a = some (.dT kvs)) (eb : H b = some (.tup (k.map kV))) (hl : kvs.length < sizeLine) :
    DPut H a (.ref b) v (upd H a (.dT (putK kvs k v))) := .inr ⟨kvs, k, b, e, rfl, eb, hl, rfl⟩


section
variable {X : Cx} {pins : List (Addr × Obj)} {σ : St} {H : Hp} {s : Shared} {a : Addr} {y v : V} {u r : Value} {o : Option V} {A : Around} {E : Value → Shared → Prop}

end

section
variable {X : Cx} {pins : List (Addr × Obj)} {σ : St} {H : Hp} {s : Shared} {a : Addr} {kvs : List (Key × V)} {k : Key} {u : Value} {A : Around} {E : Value → Shared → Prop}
end


/-! ### readings and rules -/
section
variable {X : Cx} {o i e value : Expr} {pos pos' tpos : Pos} {td ty tv : TE}
end


/-! ### displays -/
section
variable {X : Cx} {pos : Pos}
end

/-! ### methods -/
/-- a method call o.m(e) of a built-in, with one argument: what must be seen of the text -/
structure M1 (X : Cx) (o : Expr) (m : Str) (apos : Pos) (e : Expr) (cpos : Pos) : Prop where
  base : attributeBase o m X.env (eval o X.env) = eval o X.env
  few : ((backTo cpos (starEach [e] X.env)).all (fun x => !x.1) && (backToKw cpos (keywordEach [] X.env)).all (fun x => x.1.isSome)
    && decide (([e] : List Expr).length + ([] : List Keyword).length + (if ([] : List Keyword).isEmpty then 0 else 1) < 30)) = true
  line : (apos.endLine == cpos.line) = true
  trees : backTo cpos (starEach [e] X.env) = [(false, eval e X.env)]
structure M2 (X : Cx) (o : Expr) (m : Str) (apos : Pos) (e f : Expr) (cpos : Pos) : Prop where
  base : attributeBase o m X.env (eval o X.env) = eval o X.env
  few : ((backTo cpos (starEach [e, f] X.env)).all (fun x => !x.1) && (backToKw cpos (keywordEach [] X.env)).all (fun x => x.1.isSome)
    && decide (([e, f] : List Expr).length + ([] : List Keyword).length + (if ([] : List Keyword).isEmpty then 0 else 1) < 30)) = true
  line : (apos.endLine == cpos.line) = true
  trees : backTo cpos (starEach [e, f] X.env) = [(false, eval e X.env), (false, eval f X.env)]

section
variable {X : Cx} {pins : List (Addr × Obj)} {σ : St} {H : Hp} {s : Shared} {a : Addr} {y d : V} {u r : Value} {o : Option V} {A : Around} {E : Value → Shared → Prop}
end

section
variable {X : Cx} {o e f : Expr} {apos cpos : Pos} {td ty tx : TE}
end

/-! ### dict(d): a copy -/
section
variable {X : Cx} {pins : List (Addr × Obj)} {σ : St} {H : Hp} {s : Shared} {a : Addr} {kvs : List (Key × V)} {A : Around} {E : Value → Shared → Prop}
end


section
variable {X : Cx} {pins : List (Addr × Obj)} {σ : St} {H : Hp} {s : Shared} {a : Addr} {y : V} {u : Value} {A : Around} {E : Value → Shared → Prop}
end
end L2

namespace Att
open PySem PySem.W PySem.Calls PyProof.Rows

/-! ### the script -/
theorem ints_of_wellAll {P : Params} {h : Heap} : ∀ (ns : List Int) (vs : List Value), WellAll P h vs (ns.map WData.int) → IntsAre vs ns := by
  intro ns
  induction ns with
  | nil =>
    intro vs w
    rw [List.map_nil] at w
    cases w
    exact .nil
  | cons n ns ih =>
    intro vs w
    rw [List.map_cons] at w
    cases w with
    | cons a b =>
      cases a
      exact .cons _ _ (ih _ b)

theorem script_of {l : OpenLaw} {n : Nat} (hn : l.most = some n) {P : Params} {h : Heap} {args : List WData} {vals : List Value}
    (hpre : l.row.toRowW.claim.pre args = true) (hwl : WellAll P h vals args) :
    ∃ a vs ns, vals = [Value.ref a] ∧ args = [WData.list (ns.map WData.int)] ∧ h.get? a = some { cls := .type "list", data := .seq vs.toArray } ∧ IntsAre vs ns ∧ ns.length ≤ n := by
  have hsh : WShape.hasAll [] args [.list .int] = true := (pre_splitW hpre).1
  have hc : l.pre.holds [] { args := args } = true := (pre_splitW hpre).2
  obtain ⟨d, r, rfl, h1, h2⟩ := hasAllW_cons hsh
  obtain rfl := hasAllW_nil h2
  obtain ⟨xs, rfl, h3⟩ := hasW_list h1
  obtain ⟨ns, rfl⟩ := items_int h3
  have hlen : ns.length ≤ n := by
    unfold OpenLaw.pre at hc
    have h4 : (WTm.not (.lt (.lit (.int (n : Int))) (.len (.arg 0)))).holds [] { args := [.list (ns.map .int)] } = true := by
      have h4 := (holds_andW hc).1
      rw [hn] at h4
      exact h4
    have h5 := condW_of h4 (w_not (w_lt w_lit (w_len_list (w_arg rfl))))
    rw [List.length_map] at h5
    refine Nat.le_of_not_lt fun q => ?_
    have q' : (n : Int) < ((ns.length : Nat) : Int) := by omega
    first
      | (rw [decide_eq_true q'] at h5; exact absurd h5 (by decide))
      | (simp at h5; omega)
  cases hwl with
  | cons w1 w2 =>
    cases w2
    cases w1 with
    | list ho hall => exact ⟨_, _, ns, rfl, rfl, ho, ints_of_wellAll ns _ hall, hlen⟩

theorem post_true (l : OpenLaw) (args : List WData) : l.row.toRowW.claim.post args (.bool true) args = true :=
  postW_of (r := l.row.toRowW) (X := (true == true))
    (show WShape.has [] (.bool true) .bool = true by first | rfl | decide | simp [WShape.has, WShape.arms, WShape.armsAll])
    (show (WTm.eq .res (.lit (.bool true))).value [] { args := args, res := some (.bool true), after := args } = some (.bool (true == true)) from w_eq_bool (w_res rfl) w_lit) rfl

/-! ### the attachment: holds_open's last premise (the goal 'hc' behind k_head) from a wpAny of the law's body -/
/-- the same from a codeAny of the CALL (for a layer whose function contracts speak of calls) -/
theorem attach_call {l : OpenLaw} {n : Nat} {q : Program} {loose : List Str} {XP : (Str → Option Value) → Heap → Prop} {YP : World → Heap → Prop} {d : DefRec}
    (hn : l.most = some n) (hdf : d.params.defaults = [])
    (call : ∀ (w : World) (s₀ s₁ : Shared) (mg mb : Str → Option Value) (fa : Addr) (o : Obj) (pm cd doc : Value) (a : Addr) (vs : List Value) (ns : List Int),
      Ground q loose [] XP w s₀ mg mb s₁.heap → YP w s₁.heap →
      s₁.heap.get? fa = some o → o.data = .func (docDef d.name d.params d.body d.scope pm cd doc) → s₁.heap.CodeRec cd d.name → mg d.name = some (.ref fa) →
      s₁.heap.get? a = some { cls := .type "list", data := .seq vs.toArray } → IntsAre vs ns → ns.length ≤ n → s₁.gens = #[] →
      codeAny (model l.prog w) callerA (.call (.ref fa) ⟨[.ref a], []⟩) (fun r s' => r = .ok (.ret (.bool true)) ∧ OldK s₁.heap s'.heap ∧ s'.os = s₁.os ∧ AllBare s'.gens) s₁) :
    WalkO q loose XP YP l.row.toRowW d [] (fun f vs => PySem.call f vs) := by
  intro w s₀ s₁ mg mb G Y fa o pm cd doc dV kV ho hd hcd hD hmg hg args vals as hpre hlay hrd hwl hlo
  obtain rfl : dV = .none := Dflts.none hD hdf
  obtain rfl : kV = .none := Dflts.noKw hD
  obtain ⟨a, vs, ns, rfl, rfl, hobj, hints, hlen⟩ := script_of hn hpre hwl
  refine enter_call (codeAny_mono (call w s₀ s₁ mg mb fa o pm cd doc a vs ns G Y ho (fd_plain hd) hcd hmg hobj hints hlen hg) fun r s' hq => ?_)
  obtain ⟨rfl, h2, h3, h4⟩ := hq
  exact ⟨.inl ⟨.bool true, .bool true, [], rfl, fun _ => rfl, .bool true, post_true l _, fun _ => ⟨List.Pairwise.nil, fun _ hm => (nomatch hm)⟩⟩, h2, h3, h4⟩

/-! ### rules over ANY heap (no ledger) from facts about the written part K: the library's own take a ledger (News) for what they write -/
section
variable {prog : Program} {w : World} {A : Around} {E : Value → Shared → Prop} {s : Shared} {K : Frag}

/-! the whole heap as the ledger: makes every rule that writes through a ledger a rule over any heap -/
def ledger (h : Heap) (L d : Addr) : List (Addr × Obj) := (List.range h.objs.size).filterMap fun a => if a = L ∨ a = d then none else (h.get? a).map fun o => (a, o)
end
end Att

namespace L2
open PySem PySem.Spec PyProof.Rows

theorem vals_ints : ∀ {vs : List Value} {ns : List Int}, IntsAre vs ns → Vals (ns.map V.int) vs
  | _, _, .nil => .nil
  | _, _, .cons n t h => .cons ⟨t, rfl⟩ (vals_ints h)

/-- nothing is tracked but the script, known to the object (or it is an object of the module) -/
def Only (H : Hp) : Prop := ∀ b, H b = none ∨ ∃ o xs, H b = some (.frz o (.lst xs))

/-- THE HEAD: the law's promise, at the heap behind the top. F, the promise of the law's def, may use that base is part of the heap (so K.In base, base.Ns mainGlobals mg stand in Mod) -/
theorem law_call {P : Program} {w : World} {K : PySem.W.Frag} {mg mb : Str → Option Value} {CX : CXT} {k : Nat} {fa a : Addr} {fd : FuncData} {x : Str} {sp : Sp} {s₁ : Shared} {vs : List Value} {ns : List Int}
    (KX : K.In s₁.heap) (hns : s₁.heap.Ns mainGlobals mg) (hb : s₁.heap.Ns builtinsNs mb) (hbb : ∀ x : Str, x ≠ "__name__" → mb x = bootBuiltins x) (hlim : s₁.heap.NoLimit) (hg : s₁.gens = #[])
    (ha : s₁.heap.get? a = some { cls := .type "list", data := .seq vs.toArray }) (hi : IntsAre vs ns) (hl : ns.length ≤ sizeLine) (hr : Room k callerA)
    (F : ∀ base : Heap, K.In base → base.Ns mainGlobals mg → FnOk P w K mg base CX k fa fd [x] sp) (hbind : ∀ (s : Shared) (u : Value), BindsTo s fd ⟨[u], []⟩ [(x, u)])
    (hsp : ∀ H : Hp, Only H → SqL K H a (ns.map V.int) → sp [.ref a] H (fun v _ => v = .bl true) fun _ _ _ => False)
    (hCX : ∀ H e s', CX [] H s₁ (fun _ _ _ => False) e s' → False) :
    codeAny (model P w) callerA (.call (.ref fa) ⟨[.ref a], []⟩) (fun r s' => r = .ok (.ret (.bool true)) ∧ OldK s₁.heap s'.heap ∧ s'.os = s₁.os ∧ AllBare s'.gens) s₁ := by
  have rv := vals_ints hi
  have lenV := hi.length
  -- from an abstract heap in which nothing but the script may be tracked
  have core : ∀ H : Hp, Only H → SqL K H a (ns.map V.int) → HOk P w H s₁.heap → (∀ b, H b ≠ none → b = a) → (H a ≠ none → K.lookup a = none) →
      codeAny (model P w) callerA (.call (.ref fa) ⟨[.ref a], []⟩) (fun r s' => r = .ok (.ret (.bool true)) ∧ OldK s₁.heap s'.heap ∧ s'.os = s₁.os ∧ AllBare s'.gens) s₁ := by
    intro H hO hS hok hA hK
    have base_of : ∀ {b : Addr} {o : Obj}, s₁.heap.get? b = some o → H b = none → (hidT s₁.heap H).get? b = some o := fun e n => hidT_get e n
    have noA : ∀ {b : Addr} {o : Obj} {es : Array DictEntry} {ep : Nat}, s₁.heap.get? b = some o → o.data = .dict es ep → H b = none := fun {b o es ep} e d => by
      cases q : H b with
      | none => rfl
      | some u =>
        have e' : b = a := hA b (by rw [q]; simp)
        subst e'
        rw [ha] at e; cases e
        have d' : Data.seq vs.toArray _ = Data.dict es ep := d
        cases d'
    have nsK : ∀ {b : Addr} {m : Str → Option Value}, s₁.heap.Ns b m → (hidT s₁.heap H).Ns b m := fun {b m} ⟨o, es, ep, e, d, r⟩ => ⟨o, es, ep, base_of e (noA e d), d, r⟩
    have hKb : K.In (hidT s₁.heap H) := fun b o e => base_of (KX b o e) (by
      cases q : H b with
      | none => rfl
      | some u =>
        have e' : b = a := hA b (by rw [q]; simp)
        subst e'
        rw [hK (by rw [q]; simp)] at e; cases e)
    have hM : Mod K mg (hidT s₁.heap H) := ⟨hKb, nsK hns, ⟨mb, nsK hb, hbb⟩, let ⟨mc, h1, h2⟩ := hlim; ⟨mc, nsK h1, h2⟩⟩
    have e0 : Env0 P w K mg (hidT s₁.heap H) callerA [] s₁ H := ⟨rfl, hM, fun b o e => of_hidT e, Nat.le_of_eq (hidT_size _ _), trivial, fun b hb => absurd (show b ∈ ([] : List Addr) from hb) (by simp), hok, .of_eq hg⟩
    refine codeAny_mono ((F _ hKb (nsK hns)).run callerA [] s₁ H ⟨[.ref a], []⟩ [.ref a] [.ref a] _ _ hr e0 (hbind s₁ (.ref a)) (.cons rfl .nil) (hsp H hO hS)) fun r s' h => ?_
    cases r with
    | error e => exact (hCX H e s' h).elim
    | ok fl =>
      cases fl with
      | next => exact False.elim h
      | brk => exact False.elim h
      | cont => exact False.elim h
      | ret u =>
        obtain ⟨v, H', os, bare, un, hok', r', q⟩ := h
        have q' : v = .bl true := q
        subst q'
        obtain rfl : u = Value.bool true := r'
        refine ⟨rfl, OldK.of_keep fun b o e => ?_, os, bare⟩
        cases q : H b with
        | none => exact un.keep b o e q (by intro z; exact absurd (show b ∈ ([] : List Addr) from z) (by simp)) (by simp)
        | some u =>
          rcases hO b with z | ⟨ob, xs, z⟩
          · rw [q] at z; cases z
          · have z2 := un.frzs b ob _ z
            obtain ⟨e1, _⟩ := hok b _ z
            obtain ⟨e2, _⟩ := hok' b _ z2
            rw [e] at e1; cases e1
            exact e2
  cases hk : K.lookup a with
  | some o =>
    -- the script is one of the module's own objects
    have e := KX a o hk
    rw [ha] at e
    cases e
    refine core (fun _ => none) (fun _ => .inl rfl) (.inr ⟨_, vs.toArray, _, hk, rfl, rfl, rfl, by rw [List.size_toArray, lenV]; exact hl, by simpa using rv⟩) (fun b u z => by have z' : (none : Option HO) = some u := z; cases z') (fun b z => absurd rfl z) fun z => absurd rfl z
  | none =>
    refine core (fun b => if b = a then some (.frz { cls := .type "list", data := .seq vs.toArray } (.lst (ns.map V.int))) else none) (fun b => ?_) (.inl (.inr ⟨{ cls := .type "list", data := .seq vs.toArray }, if_pos rfl⟩)) (fun b u z => ?_) (fun b z => ?_) fun _ => hk
    · by_cases hb : b = a
      · exact .inr ⟨_, _, if_pos hb⟩
      · exact .inl (if_neg hb)
    · by_cases hb : b = a
      · have z' := (if_pos hb).symm.trans z
        cases z'
        subst hb
        exact ⟨ha, by rw [List.length_map]; exact hl, vs, _, rv, ha⟩
      · have z' := (if_neg hb).symm.trans z
        cases z'
    · by_cases hb : b = a
      · exact hb
      · exact absurd (if_neg hb) z
end L2

namespace L2
open PySem PySem.Spec PyProof.Rows

abbrev KOf {K : PySem.W.Frag} {h : Heap} (_ : K.In h) : PySem.W.Frag := K

/-- the goal that k_head leaves (case hc), from the law's promise. F gives the function object fd (K's own) once, then the promise over every base -/
theorem walk_of {l : PySem.W.OpenLaw} {n k : Nat} {q : Program} {loose : List Str} {XP : (Str → Option Value) → Heap → Prop} {YP : World → Heap → Prop} {d : DefRec} {K : Params → PySem.W.Frag} {CX : World → CXT} {sp : World → Sp} {x : Str}
    (hn : l.most = some n) (hn2 : n ≤ sizeLine) (hdf : d.params.defaults = []) (hr : Room k callerA)
    (hY : ∀ (w : World) (h : Heap), YP w h → (K w.params).In h)
    (F : ∀ (w : World) (mg : Str → Option Value) (fa : Addr) (h : Heap), (K w.params).In h → h.Ns mainGlobals mg → mg d.name = some (.ref fa) →
      ∃ fd : FuncData, (∀ (s : Shared) (u : Value), BindsTo s fd ⟨[u], []⟩ [(x, u)]) ∧
        ∀ base : Heap, (K w.params).In base → base.Ns mainGlobals mg → FnOk l.prog w (K w.params) mg base (CX w) k fa fd [x] (sp w))
    (hsp : ∀ (w : World) (H : Hp) (a : Addr) (ns : List Int), ns.length ≤ n → Only H → SqL (K w.params) H a (ns.map V.int) → sp w [.ref a] H (fun v _ => v = .bl true) fun _ _ _ => False)
    (hCX : ∀ (w : World) (H : Hp) (s : Shared) (e : Value) (s' : Shared), CX w [] H s (fun _ _ _ => False) e s' → False) :
    PySem.W.WalkO q loose XP YP l.row.toRowW d [] (fun f vs => PySem.call f vs) := by
  refine Att.attach_call hn hdf fun w s₀ s₁ mg mb fa o pm cd doc a vs ns G Y ho hd hcd hmg hobj hints hlen hg => ?_
  have KX := hY w _ Y
  obtain ⟨fd, hb, hF⟩ := F w mg fa _ KX G.T.g hmg
  exact law_call KX G.T.g G.T.b G.T.builtins G.T.nolimit hg hobj hints (Nat.le_trans hlen hn2) hr hF hb (fun H hO hS => hsp w H a ns hlen hO hS) fun H e s' => hCX w H s₁ e s'
end L2

/- THE LAST THEOREM (shape; LID, My.* are yours):
   My.Adr: a structure of the addresses that your layer names (classes, functions); My.Txt K t: a structure (Prop) of the equations over K;
   My.txt_mk : {K} {implicit addresses ..} (e1 : nsIn K mainGlobals "law" = some (some (.ref f))) (e2 : K.lookup f = some ⟨oc, od, .func (fnOf "law" "law" params body scope dV kV doc pm an cdv ct), sl⟩) (e3 : codeIn K cdv "law" = true) .. : ∃ t, My.Txt K t

set_option maxRecDepth 100000 in
set_option maxHeartbeats 0 in
theorem PySem.Challenge.cw_LID_holds : PySem.Challenge.rw_LID.Holds := by
  w_on; o_law; k_head; (case hw => w_witness2)
  k_fill
  refine L2.walk_of (l := PySem.Challenge.rw_LID) (n := 63) (k := 40) (x := "script") (CX := fun w => ..) (sp := fun _ => My.sp_law) rfl (by decide) rfl ⟨rfl, by decide, by decide⟩ (fun w h Y => PySem.W.kIn_of Y) ?F ?S ?C
  case F =>
    intro w mg fa h KX G hmg
    have T : ∃ t, My.Txt (L2.KOf KX) t := by
      dsimp only [L2.KOf]                          -- K must stand as «<heap const> w.params» for k_is
      refine' My.txt_mk ?e1 ?e2 ?e3 ..
      (case e1 => PySem.W.k_is)                    -- in the order: a name -> its address -> its object -> its parts
      (case e2 => PySem.W.k_is)
      ..
    obtain ⟨t, T⟩ := T
    have e0 := hmg.symm.trans (PySem.W.mg_of KX G T.law)
    cases e0                                       -- fa is the law's own address
    exact ⟨_, fun s u => .of_eq rfl, fun base kb nb => My.law_fn T kb nb⟩     -- if «.of_eq rfl» comes too early: refine' ⟨_, ?b, fun base kb nb => My.law_fn T kb nb⟩; exact fun s u => .of_eq rfl
  case S => exact fun w H a ns hl hO hS => ..
  case C => exact ..
(the tactic k_is has no namespace: write k_is) -/

/-! SHORT WORDS over the layer: a def of the text, its body, what a loop and a test want. -/
namespace L2
open PySem PySem.Spec PyProof.Rows

/-! ### the text by places -/
/-- the j-th statement of a class's body -/
def inClass (s : Stmt) (j : Nat) : Stmt := match s with
  | .ClassDef _ _ _ body _ _ _ _ _ _ _ => body.getD j (.Pass ⟨0, 0, 0, 0⟩)
  | _ => .Pass ⟨0, 0, 0, 0⟩
def defArgs (s : Stmt) : Arguments := match s with
  | .FunctionDef _ a _ _ _ _ _ _ _ _ => a
  | _ => { posonlyargs := [], args := [], vararg := none, kwonlyargs := [], kw_defaults := [], kwarg := none, defaults := [] }
def defBody (s : Stmt) : List Stmt := match s with
  | .FunctionDef _ _ b _ _ _ _ _ _ _ => b
  | _ => []
def defScope (s : Stmt) : Scope := match s with
  | .FunctionDef _ _ _ _ _ _ sc _ _ _ => sc
  | _ => { kind := .function, names := [], isGenerator := false, isCoroutine := false }

/-! ### no exception leaves a def -/
abbrev CX0 : CXT := fun _ _ _ _ _ _ => False
abbrev E0 : XK := fun _ _ _ => False
/-! ### a def (or method) of the text as it stands behind the top -/
structure Fun (K : PySem.W.Frag) (x qual : Str) (st : Stmt) (f : Addr) (fd : FuncData) : Prop where
  ex : ∃ (oc : Value) (od : Option Addr) (kV doc pm : Value) (an : Option Addr) (cdv ct : Value) (osl : Array (Option Value)),
    fd = PySem.W.fnOf x qual (defArgs st) (defBody st) (defScope st) .none kV doc pm an cdv ct ∧ K.lookup f = some ⟨oc, od, .func fd, osl⟩ ∧ PySem.W.codeIn K cdv qual = true
  kp : PySem.W.keepIn K (.ref f) = true
section
variable {P : Program} {w : World} {K : PySem.W.Frag} {mg : Str → Option Value} {base : Heap}
/-- THE RULE for a def: its body as a term of rules, and the reading of that term -/
theorem Fun.ok {x qual : Str} {st : Stmt} {f : Addr} {fd : FuncData} {N ps : List Str} {k : Nat} {sp : Sp} (F : Fun K x qual st f fd) (S : FnScope N ps (defScope st)) (len : ∀ vs H Q E, sp vs H Q E → vs.length = ps.length)
    (hbody : ∀ (cdv : Value) (A : Around) (outer : List Env) (s : Shared) (H : Hp) (vs : List V) (Q : VK) (E : XK), Room k (A.deeper (envOfC qual (defScope st) s.heap.objs.size f cdv)) → sp vs H Q E →
      ∃ t, PSs (cxOf CX0 P w K mg base N qual (defScope st) f cdv A outer s H E).nox (defBody st) t ∧ t { nx := fun _ H' => Q .non H', rt := Q } (start N vs) H) : FnOk P w K mg base CX0 (k + 1) f fd ps sp := by
  obtain ⟨oc, od, kV, doc, pm, an, cdv, ct, osl, rfl, lk, hcd⟩ := F.ex
  refine fn_of lk hcd S len fun A outer s H vs Q E hr hsp => ?_
  obtain ⟨t, h, q⟩ := hbody cdv A outer s H vs Q E hr hsp
  exact ⟨t, h.nox, q⟩
/-- how its arguments bind (no defaults): h is «fun _ _ _ _ _ _ us hl => match us, hl with | [_, _], _ => rfl», one _ a parameter -/
theorem Fun.binds {x qual : Str} {st : Stmt} {f : Addr} {fd : FuncData} {ps : List Str} (F : Fun K x qual st f fd)
    (h : ∀ (kV doc pm : Value) (an : Option Addr) (cdv ct : Value) (us : List Value), us.length = ps.length → bindArgs (PySem.W.fnOf x qual (defArgs st) (defBody st) (defScope st) .none kV doc pm an cdv ct) ⟨us, []⟩ = pure (ps.zip us)) : Binds K fd ps [] := by
  obtain ⟨oc, od, kV, doc, pm, an, cdv, ct, osl, rfl, lk, hcd⟩ := F.ex
  exact .all (h kV doc pm an cdv ct)
theorem fun_mk {x qual : Str} {st : Stmt} {f : Addr} {oc : Value} {od an : Option Addr} {osl : Array (Option Value)} {kV doc pm cdv ct : Value} (l : K.lookup f = some ⟨oc, od, .func (PySem.W.fnOf x qual (defArgs st) (defBody st) (defScope st) .none kV doc pm an cdv ct), osl⟩)
    (c : PySem.W.codeIn K cdv qual = true) (k : PySem.W.keepIn K (.ref f) = true) : Fun K x qual st f (PySem.W.fnOf x qual (defArgs st) (defBody st) (defScope st) .none kV doc pm an cdv ct) := ⟨⟨oc, od, kV, doc, pm, an, cdv, ct, osl, rfl, l, c⟩, k⟩
end
/-! ### expressions in short: the name that stands in the i-th slot -/
section
variable {X : Cx}
end

/-! ### tests -/
/-! ### heaps -/
/-- all that was tracked is as it was -/
def Same (H H' : Hp) : Prop := ∀ b o, H b = some o → H' b = some o
theorem Same.refl (H : Hp) : Same H H := fun _ _ h => h
theorem Same.trans {H H1 H2 : Hp} (a : Same H H1) (b : Same H1 H2) : Same H H2 := fun c o h => b c o (a c o h)
theorem Same.free {H H' : Hp} (e : Same H H') {l : Addr} (h : H' l = Option.none) : H l = Option.none := by
  cases q : H l with
  | none => rfl
  | some o =>
    rw [e l o q] at h
    cases h
theorem Same.seq {K : PySem.W.Frag} {H H' : Hp} {a : Addr} {xs : List V} (e : Same H H') (h : SqL K H a xs) : SqL K H' a xs := by
  rcases h with (h | ⟨o, h⟩) | h
  · exact .inl (.inl (e _ _ h))
  · exact .inl (.inr ⟨o, e _ _ h⟩)
  · exact .inr h

/-! ### a dict's pairs: keys that differ -/
section
variable {κ : Type} [DecidableEq κ]
theorem valV_not {kvs : List (κ × V)} {k : κ} (h : valV kvs k = none) : ¬ k ∈ kvs.map (·.1) := by
  intro m
  obtain ⟨p, hp, e⟩ := List.mem_map.mp m
  have q : (kvs.any fun kv => decide (kv.1 = k)) = true := List.any_eq_true.mpr ⟨p, hp, decide_eq_true e⟩
  rw [valV_any, h] at q
  exact absurd q (by simp)
theorem nd_snoc : ∀ {l : List κ} {k : κ}, l.Nodup → ¬ k ∈ l → (l ++ [k]).Nodup
  | [], k, _, _ => by simp
  | a :: r, k, h, hk => by
    obtain ⟨h1, h2⟩ := List.nodup_cons.mp h
    show (a :: (r ++ [k])).Nodup
    refine List.nodup_cons.mpr ⟨fun m => ?_, nd_snoc h2 fun m => hk (List.mem_cons.mpr (Or.inr m))⟩
    rcases List.mem_append.mp m with q | q
    · exact h1 q
    · exact hk (List.mem_cons.mpr (Or.inl (List.mem_singleton.mp q).symm))
theorem nd_putK {kvs : List (κ × V)} {k : κ} (v : V) (hn : (kvs.map (·.1)).Nodup) (h : valV kvs k = none) : ((putK kvs k v).map (·.1)).Nodup := by
  rw [putK_new v h, List.map_append]
  exact nd_snoc hn (valV_not h)
end
end L2


set_option linter.all false
set_option maxHeartbeats 4000000
/-! Comprehensions over the hand layer: [elt for target in iter if test], a block of its own. -/
namespace L2
open PySem PySem.Spec PyProof.Rows

/-! ### the closure of a block: the cells of the names that it draws from around it -/
theorem closure_go {env : Env} : ∀ (names : List (Str × NameKind)) (cs : List (Str × Addr)),
    (∀ x ∈ names, x.2 = .free → ∃ c, env.cells.lookup x.1 = some c) → (∀ x c, cs.lookup x = some c → env.cells.lookup x = some c) →
    ∃ cl, (forIn names cs fun x r => (if (x.2 == NameKind.free) = true then do let a ← cellOf env x.1; pure (ForInStep.yield ((x.1, a) :: r)) else pure (ForInStep.yield r) : Sem (ForInStep (List (Str × Addr))))) = pure cl ∧
      (∀ x c, cl.lookup x = some c → env.cells.lookup x = some c) ∧ (∀ x, (cs.lookup x).isSome = true → (cl.lookup x).isSome = true) ∧
      ∀ x ∈ names, x.2 = .free → (cl.lookup x.1).isSome = true
  | [], cs, _, h => ⟨cs, rfl, h, fun _ z => z, fun _ z => nomatch z⟩
  | (n, k) :: r, cs, hf, h => by
    by_cases hk : k = .free
    · subst hk
      obtain ⟨c, hc⟩ := hf (n, .free) List.mem_cons_self rfl
      obtain ⟨cl, e, h1, h2, h3⟩ := closure_go r ((n, c) :: cs) (fun x hx => hf x (List.mem_cons_of_mem _ hx)) (fun x c' hx => by
        by_cases hxn : x = n
        · subst hxn; simp only [List.lookup_cons, beq_self_eq_true] at hx; cases hx; exact hc
        · have : (x == n) = false := beq_eq_false_iff_ne.mpr hxn
          simp only [List.lookup_cons, this] at hx; exact h x c' hx)
      refine ⟨cl, ?_, h1, fun x hx => h2 x ?_, fun x hx hxf => ?_⟩
      · rw [List.forIn_cons]
        show ((if (NameKind.free == NameKind.free) = true then _ else _) >>= _) = _
        rw [if_pos (show (NameKind.free == NameKind.free) = true from rfl)]
        unfold cellOf
        show (((match env.cells.lookup n with | some a => pure a | none => _) >>= _) >>= _) = _
        rw [hc]
        exact e
      · by_cases hxn : x = n
        · subst hxn; simp
        · have : (x == n) = false := beq_eq_false_iff_ne.mpr hxn
          simp only [List.lookup_cons, this]; exact hx
      · rcases List.mem_cons.mp hx with rfl | hx
        · exact h2 n (by simp)
        · exact h3 x hx hxf
    · obtain ⟨cl, e, h1, h2, h3⟩ := closure_go r cs (fun x hx => hf x (List.mem_cons_of_mem _ hx)) h
      refine ⟨cl, ?_, h1, h2, fun x hx hxf => ?_⟩
      · rw [List.forIn_cons]
        have hb : (k == NameKind.free) = false := by simpa using hk
        show ((if (k == NameKind.free) = true then _ else _) >>= _) = _
        rw [if_neg (by simp [hb])]
        exact e
      · rcases List.mem_cons.mp hx with rfl | hx
        · exact absurd hxf hk
        · exact h3 x hx hxf
theorem closure_get {env : Env} {scope : Scope} (hf : ∀ x ∈ scope.names, x.2 = .free → ∃ c, env.cells.lookup x.1 = some c) :
    ∃ cl, closureFor scope env = pure cl ∧ (∀ x c, cl.lookup x = some c → env.cells.lookup x = some c) ∧ ∀ x ∈ scope.names, x.2 = .free → (cl.lookup x.1).isSome = true := by
  obtain ⟨cl, e, h1, _, h3⟩ := closure_go (env := env) scope.names [] hf (fun x c h => by simp at h)
  refine ⟨cl, ?_, h1, h3⟩
  unfold closureFor
  show (forIn scope.names ([] : List (Str × Addr)) _ >>= _) = _
  have : (forIn scope.names ([] : List (Str × Addr)) fun x r => (if (x.2 == NameKind.free) = true then do let a ← cellOf env x.1; pure (ForInStep.yield ((x.1, a) :: r)) else pure (ForInStep.yield r) : Sem (ForInStep (List (Str × Addr))))) >>= (fun r => (pure r : Sem _)) = (pure cl : Sem _) := by rw [e]; rfl
  exact this
theorem relabel_free {env : Env} : ∀ {names : List (Str × NameKind)} {x : Str}, names.lookup x = some .free →
    (names.map fun (n, k) => if (k == NameKind.free && env.scope.kind == .function && env.kindOf n == some .cell) then (n, NameKind.cell) else (n, k)).lookup x = some .cell ∨
    (names.map fun (n, k) => if (k == NameKind.free && env.scope.kind == .function && env.kindOf n == some .cell) then (n, NameKind.cell) else (n, k)).lookup x = some .free
  | [], _, h => by simp at h
  | (n, k) :: r, x, h => by
    by_cases hx : x = n
    · subst hx
      simp only [List.lookup_cons, beq_self_eq_true] at h
      cases h
      show List.lookup x ((if _ then (x, NameKind.cell) else (x, NameKind.free)) :: _) = _ ∨ List.lookup x ((if _ then (x, NameKind.cell) else (x, NameKind.free)) :: _) = _
      split
      · exact .inl (by simp)
      · exact .inr (by simp)
    · have hb : (x == n) = false := beq_eq_false_iff_ne.mpr hx
      simp only [List.lookup_cons, hb] at h
      have ih := relabel_free (env := env) h
      show List.lookup x ((if _ then (n, NameKind.cell) else (n, k)) :: _) = _ ∨ List.lookup x ((if _ then (n, NameKind.cell) else (n, k)) :: _) = _
      split <;> (simp only [List.lookup_cons, hb]; exact ih)
/-- what has a cell or is free behind the relabelling was free, or a cell, ahead of it -/
theorem relabel_back {env : Env} : ∀ {names : List (Str × NameKind)} {x : Str},
    ((names.map fun (n, k) => if (k == NameKind.free && env.scope.kind == .function && env.kindOf n == some .cell) then (n, NameKind.cell) else (n, k)).lookup x = some .cell ∨
    (names.map fun (n, k) => if (k == NameKind.free && env.scope.kind == .function && env.kindOf n == some .cell) then (n, NameKind.cell) else (n, k)).lookup x = some .free) → (x, NameKind.free) ∈ names ∨ (x, NameKind.cell) ∈ names
  | [], _, h => by simp at h
  | (n, k) :: r, x, h => by
    by_cases hx : x = n
    · subst hx
      have h : List.lookup x ((if (k == NameKind.free && env.scope.kind == .function && env.kindOf x == some .cell) = true then (x, NameKind.cell) else (x, k)) :: _) = some .cell ∨ List.lookup x ((if (k == NameKind.free && env.scope.kind == .function && env.kindOf x == some .cell) = true then (x, NameKind.cell) else (x, k)) :: _) = some .free := h
      split at h
      · rename_i hc
        rw [Bool.and_eq_true, Bool.and_eq_true] at hc
        have : k = .free := by simpa using hc.1.1
        subst this
        exact .inl List.mem_cons_self
      · simp only [List.lookup_cons, beq_self_eq_true] at h
        rcases h with h | h
        · cases h; exact .inr List.mem_cons_self
        · cases h; exact .inl List.mem_cons_self
    · have hb : (x == n) = false := beq_eq_false_iff_ne.mpr hx
      have h : List.lookup x ((if (k == NameKind.free && env.scope.kind == .function && env.kindOf n == some .cell) = true then (n, NameKind.cell) else (n, k)) :: _) = some .cell ∨ List.lookup x ((if (k == NameKind.free && env.scope.kind == .function && env.kindOf n == some .cell) = true then (n, NameKind.cell) else (n, k)) :: _) = some .free := h
      have h' := h
      split at h'
      all_goals
        simp only [List.lookup_cons, hb] at h'
        exact (relabel_back h').imp (List.mem_cons_of_mem _) (List.mem_cons_of_mem _)

theorem ne_lt {a b : Addr} {n : Nat} (h : a < n) (h2 : n ≤ b) : a ≠ b := Nat.ne_of_lt (Nat.lt_of_lt_of_le h h2)

/-! ### the block's context -/
def Cx.block (X : Cx) (pins : List (Addr × Obj)) (s : Shared) (H : Hp) (Nc : List Str) (scope : Scope) (cl : List (Str × Addr)) (C : Addr) (fp : List Addr) : Cx where
  prog := X.prog
  w := X.w
  K := X.K
  mg := X.mg
  base := X.base
  A := X.A
  N := Nc
  s₀ := s
  H₀ := H
  env := compEnvC scope cl C X.env
  outer := X.stack
  stack := X.stack
  ex := fp
  fn := fun _ => false
  calm := X.calm
  pn := X.pn ++ pins
  xe := fun _ _ => False

/-- what the block's scope must be: tn the names that its target stores, cn the names that it draws, which stand in the def's slots cap -/
structure CpScope (X : Cx) (scope : Scope) (tn cn : List Str) (cap : List Nat) : Prop where
  kind : scope.kind = .function
  nocell : ∀ y ∈ scope.names, y.2 ≠ .cell
  names : ∀ y ∈ scope.names, y.2 = .local → scope.names.lookup y.1 = some .local
  free : ∀ y ∈ scope.names, y.2 = .free → X.env.kindOf y.1 = some .cell ∨ X.env.kindOf y.1 = some .free
  drawn : ∀ x ∈ cn, scope.names.lookup x = some .free
  caps : cap.map (fun i => X.N[i]?) = cn.map some

/-- the block's slots at its start -/
def capSt (k : Nat) (cap : List Nat) (σ : St) : St := List.replicate k none ++ cap.map fun i => (σ[i]?).join

theorem HOk.track {P : Program} {w : World} {H : Hp} {h : Heap} {a : Addr} {o : HO} (x : HOk P w H h) (hn : H a = none) (new : ObjOk P w (upd H a o) h a o) : HOk P w (upd H a o) h := fun b u e => by
  by_cases hb : b = a
  · subst hb; rw [upd_same] at e; cases e; exact new
  · rw [upd_ne hb] at e
    refine (x b u e).stay (fun _ _ _ q => q) (fun c q => ?_) fun c xs q => ?_
    · rw [upd_ne (ne_of_none q hn)]; exact q
    · rw [upd_ne (ne_of_none q hn)]; exact q

section
variable {X : Cx} {pins : List (Addr × Obj)} {σ : St} {H : Hp} {s : Shared}
theorem Inv.pinlt (I : Inv X pins σ H s) {p : Addr × Obj} (hp : p ∈ X.pn ++ pins) : p.1 < s.heap.objs.size := Heap.lt_size (I.pin p hp).1
theorem Inv.stkne (I : Inv X pins σ H s) {b : Addr} (h1 : b ≠ X.env.locals) (h2 : b ∉ X.fs) : b ∉ frs X.stack := fun z => (List.mem_cons.mp (I.stkSub b z)).elim h1 h2
theorem Inv.stklt (I : Inv X pins σ H s) {b : Addr} (h : b ∈ frs X.stack) : b < s.heap.objs.size := by
  obtain ⟨_, o, ho, _⟩ := I.stack.mem h
  exact Heap.lt_size ho

/-- the block begins -/
theorem Inv.block {scope : Scope} {tn cn : List Str} {cap : List Nat} {cl : List (Str × Addr)} {C : Addr} {fp : List Addr} {pins' : List (Addr × Obj)} {s1 : Shared} (I : Inv X pins σ H s) (S : CpScope X scope tn cn cap)
    (hcl : ∀ x c, cl.lookup x = some c → X.env.cells.lookup x = some c) (hcl2 : ∀ x ∈ scope.names, x.2 = .free → (cl.lookup x.1).isSome = true)
    (hf : ∀ b ∈ fp, FpOk X pins H b) (hfl : ∀ b ∈ fp, b < s.heap.objs.size) (hC : s.heap.objs.size ≤ C) (k : ∀ b o, s.heap.get? b = some o → s1.heap.get? b = some o)
    (hos : s1.os = s.os) (hg : s1.gens = s.gens) (hns : ∃ m, s1.heap.Ns C m)
    (hp : ∀ p ∈ pins', s1.heap.get? p.1 = some p.2 ∧ H p.1 = none ∧ p.1 ≠ C ∧ p.1 ∉ frs X.stack ∧ ∀ v, p.2.data ≠ .cell v) :
    Inv (X.block pins s H (tn ++ cn) scope cl C fp) pins' (capSt tn.length cap σ) H s1 := by
  have ok : (X.block pins s H (tn ++ cn) scope cl C fp).Ok := by
    refine ⟨I.ok.mod, S.kind, I.ok.glob, I.ok.blt, hC, fun x y c h1 h2 => I.ok.inj x y c (hcl x c h1) (hcl y c h2), fun x hx => ?_, fun x c z _ => (by cases z), I.ok.hd, I.ok.frames, .inl rfl, fun b hb => ⟨?_, fun x c e => (hf b hb).2.2.2.2.1 x c (hcl x c e)⟩, I.bs, Nat.le_trans I.ok.bsz I.sz, fun b o e hb => ?_, fun b hb => I.stkne (hf b hb).2.1 (hf b hb).2.2.1, I.stack, I.stkFree⟩
    · rcases relabel_back (env := X.env) hx with z | z
      · exact Option.isSome_iff_exists.mp (hcl2 _ z rfl)
      · exact absurd rfl (S.nocell _ z)
    · exact Nat.ne_of_lt (Nat.lt_of_lt_of_le (hfl b hb) hC)
    · rcases (hf b hb).2.2.2.1 with z | z
      · exact I.ok.noex b o e z
      · have h1 : b < X.base.objs.size := Heap.lt_size e
        exact absurd (Nat.lt_of_lt_of_le h1 (Nat.le_trans I.ok.bsz z)) (Nat.lt_irrefl _)
  refine ⟨ok, hos, by rw [hg]; exact I.bare, Un.kept k, ?_, fun x c e => ?_, I.hok.fresh hC, fun x c e => I.freeC x c (hcl x c e), fun p hp' => ?_, I.hok.kept k, ?_⟩
  · obtain ⟨m, hm⟩ := hns
    refine ⟨m, hm, fun i x v h1 h2 h3 => ?_⟩
    have hi : tn.length ≤ i := by
      rcases Nat.lt_or_ge i tn.length with z | z
      · unfold capSt at h2
        rw [List.getElem?_append_left (by simpa using z), List.getElem?_replicate] at h2
        split at h2 <;> cases h2
      · exact z
    unfold capSt at h2
    rw [List.getElem?_append_right (by simpa using hi), List.length_replicate, List.getElem?_map] at h2
    have h1' : cn[i - tn.length]? = some x := by
      have : (tn ++ cn)[i]? = some x := h1
      rwa [List.getElem?_append_right hi] at this
    cases hq : cap[i - tn.length]? with
    | none => rw [hq] at h2; cases h2
    | some j =>
      rw [hq] at h2
      have hj : X.N[j]? = some x := by
        have := congrArg (fun l => l[i - tn.length]?) S.caps
        simp only [List.getElem?_map, hq, h1', Option.map_some] at this
        exact Option.some.inj this
      have hv : σ[j]? = some (some v) := by
        cases hs : σ[j]? with
        | none => simp [hs] at h2
        | some y => simp only [Option.map_some, hs, Option.join_some] at h2; cases h2; rfl
      have hxf : (x, NameKind.free) ∈ scope.names := PySem.mem_of_lookup (S.drawn x (List.mem_of_getElem? h1'))
      have hk := S.free _ hxf rfl
      obtain ⟨m0, _, hl0⟩ := I.loc
      obtain ⟨u, r, q⟩ := hl0 j x v hj hv (hk.elim (fun z => .inr (.inl z)) fun z => .inr (.inr z))
      refine ⟨u, r, .inr ⟨relabel_free (S.drawn x (List.mem_of_getElem? h1')), ?_⟩⟩
      rcases q with ⟨kl, _⟩ | ⟨_, c, hc, z⟩
      · have kl' : X.env.kindOf x = some .local := kl
        rcases hk with hk | hk <;> (rw [kl'] at hk; cases hk)
      · obtain ⟨c', hc'⟩ := Option.isSome_iff_exists.mp (hcl2 _ hxf rfl)
        have := hcl _ _ hc'
        rw [hc] at this
        cases this
        exact ⟨c, hc', z.keeps k⟩
  · obtain ⟨v, z⟩ := I.cell x c (hcl x c e)
    exact ⟨v, z.keeps k⟩
  · rcases List.mem_append.mp hp' with z | z
    · obtain ⟨e, n, ne, nf, d⟩ := I.pin p z
      exact ⟨k _ _ e, n, Nat.ne_of_lt (Nat.lt_of_lt_of_le (Heap.lt_size e) hC), I.stkne ne nf, d⟩
    · exact hp p z
  · unfold capSt
    show _ = (tn ++ cn).length
    have := congrArg List.length S.caps
    simp only [List.length_map] at this
    simp [this]
end

/-! ### the block's turns -/
def tTrue : TT := fun _ H Q => Q true H
/-- the tests behind a clause -/
def PTs (X : Cx) (ifs : List Expr) (t : TT) : Prop :=
  ∀ (pins : List (Addr × Obj)) (s : Shared) (σ : St) (H : Hp) (Q : Bool → Hp → Prop), Inv X pins σ H s → t σ H Q →
    wpAny (model X.prog X.w) X.A (forIn ifs true fun c r => if r = true then do let ok ← isTrue c X.env (eval c X.env); pure (ForInStep.yield ok) else pure (ForInStep.yield r)) (TP X pins σ Q) X.xe s
theorem pts_nil {X : Cx} : PTs X [] tTrue := fun pins s σ H Q I h => wpAny_tests_nil ⟨H, I, h⟩
theorem pts_one {X : Cx} {c : Expr} {t : TT} (h : PT X c t) : PTs X [c] t := fun pins s σ H Q I q => wpAny_tests_one (h pins s σ H Q I q)

theorem comp_loop {prog : Program} {w : World} {A : Around} {R : Result → Shared → Prop} {s : Shared} {elt target iter : Expr} {ifs : List Expr} {scope : Scope} {pos : Pos} {it acc : Value} {env : Env} (Jn : Nat → Shared → Prop)
    (turn : ∀ n s, Jn n s → wpAny (model prog w) A (pyNext it) (fun r s₁ => match r with
      | none => R (.ok .next) s₁
      | some v => wpAny (model prog w) A (letOwnedTupleGo target it v) (fun _ s₂ => wpAny (model prog w) A (assign target env v) (fun _ s₃ =>
          wpAny (model prog w) A (forIn ifs true fun c r => if r = true then do let ok ← isTrue c env (eval c env); pure (ForInStep.yield ok) else pure (ForInStep.yield r)) (fun ok s₄ =>
            if ok = true then wpAny (model prog w) A (eval elt env) (fun x s₅ =>
              wpAny (model prog w) A (call (.builtin "list.append") [acc, x]) (fun _ s₆ => ∃ m, m < n ∧ Jn m s₆) (fun _ _ => False) s₅) (fun _ _ => False) s₄
            else ∃ m, m < n ∧ Jn m s₄) (fun _ _ => False) s₃) (fun _ _ => False) s₂) (fun _ _ => False) s₁) (fun _ _ => False) s)
    (n : Nat) (h : Jn n s) : codeAny (model prog w) A (.compLoop (.ListComp elt [⟨target, iter, ifs, 0⟩] scope pos) 0 it acc env) R s := by
  refine codeAny_loop rfl Jn (fun n' s' hJ => ?_) n h
  show wpAny _ A ((compTurn (.ListComp elt [⟨target, iter, ifs, 0⟩] scope pos) 0 it acc env).onRaise (fun x' => do noteFrame x' env; theTreesLotGoes x')) _ _ s'
  refine wpAny_noted (wpAny_noRaise ?_)
  rw [compTurn_list]
  refine wpAny_bind (wpAny_standAt (wpAny_bind (thn (turn n' s' hJ) fun r s₁ h₁ => ?_)))
  cases r with
  | none => exact wpAny_pure h₁
  | some v =>
    refine wpAny_bind (thn h₁ fun _ s₂ h₂ => ?_)
    refine wpAny_bind (thn h₂ fun _ s₃ h₃ => wpAny_bind (thn h₃ fun ok s₄ h₄ => ?_))
    cases ok with
    | false => exact wpAny_pure ⟨rfl, h₄⟩
    | true => exact wpAny_bind (wpAny_bind (thn h₄ fun x' s₅ h₅ => wpAny_bind (thn h₅ fun _ s₆ h₆ => wpAny_pure (wpAny_pure ⟨rfl, h₆⟩))))

/-- the reading of a comprehension: W by the turn, a measure, the block's slots, what has been gathered, the heap -/
def tComp (wi : TI) (g : TG) (tt : TT) (te : TE) (k : Nat) (cap : List Nat) : TE := fun σ H Q => wi σ H fun J H1 =>
  ∃ W : Nat → Nat → St → List V → Hp → Prop, (∃ m, W 0 m (capSt k cap σ) [] H1) ∧ ∀ i m σ' ys H, W i m σ' ys H →
    (J.stop i H ∧ ∀ p, H p = none → Q (.ref p) (upd H p (.lst ys))) ∨
    (J.go i H ∧ ys.length < sizeLine ∧ ∀ x H', J.yld i H x H' → g x σ' H' fun σ2 H2 => tt σ2 H2 fun b H3 =>
      if b = true then ∃ N : VK, (∀ y H4, N y H4 → ∃ m', m' < m ∧ W (i + 1) m' σ2 (ys ++ [y]) H4) ∧ te σ2 H3 N else ∃ m', m' < m ∧ W (i + 1) m' σ2 ys H3)

/-- what stands behind the block -/
structure CompDone (X : Cx) (fp : List Addr) (H : Hp) (s : Shared) (Q : VK) (acc : Value) (C : Addr) (r : Result) (s' : Shared) : Prop where
  ok : r = .ok .next
  ex : ∃ (D : Addr) (ys : List V) (its : List Value) (n : Nat) (H' : Hp), acc = .ref D ∧ Vals ys its ∧ ys.length ≤ sizeLine ∧ s'.heap.get? D = some { cls := .type "list", data := .seq its.toArray n } ∧ s.heap.objs.size ≤ D ∧ D ≠ C ∧ H' D = none ∧ H' C = none ∧
    (∃ m, s'.heap.Ns C m) ∧ Un (frs X.stack) fp H H' s.heap s'.heap ∧ HOk X.prog X.w H' s'.heap ∧ ∀ p, H' p = none → Q (.ref p) (upd H' p (.lst ys))
  ge : s.heap.objs.size ≤ C
  os : s'.os = s.os
  bare : AllBare s'.gens

section
variable {X : Cx} {pins : List (Addr × Obj)} {σ : St} {H : Hp} {s : Shared}
theorem comp_run {tg iter elt : Expr} {ifs : List Expr} {scope : Scope} {pos : Pos} {g : TG} {tt : TT} {te : TE} {tn cn : List Str} {cap : List Nat} {cl : List (Str × Addr)} {it : Addr} {fp : List Addr} {tn' : Nat → Heap → Prop} {J : It} {Q : VK} {E : Value → Shared → Prop}
    (I : Inv X pins σ H s) (S : CpScope X scope tn cn cap) (hc : X.calm = true)
    (hcl : ∀ x c, cl.lookup x = some c → X.env.cells.lookup x = some c) (hcl2 : ∀ x ∈ scope.names, x.2 = .free → (cl.lookup x.1).isSome = true)
    (T : Turn X.prog X.w X.K tg J fp it tn') (st : tn' 0 s.heap) (hf : ∀ b ∈ fp, FpOk X pins H b)
    (hg : ∀ C, PG (X.block pins s H (tn ++ cn) scope cl C fp) tg g) (ht : ∀ C, PTs (X.block pins s H (tn ++ cn) scope cl C fp) ifs tt) (he : ∀ C, PE (X.block pins s H (tn ++ cn) scope cl C fp) elt te)
    (W : Nat → Nat → St → List V → Hp → Prop) {m0 : Nat} (w0 : W 0 m0 (capSt tn.length cap σ) [] H)
    (step : ∀ i m σ' ys H, W i m σ' ys H →
      (J.stop i H ∧ ∀ p, H p = none → Q (.ref p) (upd H p (.lst ys))) ∨
      (J.go i H ∧ ys.length < sizeLine ∧ ∀ x H', J.yld i H x H' → g x σ' H' fun σ2 H2 => tt σ2 H2 fun b H3 =>
        if b = true then ∃ N : VK, (∀ y H4, N y H4 → ∃ m', m' < m ∧ W (i + 1) m' σ2 (ys ++ [y]) H4) ∧ te σ2 H3 N else ∃ m', m' < m ∧ W (i + 1) m' σ2 ys H3)) :
    wpAny (model X.prog X.w) X.A (newList []) (fun acc s₃ => wpAny (model X.prog X.w) X.A (newFunctionEnv scope X.env.globals cl [] X.env.qual none .none (some X.env)) (fun cenv s₄ =>
      codeAny (model X.prog X.w) X.A (.compStart (.ListComp elt [⟨tg, iter, ifs, 0⟩] scope pos) 0 (.ref it) acc { cenv with scope := relabel scope X.env }) (CompDone X fp H s Q acc cenv.locals) s₄) E s₃) E s := by
  refine wpAny_newObj_type (wpAny_newFunctionEnv S.nocell (by intro y hy; simp at hy) (fun h₁ hns₁ hsb₁ => ?_) S.kind)
  dsimp only at hns₁ hsb₁ ⊢
  generalize hH2 : s.heap.push { cls := .type "list", dict := none, data := .seq ([] : List Value).toArray } = H2 at hns₁ hsb₁ ⊢
  have hCs : H2.objs.size = s.heap.objs.size + 1 := by rw [← hH2, Heap.size_push]
  generalize hCe : H2.objs.size = C at hns₁ hsb₁ ⊢
  have hC : C = s.heap.objs.size + 1 := hCe.symm.trans hCs
  generalize hD : s.heap.objs.size = D at *
  have hDC : D ≠ C := by rw [hC]; exact Nat.ne_of_lt (Nat.lt_succ_self _)
  have old : ∀ b o, s.heap.get? b = some o → h₁.get? b = some o := fun b o e => by
    have hb : b < D := by rw [← hD]; exact Heap.lt_size e
    have hbC : b ≠ C := ne_lt hb (by rw [hC]; exact Nat.le_succ _)
    exact hsb₁.extBut b o hbC (Heap.get?_push_of_some _ (hH2 ▸ Heap.get?_push_of_some _ e))
  have hDo : h₁.get? D = some { cls := .type "list", data := .seq ([] : List Value).toArray } := by
    refine hsb₁.extBut _ _ hDC (Heap.get?_push_of_some _ ?_)
    rw [← hH2, ← hD]
    exact Heap.get?_push_size _ rfl
  have hfl : ∀ b ∈ fp, b < s.heap.objs.size := fun b hb => by
    obtain ⟨o, e, _⟩ := T.obj 0 _ st b hb
    exact Heap.lt_size e
  have hDn : H D = none := by rw [← hD]; exact I.hok.fresh (Nat.le_refl _)
  have hDs : D ∉ frs X.stack := fun z => ne_lt (I.stklt z) (Nat.le_of_eq hD) rfl
  have I0 : Inv (X.block pins s H (tn ++ cn) scope cl C fp) [(D, { cls := .type "list", data := .seq ([] : List Value).toArray 0 })] (capSt tn.length cap σ) H { s with heap := h₁, toks := s.toks + ([] : List (Str × Value)).length } :=
    I.block S hcl hcl2 hf hfl (by omega) old rfl rfl ⟨_, hns₁⟩ fun p hp => by
      rw [List.mem_singleton] at hp
      subst hp
      exact ⟨hDo, hDn, hDC, hDs, fun v z => nomatch z⟩
  have fpok : ∀ {H' : Hp} {o : Obj}, (∀ b ∈ fp, H' b = none) → ∀ b ∈ fp, FpOk (X.block pins s H (tn ++ cn) scope cl C fp) [(D, o)] H' b := fun {H' o} hn b hb => by
    obtain ⟨_, f1, f2, f3, f4, f5⟩ := hf b hb
    have hbl := hfl b hb
    refine ⟨hn b hb, ?_, I.stkne f1 f2, .inl hb, fun x c e => f4 x c (hcl x c e), fun p hp => ?_⟩
    · exact ne_lt hbl (by rw [hD, hC]; exact Nat.le_succ _)
    · rcases List.mem_append.mp hp with z | z
      · exact f5 p z
      · rw [List.mem_singleton] at z; subst z; exact Ne.symm (ne_lt hbl (Nat.le_of_eq hD))
  have st1 : tn' 0 h₁ := T.keep _ _ _ st fun b _ o e => old b o e
  have loop : ∀ s₃ : Shared, s₃ = { s with heap := h₁, toks := s.toks + ([] : List (Str × Value)).length } →
      codeAny (model X.prog X.w) X.A (.compLoop (.ListComp elt [⟨tg, iter, ifs, 0⟩] scope pos) 0 (.ref it) (.ref D) (compEnvC scope cl C X.env)) (CompDone X fp H s Q (.ref D) C) s₃ := by
    rintro s₃ rfl
    refine comp_loop (fun n s' => ∃ i σ' ys its nn H', Inv (X.block pins s H (tn ++ cn) scope cl C fp) [(D, { cls := .type "list", data := .seq (its : List Value).toArray nn })] σ' H' s' ∧ tn' i s'.heap ∧ (∀ b ∈ fp, H' b = none) ∧ Vals ys its ∧ ys.length ≤ sizeLine ∧ W i n σ' ys H') ?_ m0
      ⟨0, _, [], [], 0, H, I0, st1, fun b hb => (hf b hb).1, .nil, Nat.zero_le _, w0⟩
    rintro n s4 ⟨i, σ4, ys, its, nn, H4, I4, st4, fr4, r4, l4, w4⟩
    rcases step i n σ4 ys H4 w4 with ⟨stop, qn⟩ | ⟨go, hlt, next⟩
    · refine thn (T.done (X.block pins s H (tn ++ cn) scope cl C fp) rfl rfl rfl hc i _ s4 σ4 H4 _ I4 (fpok fr4) st4 stop) fun r s5 ⟨hr, I5⟩ => ?_
      subst hr
      have hp := I5.pin (D, _) (List.mem_append_right _ List.mem_cons_self)
      obtain ⟨m5, hm5, _⟩ := I5.loc
      exact ⟨rfl, ⟨D, ys, its, nn, H4, rfl, r4, l4, hp.1, by omega, hDC, hp.2.1, I5.free, ⟨m5, hm5⟩, I5.base, I5.hok, qn⟩, by omega, I5.os, I5.bare⟩
    · refine thn (T.item (X.block pins s H (tn ++ cn) scope cl C fp) rfl rfl rfl hc i _ s4 σ4 H4 _ I4 (fpok fr4) st4 go) fun r s5 ⟨u, hr, h5⟩ => ?_
      subst hr
      refine thn h5 fun _ s6 ⟨x, H6, I6, r6, y6, st6, fr6⟩ => ?_
      have I6' := I6.pinned (fpok fr6) (T.obj _ _ st6)
      refine thn (hg C _ s6 σ4 H6 x u _ I6' r6 (next x H6 y6)) fun _ s7 ⟨σ7, H7, I7, q7⟩ => ?_
      refine thn (ht C _ s7 σ7 H7 _ I7 q7) fun ok s8 ⟨H8, I8, q8⟩ => ?_
      have keepst : ∀ {σ9 : St} {H9 : Hp} {s9 : Shared}, Inv (X.block pins s H (tn ++ cn) scope cl C fp) ([(D, { cls := .type "list", data := .seq its.toArray nn })] ++ pinsAt fp s6.heap) σ9 H9 s9 → (∀ b ∈ fp, ∀ o, s6.heap.get? b = some o → s9.heap.get? b = some o) ∧ ∀ b ∈ fp, H9 b = none := fun {σ9 H9 s9} I9 => by
        refine ⟨fun b hb o e => (I9.pin (b, o) (List.mem_append_right _ (List.mem_append_right _ (mem_pinsAt hb e)))).1, fun b hb => ?_⟩
        obtain ⟨o, e, _⟩ := T.obj _ _ st6 b hb
        exact (I9.pin (b, o) (List.mem_append_right _ (List.mem_append_right _ (mem_pinsAt hb e)))).2.1
      cases ok with
      | false =>
        obtain ⟨m', hm', w'⟩ := q8
        obtain ⟨k1, k2⟩ := keepst I8
        exact ⟨m', hm', i + 1, σ7, ys, its, nn, H8, I8.unpinned, T.keep _ _ _ st6 k1, k2, r4, l4, w'⟩
      | true =>
        obtain ⟨Nw, hN, q8⟩ := q8
        refine thn (he C _ s8 σ7 H8 Nw I8 q8) fun v s9 ⟨y, H9, I9, r9, n9⟩ => ?_
        obtain ⟨m', hm', w'⟩ := hN y H9 n9
        obtain ⟨k1, k2⟩ := keepst I9
        have hp := I9.pin (D, _) (List.mem_append_right _ (List.mem_append_left _ List.mem_cons_self))
        have e := hp.1
        have hlen := r4.length
        refine call_meets F.slot_list_append ⟨_, e, rfl⟩ F.entry_list_append (F.args_list_append_2 _ _) (PySem.list_append D its.toArray nn v (by rw [List.size_toArray]; omega)) ⟨e, ?_⟩
        have q := PySem.IsL.update e (fun xs => xs.push v)
        have Ia : Inv (X.block pins s H (tn ++ cn) scope cl C fp) [] σ7 H9 s9 := I9.pins_of fun p hp => nomatch hp
        have Ib := Ia.turned (h' := s9.heap.update D (Obj.mapSeq (·.push v))) (t' := s9.toks) (it := D) (fun b o hb eb => (Heap.get?_update_other _ _ (Ne.symm hb)).trans eb) hp.2.1 hDC (.inr (by show s.heap.objs.size ≤ D; omega))
          (fun x c ec z => by
            obtain ⟨vv, zc⟩ := I.cell x c (hcl x c ec)
            exact ne_lt zc.lt (Nat.le_of_eq hD) z)
          (fun p hp' => by
            rw [List.append_nil] at hp'
            exact ne_lt (I.pinlt hp') (Nat.le_of_eq hD))
        have q' : (s9.heap.update D (Obj.mapSeq (·.push v))).get? D = some { cls := .type "list", data := .seq (its ++ [v]).toArray (nn + 1) } := by
          rw [if_neg (by simp)] at q
          rw [← List.push_toArray]
          exact q
        refine ⟨m', hm', i + 1, σ7, ys ++ [y], its ++ [v], nn + 1, H9, Ib.pins_of (fun p hp' => ?_), T.keep _ _ _ st6 fun b hb o eb => ?_, k2, r4.append (.cons r9 .nil), ?_, w'⟩
        · rw [List.mem_singleton] at hp'
          subst hp'
          exact ⟨q', hp.2.1, hDC, hDs, fun v' z => nomatch z⟩
        · have hbl := hfl b hb
          exact (Heap.get?_update_other _ _ (Ne.symm (ne_lt hbl (Nat.le_of_eq hD)))).trans (k1 b hb o eb)
        · rw [List.length_append, List.length_singleton]
          omega
  exact codeAny_compStart_list (loop _ rfl) (T.self _ 0 _ _ _ st1 (loop _ rfl))

/-- behind the block the def's own state -/
theorem CompDone.inv {Q : VK} {acc : Value} {C : Addr} {r : Result} {s' : Shared} {fp : List Addr} (I : Inv X pins σ H s) (hf : ∀ b ∈ fp, FpOk X pins H b) (h : CompDone X fp H s Q acc C r s') :
    ∃ D H', acc = .ref D ∧ Inv X pins σ H' s' ∧ Q (.ref D) H' ∧ H' C = none ∧ ∃ m, s'.heap.Ns C m := by
  obtain ⟨_, ⟨D, ys, its, n, H', rfl, r4, l4, e, hD, hDC, hDn, hCn, hm, u, ok, q⟩, hC, os, bare⟩ := h
  have lt : ∀ b o, s.heap.get? b = some o → b ≠ D := fun b o eb => ne_lt (Heap.lt_size eb) hD
  have ltH : ∀ b o, H b = some o → b ≠ D := fun b o eb => ne_lt (I.hok.lt eb) hD
  refine ⟨D, upd H' D (.lst ys), rfl, I.call' (ch := fp) os ⟨u.keep, u.slot, fun b o eb n' hx => ?_, u.there, fun b xs eb => ?_, fun b o x eb => ?_, fun b ps eb => ?_⟩ (ok.track hDn ⟨l4, its, n, r4, e⟩) bare (fun b hb => ?_), q D hDn, ?_, hm⟩
  · rw [upd_ne (lt b o eb)]; exact u.free b o eb n' hx
  · rw [upd_ne (ltH b _ eb)]; exact u.tups b xs eb
  · rw [upd_ne (ltH b _ eb)]; exact u.frzs b o x eb
  · rw [upd_ne (ltH b _ eb)]; exact u.tbls b ps eb
  · obtain ⟨_, f1, f2, f3, f4, f5⟩ := hf b hb
    exact ⟨f3, f1, f4, f5⟩
  · rw [upd_ne (Ne.symm hDC)]; exact hCn
/-- the block's namespace is let go -/
theorem Inv.letgo {C : Addr} {h' : Heap} {s1 : Shared} {σ1 : St} {H1 : Hp} (I : Inv X pins σ H s) (hC : s.heap.objs.size ≤ C) (I1 : Inv X pins σ1 H1 s1) (hn : H1 C = none) (hs : Heap.SameBut C s1.heap h') : Inv X pins σ1 H1 { s1 with heap := h' } := by
  refine I1.turned (t' := s1.toks) (it := C) (fun b o hb e => (hs.2 b hb).trans e) hn (fun z => ?_) (.inr ?_) (fun x c e z => ?_) fun p hp z => ?_
  · exact ne_lt I.lt hC z.symm
  · exact Nat.le_trans I.sz hC
  · obtain ⟨v, zc⟩ := I.cell x c e
    exact ne_lt zc.lt hC z
  · exact ne_lt (I.pinlt hp) hC z

variable {tg iter elt : Expr} {ifs : List Expr} {scope : Scope} {pos : Pos} {wi : TI} {g : TG} {tt : TT} {te : TE} {tn cn : List Str} {cap : List Nat}
/-- [elt for target in iter if ..] -/
theorem pe_comp (S : CpScope X scope tn cn cap) (hc : X.calm = true) (hi : PI X tg iter wi)
    (hg : ∀ pins s H cl C fp, PG (X.block pins s H (tn ++ cn) scope cl C fp) tg g) (ht : ∀ pins s H cl C fp, PTs (X.block pins s H (tn ++ cn) scope cl C fp) ifs tt) (he : ∀ pins s H cl C fp, PE (X.block pins s H (tn ++ cn) scope cl C fp) elt te)
    (hs : ∀ x, foldedSetIterable iter X.env x = pure x := by intro _; rfl) : PE X (.ListComp elt [⟨tg, iter, ifs, 0⟩] scope pos) (tComp wi g tt te tn.length cap) := by
  intro pins s σ H Q I h
  obtain ⟨cl, ecl, hcl, hcl2⟩ := closure_get (env := X.env) (scope := scope) fun x hx hxf => I.ok.has x.1 (S.free x hx hxf)
  rw [eval_ListComp]
  refine wpAny_comprehension_free (use := none) rfl hs ecl S.kind S.names (thn (hi pins s σ H _ I h) fun v s1 h1 => thn h1 fun itv s2 h2 => ?_)
  obtain ⟨it, fp, tn', J, H2, e, I2, T, st2, f2, W, ⟨m0, w0⟩, turn⟩ := h2
  subst e
  refine thn (comp_run I2 S hc hcl hcl2 T st2 f2 (fun C => hg _ _ _ _ C _) (fun C => ht _ _ _ _ C _) (fun C => he _ _ _ _ C _) W w0 turn) fun acc s3 h3 => thn h3 fun cenv s4 h4 => codeAny_mono h4 fun r s5 h5 => ?_
  have hr := h5.ok
  subst hr
  obtain ⟨D, H', rfl, I5, q5, hCn, m, hm⟩ := h5.inv I2 f2
  exact ⟨m, hm, fun h' hs' => ⟨.ref D, H', I2.letgo h5.ge I5 hCn hs', rfl, q5⟩⟩
end
end L2

set_option linter.all false
set_option maxHeartbeats 4000000
/-! Exceptions over the hand layer: raise of an own class, an exception that leaves a def, try with except. -/
namespace L2
open PySem PySem.Spec PyProof.Rows

theorem ObjOk.there {P : Program} {w : World} {H : Hp} {h : Heap} {a : Addr} {o : HO} (x : ObjOk P w H h a o) : ∃ ob, h.get? a = some ob := by
  cases o with
  | lst xs => obtain ⟨_, _, _, _, e⟩ := x; exact ⟨_, e⟩
  | tup xs => obtain ⟨_, _, _, ob, e, _⟩ := x; exact ⟨_, e⟩
  | dK kvs => obtain ⟨_, _, _, _, ob, _, _, e, _⟩ := x; exact ⟨_, e⟩
  | dT kvs => obtain ⟨_, _, _, _, ob, _, _, e, _⟩ := x; exact ⟨_, e⟩
  | set S n => obtain ⟨ob, _, _, _, e, _⟩ := x; exact ⟨_, e⟩
  | ins C dx fs => obtain ⟨_, _, _, e, _⟩ := x; exact ⟨_, e⟩
  | own y => exact x
  | xd fs => obtain ⟨_, ⟨ob, _, _, e, _⟩, _⟩ := x; exact ⟨_, e⟩
  | rng lo hi => obtain ⟨_, _, _, e⟩ := x; exact ⟨_, e⟩
  | frz ob u => obtain ⟨e, _⟩ := x; exact ⟨_, e⟩
  | tbl ps => exact ⟨_, show h.get? a = some _ from x⟩
  | met f y => exact ⟨_, show h.get? a = some _ from x⟩
  | ext φ => exact x.2.1
theorem HOk.nh {P : Program} {w : World} {H : Hp} {h : Heap} {a : Addr} (x : HOk P w H h) (e : h.get? a = none) : H a = none := by
  cases q : H a with
  | none => rfl
  | some o =>
    obtain ⟨ob, e'⟩ := (x a o q).there
    rw [e] at e'; cases e'

section
variable {X : Cx} {pins : List (Addr × Obj)} {σ : St} {H H' : Hp} {s : Shared} {h' : Heap}
/-- the step, where the records at ch are told apart by not being there at the entry -/
theorem Inv.stepN {g' : Array GenState} {t' : Nat} {d' : Drawn} {ch : List Addr} (I : Inv X pins σ H s)
    (hch : ∀ b ∈ ch, (b ∈ X.ex ∨ X.s₀.heap.get? b = none) ∧ b ≠ X.env.locals ∧ (∀ x c, X.env.cells.lookup x = some c → c ≠ b) ∧ ∀ p ∈ X.pn ++ pins, p.1 ≠ b)
    (keep : ∀ b o, b ≠ X.env.locals → b ∉ X.fs → b ∉ ch → s.heap.get? b = some o → H b = none → h'.get? b = some o)
    (slot : ∀ b o, b ≠ X.env.locals → b ∈ X.fs → b ∉ ch → s.heap.get? b = some o → H b = none → ∃ sl, h'.get? b = some { o with slots := sl }) (free : ∀ b o, b ∉ ch → s.heap.get? b = some o → H b = none → H' b = none)
    (there : ∀ b o, b ∉ ch → s.heap.get? b = some o → ∃ o', h'.get? b = some o')
    (tups : ∀ b xs, H b = some (.tup xs) → H' b = some (.tup xs)) (frzs : ∀ b o u, H b = some (.frz o u) → H' b = some (.frz o u)) (tbls : ∀ b ps, H b = some (.tbl ps) → ∃ more, H' b = some (.tbl (ps ++ more)))
    (ns : ∀ m, s.heap.Ns X.env.locals m → h'.Ns X.env.locals m) (hok : HOk X.prog X.w H' h') (hg : AllBare g') :
    Inv X pins σ H' { s with heap := h', gens := g', drawn := d', toks := t' } := by
  have neL : ∀ b o, X.s₀.heap.get? b = some o → b ≠ X.env.locals := fun b o e => Nat.ne_of_lt (Nat.lt_of_lt_of_le (Heap.lt_size e) I.ok.above)
  have neC : ∀ b o, X.s₀.heap.get? b = some o → b ∉ X.ex → b ∉ ch := fun b o e hx hb => by
    rcases (hch b hb).1 with z | z
    · exact hx z
    · rw [e] at z; cases z
  have cellK : ∀ x c, X.env.cells.lookup x = some c → ∀ v, s.heap.IsCell c v → h'.IsCell c v := fun x c e v ⟨o, ho, hd⟩ => by
    have nch : c ∉ ch := fun z => (hch c z).2.2.1 x c e rfl
    by_cases hc : c ∈ X.fs
    · obtain ⟨sl, q⟩ := slot c o (I.cne x c e) hc nch ho (I.freeC x c e)
      exact ⟨_, q, hd⟩
    · exact ⟨o, keep c o (I.cne x c e) hc nch ho (I.freeC x c e), hd⟩
  refine ⟨I.ok, I.os, hg, ⟨fun b o e n hb hx => ?_, fun b o e n hb hx => ?_, fun b o e n hx => ?_, fun b o e hx => ?_, fun b xs e => tups b xs (I.base.tups b xs e), fun b o xs e => frzs b o xs (I.base.frzs b o xs e), fun b ps e => ?_⟩, ?_, fun x c e => ?_, ?_, fun x c e => ?_, fun p hp => ?_, hok, I.len⟩
  · exact keep b o (neL b o e) hb (neC b o e hx) (I.base.keep b o e n hb hx) (I.base.free b o e n hx)
  · obtain ⟨sl, e1⟩ := I.base.slot b o e n hb hx
    obtain ⟨sl', e2⟩ := slot b _ (neL b o e) hb (neC b o e hx) e1 (I.base.free b o e n hx)
    exact ⟨sl', e2⟩
  · obtain ⟨o', e1⟩ := I.base.there b o e hx
    exact free b o' (neC b o e hx) e1 (I.base.free b o e n hx)
  · obtain ⟨o', e1⟩ := I.base.there b o e hx
    exact there b o' (neC b o e hx) e1
  · obtain ⟨m1, e1⟩ := I.base.tbls b ps e
    obtain ⟨m2, e2⟩ := tbls b _ e1
    exact ⟨m1 ++ m2, by rw [e2, Array.append_assoc]⟩
  · obtain ⟨m, hn, hl⟩ := I.loc
    refine ⟨m, ns m hn, fun i x v e1 e2 e3 => ?_⟩
    obtain ⟨u, r, l⟩ := hl i x v e1 e2 e3
    refine ⟨u, r, ?_⟩
    rcases l with l | ⟨k, c, e, z⟩
    · exact .inl l
    · exact .inr ⟨k, c, e, cellK x c e _ z⟩
  · obtain ⟨v, z⟩ := I.cell x c e
    exact ⟨v, cellK x c e v z⟩
  · obtain ⟨m, ⟨o, _, _, ho, _⟩, _⟩ := I.loc
    exact free _ o (fun z => (hch _ z).2.1 rfl) ho I.free
  · obtain ⟨v, o, ho, hd⟩ := I.cell x c e
    exact free c o (fun z => (hch c z).2.2.1 x c e rfl) ho (I.freeC x c e)
  · obtain ⟨e, n, ne, nf, d⟩ := I.pin p hp
    have nch : p.1 ∉ ch := fun z => (hch p.1 z).2.2.2 p hp rfl
    exact ⟨keep p.1 p.2 ne nf nch e n, free p.1 p.2 nch e n, ne, nf, d⟩
end

/-! ### an exception that flies -/
structure Fly (bad : Addr → Prop) (H : Hp) (h : Heap) (e : Addr) (cls : Value) : Prop where
  nb : ¬ bad e
  free : H e = none
  ex : ∃ (oe : Obj) (vs : Array Value), h.get? e = some oe ∧ oe.cls = cls ∧ oe.dict = none ∧ oe.data = .fields vs ∧ (vs[1]? = some .none ∨
    ∃ (T : Addr) (oT : Obj) (ts : Array Value), vs[1]? = some (.ref T) ∧ ¬ bad T ∧ H T = none ∧ T ≠ e ∧ h.get? T = some oT ∧ oT.data = .fields ts ∧ ts[3]? = some .none)
theorem Fly.mono {bad bad' : Addr → Prop} {H : Hp} {h : Heap} {e : Addr} {cls : Value} (F : Fly bad H h e cls) (k : ∀ a, bad' a → bad a) : Fly bad' H h e cls := by
  obtain ⟨nb, fr, oe, vs, h1, h2, h3, h4, h5⟩ := F
  refine ⟨fun z => nb (k _ z), fr, oe, vs, h1, h2, h3, h4, ?_⟩
  rcases h5 with z | ⟨T, oT, ts, a, b, c⟩
  · exact .inl z
  · exact .inr ⟨T, oT, ts, a, fun z => b (k _ z), c⟩

section
variable {M : Model} {A : Around} {E : Value → Shared → Prop} {s : Shared}
/-- a new entry for the frame of env: what turns is e, the frames' slots, and the entry that is new -/
theorem note_entry {base : Heap} {env : Env} {outer : List Env} {L e : Addr} {oe : Obj} {vs : Array Value} {hd : Value} {nx : Bool} {Q : Unit → Shared → Prop}
    (hfr : A.frames = some (env :: outer)) (hl : s.heap.FunFrames base (env :: outer)) (hf : env.frame = some L) (he : s.heap.get? e = some oe) (hdt : oe.data = .fields vs) (hsz : 1 < vs.size)
    (h : ∀ h' T oT ts, (∀ b o, s.heap.get? b = some o → b ≠ e → b ∉ frs (env :: outer) → h'.get? b = some o) → (∀ b o, s.heap.get? b = some o → b ≠ e → ∃ sl, h'.get? b = some { o with slots := sl }) →
      h'.get? e = some (oe.mapFields (·.setIfInBounds 1 (.ref T))) → s.heap.objs.size ≤ T → h'.get? T = some oT → oT.data = .fields ts → ts[3]? = some (rawInt L) → Q () { s with heap := h' }) :
    wpAny M A (do let a ← frameOf env; let pl ← entryPlaceOf L nx; let b ← EntryCells.newEntry hd a .none (rawInt L) .none pl; setField (.ref e) 1 b) Q E s := by
  have hne : e ∉ (env :: outer).filterMap (·.frame) := fun z => by
    obtain ⟨_, o, ho, hn⟩ := hl.mem z
    rw [he] at ho; cases ho
    exact hn vs hdt
  refine wpAny_bind (wpAny_frameOf_fun hfr hl hf fun h1 hs1 => ?_)
  refine wpAny_bind (wpAny_entryPlaceOf fun pl hpl => ?_)
  unfold EntryCells.newEntry newFields
  refine wpAny_bind (wpAny_newObj_type ?_ (hpl.sizeOk5 _ _ _ _ _))
  have he1 : h1.get? e = some oe := (hs1.2.1 e hne).trans he
  refine wpAny_setField (Heap.get?_push_of_some _ he1) hdt hsz ?_
  have hTe : h1.objs.size ≠ e := Nat.ne_of_gt (Heap.lt_size he1)
  have hd3 := Obj.data_mapFields hdt (·.setIfInBounds 1 (Value.ref h1.objs.size))
  have keep : ∀ b o, b ≠ e → h1.get? b = some o → ((h1.push { cls := .type "traceback", dict := none, data := .fields ([hd, .ref L, .none, rawInt L, .none] ++ (if pl.isEmpty then List.replicate 6 Value.none else pl)).toArray }).update e (Obj.mapFields (·.setIfInBounds 1 (Value.ref h1.objs.size)))).get? b = some o := fun b o hb e1 => by
    rw [Heap.get?_update_other _ _ (Ne.symm hb)]
    exact Heap.get?_push_of_some _ e1
  refine h _ h1.objs.size _ _ (fun b o e1 hb hnf => keep b o hb ((hs1.2.1 b hnf).trans e1)) (fun b o e1 hb => ?_) (Heap.get?_update_self _ (Heap.get?_push_of_some _ he1) (Obj.isFreed_of_fields hd3)) (by rw [hs1.1]; exact Nat.le_refl _)
    ((Heap.get?_update_other _ _ (Ne.symm hTe)).trans (Heap.get?_push_size _ rfl)) rfl ?_
  · obtain ⟨sl, e2⟩ := hs1.2.2 b o e1
    exact ⟨sl, keep b _ hb e2⟩
  · first | (simp; done) | (rcases hpl with rfl | ⟨_, _, _, _, _, _, _, rfl⟩ <;> simp)

/-- what an exception turns when it notes a frame and is let go there -/
structure Noted (fr : List Addr) (bad : Addr → Prop) (H : Hp) (e : Addr) (cls : Value) (h h' : Heap) : Prop where
  ch : ∃ ch : List Addr, (∀ b ∈ ch, ¬ bad b ∧ H b = none ∧ ∃ o vs, h.get? b = some o ∧ o.data = .fields vs) ∧ (∀ b o, h.get? b = some o → b ∉ ch → b ∉ fr → h'.get? b = some o) ∧
    (∀ b o, h.get? b = some o → b ∉ ch → ∃ sl, h'.get? b = some { o with slots := sl })
  fly : Fly bad H h' e cls

theorem fly_note {A2 : Around} {E2 : Value → Shared → Prop} {base : Heap} {env : Env} {outer : List Env} {L e : Addr} {cls : Value} {bad : Addr → Prop} {H : Hp} {Q : Unit → Shared → Prop}
    (hfr : A.frames = some (env :: outer)) (hl : s.heap.FunFrames base (env :: outer)) (hf : env.frame = some L) (F : Fly bad H s.heap e cls) (hb : ∀ a, s.heap.objs.size ≤ a → ¬ bad a) (hH : ∀ a, s.heap.objs.size ≤ a → H a = none)
    (h : ∀ h', Noted (frs (env :: outer)) bad H e cls s.heap h' → Q () { s with heap := h' }) :
    wpAny M A (noteFrame (.ref e) env) (fun _ s2 => wpAny M A2 (setFlight (.ref e) none) Q E2 s2) E s := by
  obtain ⟨nb, fr, oe, vs, he, hcls, hdict, hd, htb⟩ := F
  -- behind the entry: the flight's mark is taken off it
  have rest : ∀ (s1 : Shared) (ch : List Addr) (h' : Heap) (T : Addr) (oT : Obj) (ts : Array Value) (oe1 : Obj), (∀ b o, s.heap.get? b = some o → s1.heap.get? b = some o ∨ b ∈ ch) → s1.heap.objs.size = s.heap.objs.size → e ∈ ch → (∀ b ∈ ch, ¬ bad b ∧ H b = none ∧ ∃ o vs, s.heap.get? b = some o ∧ o.data = .fields vs) →
      oe1.cls = cls → oe1.dict = none → oe1.data = .fields vs → 1 < vs.size →
      (∀ b o, s1.heap.get? b = some o → b ≠ e → b ∉ frs (env :: outer) → h'.get? b = some o) → (∀ b o, s1.heap.get? b = some o → b ≠ e → ∃ sl, h'.get? b = some { o with slots := sl }) →
      h'.get? e = some (oe1.mapFields (·.setIfInBounds 1 (.ref T))) → s1.heap.objs.size ≤ T → h'.get? T = some oT → oT.data = .fields ts → ts[3]? = some (rawInt L) → wpAny M A2 (setFlight (.ref e) none) Q E2 { s with heap := h' } := by
    intro s1 ch h' T oT ts oe1 hk1 hsz hech hch hcls1 hdict1 hd1 hv k1 k2 e1 hT e2 hdT h3
    have hT' : s.heap.objs.size ≤ T := hsz ▸ hT
    have hTe : T ≠ e := Ne.symm (ne_lt (Heap.lt_size he) hT')
    have hde := Obj.data_mapFields hd1 (·.setIfInBounds 1 (Value.ref T))
    unfold setFlight
    refine wpAny_bind (wpAny_field e1 hde (x := .ref T) (by simp [hv]) ?_)
    rw [if_pos (show (Value.ref T != Value.none) = true from by simp)]
    have hs3 : 3 < ts.size := (Array.getElem?_eq_some_iff.mp h3).1
    refine wpAny_setField e2 hdT hs3 (h _ ?_)
    have oth : ∀ b, b ≠ T → (h'.update T (Obj.mapFields (·.setIfInBounds 3 ((none : Option Addr).elim Value.none fun f => rawInt f)))).get? b = h'.get? b := fun b hb' => Heap.get?_update_other _ _ (Ne.symm hb')
    have ltT : ∀ b o, s.heap.get? b = some o → b ≠ T := fun b o eb => ne_lt (Heap.lt_size eb) hT'
    refine ⟨⟨ch, hch, fun b o eb hbc hbf => ?_, fun b o eb hbc => ?_⟩, nb, fr, _, _, (oth e (Ne.symm hTe)).trans e1, (Obj.cls_mapFields _ _).trans hcls1, ?_, hde, .inr ⟨T, _, _, by simp [hv], hb T hT', hH T hT', hTe, Heap.get?_update_self _ e2 (Obj.isFreed_of_fields (Obj.data_mapFields hdT _)), Obj.data_mapFields hdT _, by simp [hs3]⟩⟩
    · rw [oth b (ltT b o eb)]
      rcases hk1 b o eb with z | z
      · exact k1 b o z (fun z' => hbc (z' ▸ hech)) hbf
      · exact absurd z hbc
    · rw [oth b (ltT b o eb)]
      rcases hk1 b o eb with z | z
      · exact k2 b o z (fun z' => hbc (z' ▸ hech))
      · exact absurd z hbc
    · obtain ⟨c1, c2, c3, c4⟩ := oe1
      dsimp only at hd1
      subst hd1
      exact hdict1
  unfold noteFrame
  simp only [hf]
  rcases htb with h1 | ⟨T0, oT0, ts0, h1, nbT, frT, neT, eT, dT, h3⟩
  · have hv : 1 < vs.size := (Array.getElem?_eq_some_iff.mp h1).1
    refine wpAny_bind (wpAny_field he hd h1 ?_)
    rw [if_neg (by decide)]
    refine note_entry hfr hl hf he hd hv fun h' T oT ts k1 k2 e1 hT e2 hdT h3 => ?_
    exact rest s [e] h' T oT ts oe (fun b o eb => .inl eb) rfl (by simp) (fun b hb' => by rw [List.mem_singleton] at hb'; subst hb'; exact ⟨nb, fr, oe, vs, he, hd⟩) hcls hdict hd hv k1 k2 e1 hT e2 hdT h3
  · have hv : 1 < vs.size := (Array.getElem?_eq_some_iff.mp h1).1
    refine wpAny_bind (wpAny_field he hd h1 ?_)
    rw [if_pos (show (Value.ref T0 != Value.none) = true from by simp)]
    refine wpAny_bind (wpAny_field eT dT h3 ?_)
    rw [if_neg (show ¬ ((Value.none == rawInt L) = true) from by simp [rawInt])]
    refine wpAny_bind (wpAny_setField eT dT (Array.getElem?_eq_some_iff.mp h3).1 ?_)
    have oth : ∀ b, b ≠ T0 → (s.heap.update T0 (Obj.mapFields (·.setIfInBounds 3 Value.none))).get? b = s.heap.get? b := fun b hb' => Heap.get?_update_other _ _ (Ne.symm hb')
    have nf : ∀ b o, s.heap.get? b = some o → (∀ vs, o.data ≠ .fields vs) → b ≠ T0 := fun b o eb hn z => by rw [z, eT] at eb; cases eb; exact hn ts0 dT
    refine note_entry hfr (hl.of_keeps fun b o eb hn => ⟨o, (oth b (nf b o eb hn)).trans eb, rfl⟩) hf ((oth e (Ne.symm neT)).trans he) hd hv fun h' T oT ts k1 k2 e1 hT e2 hdT h3' => ?_
    exact rest { s with heap := s.heap.update T0 (Obj.mapFields (·.setIfInBounds 3 Value.none)) } [e, T0] h' T oT ts oe
      (fun b o eb => by
        by_cases z : b = T0
        · exact .inr (by simp [z])
        · exact .inl ((oth b z).trans eb))
      (Heap.size_after_update ..) (by simp)
      (fun b hb' => by
        rcases List.mem_cons.mp hb' with z | z
        · subst z; exact ⟨nb, fr, oe, vs, he, hd⟩
        · rw [List.mem_singleton] at z; subst z; exact ⟨nbT, frT, oT0, ts0, eT, dT⟩)
      hcls hdict hd hv k1 k2 e1 hT e2 hdT h3'
end

/-! ### the context's own wish -/
/-- what is there at the entry, or is pinned -/
def Cx.bad (X : Cx) (pins : List (Addr × Obj)) : Addr → Prop := fun a => X.s₀.heap.get? a ≠ none ∨ ∃ p ∈ X.pn ++ pins, p.1 = a
/-- an exception that is raised here, or comes out of a call, meets the wish E: at these slots, of that class, over that heap -/
structure XOk (X : Cx) (E : St → XK) : Prop where
  po : PassesOwn (model X.prog X.w) X.A X.env X.xe
  ex : X.ex = []
  calm : X.calm = true
  go : ∀ (pins : List (Addr × Obj)) (σ : St) (H : Hp) (s : Shared) (e : Addr) (cls : Value), Inv X pins σ H s → Fly (X.bad pins) H s.heap e cls → E σ cls none H → X.xe (.ref e) s

section
variable {X : Cx} {pins : List (Addr × Obj)} {σ : St} {H : Hp} {s : Shared}
theorem Inv.notbad (I : Inv X pins σ H s) (hx : X.ex = []) {a : Addr} (h : s.heap.get? a = none) : ¬ X.bad pins a := fun z => by
  rcases z with z | ⟨p, hp, rfl⟩
  · cases q : X.s₀.heap.get? a with
    | none => exact z q
    | some o =>
      obtain ⟨o', e⟩ := I.base.there a o q (by rw [hx]; simp)
      rw [h] at e; cases e
  · have := (I.pin p hp).1
    rw [h] at this; cases this
theorem get_none {h : Heap} {a : Addr} (z : h.objs.size ≤ a) : h.get? a = none := by
  cases q : h.get? a with
  | none => rfl
  | some o => exact absurd (Nat.lt_of_lt_of_le (Heap.lt_size q) z) (Nat.lt_irrefl _)
/-- behind a note the state stands -/
theorem Inv.noted {e : Addr} {cls : Value} {h' : Heap} (I : Inv X pins σ H s) (N : Noted (frs X.stack) (X.bad pins) H e cls s.heap h') : Inv X pins σ H { s with heap := h' } := by
  obtain ⟨⟨ch, hch, k1, k2⟩, _⟩ := N
  obtain ⟨mL, ⟨oL, esL, epL, hoL, dL, rL⟩, _⟩ := id I.loc
  have chne : ∀ b ∈ ch, ∀ o, s.heap.get? b = some o → ∃ vs, o.data = .fields vs := fun b hb o eb => by
    obtain ⟨_, _, o', vs, e', d⟩ := hch b hb
    rw [eb] at e'; cases e'
    exact ⟨vs, d⟩
  have hL : X.env.locals ∉ ch := fun z => by
    obtain ⟨vs, d⟩ := chne _ z _ hoL
    rw [dL] at d; cases d
  refine I.stepN (g' := s.gens) (t' := s.toks) (d' := s.drawn) (ch := ch) (fun b hb => ⟨.inr ?_, fun z => hL (z ▸ hb), fun x c ec z => ?_, fun p hp z => (hch b hb).1 (.inr ⟨p, hp, z⟩)⟩)
    (fun b o hbL hbf hbc eb _ => k1 b o eb hbc fun z => (List.mem_cons.mp (I.stkSub b z)).elim hbL hbf) (fun b o _ _ hbc eb _ => k2 b o eb hbc) (fun _ _ _ _ n => n) (fun b o hbc eb => ?_) (fun _ _ q => q) (fun _ _ _ q => q) (fun b ps q => ⟨#[], by rw [q]; simp⟩) (fun m hm => ?_) (fun b o eb => ?_) I.bare
  · cases q : X.s₀.heap.get? b with
    | none => rfl
    | some o => exact absurd (.inl (by rw [q]; simp)) (hch b hb).1
  · obtain ⟨v, oc, hoc, hd⟩ := I.cell x c ec
    obtain ⟨vs, d⟩ := chne c (z ▸ hb) oc hoc
    rw [hd] at d; cases d
  · obtain ⟨sl, q⟩ := k2 b o eb hbc
    exact ⟨_, q⟩
  · obtain ⟨o', es', ep', ho', r'⟩ := hm
    rw [hoL] at ho'; cases ho'
    obtain ⟨sl, q⟩ := k2 _ _ hoL hL
    exact ⟨_, es', ep', q, r'⟩
  · refine (I.hok b o eb).stay (fun c u hc q => k1 c u q ?_ ?_) (fun _ q => q) fun _ _ q => q
    · intro z
      have fr := (hch c z).2.1
      rcases hc with rfl | hc
      · rw [eb] at fr; cases fr
      · rw [hc] at fr; cases fr
    · intro z
      have fr := I.stkFree c z
      rcases hc with rfl | hc
      · rw [eb] at fr; cases fr
      · rw [hc] at fr; cases fr

/-- how an exception lies behind a call -/
def cxE (P : Program) (w : World) : CXT := fun outer H s E e s' => ∃ (ea : Addr) (cls : Value) (H' : Hp), e = .ref ea ∧ s'.os = s.os ∧ AllBare s'.gens ∧ Un (frs outer) [] H H' s.heap s'.heap ∧ HOk P w H' s'.heap ∧ Fly (fun a => s.heap.get? a ≠ none) H' s'.heap ea cls ∧ E cls none H'
theorem cxE_no {P : Program} {w : World} {outer : List Env} {H : Hp} {s : Shared} {e : Value} {s' : Shared} (h : cxE P w outer H s (fun _ _ _ => False) e s') : False := by
  obtain ⟨_, _, _, _, _, _, _, _, _, f⟩ := h
  exact f

theorem XOk.passes {E : St → XK} (x : XOk X E) : Passes (cxE X.prog X.w) X E := fun pins σ H s e s' I h => by
  obtain ⟨ea, cls, H', rfl, os, bare, un, hok, F, q⟩ := h
  refine x.go pins σ H' s' ea cls (I.call' (ch := []) os un hok bare fun b z => absurd z (by simp)) (F.mono fun a z => ?_) q
  rcases z with z | ⟨p, hp, rfl⟩
  · cases q0 : X.s₀.heap.get? a with
    | none => exact absurd q0 z
    | some o =>
      obtain ⟨o', e⟩ := I.base.there a o q0 (by rw [x.ex]; simp)
      rw [e]; simp
  · rw [(I.pin p hp).1]; simp
/-- where no exception is wanted at all -/
theorem passesN {P : Program} {w : World} : Passes (cxE P w) X (fun _ => E0) := fun _ _ _ _ _ _ _ h => (cxE_no h).elim
end

/-- a def's body: what is raised in it leaves it -/
theorem xok_fn {P : Program} {w : World} {K : PySem.W.Frag} {mg : Str → Option Value} {base : Heap} {N : List Str} {qual : Str} {scope : Scope} {f : Addr} {cd : Value} {A : Around} {outer : List Env} {s : Shared} {H : Hp} {E : XK} :
    XOk (cxOf (cxE P w) P w K mg base N qual scope f cd A outer s H E) (fun _ => E) where
  po := PassesOwn.leaving
  ex := rfl
  calm := rfl
  go := fun pins σ H' s' e cls I F q => by
    have hfr : (A.deeper (envOfC qual scope s.heap.objs.size f cd)).frames = some (envOfC qual scope s.heap.objs.size f cd :: outer) := I.ok.frames
    show wpAny _ _ (leaving _ _) _ _ _
    unfold leaving
    refine wpAny_bind (fly_note hfr I.stack rfl F (fun a z => I.notbad rfl (get_none z)) (fun a z => I.hok.fresh z) fun h' N => ?_)
    have I' := I.noted N
    exact ⟨e, cls, H', rfl, I'.os, I'.bare, I'.base, I'.hok, N.fly.mono fun a z => .inl z, q⟩

/-! ### raise C(..), C an own class under a built-in one -/
/-- the class at C, an own error class whose built-in base is B -/
structure Exc (K : PySem.W.Frag) (C : Addr) : Prop where
  ex : PySem.W.excIn K C [.type "ValueError", .type "Exception", .type "BaseException", .type "object"] "ValueError.__new__" = true
theorem Exc.obj {K : PySem.W.Frag} {C : Addr} {h : Heap} (x : Exc K C) (X : K.In h) : ∃ (tl : List Value) (N : Addr) (nm q : Str) (bs : List Value) (hdct : Bool) (sn : List Str) (sub : List Value) (ab : Bool) (col : Option Bool) (dd : Option Addr) (k0 k1 k2 k3 k5 : Option Value) (mN : Str → Option Value),
    h.get? C = some (excClassObj nm q C N bs tl hdct sn sub ab col dd k0 k1 k2 k3 k5 "ValueError.__new__") ∧ h.Ns N mN ∧ mN "__init__" = none ∧ OwnTail h [.type "ValueError", .type "Exception", .type "BaseException", .type "object"] tl := by
  have q := x.ex
  unfold PySem.W.excIn at q
  split at q
  · rename_i dd cd sl ho
    split at q
    · rename_i C' bm k0 k1 k2 k3 n k5 hm hs
      simp only [Bool.and_eq_true, beq_iff_eq, Bool.not_eq_true'] at q
      obtain ⟨⟨⟨⟨⟨rfl, rfl⟩, hdel⟩, ht⟩, hok⟩, hni⟩ := q
      obtain ⟨nm, bs, mro, ns, qn, hd, sn, sub, ab, col, del⟩ := cd
      dsimp only at hm hdel hok hni
      subst hm hdel
      obtain ⟨l⟩ := sl
      simp only at hs
      subst hs
      exact ⟨bm, ns, nm, qn, bs, hd, sn, sub, ab, col, dd, k0, k1, k2, k3, k5, _, X _ _ ho, .of_isNs (PySem.W.isNs_of_in X hok), PySem.W.nsMap_none_of_in X hok hni, PySem.W.tail_of_in X ht⟩
    · cases q
  · cases q

def tRaise (C : Addr) (E : St → XK) (t : TA) : TS := fun _ σ H => t σ H fun vs H1 => vs.length ≤ sizeLine ∧ E σ (.ref C) none H1
section
variable {X : Cx} {E : St → XK} {C : Addr} {x : Str} {np cpos pos : Pos} {e : Expr} {es : List Expr} {t : TA}
theorem ps_raise (hx : XOk X E) (c : Exc X.K C) (hg : Gl X x) (hm : X.mg x = some (.ref C)) (ha : PA X (e :: es) t) (hdb : (x == ("__debug__" : Str)) = false := by decide)
    (he : starEach (e :: es) X.env = (false, eval e X.env) :: starEach es X.env := by rfl) (hpl : (backTo cpos (starEach es X.env)).any (·.1) = false := by rfl) :
    PS X (.Raise (some (.Call (.Name x np) (e :: es) [] cpos)) none pos) (tRaise C E t) := by
  intro pins s σ H D I h
  obtain ⟨tl, N, nm, q, bs, hdct, sn, sub, ab, col, dd, k0, k1, k2, k3, k5, mN, hC, hN, hni, T⟩ := c.obj I.mod.kin
  have hpl2 : (backTo cpos (starEach (e :: es) X.env)).any (·.1) = false := by
    rw [he]
    show (false || (backTo cpos (starEach es X.env)).any (·.1)) = false
    rw [hpl]; rfl
  refine wpAny_Raise_call_subT (C := C) (nm := nm) (q := q) (N := N) (bs := bs) (bm := tl) (hdct := hdct) (sn := sn) (sub := sub) (ab := ab) (col := col) (dd := dd) (k0 := k0) (k1 := k1) (k2 := k2) (k3 := k3) (k5 := k5)
    PySem.F.excBase_ValueError (mN := mN) (T.hasType PySem.F.excBase_ValueError.hasBase) (I.ok.hd hx.calm) hpl2 hni (ld_glob I hg hm ⟨rfl, ?_⟩ hdb)
  have hq := ha cpos pins s σ H _ I h
  rw [he] at hq ⊢
  refine Calls.evalArgs_plain (thn hq fun us s1 ⟨vs, H1, I1, r, hz, q1⟩ => ⟨rfl, ?_, I1.bk _ _ hC, hN.keeps I1.bk, T.keeps I1.bk, fun h' ea hM => ?_⟩)
  · show us.length ≤ _
    rw [← r.length]; exact hz
  · have I2 : Inv X pins σ H1 { s1 with heap := h' } := I1.kept (t' := s1.toks) hM.keeps
    obtain ⟨tt, h1, h2, h3⟩ := hM.there
    refine hx.go pins σ H1 _ ea (.ref C) I2 ⟨fun z => I1.notbad hx.ex hM.new z, I1.hok.nh hM.new, _, _, h1, rfl, rfl, rfl, .inl rfl⟩ q1
end
end L2

set_option linter.all false
set_option maxHeartbeats 4000000
/-! Calls by what is known of a callee; try with except; isinstance; == of data. -/
namespace L2
open PySem PySem.Spec PyProof.Rows

/-! ### a callee -/
section
variable (P : Program) (w : World) (K : PySem.W.Frag) (mg : Str → Option Value) (base : Heap)
/-- a def of the module -/
structure Cal (k : Nat) (x : Str) (ps : List Str) (sp : Sp) : Prop where
  ex : ∃ (f : Addr) (fd : FuncData), FnOk P w K mg base (cxE P w) k f fd ps sp ∧ mg x = some (.ref f) ∧ PySem.W.keepIn K (.ref f) = true ∧ Binds K fd ps []
/-- a method of the class at C -/
structure MCal (C : Addr) (k : Nat) (m : Str) (ps : List Str) (sp : Sp) : Prop where
  ex : ∃ (f : Addr) (fd : FuncData), FnOk P w K mg base (cxE P w) k f fd ps sp ∧ Meth K C m f ∧ Binds K fd ps []
/-- the class x at C, by its __init__ -/
structure NCal (C : Addr) (k : Nat) (x : Str) (ps : List Str) (sp : Sp) : Prop where
  ex : ∃ (f : Addr) (fd : FuncData), FnOk P w K mg base (cxE P w) k f fd ps sp ∧ Mk K C f ∧ mg x = some (.ref C) ∧ Binds K fd ps []
end
section
variable {X : Cx} {E : St → XK} {k : Nat} {x m : Str} {ps : List Str} {sp : Sp} {C : Addr} {p pos apos : Pos} {e o : Expr} {es : List Expr} {ta : TE} {t : TA}
theorem pe_callX (c : Cal X.prog X.w X.K X.mg X.base k x ps sp) (hr : Room k X.A) (hp : Passes (cxE X.prog X.w) X E) (hg : Gl X x) (ha : PA X (e :: es) t) (hdb : (x == ("__debug__" : Str)) = false := by decide)
    (he : starEach (e :: es) X.env = (false, eval e X.env) :: starEach es X.env := by rfl) (hpl : (backTo pos (starEach es X.env)).any (·.1) = false := by rfl) : PE X (.Call (.Name x p) (e :: es) [] pos) (tCall sp [] E t) := by
  obtain ⟨f, fd, F, hm, hk, hb⟩ := c.ex
  exact pe_call F hr hg hm hk hb .nil hp ha hdb he hpl
theorem pe_methX {pl : Sem Bool} (he : PE X o ta) (cl : Cls X.K C) (c : MCal X.prog X.w X.K X.mg X.base C k m ps sp) (hr : Room k X.A) (hp : Passes (cxE X.prog X.w) X E) (ha : PA X (e :: es) t)
    (hst : starEach (e :: es) X.env = (false, eval e X.env) :: starEach es X.env := by rfl) (hpl : (backTo pos (starEach es X.env)).any (·.1) = false := by rfl)
    (ht : eval (.Call (.Attribute o m apos) (e :: es) [] pos) X.env = (do
      let ov ← eval o X.env
      standAt apos.atName
      let (f, first) ← holding [ov] (getMethod ov m pl)
      callWith pos f first (backTo pos (starEach (e :: es) X.env)) (backToKw pos (keywordEach [] X.env))) := by rfl) : PE X (.Call (.Attribute o m apos) (e :: es) [] pos) (tMeth C m sp [] E ta t) := by
  obtain ⟨f, fd, F, hm, hb⟩ := c.ex
  exact pe_meth he cl hm F hr hb .nil hp ha hst hpl ht
theorem pe_methX0 {pl : Sem Bool} (he : PE X o ta) (cl : Cls X.K C) (c : MCal X.prog X.w X.K X.mg X.base C k m ps sp) (hr : Room k X.A) (hp : Passes (cxE X.prog X.w) X E)
    (ht : eval (.Call (.Attribute o m apos) [] [] pos) X.env = (do
      let ov ← eval o X.env
      standAt apos.atName
      let (f, first) ← holding [ov] (getMethod ov m pl)
      callWith pos f first (backTo pos (starEach [] X.env)) (backToKw pos (keywordEach [] X.env))) := by rfl) : PE X (.Call (.Attribute o m apos) [] [] pos) (tMeth C m sp [] E ta tNil) := by
  obtain ⟨f, fd, F, hm, hb⟩ := c.ex
  exact pe_meth0 he cl hm F hr hb .nil hp ht
theorem pe_makeX (c : NCal X.prog X.w X.K X.mg X.base C k x ps sp) (hr : Room (k + 1) X.A) (hp : Passes (cxE X.prog X.w) X E) (hg : Gl X x) (ha : PA X (e :: es) t) (hdb : (x == ("__debug__" : Str)) = false := by decide)
    (he : starEach (e :: es) X.env = (false, eval e X.env) :: starEach es X.env := by rfl) (hpl : (backTo pos (starEach es X.env)).any (·.1) = false := by rfl) : PE X (.Call (.Name x p) (e :: es) [] pos) (tMake C sp [] E t) := by
  obtain ⟨f, fd, F, M, hm, hb⟩ := c.ex
  exact pe_make M F hr hg hm hb .nil hp ha hdb he hpl
end

/-- THE RULE for a def that may raise -/
theorem Fun.okE {P : Program} {w : World} {K : PySem.W.Frag} {mg : Str → Option Value} {base : Heap} {x qual : Str} {st : Stmt} {f : Addr} {fd : FuncData} {N ps : List Str} {k : Nat} {sp : Sp} (F : Fun K x qual st f fd) (S : FnScope N ps (defScope st)) (len : ∀ vs H Q E, sp vs H Q E → vs.length = ps.length)
    (hbody : ∀ (cdv : Value) (A : Around) (outer : List Env) (s : Shared) (H : Hp) (vs : List V) (Q : VK) (E : XK), Room k (A.deeper (envOfC qual (defScope st) s.heap.objs.size f cdv)) → sp vs H Q E →
      ∃ t, PSs (cxOf (cxE P w) P w K mg base N qual (defScope st) f cdv A outer s H E) (defBody st) t ∧ t { nx := fun _ H' => Q .non H', rt := Q } (start N vs) H) : FnOk P w K mg base (cxE P w) (k + 1) f fd ps sp := by
  obtain ⟨oc, od, kV, doc, pm, an, cdv, ct, osl, rfl, l, c⟩ := F.ex
  exact fn_of l c S len fun A outer s H vs Q E hr h => hbody cdv A outer s H vs Q E hr h

/-! ### a global's value -/
def GV (mg : Str → Option Value) (x : Str) (v : V) : Prop := ∃ u, mg x = some u ∧ RelV v u
/-! ### a name is let go -/
/-! ### try -/
abbrev Cx.tri (X : Cx) (pn : List (Addr × Obj)) (xe : Value → Shared → Prop) : Cx := { X with pn := pn, xe := xe }
abbrev Cx.hand (X : Cx) (e : Addr) : Cx := { X with A := X.A.mark (some (.ref e)), calm := false, xe := fun _ _ => False }
section
variable {X : Cx} {pins : List (Addr × Obj)} {σ : St} {H : Hp} {s : Shared}
theorem Cx.Ok.tri {pn : List (Addr × Obj)} {xe : Value → Shared → Prop} (ok : X.Ok) : (X.tri pn xe).Ok :=
  ⟨ok.mod, ok.kind, ok.glob, ok.blt, ok.above, ok.inj, ok.has, ok.cab, ok.hd, ok.frames, ok.stk, ok.exf, ok.bs, ok.bsz, ok.noex, ok.exfs, ok.funs, ok.frf⟩
theorem Inv.tri {xe : Value → Shared → Prop} (I : Inv X pins σ H s) : Inv (X.tri (X.pn ++ pins) xe) [] σ H s :=
  ⟨I.ok.tri, I.os, I.bare, I.base, I.loc, I.cell, I.free, I.freeC, fun p hp => I.pin p (by simpa using hp), I.hok, I.len⟩
theorem Cx.Ok.untri {pn : List (Addr × Obj)} {xe : Value → Shared → Prop} (ok : (X.tri pn xe).Ok) : X.Ok :=
  ⟨ok.mod, ok.kind, ok.glob, ok.blt, ok.above, ok.inj, ok.has, ok.cab, ok.hd, ok.frames, ok.stk, ok.exf, ok.bs, ok.bsz, ok.noex, ok.exfs, ok.funs, ok.frf⟩
theorem Inv.untri {pl : List (Addr × Obj)} {xe : Value → Shared → Prop} (I : Inv (X.tri (X.pn ++ pins) xe) pl σ H s) : Inv X pins σ H s :=
  ⟨I.ok.untri, I.os, I.bare, I.base, I.loc, I.cell, I.free, I.freeC, fun p hp => I.pin p (List.mem_append_left _ hp), I.hok, I.len⟩
theorem Cx.Ok.hand {e : Addr} (ok : X.Ok) : (X.hand e).Ok :=
  ⟨ok.mod, ok.kind, ok.glob, ok.blt, ok.above, ok.inj, ok.has, ok.cab, (fun z => nomatch z), ok.frames, ok.stk, ok.exf, ok.bs, ok.bsz, ok.noex, ok.exfs, ok.funs, ok.frf⟩
theorem Inv.hand {e : Addr} (I : Inv X pins σ H s) : Inv (X.hand e) pins σ H s := ⟨I.ok.hand, I.os, I.bare, I.base, I.loc, I.cell, I.free, I.freeC, I.pin, I.hok, I.len⟩
/-- (the elder one's fact is kept: calm or not, its A) -/
theorem Inv.unhand {e : Addr} (ok : X.Ok) (I : Inv (X.hand e) pins σ H s) : Inv X pins σ H s := ⟨ok, I.os, I.bare, I.base, I.loc, I.cell, I.free, I.freeC, I.pin, I.hok, I.len⟩
end

/-- an exception that is held by a name: its class -/
def ExcAt (e : Addr) (cls : Value) : Heap → Prop := fun h => ∃ oe vs, h.get? e = some oe ∧ oe.cls = cls ∧ oe.dict = none ∧ oe.data = .fields vs
/-- what the handlers make of an exception of a class -/
abbrev TH := Value → Ends → St → Hp → Prop
def thNil : TH := fun _ _ _ _ => False
def thCons (p : Value → Option Bool) (ts : TS) (rest : TH) : TH := fun cls D σ H => (p cls = some true ∧ ts D σ H) ∨ (p cls = some false ∧ rest cls D σ H)
def Ends.drop (D : Ends) (i : Nat) : Ends := { nx := fun σ H => D.nx (σ.set i none) H, rt := D.rt, bk := fun σ H => D.bk (σ.set i none) H, ct := fun σ H => D.ct (σ.set i none) H }
def PH (X : Cx) (hs : List ExceptHandler) (th : TH) : Prop :=
  ∀ (pins : List (Addr × Obj)) (s : Shared) (σ : St) (H : Hp) (D : Ends) (e : Addr) (cls : Value), X.ex = [] → Inv X pins σ H s → Fly (X.bad pins) H s.heap e cls → th cls D σ H →
    wpAny (model X.prog X.w) X.A (handleBy (.ref e) X.env hs) (SP X pins D) X.xe s
/-- the test of a clause: which exceptions it takes -/
def PX (X : Cx) (t : Expr) (p : Value → Option Bool) : Prop :=
  ∀ (pins : List (Addr × Obj)) (s : Shared) (σ : St) (H : Hp) (e : Addr) (cls : Value) (b : Bool) (Q : Bool → Shared → Prop) (E : Value → Shared → Prop), Inv X pins σ H s → Fly (X.bad pins) H s.heap e cls → p cls = some b →
    (∀ s', Inv X pins σ H s' → Fly (X.bad pins) H s'.heap e cls → Q b s') → wpAny (model X.prog X.w) (X.A.mark (some (.ref e))) (eval t X.env) (fun c s1 => wpAny (model X.prog X.w) (X.A.mark (some (.ref e))) (excMatches (.ref e) c) Q E s1) E s

def tTry (tb : (St → XK) → TS) (th : TH) : TS := fun D σ H => tb (fun σ' cls _ H' => th cls D σ' H') D σ H
section
variable {X : Cx} {hs : List ExceptHandler} {h₀ : ExceptHandler} {th : TH} {body : List Stmt} {tb : (St → XK) → TS} {pos : Pos}
theorem ph_nil : PH X [] thNil := fun _ _ _ _ _ _ _ _ _ _ h => h.elim
theorem fly_ty {bad : Addr → Prop} {H : Hp} {h : Heap} {e : Addr} {cls : Value} {M : Model} (F : Fly bad H h e cls) : PySem.W.Looks M h (typeOf (.ref e)) cls := by
  obtain ⟨_, _, oe, vs, h1, h2, _⟩ := F
  subst h2
  exact (PySem.W.Looks.ld h1).andThen .now
/-- except C: -/
theorem px_name {x : Str} {np : Pos} {C : Value} (hg : Gl X x) (hm : X.mg x = some C) (hd : (x == ("__debug__" : Str)) = false := by decide) : PX X (.Name x np) (fun cls => PySem.W.exmOne X.K cls C) := by
  intro pins s σ H e cls b Q E I F hp h
  have I2 : Inv (X.hand e) pins σ H s := I.hand
  refine ld_glob (X := X.hand e) I2 hg hm ?_ hd
  exact PySem.W.exm_one I.kIn (fly_ty F) hp _ _ _ s (fun _ _ z => z) (h s I F)
/-- the flight's mark is taken off once more (nothing flies) -/
theorem fly_land {M : Model} {A : Around} {E : Value → Shared → Prop} {s : Shared} {bad : Addr → Prop} {H : Hp} {fr : List Addr} {e : Addr} {cls : Value} {Q : Unit → Shared → Prop} (F : Fly bad H s.heap e cls)
    (h : ∀ h', Noted fr bad H e cls s.heap h' → Q () { s with heap := h' }) : wpAny M A (setFlight (.ref e) none) Q E s := by
  have F0 := F
  obtain ⟨nb, frr, oe, vs, he, hcls, hdict, hd, htb⟩ := F
  unfold setFlight
  rcases htb with h1 | ⟨T, oT, ts, h1, nbT, frT, neT, eT, dT, h3⟩
  · refine wpAny_bind (wpAny_field he hd h1 ?_)
    rw [if_neg (by decide)]
    exact wpAny_pure (h s.heap ⟨⟨[], (fun b hb => nomatch hb), fun b o eb _ _ => eb, fun b o eb _ => ⟨o.slots, eb⟩⟩, F0⟩)
  · refine wpAny_bind (wpAny_field he hd h1 ?_)
    rw [if_pos (show (Value.ref T != Value.none) = true from by simp)]
    have hs3 : 3 < ts.size := (Array.getElem?_eq_some_iff.mp h3).1
    refine wpAny_setField eT dT hs3 (h _ ?_)
    have oth : ∀ b, b ≠ T → (s.heap.update T (Obj.mapFields (·.setIfInBounds 3 ((none : Option Addr).elim Value.none fun f => rawInt f)))).get? b = s.heap.get? b := fun b hb' => Heap.get?_update_other _ _ (Ne.symm hb')
    refine ⟨⟨[T], fun b hb => ?_, fun b o eb hb _ => (oth b fun z => hb (by simp [z])).trans eb, fun b o eb hb => ⟨o.slots, (oth b fun z => hb (by simp [z])).trans eb⟩⟩, nb, frr, oe, vs, (oth e (Ne.symm neT)).trans he, hcls, hdict, hd, .inr ⟨T, _, _, h1, nbT, frT, neT, Heap.get?_update_self _ eT (Obj.isFreed_of_fields (Obj.data_mapFields dT _)), Obj.data_mapFields dT _, by simp [hs3]⟩⟩
    rw [List.mem_singleton] at hb
    subst hb
    exact ⟨nbT, frT, oT, ts, eT, dT⟩
/-- the state behind a flow of a handler's suite -/
theorem SP.unhand {pins : List (Addr × Obj)} {D : Ends} {e : Addr} {f : Flow} {s : Shared} (ok : X.Ok) (h : SP (X.hand e) pins D f s) : SP X pins D f s := by
  cases f with
  | next => obtain ⟨σ1, H1, I1, q⟩ := h; exact ⟨σ1, H1, I1.unhand ok, q⟩
  | brk => obtain ⟨σ1, H1, I1, q⟩ := h; exact ⟨σ1, H1, I1.unhand ok, q⟩
  | cont => obtain ⟨σ1, H1, I1, q⟩ := h; exact ⟨σ1, H1, I1.unhand ok, q⟩
  | ret u => obtain ⟨v, σ1, H1, I1, r, q⟩ := h; exact ⟨v, σ1, H1, I1.unhand ok, r, q⟩
/-- except t: suite -/
theorem ph_cons {t : Expr} {b₀ : Stmt} {suite : List Stmt} {hp : Pos} {p : Value → Option Bool} {ts : TS} {rest : List ExceptHandler} {tr : TH} (ht : PX X t p) (hsu : ∀ e, PSs (X.hand e) (b₀ :: suite) ts) (hr : PH X rest tr) :
    PH X (.ExceptHandler (some t) none (b₀ :: suite) hp :: rest) (thCons p ts tr) := by
  intro pins s σ H D e cls hx I F h
  have hmain : ∃ b, p cls = some b ∧ (b = true → ts D σ H) ∧ (b = false → tr cls D σ H) := by
    rcases h with ⟨h1, h2⟩ | ⟨h1, h2⟩
    · exact ⟨true, h1, fun _ => h2, fun z => nomatch z⟩
    · exact ⟨false, h1, (fun z => nomatch z), fun _ => h2⟩
  obtain ⟨b, hp', hT, hF⟩ := hmain
  refine wpAny_handleBy_cons (codeAny_handlers_test (ht pins s σ H e cls b _ _ I F hp' fun s' I' F' => ?_)) (by intro z; cases z)
  cases b with
  | false => exact hr pins s' σ H D e cls hx I' F' (hF rfl)
  | true =>
    refine codeAny_handlers_suite (fly_land (fr := frs X.stack) F' fun h' N => ?_)
    have I2 : Inv (X.hand e) pins σ H { s' with heap := h' } := (I'.noted N).hand
    refine wpAny_mono (hsu e pins _ σ H D I2 (hT rfl)) (fun f s2 h2 => h2.unhand I.ok) fun _ _ z => z.elim
theorem ps_try (hx : X.ex = []) (hcalm : X.calm = true) (hst : X.stack = X.env :: X.outer) (hfr : X.env.frame = some X.env.locals) (hb : ∀ (E : St → XK) (pn : List (Addr × Obj)) (xe : Value → Shared → Prop), XOk (X.tri pn xe) E → PSs (X.tri pn xe) body (tb E)) (hh : PH X (h₀ :: hs) th) :
    PS X (.Try body (h₀ :: hs) [] [] pos) (tTry tb th) := by
  intro pins s σ H D I h
  refine wpAny_Try_except ?_
  let xe : Value → Shared → Prop := fun e s₁ => wpAny (model X.prog X.w) X.A (noteFrame e X.env) (fun _ s₂ => wpAny (model X.prog X.w) X.A (setFlight e none) (fun _ s₃ => wpAny (model X.prog X.w) X.A (handleBy e X.env (h₀ :: hs)) (SP X pins D) X.xe s₃) X.xe s₂) X.xe s₁
  have xok : XOk (X.tri (X.pn ++ pins) xe) (fun σ' cls _ H' => th cls D σ' H') := by
    refine ⟨PassesOwn.looking, hx, hcalm, fun pl σ' H' s' e cls I' F' q => ?_⟩
    have Iu := I'.untri
    refine fly_note (hst ▸ Iu.ok.frames) (hst ▸ Iu.stack) hfr F' (fun a z => I'.notbad hx (get_none z)) (fun a z => I'.hok.fresh z) fun h' N => ?_
    rw [← hst] at N
    have I2 : Inv (X.tri (X.pn ++ pins) xe) pl σ' H' { s' with heap := h' } := I'.noted N
    exact hh pins _ σ' H' D e cls hx I2.untri (N.fly.mono fun a z => by
      rcases z with z | ⟨p, hp, z⟩
      · exact .inl z
      · exact .inr ⟨p, List.mem_append_left _ hp, z⟩) q
  refine wpAny_mono (hb _ _ xe xok [] s σ H D I.tri h) (fun f s1 hs1 => ?_) fun _ _ z => z
  cases f with
  | next =>
    obtain ⟨σ1, H1, I1, q⟩ := hs1
    exact wpAny_execs_nil ⟨σ1, H1, I1.untri, q⟩
  | brk => obtain ⟨σ1, H1, I1, q⟩ := hs1; exact ⟨σ1, H1, I1.untri, q⟩
  | cont => obtain ⟨σ1, H1, I1, q⟩ := hs1; exact ⟨σ1, H1, I1.untri, q⟩
  | ret u => obtain ⟨v, σ1, H1, I1, r, q⟩ := hs1; exact ⟨v, σ1, H1, I1.untri, r, q⟩
end
end L2

set_option linter.all false
set_option maxHeartbeats 4000000
/-! Data in the heap (Rep), == and != of data; operators for any of the kinds that they serve. -/
namespace L2
open PySem PySem.Spec PyProof.Rows

/-! ### a value as data -/
mutual
inductive Rep (K : PySem.W.Frag) (H : Hp) : V → PyData → Prop
  | non : Rep K H .non .none
  | bl (b : Bool) : Rep K H (.bl b) (.bool b)
  | int (i : Int) : Rep K H (.int i) (.int i)
  | str (x : Str) : Rep K H (.str x) (.str x)
  | lst {a : Addr} {xs : List V} {ds : List PyData} : SqL K H a xs → RepAll K H xs ds → Rep K H (.ref a) (.list ds)
  | tup {a : Addr} {xs : List V} {ds : List PyData} : SqT K H a xs → RepAll K H xs ds → Rep K H (.ref a) (.tuple ds)
inductive RepAll (K : PySem.W.Frag) (H : Hp) : List V → List PyData → Prop
  | nil : RepAll K H [] []
  | cons {v : V} {d : PyData} {vs : List V} {ds : List PyData} : Rep K H v d → RepAll K H vs ds → RepAll K H (v :: vs) (d :: ds)
end
section
variable {X : Cx} {pins : List (Addr × Obj)} {σ : St} {H : Hp} {s : Shared}
mutual
theorem Rep.reads (I : Inv X pins σ H s) : ∀ {v : V} {d : PyData} {u : Value}, Rep X.K H v d → RelV v u → ∃ as, Reads s.heap u d as
  | _, _, _, .non, r => by cases (show _ = Value.none from r); exact ⟨_, .none⟩
  | _, _, _, .bl b, r => by cases (show _ = Value.bool b from r); exact ⟨_, .bool b⟩
  | _, _, _, .int i, r => by obtain ⟨t, e⟩ := (show ∃ t, _ = Value.int i t from r); cases e; exact ⟨_, .int i t⟩
  | _, _, _, .str x, r => by obtain ⟨t, e⟩ := (show ∃ t, _ = Value.str x t from r); cases e; exact ⟨_, .str x t⟩
  | _, _, _, .lst (a := a) h hr, r => by
    cases (show _ = Value.ref a from r)
    obtain ⟨its, rv, p, _⟩ := I.list h
    obtain ⟨as, q⟩ := RepAll.reads I hr rv
    obtain ⟨o, e1, e2, n, e3⟩ := p.isList
    exact ⟨_, .list e1 e2 e3 q⟩
  | _, _, _, .tup (a := a) h hr, r => by
    cases (show _ = Value.ref a from r)
    obtain ⟨its, rv, p, _⟩ := I.tuple h
    obtain ⟨as, q⟩ := RepAll.reads I hr rv
    obtain ⟨o, e1, e2, n, e3⟩ := p
    exact ⟨_, .tuple e1 e2 e3 q⟩
theorem RepAll.reads (I : Inv X pins σ H s) : ∀ {vs : List V} {ds : List PyData} {us : List Value}, RepAll X.K H vs ds → Vals vs us → ∃ as, ReadsAll s.heap us ds as
  | _, _, _, .nil, .nil => ⟨_, .nil⟩
  | _, _, _, .cons h hr, .cons r rr => by
    obtain ⟨as, q⟩ := Rep.reads I h r
    obtain ⟨bs, q2⟩ := RepAll.reads I hr rr
    exact ⟨_, .cons q q2⟩
end
end
/-- data of a shape that == tells apart: no dicts, not deep -/
abbrev shp (d : PyData) : Prop := PySem.SeqAt.shaped d = true
def rEqA (K : PySem.W.Frag) : R2 := fun x y H Q => if scal x y = true then Q (.bl (decide (x = y))) H else ∃ d e, Rep K H x d ∧ Rep K H y e ∧ shp d ∧ shp e ∧ Q (.bl (PyData.eqv d e)) H
def rNeA (K : PySem.W.Frag) : R2 := fun x y H Q => if scal x y = true then Q (.bl (!decide (x = y))) H else ∃ d e, Rep K H x d ∧ Rep K H y e ∧ shp d ∧ shp e ∧ Q (.bl (!PyData.eqv d e)) H
section
variable {X : Cx}
theorem op_eqA (hu : X.A.units + 64 < cLine) : OpR X (compareOp .Eq) (rEqA X.K) := by
  intro pins s σ H x y v u Q I rx ry h
  unfold rEqA at h
  split at h
  · rename_i hs
    exact op_eq pins s σ H x y v u Q I rx ry ⟨hs, h⟩
  · obtain ⟨d, e, rd, re, sd, se, q⟩ := h
    obtain ⟨as, ra⟩ := rd.reads I rx
    obtain ⟨bs, rb⟩ := re.reads I ry
    exact eq_dataH ra rb sd se hu ⟨.bl _, H, I, rfl, q⟩
theorem op_neA (hu : X.A.units + 64 < cLine) : OpR X (compareOp .NotEq) (rNeA X.K) := by
  intro pins s σ H x y v u Q I rx ry h
  unfold rNeA at h
  split at h
  · rename_i hs
    exact op_ne pins s σ H x y v u Q I rx ry ⟨hs, h⟩
  · obtain ⟨d, e, rd, re, sd, se, q⟩ := h
    obtain ⟨as, ra⟩ := rd.reads I rx
    obtain ⟨bs, rb⟩ := re.reads I ry
    exact ne_dataH ra rb sd se hu ⟨.bl _, H, I, rfl, q⟩

/-! ### + -/
/-- () + t is t itself -/
def rCatT0 (K : PySem.W.Frag) : R2 := fun x y H Q => ∃ a b ys, x = .ref a ∧ y = .ref b ∧ SqT K H a [] ∧ SqT K H b ys ∧ Q (.ref b) H
theorem op_catT0 : OpR X (binaryOp .Add) (rCatT0 X.K) := by
  intro pins s σ H x y v u Q I rx ry h
  obtain ⟨a, b, ys, rfl, rfl, ha, hb, q⟩ := h
  cases rx
  cases ry
  obtain ⟨its, r1, ⟨⟨c1, c2, c3, c4⟩, e1, e2, n1, e3⟩, _⟩ := I.tuple ha
  obtain ⟨its2, r2, ⟨⟨d1, d2, d3, d4⟩, f1, f2, n2, f3⟩, _⟩ := I.tuple hb
  obtain rfl : c1 = _ := e2
  obtain rfl : c3 = _ := e3
  obtain rfl : d1 = _ := f2
  obtain rfl : d3 = _ := f3
  cases r1
  exact concat_meets ⟨_, e1, rfl⟩ ⟨_, f1, rfl⟩ noFill_tuple_add seq_tuple_add PySem.F.slot_tuple_add PySem.F.entry_tuple_add (PySem.F.args_tuple_add_2 _ _) (tuple_addW0 a b #[] its2.toArray n1 n2 c2 d2 c4 d4 rfl) ⟨e1, f1, .ref b, H, I, rfl, q⟩
def rAddA (K : PySem.W.Frag) : R2 := fun x y H Q => match x, y with
  | .int i, .int j => Q (.int (i + j)) H
  | .str i, .str j => i.length + j.length ≤ sizeLine ∧ Q (.str (i ++ j)) H
  | .ref _, .ref _ => rCat x y H Q ∨ rCatT K x y H Q ∨ rCatT0 K x y H Q
  | _, _ => False
theorem op_addA : OpR X (binaryOp .Add) (rAddA X.K) := by
  intro pins s σ H x y v u Q I rx ry h
  cases x <;> cases y <;> simp only [rAddA] at h
  · exact op_add pins s σ H _ _ v u Q I rx ry ⟨_, _, rfl, rfl, h⟩
  · exact op_add_str pins s σ H _ _ v u Q I rx ry ⟨_, _, rfl, rfl, h⟩
  · rcases h with h | h
    · exact op_cat pins s σ H _ _ v u Q I rx ry h
    rcases h with h | h
    · exact op_catT pins s σ H _ _ v u Q I rx ry h
    · exact op_catT0 pins s σ H _ _ v u Q I rx ry h
/-! ### order of numbers and of texts -/
def rLtA : R2 := fun x y H Q => match x, y with
  | .int i, .int j => Q (.bl (decide (i < j))) H
  | .str i, .str j => Q (.bl (decide (i.cps.toList < j.cps.toList))) H
  | _, _ => False
def rLeA : R2 := fun x y H Q => match x, y with
  | .int i, .int j => Q (.bl (decide (i ≤ j))) H
  | .str i, .str j => Q (.bl (!decide (j.cps.toList < i.cps.toList))) H
  | _, _ => False
end
end L2

set_option linter.all false
set_option maxRecDepth 100000
set_option maxHeartbeats 4000000
/-! Operators, subscripts, builtins: rules for any of the kinds that they serve. -/
namespace L2
open PySem PySem.Spec PyProof.Rows

/-! ### a tuple times an int -/
theorem noFill_tuple_mul : fillsNumberSlot (.type "tuple") "mul" = pure false :=
  PySem.fillsNumberSlot_seq (id := "tuple.__mul__") (r := some (.builtin "tuple.__rmul__")) F.slot_tuple_mul.lookup (by decide +kernel) F.slot_tuple_rmul.lookup (by decide +kernel)
theorem repeat_tuple : seqRepeat? (.type "tuple") = pure (some (.builtin "tuple.__mul__")) := by
  unfold seqRepeat?
  rw [PySem.seqSlot_of (T := "tuple") (name := "__mul__") (id := "tuple.__mul__") F.slot_tuple_mul.lookup (by decide +kernel), PySem.seqSlot_of (T := "tuple") (name := "__rmul__") (id := "tuple.__rmul__") F.slot_tuple_rmul.lookup (by decide +kernel)]
  rfl
theorem rmul_int_tuple (a : Int) (t : Tok) (l : Addr) (items : Array Value) (dd : Option Addr) (n : Nat) (sl : Array (Option Value)) :
    Meets (Builtin.«int.__rmul__» ⟨[.int a t, .ref l], []⟩) (fun _ R s => s.heap.get? l = some ⟨.type "tuple", dd, .seq items n, sl⟩ ∧ R (.ok (.ret Value.notImplemented)) s) :=
  .of_wp fun prog w A R s h => by obtain ⟨hp, g, d, tk, os⟩ := s; obtain ⟨hl, h⟩ := h; wp_walk; exact ⟨_, rfl, h⟩
theorem mul_tuple_pos (l : Addr) (items : Array Value) (dd : Option Addr) (n : Nat) (sl : Array (Option Value)) (x : Int) (u : Tok) (h1 : 1 < x) (h2 : x < 2 ^ 63) (hne : items.isEmpty = false) (hz : items.size * x.toNat ≤ sizeLine) :
    Meets (Builtin.«tuple.__mul__» ⟨[.ref l, .int x u], []⟩) (fun _ R s => s.heap.get? l = some ⟨.type "tuple", dd, .seq items n, sl⟩ ∧
      R (.ok (.ret (Value.ref s.heap.objs.size))) { s with heap := s.heap.push { cls := Value.type "tuple", data := Data.seq (List.foldl (fun x1 x2 => x1 ++ x2) #[] (List.replicate x.toNat items)) } }) :=
  .of_wp fun prog w A R s h => by
    obtain ⟨hp, g, d, tk, os⟩ := s; obtain ⟨hl, h⟩ := h
    have hsl : (sizeLine : Nat) ≤ (2 ^ 63 - 1) / 8 := by decide
    have hlen : (List.foldl (fun x1 x2 => x1 ++ x2) #[] (List.replicate x.toNat items)).size ≤ sizeLine := by
      have := foldl_rep items.toList x.toNat []
      simp only [List.nil_append, Array.toArray_toList] at this
      rw [this]
      simp only [List.size_toArray, List.length_flatten, List.map_replicate, List.sum_replicate_nat, Array.length_toList]
      rw [Nat.mul_comm]; exact hz
    have hx : ∃ N : Nat, (items.size : Int) * x = (N : Int) ∧ N ≤ sizeLine := ⟨items.size * x.toNat, by rw [Int.natCast_mul, Int.toNat_of_nonneg (by omega)], hz⟩
    obtain ⟨N, hx, hN⟩ := hx
    unfold Builtin.«tuple.__mul__»
    wp_walk
    refine wpAny_ite_false (by simp; omega) ?_
    wp_walk
    refine wpAny_ite_false (by simp only [hne, Bool.false_or]; simp; omega) ?_
    refine wpAny_ite_false (by simp only [hne, Bool.or_false]; simp; omega) ?_
    refine wpAny_ite_false (by rw [hx]; exact decide_eq_false (by omega)) ?_
    refine wpAny_ite_false (by rw [hx]; unfold Builtin.Tuple.tupleTooMany; simp; omega) ?_
    wp_walk
    exact ⟨_, rfl, h⟩
theorem mul_tuple_one (l : Addr) (items : Array Value) (dd : Option Addr) (n : Nat) (sl : Array (Option Value)) (u : Tok) :
    Meets (Builtin.«tuple.__mul__» ⟨[.ref l, .int 1 u], []⟩) (fun _ R s => s.heap.get? l = some ⟨.type "tuple", dd, .seq items n, sl⟩ ∧ R (.ok (.ret (Value.ref l))) s) :=
  .of_wp fun prog w A R s h => by
    obtain ⟨hp, g, d, tk, os⟩ := s; obtain ⟨hl, h⟩ := h
    unfold Builtin.«tuple.__mul__»
    wp_walk
    exact ⟨_, rfl, h⟩
/-- t * k, k from 1 on: by 1 it is t itself -/
def rRepT (K : PySem.W.Frag) : R2 := fun x y H Q => ∃ a k xs, x = .ref a ∧ y = .int k ∧ SqT K H a xs ∧ xs ≠ [] ∧ 1 ≤ k ∧ k < 2 ^ 63 ∧ xs.length * k.toNat ≤ sizeLine ∧
  (k = 1 → Q (.ref a) H) ∧ (k ≠ 1 → ∀ p, H p = none → Q (.ref p) (upd H p (.tup (List.replicate k.toNat xs).flatten)))
section
variable {X : Cx}
theorem Inv.tnew {pins : List (Addr × Obj)} {σ : St} {H : Hp} {s : Shared} {ys : List V} {its : List Value} (I : Inv X pins σ H s) (hv : Vals ys its) (hz : ys.length ≤ sizeLine) :
    Inv X pins σ (upd H s.heap.objs.size (.tup ys)) { s with heap := s.heap.push { cls := .type "tuple", data := .seq its.toArray } } :=
  I.laid (t' := s.toks) (fun _ _ q => Heap.get?_push_of_some _ q) (Nat.le_refl _) ⟨hz, its, hv, _, Heap.get?_push_size _ rfl, rfl, 0, rfl⟩
theorem op_repT : OpR X (binaryOp .Mult) (rRepT X.K) := by
  intro pins s σ H x y v u Q I rx ry h
  obtain ⟨a, k, xs, rfl, rfl, hx, hne, h1, h2, hz, q1, q2⟩ := h
  cases rx
  obtain ⟨t, rfl⟩ := ry
  obtain ⟨its, r, ⟨⟨c1, c2, c3, c4⟩, e1, e2, n, e3⟩, _⟩ := I.tuple hx
  obtain rfl : c1 = _ := e2
  obtain rfl : c3 = _ := e3
  have hl := r.length
  have he : its.toArray.isEmpty = false := by
    cases its with
    | nil => exact absurd (List.length_eq_zero_iff.mp hl) hne
    | cons b t => rfl
  refine wpAny_binaryOp_repeat_ref (T := "tuple") (U := "int") (by decide) ⟨_, e1, rfl⟩ (fun s' => typeIs_int s' k t) noFill_tuple_mul F.fills_int_mul F.slot_int_rmul repeat_tuple F.slot_int_index.lookup
    (call_meets F.slot_int_rmul (typeIs_int s k t) F.entry_int_rmul (F.args_int_rmul_2 _ _) (rmul_int_tuple k t a its.toArray c2 n c4) ⟨e1, rfl, ⟨_, e1, rfl⟩, ?_⟩)
  by_cases hk : k = 1
  · subst hk
    exact call_meets F.slot_tuple_mul ⟨_, e1, rfl⟩ F.entry_tuple_mul (F.args_tuple_mul_2 _ _) (mul_tuple_one a its.toArray c2 n c4 t) ⟨e1, .ref a, H, I, rfl, q1 rfl⟩
  · refine call_meets F.slot_tuple_mul ⟨_, e1, rfl⟩ F.entry_tuple_mul (F.args_tuple_mul_2 _ _) (mul_tuple_pos a its.toArray c2 n c4 k t (by omega) h2 he (by rw [List.size_toArray, ← hl]; exact hz)) ⟨e1, ?_⟩
    have f0 := foldl_rep its k.toNat []
    rw [List.nil_append] at f0
    rw [f0]
    exact ⟨.ref _, _, I.tnew (r.rep k.toNat) (by rw [len_rep, Nat.mul_comm]; exact hz), rfl, q2 hk _ I.fresh⟩

/-! ### numbers -/
abbrev rSubI : R2 := rI0 fun i j => .int (i - j)
abbrev rModI : R2 := rI (fun _ j => 0 < j) fun i j => .int (i % j)
abbrev rDivI : R2 := rI CDiv fun i j => .int (i / j)
abbrev rPowI : R2 := rI CPow fun i j => .int (i ^ j.toNat)
abbrev rNegI : V → Hp → VK → Prop := rU fun i => .int (-i)
abbrev ipAddI : TIp := ipI fun i j => i + j
/-- a text k times -/
def repS (z : Str) (k : Int) : Str := if k < 1 then Str.empty else if (k == 1 || z.length == 0) = true then z else ⟨(List.replicate k.toNat z.cps).foldl (· ++ ·) #[]⟩
theorem rep_len (z : Str) (k : Nat) : (Str.mk ((List.replicate k z.cps).foldl (· ++ ·) #[])).length = k * z.length := by
  have e : ∀ (m : Nat) (acc : Array Nat), ((List.replicate m z.cps).foldl (· ++ ·) acc).size = acc.size + m * z.cps.size := fun m => by
    induction m with
    | zero => intro acc; simp
    | succ m ih => intro acc; rw [List.replicate_succ, List.foldl_cons, ih, Array.size_append, Nat.succ_mul]; omega
  have := e k #[]
  simpa [Str.length] using this
def rRepS : R2 := fun x y H Q => ∃ z k, x = .str z ∧ y = .int k ∧ 0 ≤ k ∧ k ≤ 1000 ∧ z.length ≤ 1000 ∧ Q (.str (repS z k)) H
theorem op_repS : OpR X (binaryOp .Mult) rRepS := by
  intro pins s σ H x y v u Q I rx ry h
  obtain ⟨z, k, rfl, rfl, h1, h2, h3, q⟩ := h
  obtain ⟨t, rfl⟩ := rx
  obtain ⟨t', rfl⟩ := ry
  refine PySem.P.mul_str (by simp; omega) (fun a _ => ?_) (fun a _ => ?_) ?_
  · have : (1000 : Int) ≤ (2 ^ 63 - 1) / k := (Int.le_ediv_iff_mul_le (by omega)).mpr (by omega)
    omega
  · have h4 : z.length * k.toNat ≤ 1000 * 1000 := Nat.mul_le_mul h3 (by omega)
    have h5 : (1000 * 1000 : Nat) ≤ sizeLine := by decide
    unfold Builtin.Str.tooLong
    exact decide_eq_false (by omega)
  · unfold repS at q
    split
    · rename_i c
      rw [if_pos c] at q
      exact ⟨by show (0 : Nat) ≤ sizeLine; omega, .str _, H, I.tok _, ⟨_, rfl⟩, q⟩
    · rename_i c
      rw [if_neg c] at q
      split
      · rename_i d
        rw [if_pos d] at q
        exact ⟨.str _, H, I, ⟨_, rfl⟩, q⟩
      · rename_i d
        rw [if_neg d] at q
        exact ⟨by rw [rep_len]; have := Nat.mul_le_mul (show k.toNat ≤ 1000 by omega) h3; show _ ≤ 2 ^ 24; omega, .str _, H, I.tok _, ⟨_, rfl⟩, q⟩
def rMulA (K : PySem.W.Frag) : R2 := fun x y H Q => match x, y with
  | .int i, .int j => CMul i j ∧ Q (.int (i * j)) H
  | .str z, .int k => 0 ≤ k ∧ k ≤ 1000 ∧ z.length ≤ 1000 ∧ Q (.str (repS z k)) H
  | .ref _, .int _ => rRep x y H Q ∨ rRepT K x y H Q
  | _, _ => False
theorem op_mulA : OpR X (binaryOp .Mult) (rMulA X.K) := by
  intro pins s σ H x y v u Q I rx ry h
  cases x <;> cases y <;> simp only [rMulA] at h
  · exact op_mul pins s σ H _ _ v u Q I rx ry ⟨_, _, rfl, rfl, h⟩
  · exact op_repS pins s σ H _ _ v u Q I rx ry ⟨_, _, rfl, rfl, h⟩
  · rcases h with h | h
    · exact op_rep pins s σ H _ _ v u Q I rx ry h
    · exact op_repT pins s σ H _ _ v u Q I rx ry h
def rGtA : R2 := fun x y H Q => match x, y with
  | .int i, .int j => Q (.bl (decide (j < i))) H
  | _, _ => False
def rGeA : R2 := fun x y H Q => match x, y with
  | .int i, .int j => Q (.bl (decide (j ≤ i))) H
  | _, _ => False
theorem op_ltA : OpR X (compareOp .Lt) rLtA := by
  intro pins s σ H x y v u Q I rx ry h
  cases x <;> cases y <;> simp only [rLtA] at h
  · exact op_lt pins s σ H _ _ v u Q I rx ry ⟨_, _, rfl, rfl, h⟩
  · obtain ⟨t, rfl⟩ := rx
    obtain ⟨t', rfl⟩ := ry
    exact PySem.P.lt_str ⟨.bl _, H, I, rfl, h⟩
theorem op_leA : OpR X (compareOp .LtE) rLeA := by
  intro pins s σ H x y v u Q I rx ry h
  cases x <;> cases y <;> simp only [rLeA] at h
  · exact op_le pins s σ H _ _ v u Q I rx ry ⟨_, _, rfl, rfl, h⟩
  · obtain ⟨t, rfl⟩ := rx
    obtain ⟨t', rfl⟩ := ry
    exact PySem.P.le_str ⟨.bl _, H, I, rfl, h⟩
abbrev rIsN : R2 := fun x y H Q => y = .non ∧ Q (.bl (decide (x = .non))) H
abbrev rNotN : R2 := fun x y H Q => y = .non ∧ Q (.bl (!decide (x = .non))) H

/-! ### not, truth -/
variable {a : Expr} {ta : TE} {tA : TT} {pos : Pos}
abbrev tTru (K : PySem.W.Frag) (ta : TE) : TT := fun σ H Q => ta σ H fun x H' => ∃ k, TruV K x H' k ∧ Q k H'

/-! ### subscripts -/
def rIxA (K : PySem.W.Frag) : R2 := rIx K
theorem ix_any : IxR X (rIxA X.K) := ix_seq
/-- a text's part -/
def rSlS : V → Option Int → Option Int → Hp → VK → Prop := fun x lo hi H Q => ∃ z, x = .str z ∧ z.length ≤ sizeLine ∧ Q (.str (Txt.slice z lo hi)) H
theorem part_of {v : Value} {lo : Option Int} (p : IsPart v lo) : ∃ l : Option (Int × Tok), v = partValue l ∧ l.map (·.1) = lo := by
  cases p with
  | none => exact ⟨none, rfl, rfl⟩
  | int i t => exact ⟨some (i, t), rfl, rfl⟩
theorem sl_str : SlR X rSlS := by
  intro pins s σ H x v vl vu lo hi sl Q I rx hs pl pu h
  obtain ⟨z, rfl, hz, q⟩ := h
  obtain ⟨t, rfl⟩ := rx
  obtain ⟨l, rfl, rfl⟩ := part_of pl
  obtain ⟨u, rfl, rfl⟩ := part_of pu
  refine ⟨"str", _, PySem.F.slot_str_getitem.lookup, typeIs_str _ _ _, ?_⟩
  exact wpAny_getItem_str_slice (l := l) (u := u) (st := none) hs rfl (post_val_or_str ⟨Nat.le_trans (Txt.slice_le z _ _) hz, fun t' k => ⟨.str _, H, I.tok k, ⟨t', rfl⟩, q⟩⟩)
def rSlA (K : PySem.W.Frag) : V → Option Int → Option Int → Hp → VK → Prop := fun x lo hi H Q => match x with
  | .str z => z.length ≤ sizeLine ∧ Q (.str (Txt.slice z lo hi)) H
  | _ => rSlL K x lo hi H Q ∨ rSlT K x lo hi H Q
theorem sl_any : SlR X (rSlA X.K) := by
  intro pins s σ H x v vl vu lo hi sl Q I rx hs pl pu h
  cases x <;> first
    | exact sl_str pins s σ H _ v vl vu lo hi sl Q I rx hs pl pu ⟨_, rfl, h⟩
    | exact (SlR.or sl_list sl_tup) pins s σ H _ v vl vu lo hi sl Q I rx hs pl pu h
abbrev rSetA : V → V → V → Hp → (Hp → Prop) → Prop := rSetL
theorem set_any : PSet X rSetA := set_list

/-! ### what a loop walks: a list or a tuple -/
def iSeq (K : PySem.W.Frag) (tl : TE) : TI := fun σ H R => tl σ H fun x H1 => ∃ a, x = .ref a ∧ (((∃ xs, SqL K H1 a xs) ∧ R (Itl K a) H1) ∨ ((∃ xs, SqT K H1 a xs) ∧ R (Itt K a) H1))
theorem PI.or {tg it : Expr} {w1 w2 : TI} (h1 : PI X tg it w1) (h2 : PI X tg it w2) : PI X tg it (fun σ H R => w1 σ H R ∨ w2 σ H R) := fun pins s σ H R I h => h.elim (h1 pins s σ H R I) (h2 pins s σ H R I)

/-! ### builtins -/
def r_call_lenA (K : PySem.W.Frag) : List V → Hp → VK → Prop := fun xs H Q => ∃ x n, xs = [x] ∧ LenV K x H n ∧ Q (.int n) H
theorem call_lenA : CallR X (.builtin "len") (r_call_lenA X.K) := call_len
def r_call_listA (K : PySem.W.Frag) : List V → Hp → VK → Prop := fun xs H Q => ∃ p ys, xs = [.ref p] ∧ (SqL K H p ys ∨ SqT K H p ys) ∧ ∀ l, H l = none → Q (.ref l) (upd H l (.lst ys))
theorem call_listA : CallR X (.type "list") (r_call_listA X.K) := call_list_of
def r_call_tupleA (K : PySem.W.Frag) : List V → Hp → VK → Prop := fun xs H Q => ∃ p ys, xs = [.ref p] ∧ ((SqL K H p ys ∧ ∀ l, H l = none → Q (.ref l) (upd H l (.tup ys))) ∨ (SqT K H p ys ∧ Q (.ref p) H))
theorem call_tupleA : CallR X (.type "tuple") (r_call_tupleA X.K) := call_tuple_of
def r_call_int1 (K : PySem.W.Frag) : List V → Hp → VK → Prop := fun xs H Q => (∃ i, xs = [.int i] ∧ Q (.int i) H) ∨ ∃ k, xs = [.bl k] ∧ Q (.int (if k then 1 else 0)) H
abbrev r_mt_append := rAppend
abbrev r_mt_clear := rClear
end
end L2

set_option linter.all false
set_option maxRecDepth 100000
set_option maxHeartbeats 4000000
/-! isinstance; a list or tuple walked; a block's scope by reckoning; not. -/
namespace L2
open PySem PySem.Spec PyProof.Rows

section
variable {X : Cx} {tg a : Expr} {ta : TE} {pos : Pos}
theorem pi_seq {l : Expr} {tl : TE} (hl : PE X l tl) : PI X tg l (iSeq X.K tl) := by
  intro pins s σ H R I h
  refine thn (hl pins s σ H _ I h) fun v s1 ⟨x, H1, I1, r1, q1⟩ => ?_
  obtain ⟨a, e, q1⟩ := q1
  subst e
  cases r1
  have fp1 : ∀ b ∈ [s1.heap.objs.size], FpOk X pins H1 b := fun b hb => by
    have e : b = s1.heap.objs.size := by simpa using hb
    subst e
    exact I1.fpOk (Nat.le_refl _) (I1.hok.fresh (Nat.le_refl _))
  rcases q1 with ⟨⟨xs, hq⟩, q⟩ | ⟨⟨xs, hq⟩, q⟩
  · obtain ⟨its, rv, p, hz⟩ := I1.list hq
    refine wpAny_pyIter_list p.isList ?_
    exact ⟨s1.heap.objs.size, [s1.heap.objs.size], _, _, H1, rfl, I1.kept (t' := s1.toks) fun b o e => Heap.get?_push_of_some _ e, turn_list a _, ⟨_, Heap.get?_push_size _ rfl, rfl, rfl⟩, fp1, q⟩
  · obtain ⟨its, rv, p, hz⟩ := I1.tuple hq
    refine wpAny_pyIter_tuple (show s1.heap.IsTuple a its.toArray from p) ?_
    exact ⟨s1.heap.objs.size, [s1.heap.objs.size], _, _, H1, rfl, I1.kept (t' := s1.toks) fun b o e => Heap.get?_push_of_some _ e, turn_tuple a _, ⟨_, Heap.get?_push_size _ rfl, rfl, rfl⟩, fp1, q⟩
/-- not x, by x's truth -/
def tNotT (K : PySem.W.Frag) (ta : TE) : TE := fun σ H Q => ta σ H fun x H1 => ∃ k, TruV K x H1 k ∧ Q (.bl (!k)) H1
theorem pe_notT (ha : PE X a ta) : PE X (.UnaryOp .Not a pos) (tNotT X.K ta) := by
  intro pins s σ H Q I h
  refine UnaryOp_ (thn (ha pins s σ H _ I h) fun v s1 ⟨x, H1, I1, r1, k, t1, q1⟩ => ?_)
  exact not_of (thn (tru_ok pins s1 σ H1 x v (fun c H2 => c = k ∧ H2 = H1) I1 r1 ⟨k, t1, rfl, rfl⟩) fun c s2 ⟨H2, I2, e1, e2⟩ => by
    subst e1; subst e2; exact ⟨.bl (!c), _, I2, rfl, q1⟩)
end

/-! ### a block's scope, reckoned -/
def cpOk (scope outer : Scope) (N cn : List Str) (cap : List Nat) : Bool :=
  scope.kind == .function && scope.names.all (fun y => y.2 != .cell) && scope.names.all (fun y => y.2 != .local || scope.names.lookup y.1 == some .local) &&
  scope.names.all (fun y => y.2 != .free || outer.names.lookup y.1 == some .cell || outer.names.lookup y.1 == some .free) && cn.all (fun x => scope.names.lookup x == some .free) && (cap.map (fun i => N[i]?) == cn.map some)
theorem cps_of {X : Cx} {scope outer : Scope} {N tn cn : List Str} {cap : List Nat} (h1 : X.env.scope = outer) (h2 : X.N = N) (h : cpOk scope outer N cn cap = true) : CpScope X scope tn cn cap := by
  unfold cpOk at h
  simp only [Bool.and_eq_true, List.all_eq_true, Bool.or_eq_true, bne_iff_ne, beq_iff_eq] at h
  obtain ⟨⟨⟨⟨⟨k1, k2⟩, k3⟩, k4⟩, k5⟩, k6⟩ := h
  refine ⟨k1, k2, fun y hy hl => (k3 y hy).resolve_left fun z => z hl, fun y hy hf => ?_, k5, by rw [h2]; exact k6⟩
  have z := k4 y hy
  show X.env.scope.names.lookup y.1 = _ ∨ X.env.scope.names.lookup y.1 = _
  rw [h1]
  rcases z with (z | z) | z
  · exact absurd hf z
  · exact .inl z
  · exact .inr z

/-! ### isinstance -/
/-- an own error class, as isinstance asks of its instances -/
structure ExcC (K : PySem.W.Frag) (C : Addr) : Prop where
  ga : PySem.W.findIn K (.ref C) "__getattribute__" = some (some (.builtin "BaseException.__getattribute__"))
  gt : PySem.W.findIn K (.ref C) "__getattr__" = some none
  be : PySem.W.mroIn K C (.type "BaseException") = some true
  cl : PySem.W.isClsIn K C = true
  ha : PySem.W.findIn K (.ref C) "__class__" = some (some (.builtin "object.__class__"))
  hn : PySem.W.specialIn K (.builtin "object.__class__") "__get__" = some (some (.builtin "getset_descriptor.__get__"))
  tk : PySem.W.takesIn K (.builtin "object.__class__") = some true
  mr : PySem.W.mroIn K C (.type "object") = some true
theorem findObj_dataN {K : PySem.W.Frag} {C : Addr} {od : Option Obj} {name : Str} {a g : Value} (hc : (PySem.W.clsIn K C).isSome = true) (ha : PySem.W.findIn K (.ref C) name = some (some a)) (hg : PySem.W.specialIn K a "__get__" = some (some g)) (ht : PySem.W.takesIn K a = some true) :
    PySem.W.findObj K C od name = some (.bind g a) := by
  obtain ⟨cd, hc⟩ := Option.isSome_iff_exists.mp hc
  unfold PySem.W.findObj
  rw [hc, Option.bind_some, ha, Option.bind_some]
  simp [hg, ht]
/-- an exception's own class is asked through the reading of attributes of its base -/
theorem exc_check {K : PySem.W.Frag} {M : Model} {A : Around} {E : Value → Shared → Prop} {Q : Unit → Shared → Prop} {s : Shared} {x D : Addr} {ox : Obj} {nm : Value} (c : ExcC K D) (X : K.In s.heap) (I : PySem.W.InstAt s.heap x ox D none) (k : Q () s) :
    wpAny M A (checkBuiltinCall "BaseException.__getattribute__" ⟨[.ref x, nm], []⟩) Q E s := by
  have e1 : builtinKind "BaseException.__getattribute__" = some .slot := by decide +kernel
  have e2 : splitId "BaseException.__getattribute__" = some ("BaseException", "__getattribute__") := by decide +kernel
  have L : PySem.W.Looks M s.heap (isInstance (.ref x) (.type "BaseException")) true := (I.type (M := M)).andThen (PySem.W.looks_mroIn (M := M) X c.be)
  have ar := PySem.F.args_bexc_ga (.ref x) nm
  obtain ⟨hh, g, d, t, os⟩ := s
  simp only [checkBuiltinCall, e1, e2]
  refine wpAny_bind (L.at ?_)
  simp only [Bool.not_true, Bool.false_eq_true, if_false]
  cases hs : Manifest.signature? "BaseException.__getattribute__" with
  | none => exact wpAny_pure k
  | some sig =>
    simp only [argsOk, hs] at ar
    have z : Bind.checkArgs "BaseException.__getattribute__" sig ⟨[.ref x, nm], []⟩ = pure () := ar
    show wpAny M A (Bind.checkArgs "BaseException.__getattribute__" sig ⟨[.ref x, nm], []⟩) Q E _
    rw [z]; exact wpAny_pure k
theorem exc_class {K : PySem.W.Frag} {prog : Program} {w : World} {A : Around} {E : Value → Shared → Prop} {Q : Option Value → Shared → Prop} {s : Shared} {x D : Addr} {ox : Obj} (c : ExcC K D) (X : K.In s.heap) (I : PySem.W.InstAt s.heap x ox D none)
    (k : Q (some (.ref D)) { s with toks := s.toks + 1 }) : wpAny (model prog w) A (getAttr? (.ref x) "__class__") Q E s := by
  obtain ⟨hh, g, d, t, os⟩ := s
  have L0 := I.type (M := model prog w)
  have L1 := PySem.W.looks_findIn (M := model prog w) X c.ga
  have L2 := PySem.W.looks_findIn (M := model prog w) X c.gt
  have L3 := PySem.W.looks_find (M := model prog w) X I (findObj_dataN (name := "__class__") c.cl c.ha c.hn c.tk)
  unfold getAttr? getAttrBy? getAttrBy
  refine wpAny_bind (wpAny_mkText (wpAny_bind (wpAny_attempt (wpAny_holding (wpAny_bind (L0.at (wpAny_bind (L1.at ?_))))))))
  show wpAny _ _ (getAttrByItsOwn _ _ _ _ _ _) _ _ _
  unfold getAttrByItsOwn
  refine wpAny_bind (L2.at (wpAny_bind (wpAny_attempt (wpAny_holding ?_))))
  show wpAny _ _ (boundAndCalled _ _ _) _ _ _
  unfold boundAndCalled
  rw [PySem.F.attr_ValueError.ga.bind (.ref x)]
  refine wpAny_bind (wpAny_pure (wpAny_call (codeAny_call_builtin PySem.F.attr_ValueError.ga.plain PySem.F.entry_bexc_ga (exc_check c X I ?_))))
  refine wpAny_bind (wpAny_pure (wpAny_bind (wpAny_pure (wpAny_bind (L0.at (wpAny_bind (L3.at ?_)))))))
  show wpAny _ _ (holding [_] (call _ _) >>= ret) _ _ _
  refine wpAny_bind (wpAny_holding (wpAny_call (PySem.W.class_get (ox := ox) (od := none) X I c.mr (wpAny_pure ?_))))
  exact PySem.W.handed_on rfl (wpAny_pure k)
theorem kitx_exc {K : PySem.W.Frag} {x D : Addr} (c : ExcC K D) : PySem.W.KitX K (.ref x) (.ref D) (ExcAt x (.ref D)) := by
  have inst : ∀ {h : Heap}, ExcAt x (.ref D) h → ∃ ox, PySem.W.InstAt h x ox D none := fun {h} ⟨oe, vs, e1, e2, e3, e4⟩ => by
    refine ⟨oe, e1, e2, ?_, ?_⟩
    · unfold PySem.W.notCls; rw [e4]
    · rw [e3]; trivial
  have cls : ∃ cd, PySem.W.clsIn K D = some cd := Option.isSome_iff_exists.mp c.cl
  refine ⟨fun M h _ p => (inst p).elim fun _ I => I.type, fun M h X p => ?_, fun h tp dd its n sl X htp => ?_, fun {prog w A E Q s} X p k => ?_⟩
  · obtain ⟨cd, hc⟩ := cls
    unfold PySem.W.clsIn at hc
    split at hc
    · rename_i c' d' cd' sl' ho
      intro A' Q' E' s' k q
      unfold isType loadHead
      exact wpAny_bind (wpAny_loadPart (k _ _ (X _ _ ho)) (wpAny_pure q))
    · cases hc
  · obtain ⟨cd, hc⟩ := cls
    refine Bool.eq_false_iff.mpr fun q => ?_
    have e : D = tp := Value.ref.inj (beq_iff_eq.mp q)
    subst e
    unfold PySem.W.clsIn at hc
    split at hc
    · rename_i c' d' cd' sl' ho
      have z := (X _ _ ho).symm.trans htp
      cases z
    · cases hc
  · obtain ⟨ox, I⟩ := inst p
    exact exc_class c X I k

/-- a value's kind: the layer's, or an exception that a name holds -/
def TyX (K : PySem.W.Frag) (H : Hp) (x : V) (t : Value) : Prop := TyOf K H x t ∨ ∃ a C, x = .ref a ∧ t = .ref C ∧ H a = some (.ext (ExcAt a (.ref C))) ∧ ExcC K C
/-- a class, as a value -/
inductive ClsV : V → Value → Prop
  | own (C : Addr) : ClsV (.ref C) (.ref C)
  | ty (n : String) : ClsV (.ty n) (.type n)
theorem ClsV.rel {y : V} {c u : Value} (h : ClsV y c) (r : RelV y u) : u = c := by
  cases h <;> exact r
theorem clsVs_rel : ∀ {ys : List V} {cs us : List Value}, Paired ClsV ys cs → Vals ys us → us = cs
  | _, _, _, .nil, .nil => rfl
  | _, _, _, .cons h t, .cons r rr => by rw [h.rel r, clsVs_rel t rr]
def r_call_isinst (K : PySem.W.Frag) : List V → Hp → VK → Prop := fun xs H Q => ∃ x y t b, xs = [x, y] ∧ TyX K H x t ∧
  ((∃ c, ClsV y c ∧ PySem.W.kitOne K t c = some b) ∨ ∃ p ys cs, y = .ref p ∧ SqT K H p ys ∧ Paired ClsV ys cs ∧ PySem.W.kitAny K t cs = some b) ∧ Q (.bl b) H
section
variable {X : Cx}
/-- by the kind's own facts -/
theorem TyX.kit {pins : List (Addr × Obj)} {σ : St} {H : Hp} {s : Shared} {x : V} {t u : Value} (I : Inv X pins σ H s) (h : TyX X.K H x t) (r : RelV x u) : ∃ φ : Heap → Prop, PySem.W.KitX X.K u t φ ∧ φ s.heap ∧ u ≠ .builtin "__main__.__loader__#opaque" := by
  rcases h with h | ⟨a, C, rfl, rfl, e, c⟩
  · cases h with
    | non => cases (show u = Value.none from r); exact ⟨_, PySem.W.kitx_none, trivial, fun z => nomatch z⟩
    | bl y => cases (show u = Value.bool y from r); exact ⟨_, PySem.W.kitx_bool, trivial, fun z => nomatch z⟩
    | int i => obtain ⟨t, q⟩ := (show ∃ t, u = Value.int i t from r); cases q; exact ⟨_, PySem.W.kitx_int, trivial, fun z => nomatch z⟩
    | str y => obtain ⟨t, q⟩ := (show ∃ t, u = Value.str y t from r); cases q; exact ⟨_, PySem.W.kitx_str, trivial, fun z => nomatch z⟩
    | flt y => obtain ⟨t, q⟩ := (show ∃ t, u = Value.float y t from r); cases q; exact ⟨_, PySem.W.kitx_float, trivial, fun z => nomatch z⟩
    | @lst a xs ea =>
      cases (show u = Value.ref a from r)
      obtain ⟨_, _, n, _, h1⟩ := (show ObjOk X.prog X.w H s.heap a (.lst xs) from I.hok a _ ea)
      exact ⟨_, PySem.W.kitx_list, ⟨_, h1, rfl⟩, fun z => nomatch z⟩
    | @frz a ob xs ea =>
      cases (show u = Value.ref a from r)
      obtain ⟨_, _, _, n, _, h1⟩ := (show ObjOk X.prog X.w H s.heap a (.frz ob (.lst xs)) from I.hok a _ ea)
      exact ⟨_, PySem.W.kitx_list, ⟨_, h1, rfl⟩, fun z => nomatch z⟩
    | @tup a xs ea =>
      cases (show u = Value.ref a from r)
      obtain ⟨_, _, _, p⟩ := (show ObjOk X.prog X.w H s.heap a (.tup xs) from I.hok a _ ea)
      obtain ⟨o, h1, h2, _⟩ := p
      exact ⟨_, PySem.W.kitx_tuple, ⟨o, h1, h2⟩, fun z => nomatch z⟩
    | @dK a kvs ea =>
      cases (show u = Value.ref a from r)
      obtain ⟨_, _, vs, _, p⟩ := (show ObjOk X.prog X.w H s.heap a (.dK kvs) from I.hok a _ ea)
      obtain ⟨o, es, ep, h1, h2, _⟩ := p
      exact ⟨_, PySem.W.kitx_dict, ⟨o, h1, h2.1⟩, fun z => nomatch z⟩
    | @dT a kvs ea =>
      cases (show u = Value.ref a from r)
      obtain ⟨_, _, xs, _, o, es, ep, h1, h2, _⟩ := (show ObjOk X.prog X.w H s.heap a (.dT kvs) from I.hok a _ ea)
      exact ⟨_, PySem.W.kitx_dict, ⟨o, h1, h2.1⟩, fun z => nomatch z⟩
    | @ins a C dx fs ea cl ha hn htk hm =>
      cases (show u = Value.ref a from r)
      obtain ⟨mA, O, _⟩ := ins_get I.hok ea
      obtain ⟨od, J, _⟩ := O.look
      exact ⟨_, PySem.W.kitx_own (cl.get _) cl.hd ha hn htk hm, J, fun z => nomatch z⟩
  · cases (show u = Value.ref a from r)
    have p : ExcAt a (.ref C) s.heap := (show ObjOk X.prog X.w H s.heap a (.ext (ExcAt a (.ref C))) from I.hok a _ e).1
    exact ⟨_, kitx_exc c, p, fun z => nomatch z⟩
theorem call_isinst : CallR X (.builtin "isinstance") (r_call_isinst X.K) := by
  intro pins s σ H xs us Q I r h
  obtain ⟨x, y, t, b, rfl, ty, hc, q⟩ := h
  obtain ⟨u, v, rfl, rx, ry⟩ := Vals.two r
  obtain ⟨φ, Z, p, ne⟩ := ty.kit I rx
  rcases hc with ⟨c, hy, e⟩ | ⟨pt, ys, cs, rfl, hs, hcs, e⟩
  · have := hy.rel ry
    subst this
    exact PySem.W.kia_one Z I.kIn p e ne fun tk => ⟨.bl b, H, I.tok tk, rfl, q⟩
  · cases (show v = Value.ref pt from ry)
    obtain ⟨its, rv, ⟨⟨c1, c2, c3, c4⟩, e1, e2, n, e3⟩, _⟩ := I.tuple hs
    obtain rfl : c1 = _ := e2
    obtain rfl : c3 = _ := e3
    have := clsVs_rel hcs rv
    subst this
    exact PySem.W.kia_tup Z I.kIn p e1 e ne fun tk => ⟨.bl b, H, I.tok tk, rfl, q⟩
end
end L2

set_option linter.all false
/-! The readings at their arguments: what simp runs. (Printed by tools/extr.py.) -/
namespace L2
open PySem PySem.Spec PyProof.Rows
/-- the turns of a comprehension over J -/
def cBody (J : It) (g : TG) (tt : TT) (te : TE) (k : Nat) (cap : List Nat) (σ : St) (H1 : Hp) (Q : VK) : Prop :=
  ∃ W : Nat → Nat → St → List V → Hp → Prop, (∃ m, W 0 m (capSt k cap σ) [] H1) ∧ ∀ i m σ' ys H, W i m σ' ys H →
    (J.stop i H ∧ ∀ p, H p = none → Q (.ref p) (upd H p (.lst ys))) ∨
    (J.go i H ∧ ys.length < sizeLine ∧ ∀ x H', J.yld i H x H' → g x σ' H' fun σ2 H2 => tt σ2 H2 fun b H3 =>
      if b = true then ∃ N : VK, (∀ y H4, N y H4 → ∃ m', m' < m ∧ W (i + 1) m' σ2 (ys ++ [y]) H4) ∧ te σ2 H3 N else ∃ m', m' < m ∧ W (i + 1) m' σ2 ys H3)
/-- the turns of a loop over J -/
def fBody (J : It) (g : TG) (tb : TS) (D : Ends) (σ : St) (H1 : Hp) : Prop :=
  ∃ W : Nat → Nat → St → Hp → Prop, (∃ m, W 0 m σ H1) ∧ ∀ i m σ H, W i m σ H →
    (J.stop i H ∧ D.nx σ H) ∨ (J.go i H ∧ ∃ N : St → Hp → Prop, (∀ σ' H', N σ' H' → ∃ m', m' < m ∧ W (i + 1) m' σ' H') ∧ ∀ x H', J.yld i H x H' → g x σ H' fun σ2 H2 => tb { D with nx := N, ct := N, bk := D.nx } σ2 H2)
section
variable {K : PySem.W.Frag} {ta tb tc to ti tv tl : TE} {tt tA tB' tu : TT} {s1 s2 : TS} {r r' : R2} {σ : St} {H : Hp} {Q : VK} {D : Ends} {QB : Bool → Hp → Prop} {as : TA} {g : TG} {gs : TGs} {te : TE} {k i : Nat} {cap : List Nat} {f m : Str} {C : Addr} {sp : Sp} {dvs : List V} {E : St → XK} {v : V} {vs : List V} {QA : List V → Hp → Prop} {QG : St → Hp → Prop} {QO : Option Int → Hp → Prop}
theorem tSeq_ap : tSeq s1 s2 D σ H = (s1 { D with nx := s2 D } σ H) := rfl
theorem tNext_ap : tNext D σ H = (D.nx σ H) := rfl
theorem tBreak_ap : tBreak D σ H = (D.bk σ H) := rfl
theorem tCont_ap : tCont D σ H = (D.ct σ H) := rfl
theorem tAsg_ap : tAsg ta g D σ H = (ta σ H fun x H1 => g x σ H1 D.nx) := rfl
theorem tDrop_ap : tDrop ta D σ H = (ta σ H fun _ H1 => D.nx σ H1) := rfl
theorem tRet_ap : tRet ta D σ H = (ta σ H D.rt) := rfl
theorem tRetN_ap : tRetN D σ H = (D.rt .non H) := rfl
theorem tIfS_ap : tIfS tt s1 s2 D σ H = (tt σ H fun b H1 => if b = true then s1 D σ H1 else s2 D σ H1) := rfl
theorem tC_ap : tC v σ H Q = (Q v H) := rfl
theorem tOp_ap : tOp r ta tb σ H Q = (ta σ H fun x H1 => tb σ H1 fun y H2 => r x y H2 Q) := rfl
theorem tTest_ap : tTest ta σ H QB = (ta σ H fun x H' => ∃ k, x = .bl k ∧ QB k H') := rfl
theorem tChain_ap : tChain r r' ta tb tc σ H Q = (ta σ H fun x H1 => tb σ H1 fun y H2 => r x y H2 fun z H3 => ∃ k, z = .bl k ∧ (if k = true then tc σ H3 fun w' H4 => r' y w' H4 Q else Q (.bl false) H3)) := rfl
theorem tNot_ap : tNot tt σ H QB = (tt σ H fun c H1 => QB (!c) H1) := rfl
theorem tAnd_ap : tAnd tt tu σ H QB = (tt σ H fun c H1 => if c = true then tu σ H1 QB else QB false H1) := rfl
theorem tOr_ap : tOr tt tu σ H QB = (tt σ H fun c H1 => if c = true then QB true H1 else tu σ H1 QB) := rfl
theorem tAndV_ap : tAndV ta tb σ H Q = (ta σ H fun x H1 => ∃ c, x = .bl c ∧ if c = true then tb σ H1 Q else Q (.bl false) H1) := rfl
theorem tOrV_ap : tOrV ta tb σ H Q = (ta σ H fun x H1 => ∃ c, x = .bl c ∧ if c = true then Q (.bl true) H1 else tb σ H1 Q) := rfl
theorem tNotT_ap : tNotT K ta σ H Q = (ta σ H fun x H1 => ∃ k, TruV K x H1 k ∧ Q (.bl (!k)) H1) := rfl
theorem tTru_ap : tTru K ta σ H QB = (ta σ H fun x H' => ∃ k, TruV K x H' k ∧ QB k H') := rfl
theorem tIf_ap : tIf tt ta tb σ H Q = (tt σ H fun c H1 => if c = true then ta σ H1 Q else tb σ H1 Q) := rfl
theorem tNil_ap : tNil σ H QA = (QA [] H) := rfl
theorem tCons_ap : tCons ta as σ H QA = (ta σ H fun x H1 => as σ H1 fun xs H2 => QA (x :: xs) H2) := rfl
theorem tTup_ap : tTup as σ H Q = (as σ H fun xs H1 => xs.length ≤ sizeLine ∧ ∀ p, H1 p = none → Q (.ref p) (upd H1 p (.tup xs))) := rfl
theorem tLst_ap : tLst as σ H Q = (as σ H fun xs H1 => xs.length ≤ sizeLine ∧ ∀ p, H1 p = none → Q (.ref p) (upd H1 p (.lst xs))) := rfl
theorem tCall_ap : tCall sp dvs E as σ H Q = (as σ H fun vs H1 => sp (vs ++ dvs) H1 Q (E σ)) := rfl
theorem tMeth_ap : tMeth C m sp dvs E ta as σ H Q = (ta σ H fun x H1 => ∃ a dx fs, x = .ref a ∧ H1 a = some (.ins C dx fs) ∧ fs.lookup m = none ∧ as σ H1 fun vs H2 => sp (x :: (vs ++ dvs)) H2 Q (E σ)) := rfl
theorem tMake_ap : tMake C sp dvs E as σ H Q = (as σ H fun vs H1 => ∀ x dx, H1 x = none → H1 dx = none → dx ≠ x → sp (.ref x :: (vs ++ dvs)) (upd (upd H1 dx (.own x)) x (.ins C dx [])) (fun v H2 => v = .non ∧ Q (.ref x) H2) (E σ)) := rfl
theorem tFld_ap : tFld K ta f σ H Q = (ta σ H fun x H1 => ∃ a C dx fs v, x = .ref a ∧ H1 a = some (.ins C dx fs) ∧ Cls K C ∧ NoAttr K C f ∧ fs.lookup f = some v ∧ Q v H1) := rfl
theorem sFld_ap : sFld K ta tv f D σ H = (tv σ H fun y H1 => ta σ H1 fun x H2 => ∃ a C dx fs, x = .ref a ∧ H2 a = some (.ins C dx fs) ∧ Cls K C ∧ NoAttr K C f ∧ fs.length < 1000 ∧ D.nx σ (upd H2 a (.ins C dx (putF f y fs)))) := rfl
theorem tUn_ap {ru : V → Hp → VK → Prop} : tUn ru ta σ H Q = ta σ H fun x H1 => ru x H1 Q := rfl
theorem tCB_ap {rc : List V → Hp → VK → Prop} : tCB rc as σ H Q = as σ H fun vs H1 => rc vs H1 Q := rfl
theorem tRaise_ap : tRaise C E as D σ H = (as σ H fun vs H1 => vs.length ≤ sizeLine ∧ E σ (.ref C) none H1) := rfl
theorem tTry_ap {sb : (St → XK) → TS} {th : TH} : tTry sb th D σ H = sb (fun σ' cls _ H' => th cls D σ' H') D σ H := rfl
theorem gName_ap : gName i v σ H QG = (QG (σ.set i (some v)) H) := rfl
theorem gSub_ap {rs : TSet} : gSub to ti rs v σ H QG = to σ H fun o H1 => ti σ H1 fun i H2 => rs o i v H2 fun H3 => QG σ H3 := rfl
theorem gTup_ap : gTup K k gs v σ H QG = (∃ a xs, v = .ref a ∧ SqT K H a xs ∧ xs.length = k ∧ gs xs σ H QG) := rfl
theorem gNil_ap : gNil vs σ H QG = ((vs = [] ∧ QG σ H)) := rfl
theorem gCons_ap : gCons g gs vs σ H QG = (∃ v r, vs = v :: r ∧ g v σ H fun σ' H' => gs r σ' H' QG) := rfl
theorem tSl_ap {rs : V → Option Int → Option Int → Hp → VK → Prop} {ol oh : TO} : tSl rs ta ol oh σ H Q = ta σ H fun x H1 => ol σ H1 fun l H2 => oh σ H2 fun u H3 => rs x l u H3 Q := rfl
theorem tNoPart_ap : tNoPart σ H QO = (QO none H) := rfl
theorem tPart_ap : tPart ta σ H QO = (ta σ H fun x H1 => ∃ i, x = .int i ∧ QO (some i) H1) := rfl
theorem tBM_ap {T : String} {rm : V → List V → Hp → VK → Prop} : tBM K T rm ta as σ H Q = ta σ H fun x H1 => tyV K T x H1 ∧ as σ H1 fun xs H2 => rm x xs H2 Q := rfl
theorem tBM0_ap {T : String} {rm : V → List V → Hp → VK → Prop} : tBM0 K T rm ta σ H Q = ta σ H fun x H1 => tyV K T x H1 ∧ rm x [] H1 Q := rfl
theorem tAug_ap {tip : TIp} : tAug i ta tip D σ H = ∃ x, σ[i]? = some (some x) ∧ ta σ H fun y H1 => tip x y H1 fun z H2 => D.nx (σ.set i (some z)) H2 := rfl
theorem tTrue_ap : tTrue σ H QB = (QB true H) := rfl
theorem tComp_rng1_ap : tComp (iRng1 as) g tt te k cap σ H Q = (as σ H fun vs H1 => ∃ j : Int, vs = [.int j] ∧ -(2 ^ 62) ≤ j ∧ j < 2 ^ 62 ∧ cBody (Itr 0 j.toNat) g tt te k cap σ H1 Q) := rfl
theorem tComp_rng2_ap : tComp (iRng2 as) g tt te k cap σ H Q = (as σ H fun vs H1 => ∃ i j : Int, vs = [.int i, .int j] ∧ (-(2 ^ 62) ≤ i ∧ i < 2 ^ 62 ∧ -(2 ^ 62) ≤ j ∧ j < 2 ^ 62) ∧ cBody (Itr i (j - i).toNat) g tt te k cap σ H1 Q) := rfl
theorem tComp_seq_ap : tComp (iSeq K tl) g tt te k cap σ H Q = (tl σ H fun x H1 => ∃ a, x = .ref a ∧ (((∃ xs, SqL K H1 a xs) ∧ cBody (Itl K a) g tt te k cap σ H1 Q) ∨ ((∃ xs, SqT K H1 a xs) ∧ cBody (Itt K a) g tt te k cap σ H1 Q))) := rfl
theorem tFor_rng1_ap : tFor (iRng1 as) g s1 D σ H = (as σ H fun vs H1 => ∃ j : Int, vs = [.int j] ∧ -(2 ^ 62) ≤ j ∧ j < 2 ^ 62 ∧ fBody (Itr 0 j.toNat) g s1 D σ H1) := rfl
theorem tFor_rng2_ap : tFor (iRng2 as) g s1 D σ H = (as σ H fun vs H1 => ∃ i j : Int, vs = [.int i, .int j] ∧ (-(2 ^ 62) ≤ i ∧ i < 2 ^ 62 ∧ -(2 ^ 62) ≤ j ∧ j < 2 ^ 62) ∧ fBody (Itr i (j - i).toNat) g s1 D σ H1) := rfl
theorem tFor_seq_ap : tFor (iSeq K tl) g s1 D σ H = (tl σ H fun x H1 => ∃ a, x = .ref a ∧ (((∃ xs, SqL K H1 a xs) ∧ fBody (Itl K a) g s1 D σ H1) ∨ ((∃ xs, SqT K H1 a xs) ∧ fBody (Itt K a) g s1 D σ H1))) := rfl
theorem sFldAug_ap {rd : V → V → Hp → VK → Prop} : sFldAug K ta tv rd f D σ H = (ta σ H fun x H1 => ∃ a C dx fs v, x = .ref a ∧ H1 a = some (.ins C dx fs) ∧ Cls K C ∧ NoAttr K C f ∧ fs.lookup f = some v ∧ tv σ H1 fun y H2 => rd v y H2 fun z H3 => ∃ dx' fs', H3 a = some (.ins C dx' fs') ∧ fs'.length < 1000 ∧ D.nx σ (upd H3 a (.ins C dx' (putF f z fs')))) := rfl
end
end L2


set_option linter.all false
/-! The readings run from above: equations at known values. -/
namespace L2
open PySem PySem.Spec PyProof.Rows
section
variable {K : PySem.W.Frag} {σ : St} {H : Hp} {Q : VK} {P : Bool → Prop} {PI' : Int → Prop} {PV : V → Prop} {QB : Bool → Hp → Prop} {v : V} {x : Option V} {i j : Int} {n : Nat} {b b' : Bool} {s s' : Str} {p q : Addr} {f : Int → Int → V} {C : Int → Int → Prop}
/-- a local, read by reckoning: its two rules are true by definition, so that simp writes no proof of them -/
def tVr (i : Nat) : TE := fun σ H Q => match σ[i]? with
  | some (some v) => Q v H
  | _ => False
theorem tVr_0 : tVr 0 (some v :: σ) H Q = Q v H := rfl
theorem tVr_s : tVr (n + 1) (x :: σ) H Q = tVr n σ H Q := rfl
theorem tVr_eq (i : Nat) : tVr i = tVar i := by
  funext σ H Q
  unfold tVr tVar
  cases σ[i]? with
  | none => simp
  | some o => cases o <;> simp
theorem ex_bl {P : Bool → Prop} : (∃ k, V.bl b = V.bl k ∧ P k) = P b := by simp
theorem ex_int {P : Int → Prop} : (∃ k, V.int i = V.int k ∧ P k) = P i := by simp
theorem ex_ref {P : Addr → Prop} : (∃ k, V.ref p = V.ref k ∧ P k) = P p := by simp
theorem ex_tru_bl {P : Bool → Prop} : (∃ k, TruV K (.bl b) H k ∧ P k) = P b := by simp [TruV]
theorem ex_tru_int {P : Bool → Prop} : (∃ k, TruV K (.int i) H k ∧ P k) = P (i != 0) := by simp [TruV]
theorem ex_tru_non {P : Bool → Prop} : (∃ k, TruV K .non H k ∧ P k) = P false := by simp [TruV]
theorem rAddA_i : rAddA K (.int i) (.int j) H Q = Q (.int (i + j)) H := rfl
theorem rAddA_s : rAddA K (.str s) (.str s') H Q = (s.length + s'.length ≤ sizeLine ∧ Q (.str (s ++ s')) H) := rfl
theorem rAddA_r : rAddA K (.ref p) (.ref q) H Q = (rCat (.ref p) (.ref q) H Q ∨ rCatT K (.ref p) (.ref q) H Q ∨ rCatT0 K (.ref p) (.ref q) H Q) := rfl
theorem rLeA_s {x y : Str} : rLeA (.str x) (.str y) H Q = Q (.bl (!decide (y.cps.toList < x.cps.toList))) H := rfl
theorem rLtA_s {x y : Str} : rLtA (.str x) (.str y) H Q = Q (.bl (decide (x.cps.toList < y.cps.toList))) H := rfl
theorem rSlA_s {x : Str} {lo hi : Option Int} : rSlA K (.str x) lo hi H Q = (x.length ≤ sizeLine ∧ Q (.str (Txt.slice x lo hi)) H) := rfl
theorem rMulA_i : rMulA K (.int i) (.int j) H Q = (CMul i j ∧ Q (.int (i * j)) H) := rfl
theorem rMulA_s {z : Str} {j : Int} : rMulA K (.str z) (.int j) H Q = (0 ≤ j ∧ j ≤ 1000 ∧ z.length ≤ 1000 ∧ Q (.str (repS z j)) H) := rfl
theorem rMulA_r : rMulA K (.ref p) (.int j) H Q = (rRep (.ref p) (.int j) H Q ∨ rRepT K (.ref p) (.int j) H Q) := rfl
theorem rI0_i : rI0 f (.int i) (.int j) H Q = Q (f i j) H := by simp [rI0]
theorem rI_i : rI C f (.int i) (.int j) H Q = (C i j ∧ Q (f i j) H) := by simp [rI]
theorem rU_i {g : Int → V} : rU g (.int i) H Q = Q (g i) H := by simp [rU]
theorem rLtA_i : rLtA (.int i) (.int j) H Q = Q (.bl (decide (i < j))) H := rfl
theorem rLeA_i : rLeA (.int i) (.int j) H Q = Q (.bl (decide (i ≤ j))) H := rfl
theorem rGtA_i : rGtA (.int i) (.int j) H Q = Q (.bl (decide (j < i))) H := rfl
theorem rGeA_i : rGeA (.int i) (.int j) H Q = Q (.bl (decide (j ≤ i))) H := rfl
theorem rEqA_i : rEqA K (.int i) (.int j) H Q = Q (.bl (decide (i = j))) H := by simp [rEqA, scal]
theorem rEqA_s : rEqA K (.str s) (.str s') H Q = Q (.bl (decide (s = s'))) H := by simp [rEqA, scal]
theorem rEqA_b : rEqA K (.bl b) (.bl b') H Q = Q (.bl (decide (b = b'))) H := by simp [rEqA, scal]
theorem rEqA_ni : rEqA K .non (.int j) H Q = Q (.bl false) H := by simp [rEqA, scal]
theorem rEqA_in : rEqA K (.int j) .non H Q = Q (.bl false) H := by simp [rEqA, scal]
theorem rEqA_nn : rEqA K .non .non H Q = Q (.bl true) H := by simp [rEqA, scal]
theorem rNeA_i : rNeA K (.int i) (.int j) H Q = Q (.bl (!decide (i = j))) H := by simp [rNeA, scal]
theorem rNeA_s : rNeA K (.str s) (.str s') H Q = Q (.bl (!decide (s = s'))) H := by simp [rNeA, scal]
theorem rNeA_b : rNeA K (.bl b) (.bl b') H Q = Q (.bl (!decide (b = b'))) H := by simp [rNeA, scal]
theorem rNeA_ni : rNeA K .non (.int j) H Q = Q (.bl true) H := by simp [rNeA, scal]
theorem rNeA_in : rNeA K (.int j) .non H Q = Q (.bl true) H := by simp [rNeA, scal]
theorem rNeA_nn : rNeA K .non .non H Q = Q (.bl false) H := by simp [rNeA, scal]
theorem rIsN_ap : rIsN v .non H Q = Q (.bl (decide (v = .non))) H := by simp [rIsN]
theorem rNotN_ap : rNotN v .non H Q = Q (.bl (!decide (v = .non))) H := by simp [rNotN]
theorem ipI_i {g : Int → Int → Int} : ipI g (.int i) (.int j) H Q = Q (.int (g i j)) H := by simp [ipI]
theorem rAdd_i : rAdd (.int i) (.int j) H Q = Q (.int (i + j)) H := by simp [rAdd]
theorem len_i : r_call_lenA K [v] H Q = ∃ n : Nat, LenV K v H n ∧ Q (.int n) H := by simp [r_call_lenA]
theorem int_b : r_call_int1 K [.bl b] H Q = Q (.int (if b then 1 else 0)) H := by simp [r_call_int1]
theorem int_i : r_call_int1 K [.int i] H Q = Q (.int i) H := by simp [r_call_int1]
theorem list_r : r_call_listA K [.ref p] H Q = ∃ ys, (SqL K H p ys ∨ SqT K H p ys) ∧ ∀ l, H l = none → Q (.ref l) (upd H l (.lst ys)) := by simp [r_call_listA]
theorem tuple_r : r_call_tupleA K [.ref p] H Q = ∃ ys, ((SqL K H p ys ∧ ∀ l, H l = none → Q (.ref l) (upd H l (.tup ys))) ∨ (SqT K H p ys ∧ Q (.ref p) H)) := by simp [r_call_tupleA]
end
theorem pvr {X : Cx} (i : Nat) {x : Str} {pos : Pos} (hN : X.N[i]? = some x := by rfl) (hv : Vis X.env.scope x := by first | exact Or.inl rfl | exact Or.inr (Or.inl rfl) | exact Or.inr (Or.inr rfl)) (hd : (x == ("__debug__" : Str)) = false := by decide)
    (hcd : (x == ("__classdict__" : Str)) = false := by decide) : PE X (.Name x pos) (tVr i) := by
  rw [tVr_eq]
  exact pe_var hN hv hd hcd
end L2

set_option linter.all false
/-! Comprehensions by what holds between two turns; small words for readings. -/
namespace L2
open PySem PySem.Spec PyProof.Rows
abbrev ends (Q : VK) : Ends := { nx := fun _ H' => Q .non H', rt := Q }
/-- the slots that a block draws -/
abbrev capV (cap : List Nat) (σ : St) : St := cap.map fun i => (σ[i]?).join
section
variable {K : PySem.W.Frag} {te : TE} {cap : List Nat} {σ : St} {H : Hp} {Q : VK}
theorem comp_range {lo : Int} {n : Nat} (hn : n ≤ sizeLine) (Pv : Nat → List V → Hp → Prop) (h0 : Pv 0 [] H) (hs : ∀ i ys H, i < n → ys.length = i → Pv i ys H → te (some (.int (lo + i)) :: capV cap σ) H fun y H2 => Pv (i + 1) (ys ++ [y]) H2)
    (hd : ∀ ys H, ys.length = n → Pv n ys H → ∀ p, H p = none → Q (.ref p) (upd H p (.lst ys))) :
    cBody (Itr lo n) (gName 0) tTrue te 1 cap σ H Q := by
  refine ⟨fun i m σ' ys H => m = n - i ∧ i ≤ n ∧ ys.length = i ∧ (∃ x0, σ' = x0 :: capV cap σ) ∧ Pv i ys H, ⟨n, by simp, Nat.zero_le _, rfl, ⟨none, rfl⟩, h0⟩, ?_⟩
  rintro i m σ' ys H ⟨rfl, hi, hl, ⟨x0, rfl⟩, p⟩
  by_cases hlt : i < n
  · refine .inr ⟨hlt, by omega, fun x H' y => ?_⟩
    obtain ⟨e, y⟩ := y
    subst e y
    simp only [gName, tTrue, if_true]
    refine ⟨_, fun y H4 q => ⟨n - (i + 1), by omega, rfl, hlt, ?_, ⟨_, rfl⟩, q⟩, hs i ys _ hlt hl p⟩
    rw [List.length_append, List.length_singleton, hl]
  · have e : i = n := by omega
    subst e
    exact .inl ⟨Nat.le_refl _, hd ys H hl p⟩
theorem for_listB {b : Addr} {xs : List V} {g : TG} {tb : TS} {D : Ends} (Pv : Nat → St → Hp → Prop) (h0 : Pv 0 σ H) (hl : ∀ i σ H, i ≤ xs.length → Pv i σ H → SqL K H b xs)
    (hs : ∀ i x σ H, xs[i]? = some x → Pv i σ H → g x σ H fun σ2 H2 => tb { D with nx := Pv (i + 1), ct := Pv (i + 1), bk := D.nx } σ2 H2) (hd : ∀ σ H, Pv xs.length σ H → D.nx σ H) : fBody (Itl K b) g tb D σ H := for_list Pv h0 hl hs hd
theorem for_rangeB {lo : Int} {n : Nat} {g : TG} {tb : TS} {D : Ends} (Pv : Nat → St → Hp → Prop) (h0 : Pv 0 σ H)
    (hs : ∀ i σ H, i < n → Pv i σ H → g (.int (lo + i)) σ H fun σ2 H2 => tb { D with nx := Pv (i + 1), ct := Pv (i + 1), bk := D.nx } σ2 H2) (hd : ∀ σ H, Pv n σ H → D.nx σ H) : fBody (Itr lo n) g tb D σ H := for_range Pv h0 hs hd
end
theorem isinst_one {K : PySem.W.Frag} {H : Hp} {x y : V} {t c : Value} {b : Bool} {Q : VK} (ty : TyX K H x t) (cv : ClsV y c) (k : PySem.W.kitOne K t c = some b) (q : Q (.bl b) H) : r_call_isinst K [x, y] H Q := ⟨x, y, t, b, rfl, ty, .inl ⟨c, cv, k⟩, q⟩
theorem same_upd {H : Hp} {p : Addr} {o : HO} (h : H p = none) : Same H (upd H p o) := fun b u e => by rw [upd_ne (ne_of_none e h)]; exact e
theorem paired_at {α β : Type} {F : α → β → Prop} : ∀ {l : List α} {m : List β} {i : Nat} {y : β}, Paired F l m → m[i]? = some y → ∃ x, l[i]? = some x ∧ F x y
  | _, _, _, _, .nil, e => by simp at e
  | _, _, 0, _, .cons r _, e => by simp at e; subst e; exact ⟨_, rfl, r⟩
  | _, _, i + 1, y, .cons _ t, e => by
    obtain ⟨u, h1, h2⟩ := paired_at (i := i) (y := y) t (by simpa using e)
    exact ⟨u, by simpa using h1, h2⟩
theorem paired_set {α β : Type} {F : α → β → Prop} {x : α} {y : β} (r : F x y) : ∀ {l : List α} {m : List β} (i : Nat), Paired F l m → Paired F (l.set i x) (m.set i y)
  | _, _, _, .nil => .nil
  | _, _, 0, .cons _ t => .cons r t
  | _, _, i + 1, .cons q t => .cons q (paired_set r i t)
theorem ix_sq {K : PySem.W.Frag} {H : Hp} {p : Addr} {xs : List V} {i : Int} {n : Nat} {v : V} {Q : VK} (h : SqL K H p xs) (hi : i = n) (hx : xs[n]? = some v) (q : Q v H) : rIxA K (.ref p) (.int i) H Q :=
  .inl ⟨p, xs, i, v, rfl, rfl, h, hi ▸ atI_nat hx, q⟩
theorem small (n : Nat) (h : n ≤ 100000) : n ≤ sizeLine := Nat.le_trans h (by decide)
theorem flat1 {α : Type} (x : α) : ∀ w : Nat, (List.replicate w [x]).flatten = List.replicate w x
  | 0 => rfl
  | w + 1 => by rw [List.replicate_succ, List.flatten_cons, flat1 x w]; rfl
theorem length_putF_lt {f : Str} {v : V} {fs : List (Str × V)} {n : Nat} (h : fs.length + 1 < n) : (putF f v fs).length < n := Nat.lt_of_le_of_lt (length_putF f v fs) h
theorem shp_refl {d : PyData} (h : shp d) : PyData.eqv d d = true := PySem.SeqAt.eqv_refl d (PySem.SeqAt.canLay_of_shaped h)
/-- the data of a flat value -/
def vD : V → PyData
  | .bl b => .bool b
  | .int i => .int i
  | .str x => .str x
  | _ => .none
/-- None, truths, numbers, texts -/
def flatOk : V → Bool
  | .non => true
  | .bl _ => true
  | .int _ => true
  | .str x => PyData.strOk x
  | _ => false
theorem rep_flat {K : PySem.W.Frag} {H : Hp} {v : V} (h : flatOk v = true) : Rep K H v (vD v) := by
  cases v <;> first | exact .non | exact .bl _ | exact .int _ | exact .str _ | cases h
theorem repAll_flat {K : PySem.W.Frag} {H : Hp} : ∀ {vs : List V}, (∀ v ∈ vs, flatOk v = true) → RepAll K H vs (vs.map vD)
  | [], _ => .nil
  | v :: r, h => .cons (rep_flat (h v List.mem_cons_self)) (repAll_flat fun x hx => h x (List.mem_cons_of_mem _ hx))
theorem lay_flat {v : V} (h : flatOk v = true) : (vD v).canLay0 = true ∧ (vD v).depth = 0 := by
  cases v <;> first | exact ⟨rfl, rfl⟩ | exact ⟨h, rfl⟩ | cases h
theorem layAll_flat : ∀ {vs : List V}, (∀ v ∈ vs, flatOk v = true) → PyData.canLayAll0 (vs.map vD) = true ∧ PyData.depthAll (vs.map vD) = 0
  | [], _ => ⟨rfl, rfl⟩
  | v :: r, h => by
    obtain ⟨a, b⟩ := lay_flat (h v List.mem_cons_self)
    obtain ⟨c, d⟩ := layAll_flat fun x hx => h x (List.mem_cons_of_mem _ hx)
    simp [PyData.canLayAll0, PyData.depthAll, a, b, c, d]
theorem shp_flat {vs : List V} (h : ∀ v ∈ vs, flatOk v = true) : shp (.list (vs.map vD)) := by
  obtain ⟨c, d⟩ := layAll_flat h
  unfold shp PySem.SeqAt.shaped
  simp [PyData.canLay0, PyData.depth, c, d]
/-- == of two lists of the same flat items -/
theorem eq_same {K : PySem.W.Frag} {H : Hp} {p q : Addr} {xs : List V} {Q : VK} (h1 : SqL K H p xs) (h2 : SqL K H q xs) (hf : ∀ v ∈ xs, flatOk v = true) (hq : Q (.bl true) H) : rEqA K (.ref p) (.ref q) H Q := by
  unfold rEqA
  rw [if_neg (by simp [scal])]
  refine ⟨_, _, .lst h1 (repAll_flat hf), .lst h2 (repAll_flat hf), shp_flat hf, shp_flat hf, ?_⟩
  rw [shp_refl (shp_flat hf)]
  exact hq
theorem ne_same {K : PySem.W.Frag} {H : Hp} {p q : Addr} {xs : List V} {Q : VK} (h1 : SqL K H p xs) (h2 : SqL K H q xs) (hf : ∀ v ∈ xs, flatOk v = true) (hq : Q (.bl false) H) : rNeA K (.ref p) (.ref q) H Q := by
  unfold rNeA
  rw [if_neg (by simp [scal])]
  refine ⟨_, _, .lst h1 (repAll_flat hf), .lst h2 (repAll_flat hf), shp_flat hf, shp_flat hf, ?_⟩
  rw [shp_refl (shp_flat hf)]
  exact hq
end L2

set_option linter.all false
set_option maxRecDepth 100000
set_option maxHeartbeats 4000000
/-! zip of two sequences, walked by a pair of names; texts repeated. -/
namespace L2
open PySem PySem.Spec PyProof.Rows

/-- an iterator over a list (true) or a tuple (false), and what it walks -/
def ItK (k : Bool) (h : Heap) (j a : Addr) (i : Nat) : Prop := if k then h.IsListIter j a i else h.IsTupleIter j a i
def SeqK (k : Bool) (h : Heap) (a : Addr) (xs : Array Value) : Prop := if k then h.IsList a xs else h.IsTuple a xs
theorem ItK.up {k : Bool} {h h' : Heap} {j a : Addr} {i : Nat} (x : ItK k h j a i) (q : ∀ o, h.get? j = some o → h'.get? j = some o) : ItK k h' j a i := by
  cases k <;> exact (let ⟨o, e, r⟩ := x; ⟨o, q o e, r⟩)
theorem SeqK.up {k : Bool} {h h' : Heap} {a : Addr} {xs : Array Value} (x : SeqK k h a xs) (q : ∀ o, h.get? a = some o → h'.get? a = some o) : SeqK k h' a xs := by
  cases k <;> exact (let ⟨o, e, r⟩ := x; ⟨o, q o e, r⟩)
theorem ItK.ob {k : Bool} {h : Heap} {j a : Addr} {i : Nat} (x : ItK k h j a i) : ∃ o, h.get? j = some o ∧ o.data = .fields #[.ref a, .int i 0] := by
  cases k <;> exact (let ⟨o, e, _, r⟩ := x; ⟨o, e, r⟩)
section
variable {P : Program} {w : World} {A : Around} {E : Value → Shared → Prop} {s : Shared}
end
section
variable {P : Program} {w : World} {A : Around} {E : Value → Shared → Prop} {s : Shared}
end

/-! ### the walk -/
/-- a list (true) or a tuple -/
def SqB (K : PySem.W.Frag) (k : Bool) (H : Hp) (a : Addr) (xs : List V) : Prop := if k then SqL K H a xs else SqT K H a xs
theorem SeqK.lt {k : Bool} {h : Heap} {a : Addr} {xs : Array Value} (x : SeqK k h a xs) : a < h.objs.size := by
  cases k <;> exact (let ⟨_, e, _⟩ := x; Heap.lt_size e)
theorem SeqK.nit {k : Bool} {h : Heap} {a b : Addr} {xs : Array Value} (x : SeqK k h a xs) {o : Obj} (e : h.get? b = some o) (n : ∀ its m, o.data ≠ .seq its m) : a ≠ b := by
  intro z
  subst z
  cases k <;> (obtain ⟨o', e', _, m, d⟩ := x; rw [e] at e'; cases e'; exact n _ _ d)
/-- the seven places lie apart -/
def ZipSt (k k' : Bool) (z l l' : Addr) (f : Value) (i : Nat) (h : Heap) (T U j j' : Addr) : Prop :=
  IsZip h z T U f ∧ IsPair h T (.ref j) (.ref j') ∧ (∃ a b, IsPair h U a b) ∧ ItK k h j l i ∧ ItK k' h j' l' i
structure Five (z T U j j' : Addr) : Prop where
  a1 : T ≠ z
  a2 : U ≠ z
  a3 : j ≠ z
  a4 : j' ≠ z
  a5 : T ≠ U
  a6 : T ≠ j
  a7 : T ≠ j'
  a8 : U ≠ j
  a9 : U ≠ j'
  a10 : j ≠ j'
/-- what a name may hold is none of an iterator's own places -/
theorem SqB.off {X : Cx} {pins : List (Addr × Obj)} {σ : St} {H : Hp} {s : Shared} {k : Bool} {m b : Addr} {zs : List V} (I : Inv X pins σ H s) (q : SqB X.K k H m zs) (f : FpOk X pins H b) : m ≠ b := by
  intro e
  subst e
  obtain ⟨f0, _, _, f3, _⟩ := f
  have no : ∀ o, X.K.lookup m = some o → False := fun o hk => by
    have e := I.mod.kin m o hk
    rcases f3 with z | z
    · exact I.ok.noex _ _ e z
    · exact absurd (Heap.lt_size (I.ok.bs _ _ e).1) (Nat.not_lt.mpr z)
  have nr : ∀ u, Rd H m u → False := fun u r => by
    rcases r with r | ⟨o, r⟩ <;> (rw [f0] at r; cases r)
  cases k
  · rcases q with q | ⟨o, _, _, hk, _⟩
    · exact nr _ q
    · exact no o hk
  · rcases q with q | ⟨o, _, _, hk, _⟩
    · exact nr _ q
    · exact no o hk
theorem FpOk.upd {X : Cx} {pins : List (Addr × Obj)} {H : Hp} {a b : Addr} {o : HO} (f : FpOk X pins H b) (n : b ≠ a) : FpOk X pins (upd H a o) b := ⟨(upd_ne n).trans f.1, f.2⟩
theorem ZipSt.lt {k k' : Bool} {z l l' T U j j' : Addr} {f : Value} {i : Nat} {h : Heap} (q : ZipSt k k' z l l' f i h T U j j') : ∀ b ∈ [z, T, U, j, j'], b < h.objs.size := by
  obtain ⟨h1, h2, ⟨a, b', h3⟩, h4, h5⟩ := q
  obtain ⟨o4, e4, _⟩ := h4.ob
  obtain ⟨o5, e5, _⟩ := h5.ob
  intro b hb
  simp only [List.mem_cons, List.not_mem_nil, or_false] at hb
  rcases hb with rfl | rfl | rfl | rfl | rfl
  · exact Heap.lt_size h1
  · exact Heap.lt_size h2
  · exact Heap.lt_size h3
  · exact Heap.lt_size e4
  · exact Heap.lt_size e5
theorem Five.apart {z T U j j' l l' : Addr} (D : Five z T U j j') (n : ∀ b ∈ [z, T, U, j, j'], l ≠ b) (n' : ∀ b ∈ [z, T, U, j, j'], l' ≠ b) : ZipApart z T U j j' l l' :=
  ⟨D.a1, D.a2, D.a3, D.a4, D.a5, D.a6, D.a7, D.a8, D.a9, D.a10, n _ (by simp), n _ (by simp), n _ (by simp), n _ (by simp), n' _ (by simp), n' _ (by simp), n' _ (by simp), n' _ (by simp)⟩
section
variable {X : Cx} {tg : Expr}
end
/-- a def whose promise is never asked -/
theorem Fun.none {P : Program} {w : World} {K : PySem.W.Frag} {mg : Str → Option Value} {base : Heap} {x qual : Str} {st : Stmt} {f : Addr} {fd : FuncData} {N ps : List Str} {k : Nat} {sp : Sp} (F : Fun K x qual st f fd) (S : FnScope N ps (defScope st)) (no : ∀ vs H Q E, sp vs H Q E → False) : FnOk P w K mg base (cxE P w) (k + 1) f fd ps sp :=
  F.okE S (fun vs H Q E h => (no vs H Q E h).elim) fun _ _ _ _ H vs Q E _ h => (no vs H Q E h).elim
end L2

set_option linter.all false
set_option maxRecDepth 100000
set_option maxHeartbeats 4000000
/-! A text's signs walked; ord, all, max; is over bools; tuple(range(n)). -/
namespace L2
open PySem PySem.Spec PyProof.Rows
section
variable {X : Cx} {tg : Expr}
/-! ### builtins -/
end
/-! ### tuple(range(n)) -/
section
variable {P : Program} {w : World} {A : Around} {E : Value → Shared → Prop} {s : Shared}
end
section
variable {X : Cx}
end
end L2

set_option linter.all false
/-! Sets of ints, more than SetOf says: their tables rise, so a walk over one meets each member once. -/
namespace L2
open PySem
abbrev Rising (l : List Nat) : Prop := l.Pairwise (· < ·)
/-- what a search for the first place not below j tells -/
structure Below (xs : Array Nat) (j r : Nat) : Prop where
  le : r ≤ xs.size
  lo : ∀ i v, i < r → xs.toList[i]? = some v → v < j
  hi : ∀ i v, r ≤ i → xs.toList[i]? = some v → j ≤ v
/-- j is no place that is taken -/
def NotIn (t : SetTable) (j : Nat) : Prop := t.place[SetTable.below t.place j]? ≠ some j
theorem rising_range (n : Nat) : Rising (Array.range n).toList := by
  rw [Array.toList_range]
  exact List.pairwise_lt_range
/-- the table's places rise; its maker is as told -/
structure Led (led : Bool) (t : SetTable) : Prop where
  rise : Rising t.place.toList
  led : t.led = led
theorem Led.standIn {led : Bool} {t : SetTable} (h : t.led = led) (n : Nat) : Led led (t.standIn n) := ⟨rising_range n, h⟩
theorem Led.or {led : Bool} {t : SetTable} (h : Led led t) (n : Nat) : Led led (t.orStandIn n) := by
  unfold SetTable.orStandIn
  split
  · exact h
  · exact .standIn h.led n
theorem Led.fresh (led : Bool) : Led led (.fresh 0 0 led) := ⟨List.Pairwise.nil, rfl⟩
end L2

set_option linter.all false
set_option maxRecDepth 100000
/-! A set made of a list of ints, its table known well enough to walk it. -/
namespace L2
open PySem PyProof.Rows
def leads (w : World) : Bool := !w.params.followText "set-order"
def iv : Value → Int
  | .int n _ => n
  | _ => 0
/-- the ints ms, each once, in a set at a -/
def IntSet (P : Program) (w : World) (h : Heap) (a : Addr) (ms : List Int) : Prop :=
  ∃ (o : Obj) (es : Array (Int × Value)) (ep : Nat) (t : SetTable), h.get? a = some o ∧ o.ExactSet ∧ o.data = .set es ep t ∧ ElemsOf (intKind P w) es.toList ∧
    List.Perm (es.toList.map fun e => iv e.2) ms ∧ es.size < scanBound ∧ t.fits es.size = true ∧ Led (leads w) t
section
variable {P : Program} {w : World} {A : Around} {E : Value → Shared → Prop} {s : Shared}
theorem IntSet.at {h h' : Heap} {a : Addr} {ms : List Int} (x : IntSet P w h a ms) (k : ∀ o, h.get? a = some o → h'.get? a = some o) : IntSet P w h' a ms := by
  obtain ⟨o, es, ep, t, ho, r⟩ := x
  exact ⟨o, es, ep, t, k _ ho, r⟩
end
section
variable {P : Program} {w : World} {A : Around} {R : Result → Shared → Prop} {I : Addr} {fp wr : List Addr} {G : Array GenState → Array GenState → Prop} {n : Nat} {T : Nat → Value → Prop} {St : Nat → Shared → Prop}
end
section
variable {P : Program} {w : World} {A : Around} {E : Value → Shared → Prop} {s : Shared}
end
end L2

set_option linter.all false
set_option maxRecDepth 100000
/-! Walking a set of ints. -/
namespace L2
open PySem PyProof.Rows
section
variable {P : Program} {w : World} {A : Around} {E : Value → Shared → Prop} {s : Shared}
end
end L2

set_option linter.all false
set_option maxRecDepth 100000
set_option maxHeartbeats 4000000
/-! sorted(set(xs)) for ints. -/
namespace L2
open PySem PyProof.Rows
/-- a walk of a set: its iterator, what it stands on, its order -/
structure SetWalk (P : Program) (w : World) (A : Around) (h h1 : Heap) (a I : Addr) (ms : List Int) : Prop where
  ex : ∃ (fp : List Addr) (ord : List Value) (ks : List Int) (St : Nat → Heap → Prop), (∀ b ∈ fp, b = a ∨ h.objs.size ≤ b) ∧ Walks P w A I fp [I] ord.length (fun i v => ord[i]? = some v) St ∧ St 0 h1 ∧ IntsAre ord ks ∧ ks.Perm ms
  new : h.objs.size ≤ I
section
variable {P : Program} {w : World} {A : Around} {E : Value → Shared → Prop} {s : Shared}
end
end L2

set_option linter.all false
set_option maxRecDepth 100000
set_option maxHeartbeats 4000000
/-! set(xs) of a list of ints. -/
namespace L2
open PySem PyProof.Rows
section
variable {P : Program} {w : World} {A : Around} {E : Value → Shared → Prop} {s : Shared}
end
end L2

set_option linter.all false
set_option maxRecDepth 100000
/-! sorted(set(e)) in the layer. -/
namespace L2
open PySem PySem.Spec PyProof.Rows
section
variable {X : Cx}
theorem Inv.drawn {pins : List (Addr × Obj)} {σ : St} {H : Hp} {s : Shared} (I : Inv X pins σ H s) (d) : Inv X pins σ H { s with drawn := d } :=
  { ok := I.ok, os := I.os, bare := I.bare, base := I.base, loc := I.loc, cell := I.cell, free := I.free, freeC := I.freeC, pin := I.pin, hok := I.hok, len := I.len }
theorem ints_of_vals : ∀ {ns : List Int} {us : List Value}, Vals (ns.map V.int) us → IntsAre us ns
  | [], _, .nil => .nil
  | n :: r, _, .cons h t => by
    obtain ⟨tk, rfl⟩ := h
    exact .cons _ _ (ints_of_vals t)
def clo (te : TE) : TE := fun σ H Q => ∃ C : VK, te σ H C ∧ ∀ x H1, C x H1 → Q x H1
theorem PE.clo {e : Expr} {te : TE} (h : PE X e te) : PE X e (clo te) := fun pins s σ H Q I ⟨C, q, m⟩ => thn (h pins s σ H C I q) fun v s' ⟨x, H1, I1, r1, q1⟩ => ⟨x, H1, I1, r1, m _ _ q1⟩
end
end L2

set_option linter.all false
set_option maxRecDepth 100000
/-! Lists walked backwards; dicts by simp; a list turned. -/
namespace L2
open PySem PySem.Spec PyProof.Rows
/-! ### reversed(l) -/
section
variable {X : Cx} {tg : Expr}
/-! ### l[::-1] -/
/-! ### list(range(n)) -/
/-! ### dict(d) -/
/-! ### for rules -/
end
/-! ### [x for x in .. if ..] over what stays -/
section
variable {K : PySem.W.Frag} {tt : TT} {cap : List Nat} {σ : St} {H : Hp} {Q : VK}
theorem comp_listF {b : Addr} {xs : List V} (p : V → Bool) (hn : xs.length ≤ sizeLine) (hq : SqL K H b xs) (ht : ∀ x ∈ xs, ∀ QB : Bool → Hp → Prop, QB (p x) H → tt (some x :: capV cap σ) H QB)
    (hd : ∀ q, H q = none → Q (.ref q) (upd H q (.lst (xs.filter p)))) : cBody (Itl K b) (gName 0) tt (tVr 0) 1 cap σ H Q := by
  refine ⟨fun i m σ' ys H' => m = xs.length - i ∧ i ≤ xs.length ∧ H' = H ∧ (∃ x0, σ' = x0 :: capV cap σ) ∧ ys = (xs.take i).filter p, ⟨xs.length, by simp, Nat.zero_le _, rfl, ⟨none, rfl⟩, by simp⟩, ?_⟩
  rintro i m σ' ys H' ⟨rfl, hi, rfl, ⟨x0, rfl⟩, rfl⟩
  by_cases hlt : i < xs.length
  · refine .inr ⟨⟨xs, xs[i], hq, by simp [hlt]⟩, ?_, fun x H2 y => ?_⟩
    · have := List.length_filter_le p (xs.take i)
      rw [List.length_take] at this
      omega
    · obtain ⟨e, y⟩ := y
      subst e
      have hx := y xs hq
      have et : xs.take (i + 1) = xs.take i ++ [x] := by
        obtain ⟨h1, h2⟩ := List.getElem?_eq_some_iff.mp hx
        rw [← h2, List.take_append_getElem]
      simp only [gName, List.set_cons_zero]
      refine ht x (List.mem_of_getElem? hx) _ ?_
      cases hp : p x with
      | true =>
        rw [if_pos rfl]
        refine ⟨fun v H4 => v = x ∧ H4 = H2, fun y H4 ⟨e1, e2⟩ => ⟨xs.length - (i + 1), by omega, rfl, hlt, e2, ⟨_, rfl⟩, ?_⟩, ?_⟩
        · rw [et, List.filter_append, e1]
          simp [hp]
        · simp [tVr]
      | false =>
        rw [if_neg Bool.false_ne_true]
        refine ⟨xs.length - (i + 1), by omega, rfl, hlt, rfl, ⟨_, rfl⟩, ?_⟩
        rw [et, List.filter_append]
        simp [hp]
  · have e : i = xs.length := by omega
    subst e
    refine .inl ⟨⟨xs, hq, Nat.le_refl _⟩, fun q hq' => ?_⟩
    rw [List.take_length]
    exact hd q hq'
end
/-! ### dicts -/
section
variable {K : PySem.W.Frag} {td ty tv te : TE} {D : Ends} {σ : St} {H : Hp} {Q : VK} {QB : Bool → Hp → Prop}
variable {a b : Addr} {i j : Int} {z : Str} {kvs : List (Key × V)} {kvt : List (List Key × V)} {v : V}
end
end L2

set_option linter.all false
set_option maxRecDepth 100000
/-! in and not in over lists; min of a list; is True; data compared. -/
namespace L2
open PySem PySem.Spec PyProof.Rows
section
variable {X : Cx}
/-! ### min of a list of ints -/
/-! ### is True -/
end
/-! ### data -/
theorem SqT.same {K : PySem.W.Frag} {H H' : Hp} {a : Addr} {xs : List V} (e : Same H H') (h : SqT K H a xs) : SqT K H' a xs := by
  rcases h with (h | ⟨o, h⟩) | h
  · exact .inl (.inl (e _ _ h))
  · exact .inl (.inr ⟨o, e _ _ h⟩)
  · exact .inr h
mutual
theorem Rep.same {K : PySem.W.Frag} {H H' : Hp} (s : Same H H') : ∀ {v : V} {d : PyData}, Rep K H v d → Rep K H' v d
  | _, _, .non => .non
  | _, _, .bl b => .bl b
  | _, _, .int i => .int i
  | _, _, .str x => .str x
  | _, _, .lst h r => .lst (s.seq h) (RepAll.same s r)
  | _, _, .tup h r => .tup (SqT.same s h) (RepAll.same s r)
theorem RepAll.same {K : PySem.W.Frag} {H H' : Hp} (s : Same H H') : ∀ {vs : List V} {ds : List PyData}, RepAll K H vs ds → RepAll K H' vs ds
  | _, _, .nil => .nil
  | _, _, .cons h r => .cons (Rep.same s h) (RepAll.same s r)
end
def Dat (K : PySem.W.Frag) (H : Hp) (n : Nat) (v : V) (d : PyData) : Prop := Rep K H v d ∧ d.canLay0 = true ∧ d.depth ≤ n
section
variable {K : PySem.W.Frag} {H : Hp} {n : Nat} {Q : VK}
theorem Dat.int (i : Int) : Dat K H n (.int i) (.int i) := ⟨.int i, rfl, Nat.zero_le _⟩
theorem Dat.non : Dat K H n .non .none := ⟨.non, rfl, Nat.zero_le _⟩
theorem dat_all : ∀ {xs : List V} {ds : List PyData}, Paired (Dat K H n) xs ds → RepAll K H xs ds ∧ PyData.canLayAll0 ds = true ∧ PyData.depthAll ds ≤ n
  | _, _, .nil => ⟨.nil, rfl, Nat.zero_le _⟩
  | _, _, .cons h t => by
    obtain ⟨a1, a2, a3⟩ := dat_all t
    refine ⟨.cons h.1 a1, ?_, ?_⟩
    · simp [PyData.canLayAll0, h.2.1, a2]
    · simp only [PyData.depthAll]; exact Nat.max_le.mpr ⟨h.2.2, a3⟩
theorem Dat.lst {p : Addr} {xs : List V} {ds : List PyData} (h : SqL K H p xs) (hs : Paired (Dat K H n) xs ds) : Dat K H (n + 1) (.ref p) (.list ds) := by
  obtain ⟨a1, a2, a3⟩ := dat_all hs
  exact ⟨.lst h a1, by simpa [PyData.canLay0] using a2, by simpa [PyData.depth] using a3⟩
theorem Dat.tup {p : Addr} {xs : List V} {ds : List PyData} (h : SqT K H p xs) (hs : Paired (Dat K H n) xs ds) : Dat K H (n + 1) (.ref p) (.tuple ds) := by
  obtain ⟨a1, a2, a3⟩ := dat_all hs
  exact ⟨.tup h a1, by simpa [PyData.canLay0] using a2, by simpa [PyData.depth] using a3⟩
theorem Dat.shp {v : V} {d : PyData} (h : Dat K H n v d) (hn : n ≤ 64) : shp d := by
  unfold L2.shp PySem.SeqAt.shaped
  rw [h.2.1]
  simpa using Nat.le_trans h.2.2 hn
theorem dat_ints : ∀ (l : List Int), Paired (Dat K H n) (l.map V.int) (l.map PyData.int)
  | [] => .nil
  | x :: r => .cons (.int x) (dat_ints r)
theorem dat_eq {p q : Addr} {d : PyData} (hn : n ≤ 64) (h1 : Dat K H n (.ref p) d) (h2 : Dat K H n (.ref q) d) (hq : Q (.bl true) H) : rEqA K (.ref p) (.ref q) H Q := by
  unfold rEqA
  rw [if_neg (by simp [scal])]
  refine ⟨_, _, h1.1, h2.1, h1.shp hn, h1.shp hn, ?_⟩
  rw [shp_refl (h1.shp hn)]
  exact hq
theorem dat_ne {p q : Addr} {d : PyData} (hn : n ≤ 64) (h1 : Dat K H n (.ref p) d) (h2 : Dat K H n (.ref q) d) (hq : Q (.bl false) H) : rNeA K (.ref p) (.ref q) H Q := by
  unfold rNeA
  rw [if_neg (by simp [scal])]
  refine ⟨_, _, h1.1, h2.1, h1.shp hn, h1.shp hn, ?_⟩
  rw [shp_refl (h1.shp hn)]
  exact hq
end
end L2
namespace L2
open PySem PySem.Spec PyProof.Rows
end L2

set_option linter.all false
set_option maxRecDepth 100000
/-! ''.join(list); a loop over a text's signs; in over texts; sum and max of a list of ints. -/
namespace L2
open PySem PySem.Spec PyProof.Rows
section
variable {X : Cx}
/-! ### max and sum of a list of ints -/
def r_call_maxL (K : PySem.W.Frag) : List V → Hp → VK → Prop := fun xs H Q => ∃ (p : Addr) (ns : List Int), xs = [.ref p] ∧ SqL K H p (ns.map V.int) ∧ ns ≠ [] ∧ ∀ m, m ∈ ns → (∀ x ∈ ns, x ≤ m) → Q (.int m) H
theorem call_maxL (hc : X.calm = true) : CallR X (.builtin "max") (r_call_maxL X.K) := by
  intro pins s σ H xs us Q I r h
  obtain ⟨p, ns, rfl, hp, hne, q⟩ := h
  obtain ⟨u, rfl, ru⟩ := vals1 r
  cases ru
  obtain ⟨its, rv, pl, hz⟩ := I.list hp
  have hi := ints_of_vals rv
  obtain ⟨zs, e⟩ := hi.allInts.items
  have hns : ns = zs.toList.map (·.1) := by rw [← hi.numsOf, ← nums_intItems, ← e]
  have hsz : 0 < zs.size := by
    have h3 := List.length_pos_iff.mpr hne
    rw [hns, List.length_map, Array.length_toList] at h3
    exact h3
  have hl := pl.isList
  rw [e] at hl
  refine max_intList (I.ok.hd hc) hl hsz fun v h' tk hv hk => ?_
  obtain ⟨t, rfl⟩ := intItems_at hv
  obtain ⟨h1, h2⟩ := argBest_gt (numAt zs) (zs.size - 1)
  refine ⟨.int _, H, I.kept (t' := tk) hk, ⟨t, rfl⟩, q _ ?_ fun x hx => ?_⟩
  · rw [hns, numAt_eq]
    exact getD_mem (by rw [List.length_map, Array.length_toList]; omega)
  · rw [hns] at hx
    obtain ⟨j, hj, rfl⟩ := mem_getD hx
    rw [List.length_map, Array.length_toList] at hj
    rw [← numAt_eq]
    exact h2 j (by omega)
def r_call_sum (K : PySem.W.Frag) : List V → Hp → VK → Prop := fun xs H Q => ∃ (p : Addr) (ns : List Int), xs = [.ref p] ∧ SqL K H p (ns.map V.int) ∧ Q (.int ns.sum) H
theorem call_sum (hc : X.calm = true) : CallR X (.builtin "sum") (r_call_sum X.K) := by
  intro pins s σ H xs us Q I r h
  obtain ⟨p, ns, rfl, hp, q⟩ := h
  obtain ⟨u, rfl, ru⟩ := vals1 r
  cases ru
  obtain ⟨its, rv, pl, hz⟩ := I.list hp
  have hi := ints_of_vals rv
  obtain ⟨zs, e⟩ := hi.allInts.items
  have hns : ns = zs.toList.map (·.1) := by rw [← hi.numsOf, ← nums_intItems, ← e]
  have hl := pl.isList
  rw [e] at hl
  refine sum_intListG (I.ok.hd hc) hl fun h' tk t' hk => ⟨.int _, H, I.kept (t' := tk) hk, ⟨t', rfl⟩, ?_⟩
  have e2 : preSum (numAt zs) zs.size = ns.sum := by
    rw [preSum_eq, List.take_of_length_le (by simp), hns]
  rw [e2]
  exact q
theorem sum_l {K : PySem.W.Frag} {p : Addr} {H : Hp} {Q : VK} {ns : List Int} (h : SqL K H p (ns.map V.int)) (q : Q (.int ns.sum) H) : r_call_sum K [.ref p] H Q := ⟨p, ns, rfl, h, q⟩
theorem max_l {K : PySem.W.Frag} {p : Addr} {H : Hp} {Q : VK} {ns : List Int} (h : SqL K H p (ns.map V.int)) (hne : ns ≠ []) (q : ∀ m, m ∈ ns → (∀ x ∈ ns, x ≤ m) → Q (.int m) H) : r_call_maxL K [.ref p] H Q := ⟨p, ns, rfl, h, hne, q⟩
end
section
variable {K : PySem.W.Frag} {tt : TT} {te : TE} {cap : List Nat} {σ : St} {H : Hp} {Q : VK}
theorem comp_tupF {b : Addr} {xs : List V} (p : V → Bool) (hn : xs.length ≤ sizeLine) (hq : SqT K H b xs) (ht : ∀ x ∈ xs, ∀ QB : Bool → Hp → Prop, QB (p x) H → tt (some x :: capV cap σ) H QB)
    (hd : ∀ q, H q = none → Q (.ref q) (upd H q (.lst (xs.filter p)))) : cBody (Itt K b) (gName 0) tt (tVr 0) 1 cap σ H Q := by
  refine ⟨fun i m σ' ys H' => m = xs.length - i ∧ i ≤ xs.length ∧ H' = H ∧ (∃ x0, σ' = x0 :: capV cap σ) ∧ ys = (xs.take i).filter p, ⟨xs.length, by simp, Nat.zero_le _, rfl, ⟨none, rfl⟩, by simp⟩, ?_⟩
  rintro i m σ' ys H' ⟨rfl, hi, rfl, ⟨x0, rfl⟩, rfl⟩
  by_cases hlt : i < xs.length
  · refine .inr ⟨⟨xs, xs[i], hq, by simp [hlt]⟩, ?_, fun x H2 y => ?_⟩
    · have := List.length_filter_le p (xs.take i)
      rw [List.length_take] at this
      omega
    · obtain ⟨e, y⟩ := y
      subst e
      have hx := y xs hq
      have et : xs.take (i + 1) = xs.take i ++ [x] := by
        obtain ⟨h1, h2⟩ := List.getElem?_eq_some_iff.mp hx
        rw [← h2, List.take_append_getElem]
      simp only [gName, List.set_cons_zero]
      refine ht x (List.mem_of_getElem? hx) _ ?_
      cases hp : p x with
      | true =>
        rw [if_pos rfl]
        refine ⟨fun v H4 => v = x ∧ H4 = H2, fun y H4 ⟨e1, e2⟩ => ⟨xs.length - (i + 1), by omega, rfl, hlt, e2, ⟨_, rfl⟩, ?_⟩, ?_⟩
        · rw [et, List.filter_append, e1]
          simp [hp]
        · simp [tVr]
      | false =>
        rw [if_neg Bool.false_ne_true]
        refine ⟨xs.length - (i + 1), by omega, rfl, hlt, rfl, ⟨_, rfl⟩, ?_⟩
        rw [et, List.filter_append]
        simp [hp]
  · have e : i = xs.length := by omega
    subst e
    refine .inl ⟨⟨xs, hq, Nat.le_refl _⟩, fun q hq' => ?_⟩
    rw [List.take_length]
    exact hd q hq'
end
end L2

set_option linter.all false
/-! What holdback.planks promises: an object at p whose list stands at cl. -/
namespace L2
open PySem PySem.Spec PyProof.Rows
abbrev Ad := String → Addr

/-- all that was tracked, but for the things of F, is as it was -/
def SameBut (F : Addr → Prop) (H H' : Hp) : Prop := ∀ b o, H b = some o → ¬ F b → H' b = some o
structure TPlank (K : PySem.W.Frag) (a : Ad) : Prop where
  cl : Cls K (a "Plank")
  nC : NoAttr K (a "Plank") "contents"
  nW : NoAttr K (a "Plank") "width"
  nN : NoAttr K (a "Plank") "written"
def pf (cl : Addr) (w n : Int) : List (Str × V) := [("contents", .ref cl), ("width", .int w), ("written", .int n)]
theorem ne_cw : ¬ ("contents" : Str) = "width" := by decide +kernel
theorem ne_cn : ¬ ("contents" : Str) = "written" := by decide +kernel
theorem ne_wn : ¬ ("width" : Str) = "written" := by decide +kernel
theorem pf_c (cl : Addr) (w n : Int) : (pf cl w n).lookup ("contents" : Str) = some (V.ref cl) := by simp [pf]
theorem pf_w (cl : Addr) (w n : Int) : (pf cl w n).lookup ("width" : Str) = some (V.int w) := by
  have h : (("width" : Str) == "contents") = false := beq_eq_false_iff_ne.mpr (Ne.symm ne_cw)
  simp [pf, List.lookup_cons, h]
theorem pf_n (cl : Addr) (w n : Int) : (pf cl w n).lookup ("written" : Str) = some (V.int n) := by
  have h : (("written" : Str) == "contents") = false := beq_eq_false_iff_ne.mpr (Ne.symm ne_cn)
  have h2 : (("written" : Str) == "width") = false := beq_eq_false_iff_ne.mpr (Ne.symm ne_wn)
  simp [pf, List.lookup_cons, h, h2]
theorem pf_new (cl : Addr) (w n : Int) : putF "written" (.int n) (putF "width" (.int w) (putF "contents" (.ref cl) [])) = pf cl w n := by
  simp only [putF, pf]
  rw [if_neg ne_cw]
  simp only [putF]
  rw [if_neg ne_cn, if_neg ne_wn]
theorem pf_put (cl : Addr) (w n m : Int) : putF "written" (.int m) (pf cl w n) = pf cl w m := by
  simp only [putF, pf]
  rw [if_neg ne_cn, if_neg ne_wn]
  simp
theorem pf_no (cl : Addr) (w n : Int) {m : Str} (h1 : ¬ m = "contents") (h2 : ¬ m = "width") (h3 : ¬ m = "written") : (pf cl w n).lookup m = none := by
  have e1 := beq_eq_false_iff_ne.mpr h1
  have e2 := beq_eq_false_iff_ne.mpr h2
  have e3 := beq_eq_false_iff_ne.mpr h3
  simp [pf, List.lookup_cons, e1, e2, e3]
/-- a plank at p: its list at cl, its tuples at ts -/
structure PlankAt (a : Ad) (H : Hp) (p cl : Addr) (w : Nat) (rows : List (List V)) (n : Nat) : Prop where
  ob : ∃ dx, H p = some (.ins (a "Plank") dx (pf cl w n))
  ls : ∃ ts : List Addr, H cl = some (.lst (ts.map V.ref)) ∧ Paired (fun t r => H t = some (.tup r)) ts rows
  wd : ∀ r ∈ rows, r.length = w
  sz : rows.length ≤ 1000
  sw : w ≤ 1000
theorem PlankAt.ne {a : Ad} {H : Hp} {p cl : Addr} {w : Nat} {rows : List (List V)} {n : Nat} (P : PlankAt a H p cl w rows n) : p ≠ cl := by
  obtain ⟨⟨dx, h1⟩, ⟨ts, h2, _⟩, _⟩ := P
  exact ne_of h1 h2 (by intro z; cases z)
/-- the plank stands where p, cl and the tuples are kept -/
theorem PlankAt.keep {a : Ad} {H H' : Hp} {p cl : Addr} {w : Nat} {rows : List (List V)} {n : Nat} (P : PlankAt a H p cl w rows n) (h1 : H' p = H p) (h2 : H' cl = H cl) (h3 : ∀ b xs, H b = some (.tup xs) → H' b = some (.tup xs)) : PlankAt a H' p cl w rows n := by
  obtain ⟨⟨dx, e1⟩, ⟨ts, e2, e3⟩, r1, r2, r3⟩ := P
  exact ⟨⟨dx, h1.trans e1⟩, ⟨ts, h2.trans e2, Paired.mapP e3 fun t r q => h3 t r q⟩, r1, r2, r3⟩
theorem PlankAt.same {a : Ad} {H H' : Hp} {p cl : Addr} {w : Nat} {rows : List (List V)} {n : Nat} (P : PlankAt a H p cl w rows n) (s : Same H H') : PlankAt a H' p cl w rows n := by
  obtain ⟨⟨dx, e1⟩, ⟨ts, e2, e3⟩, r1, r2, r3⟩ := P
  exact ⟨⟨dx, s _ _ e1⟩, ⟨ts, s _ _ e2, Paired.mapP e3 fun t r q => s _ _ q⟩, r1, r2, r3⟩

/-! ### the promises -/
def sp_Plank_init (K : PySem.W.Frag) (a : Ad) : Sp := fun vs H Q _ => ∃ (p dx : Addr) (m w : Nat), vs = [.ref p, .int m, .int w] ∧ TPlank K a ∧ H p = some (.ins (a "Plank") dx []) ∧ m ≤ 1000 ∧ 1 ≤ w ∧ w ≤ 1000 ∧
  ∀ cl H', H cl = none → PlankAt a H' p cl w (List.replicate m (List.replicate w .non)) 0 → SameBut (· = p) H H' → Q .non H'
def sp_Plank_blocks (K : PySem.W.Frag) (a : Ad) : Sp := fun vs H Q _ => ∃ p cl w rows n, vs = [.ref p] ∧ TPlank K a ∧ PlankAt a H p cl w rows n ∧ Q (.int rows.length) H
def sp_Plank_cells (K : PySem.W.Frag) (a : Ad) : Sp := fun vs H Q _ => ∃ (p cl : Addr) (w : Nat) (rows : List (List V)) (n : Nat), vs = [.ref p] ∧ TPlank K a ∧ PlankAt a H p cl w rows n ∧ Q (.int w) H
def sp_Plank_writings (K : PySem.W.Frag) (a : Ad) : Sp := fun vs H Q _ => ∃ (p cl : Addr) (w : Nat) (rows : List (List V)) (n : Nat), vs = [.ref p] ∧ TPlank K a ∧ PlankAt a H p cl w rows n ∧ Q (.int n) H
def sp_Plank_ask_for_block (K : PySem.W.Frag) (a : Ad) : Sp := fun vs H Q E => ∃ (p cl : Addr) (w : Nat) (rows : List (List V)) (n : Nat) (b : Int), vs = [.ref p, .int b] ∧ TPlank K a ∧ PlankAt a H p cl w rows n ∧
  (0 ≤ b → b < rows.length → Q .non H) ∧ (b < 0 ∨ rows.length ≤ b → E (.ref (a "NoBlock")) none H)
def sp_Plank_read (K : PySem.W.Frag) (a : Ad) : Sp := fun vs H Q E => ∃ (p cl : Addr) (w : Nat) (rows : List (List V)) (n : Nat) (b : Int), vs = [.ref p, .int b] ∧ TPlank K a ∧ PlankAt a H p cl w rows n ∧
  (∀ (i : Nat) row, b = i → rows[i]? = some row → ∀ l, H l = none → Q (.ref l) (upd H l (.lst row))) ∧ (b < 0 ∨ rows.length ≤ b → E (.ref (a "NoBlock")) none H)
def sp_Plank_write (K : PySem.W.Frag) (a : Ad) : Sp := fun vs H Q E => ∃ (p cl : Addr) (w : Nat) (rows : List (List V)) (n : Nat) (b : Int) (v : Addr) (xs : List V), vs = [.ref p, .int b, .ref v] ∧ TPlank K a ∧ PlankAt a H p cl w rows n ∧ SqL K H v xs ∧ xs.length ≤ 2000 ∧
  (∀ (i : Nat), b = i → i < rows.length → xs.length = w → ∀ H', PlankAt a H' p cl w (rows.set i xs) (n + 1) → SameBut (fun x => x = p ∨ x = cl) H H' → Q .non H') ∧
  (b < 0 ∨ rows.length ≤ b ∨ xs.length ≠ w → E (.ref (a "NoBlock")) none H)
end L2

set_option linter.all false
/-! What holdback.changes promises: a book at b over a plank. -/
namespace L2
open PySem PySem.Spec PyProof.Rows
theorem ix_tpl {K : PySem.W.Frag} {H : Hp} {p : Addr} {xs : List V} {i : Int} {n : Nat} {v : V} {Q : VK} (h : H p = some (.tup xs)) (hi : i = n) (hx : xs[n]? = some v) (q : Q v H) : rIxA K (.ref p) (.int i) H Q :=
  .inr (.inl ⟨p, xs, i, v, rfl, rfl, SqT.of h, by rw [hi]; exact atI_nat hx, q⟩)
theorem cut_to (xs : List V) {k : Int} (h : 0 ≤ k) : cutV xs none (some k) = xs.take k.toNat := by
  unfold cutV
  have e : HT.sIx xs.length xs.length (some k) = min k.toNat xs.length := by
    show (if k < 0 then (k + (xs.length : Int)).toNat else min k.toNat xs.length) = _
    rw [if_neg (by omega)]
  rw [e, HT.sIx_none, List.drop_zero, Nat.sub_zero, List.take_eq_take_iff]
  omega
theorem cut_from (xs : List V) {k : Int} (h : 0 ≤ k) : cutV xs (some k) none = xs.drop k.toNat := by
  unfold cutV
  have e : HT.sIx xs.length 0 (some k) = min k.toNat xs.length := by
    show (if k < 0 then (k + (xs.length : Int)).toNat else min k.toNat xs.length) = _
    rw [if_neg (by omega)]
  rw [e, HT.sIx_none]
  rcases Nat.lt_or_ge k.toNat xs.length with z | z
  · rw [Nat.min_eq_left (Nat.le_of_lt z), List.take_of_length_le (by rw [List.length_drop]; exact Nat.le_refl _)]
  · rw [Nat.min_eq_right z, List.drop_of_length_le (Nat.le_refl _), List.drop_of_length_le z]; simp
theorem SameBut.refl {F : Addr → Prop} (H : Hp) : SameBut F H H := fun _ _ e _ => e
theorem SameBut.trans {F : Addr → Prop} {H H' H2 : Hp} (s : SameBut F H H') (t : SameBut F H' H2) : SameBut F H H2 := fun b o e n => t _ _ (s _ _ e n) n
theorem SameBut.wide {F G : Addr → Prop} {H H' : Hp} (s : SameBut F H H') (i : ∀ x, F x → G x) : SameBut G H H' := fun b o e n => s _ _ e fun z => n (i _ z)
theorem Same.sb {F : Addr → Prop} {H H' : Hp} (s : Same H H') : SameBut F H H' := fun b o e _ => s b o e
theorem SqL.on {K : PySem.W.Frag} {H H' : Hp} {x : Addr} {xs : List V} (h : SqL K H x xs) (k : ∀ o, H x = some o → H' x = some o) : SqL K H' x xs := by
  rcases h with (h | ⟨o, h⟩) | h
  · exact .inl (.inl (k _ h))
  · exact .inl (.inr ⟨o, k _ h⟩)
  · exact .inr h
theorem SqL.sb {K : PySem.W.Frag} {F : Addr → Prop} {H H' : Hp} {x : Addr} {xs : List V} (h : SqL K H x xs) (s : SameBut F H H') (f : ∀ o, H x = some o → ¬ F x) : SqL K H' x xs := by
  rcases h with (h | ⟨o, h⟩) | h
  · exact .inl (.inl (s _ _ h (f _ h)))
  · exact .inl (.inr ⟨o, s _ _ h (f _ h)⟩)
  · exact .inr h
theorem SameBut.upd {F : Addr → Prop} {H H' : Hp} {p : Addr} {o : HO} (s : SameBut F H H') (h : F p ∨ H p = none) : SameBut F H (upd H' p o) := fun b u e n => by
  have : b ≠ p := by
    rcases h with h | h
    · exact fun z => n (z ▸ h)
    · exact ne_of_none e h
  rw [upd_ne this]; exact s _ _ e n
/-- one change: where, what, what it needs -/
structure Ch where
  blk : Nat
  cell : Nat
  val : V
  nd : List Int
/-- the newest change at a place, of a list told newest first -/
def newestR : List Ch → Int → Int → Option Nat
  | [], _, _ => none
  | c :: r, i, j => if (c.blk : Int) = i ∧ (c.cell : Int) = j then some r.length else newestR r i j
def newestOf (cs : List Ch) (i j : Int) : Option Nat := newestR cs.reverse i j
def inBlkR : List Ch → Nat → List Nat
  | [], _ => []
  | c :: r, b => if c.blk = b then inBlkR r b ++ [r.length] else inBlkR r b
def inBlk (cs : List Ch) (b : Nat) : List Nat := inBlkR cs.reverse b
/-- the fields -/
def chf (pl : Addr) (v : V) (nt : Addr) : List (Str × V) := [("place", .ref pl), ("value", v), ("needs", .ref nt)]
def bf (gp m mi lt ou : Addr) : List (Str × V) := [("ground", .ref gp), ("made", .ref m), ("made_in", .ref mi), ("latest", .ref lt), ("outs", .ref ou)]
def strEq (a b : Str) : Bool := a == b
section
variable {pl nt gp m mi lt ou : Addr} {v : V}
theorem s_ne {a b : Str} (h : strEq a b = false) : (a == b) = false := h
theorem putF_ne {f g : Str} {x y : V} {r : List (Str × V)} (h : strEq g f = false) : putF f y ((g, x) :: r) = (g, x) :: putF f y r := by
  have : ¬ g = f := fun e => by rw [e] at h; simp [strEq] at h
  simp [putF, this]
theorem putF_nil {f : Str} {y : V} : putF f y [] = [(f, y)] := rfl
end
structure TBook (K : PySem.W.Frag) (C D : Addr) : Prop where
  cl : Cls K C
  nG : NoAttr K C "ground"
  nM : NoAttr K C "made"
  nI : NoAttr K C "made_in"
  nL : NoAttr K C "latest"
  nO : NoAttr K C "outs"
  cc : Cls K D
  nP : NoAttr K D "place"
  nV : NoAttr K D "value"
  nN : NoAttr K D "needs"
/-- a change's object -/
def ChAt (D : Addr) (H : Hp) (x : Addr) (c : Ch) : Prop := ∃ dx pl nt, H x = some (.ins D dx (chf pl c.val nt)) ∧ H pl = some (.tup [.int c.blk, .int c.cell]) ∧ H nt = some (.tup (c.nd.map V.int))
/-- where a book's things stand -/
structure BA where
  b : Addr
  gp : Addr
  m : Addr
  mi : Addr
  lt : Addr
  ou : Addr
  ls : List Addr
  cl : Addr
/-- the lists and dicts of a book and of its plank -/
def BA.F (A : BA) (x : Addr) : Prop := x = A.m ∨ x = A.mi ∨ x ∈ A.ls ∨ x = A.lt ∨ x = A.ou ∨ x = A.cl
/-- a dict's keys: numbers below n, each once -/
def KeysOk (kvo : List (Key × V)) (n : Nat) : Prop := (kvo.map (·.1)).Nodup ∧ ∀ p ∈ kvo, ∃ x : Nat, p.1 = Sum.inl (x : Int) ∧ x < n
theorem KeysOk.mono {kvo : List (Key × V)} {n m : Nat} (h : KeysOk kvo n) (hm : n ≤ m) : KeysOk kvo m := ⟨h.1, fun p hp => by obtain ⟨x, e, hx⟩ := h.2 p hp; exact ⟨x, e, by omega⟩⟩
theorem KeysOk.len {kvo : List (Key × V)} {n : Nat} (h : KeysOk kvo n) : kvo.length ≤ n := by
  have := List.Nodup.length_le_of_subset (l₂ := (List.range n).map fun (k : Nat) => (Sum.inl (k : Int) : Key)) h.1 fun k hk => by
    obtain ⟨p, hp, rfl⟩ := List.mem_map.mp hk
    obtain ⟨x, e, hx⟩ := h.2 p hp
    rw [e]
    exact List.mem_map.mpr ⟨x, List.mem_range.mpr hx, rfl⟩
  simpa using this
theorem KeysOk.put {kvo : List (Key × V)} {n : Nat} (h : KeysOk kvo n) {k : Nat} (hk : k < n) (hn : valV kvo (.inl (k : Int)) = none) (v : V) : KeysOk (putK kvo (.inl (k : Int)) v) n := by
  refine ⟨nd_putK v h.1 hn, fun p hp => ?_⟩
  rw [putK_new v hn] at hp
  rcases List.mem_append.mp hp with hp | hp
  · exact h.2 p hp
  · rw [List.mem_singleton.mp hp]; exact ⟨k, rfl, hk⟩
/-- the book alone: C its class, D the class of changes -/
structure BookIn (C D : Addr) (H : Hp) (A : BA) (w : Nat) (cs : List Ch) (outs : Int → Bool) : Prop where
  ob : ∃ dx, H A.b = some (.ins C dx (bf A.gp A.m A.mi A.lt A.ou))
  made : ∃ chs : List Addr, H A.m = some (.lst (chs.map V.ref)) ∧ Paired (ChAt D H) chs cs
  mil : H A.mi = some (.lst (A.ls.map V.ref))
  mic : ∀ (i : Nat) l, A.ls[i]? = some l → H l = some (.lst ((inBlk cs i).map fun (k : Nat) => V.int k))
  nd : A.ls.Nodup
  lat : ∃ kvs, H A.lt = some (.dT kvs) ∧ (∀ i j : Int, valV kvs [.inl i, .inl j] = (newestOf cs i j).map fun (k : Nat) => V.int k) ∧ kvs.length ≤ cs.length
  out : ∃ kvo, H A.ou = some (.dK kvo) ∧ (∀ k : Int, (valV kvo (.inl k)).isSome = outs k) ∧ KeysOk kvo cs.length
  sz : cs.length ≤ 500
  inn : ∀ c ∈ cs, c.blk < A.ls.length ∧ c.cell < w
  need : ∀ (k : Nat) c, cs[k]? = some c → (∀ x ∈ c.nd, 0 ≤ x ∧ x < k) ∧ c.nd.Pairwise (· < ·) ∧ c.nd.length ≤ 100
  ap : A.m ≠ A.mi ∧ A.m ∉ A.ls ∧ A.mi ∉ A.ls ∧ A.cl ≠ A.m ∧ A.cl ≠ A.mi ∧ A.cl ∉ A.ls
  chn : ∀ (k : Nat) c, cs[k]? = some c → ∀ j, newestOf (cs.take k) c.blk c.cell = some j → (j : Int) ∈ c.nd
structure BookAt (a : Ad) (C : Addr) (H : Hp) (A : BA) (w : Nat) (rows : List (List V)) (n : Nat) (cs : List Ch) (outs : Int → Bool) : Prop where
  bk : BookIn C (a "Change") H A w cs outs
  pk : PlankAt a H A.gp A.cl w rows n
  nb : A.ls.length = rows.length
/-- not an instance, not a tuple -/
def Loose (o : Option HO) : Prop := (∀ xs, o ≠ some (.tup xs)) ∧ ∀ C dx fs, o ≠ some (.ins C dx fs)
theorem ChAt.sb {D : Addr} {G : Addr → Prop} {H H' : Hp} (s : SameBut G H H') (g : ∀ x, G x → Loose (H x)) {x : Addr} {c : Ch} (h : ChAt D H x c) : ChAt D H' x c := by
  obtain ⟨dx, pl, nt, e1, e2, e3⟩ := h
  exact ⟨dx, pl, nt, s _ _ e1 fun z => (g _ z).2 _ _ _ e1, s _ _ e2 fun z => (g _ z).1 _ e2, s _ _ e3 fun z => (g _ z).1 _ e3⟩
theorem BookIn.sb {C D : Addr} {G : Addr → Prop} {H H' : Hp} {A : BA} {w : Nat} {cs : List Ch} {outs : Int → Bool} (B : BookIn C D H A w cs outs) (s : SameBut G H H') (g : ∀ x, G x → Loose (H x)) (f : ∀ x, G x → ¬ A.F x) : BookIn C D H' A w cs outs := by
  obtain ⟨⟨dx, e1⟩, ⟨chs, e2, e3⟩, e4, e5, e6, ⟨kvs, e7, e8⟩, ⟨kvo, e9, e10⟩, r1, r2, r3, r4, r5⟩ := B
  refine ⟨⟨dx, s _ _ e1 fun z => (g _ z).2 _ _ _ e1⟩, ⟨chs, s _ _ e2 fun z => f _ z (.inl rfl), Paired.mapP e3 fun x c h => h.sb s g⟩, s _ _ e4 fun z => f _ z (.inr (.inl rfl)), fun i l h => s _ _ (e5 i l h) fun z => f _ z (.inr (.inr (.inl (List.mem_of_getElem? h)))), e6,
    ⟨kvs, s _ _ e7 fun z => f _ z (.inr (.inr (.inr (.inl rfl)))), e8⟩, ⟨kvo, s _ _ e9 fun z => f _ z (.inr (.inr (.inr (.inr (.inl rfl))))), e10⟩, r1, r2, r3, r4, r5⟩
theorem PlankAt.sbL {a : Ad} {G : Addr → Prop} {H H' : Hp} {p cl : Addr} {w : Nat} {rows : List (List V)} {n : Nat} (P : PlankAt a H p cl w rows n) (s : SameBut G H H') (g : ∀ x, G x → Loose (H x)) (h : ¬ G cl) : PlankAt a H' p cl w rows n := by
  obtain ⟨⟨dx, e1⟩, ⟨ts, e2, e3⟩, r1, r2, r3⟩ := P
  exact ⟨⟨dx, s _ _ e1 fun z => (g _ z).2 _ _ _ e1⟩, ⟨ts, s _ _ e2 h, Paired.mapP e3 fun t r q => s _ _ q fun z => (g _ z).1 _ q⟩, r1, r2, r3⟩
theorem BookAt.sb {a : Ad} {C : Addr} {G : Addr → Prop} {H H' : Hp} {A : BA} {w : Nat} {rows : List (List V)} {n : Nat} {cs : List Ch} {outs : Int → Bool} (B : BookAt a C H A w rows n cs outs) (s : SameBut G H H') (g : ∀ x, G x → Loose (H x)) (f : ∀ x, G x → ¬ A.F x) : BookAt a C H' A w rows n cs outs :=
  ⟨B.bk.sb s g f, B.pk.sbL s g fun z => f _ z (.inr (.inr (.inr (.inr (.inr rfl))))), B.nb⟩
theorem BookAt.same {a : Ad} {C : Addr} {H H' : Hp} {A : BA} {w : Nat} {rows : List (List V)} {n : Nat} {cs : List Ch} {outs : Int → Bool} (B : BookAt a C H A w rows n cs outs) (s : Same H H') : BookAt a C H' A w rows n cs outs :=
  B.sb (G := fun _ => False) (Same.sb s) (fun _ z => z.elim) fun _ z => z.elim
/-- what a list or a dict of ours that stands there is none of the book's -/
theorem BookAt.off {a : Ad} {C : Addr} {H : Hp} {A : BA} {w : Nat} {rows : List (List V)} {n : Nat} {cs : List Ch} {outs : Int → Bool} (B : BookAt a C H A w rows n cs outs) {x : Addr} (h : H x = none) : ¬ A.F x := by
  obtain ⟨⟨_, ⟨chs, e2, _⟩, e4, e5, _, ⟨kvs, e7, _⟩, ⟨kvo, e9, _⟩, _⟩, ⟨_, ⟨ts, e11, _⟩, _⟩, _⟩ := B
  rintro (z | z | z | z | z | z)
  · rw [z, e2] at h; cases h
  · rw [z, e4] at h; cases h
  · obtain ⟨i, hi, e⟩ := List.getElem_of_mem z
    have := e5 i x (by rw [← e]; exact List.getElem?_eq_getElem hi)
    rw [this] at h; cases h
  · rw [z, e7] at h; cases h
  · rw [z, e9] at h; cases h
  · rw [z, e11] at h; cases h
theorem mem_at {α : Type} {l : List α} {x : α} (h : x ∈ l) : ∃ i : Nat, l[i]? = some x := by
  obtain ⟨i, hi, e⟩ := List.getElem_of_mem h
  exact ⟨i, by rw [← e]; exact List.getElem?_eq_getElem hi⟩
theorem loose_l {H : Hp} {x : Addr} {xs : List V} (h : H x = some (.lst xs)) : Loose (H x) := by
  rw [h]; exact ⟨fun _ z => (by cases z), fun _ _ _ z => (by cases z)⟩
theorem loose_k {H : Hp} {x : Addr} {xs : List (Key × V)} (h : H x = some (.dK xs)) : Loose (H x) := by
  rw [h]; exact ⟨fun _ z => (by cases z), fun _ _ _ z => (by cases z)⟩
theorem loose_t {H : Hp} {x : Addr} {xs : List (List Key × V)} (h : H x = some (.dT xs)) : Loose (H x) := by
  rw [h]; exact ⟨fun _ z => (by cases z), fun _ _ _ z => (by cases z)⟩
theorem BookAt.loose {a : Ad} {C : Addr} {H : Hp} {A : BA} {w : Nat} {rows : List (List V)} {n : Nat} {cs : List Ch} {outs : Int → Bool} (B : BookAt a C H A w rows n cs outs) {x : Addr} (h : A.F x) : Loose (H x) := by
  obtain ⟨⟨_, ⟨chs, e2, _⟩, e4, e5, _, ⟨kvs, e7, _⟩, ⟨kvo, e9, _⟩, _⟩, ⟨_, ⟨ts, e11, _⟩, _⟩, _⟩ := B
  rcases h with z | z | z | z | z | z
  · exact loose_l (z ▸ e2)
  · exact loose_l (z ▸ e4)
  · obtain ⟨i, e⟩ := mem_at z
    exact loose_l (e5 i x e)
  · exact loose_t (z ▸ e7)
  · exact loose_k (z ▸ e9)
  · exact loose_l (z ▸ e11)
/-- what a closure has -/
structure CloR (cs : List Ch) (outs : Int → Bool) (ns : List Int) (R : Int → Bool) : Prop where
  all : ∀ x ∈ ns, R x = true
  up : ∀ (k : Nat) (c : Ch), cs[k]? = some c → outs k = false → R k = true → ∀ y ∈ c.nd, R y = true
  only : ∀ x, R x = true → x ∈ ns ∨ ∃ (k : Nat) (c : Ch), cs[k]? = some c ∧ outs k = false ∧ R k = true ∧ x ∈ c.nd
end L2

set_option linter.all false
/-! What holdback.layouts promises: an object at p with four numbers. -/
namespace L2
open PySem PySem.Spec PyProof.Rows
structure TLay (K : PySem.W.Frag) (a : Ad) : Prop where
  cl : Cls K (a "Layout")
  n1 : NoAttr K (a "Layout") "name_blocks"
  n2 : NoAttr K (a "Layout") "record_blocks"
  n3 : NoAttr K (a "Layout") "piece_blocks"
  n4 : NoAttr K (a "Layout") "width"
section
variable {n r c w : Int}
def lf (n r c w : Int) : List (Str × V) := [("name_blocks", .int n), ("record_blocks", .int r), ("piece_blocks", .int c), ("width", .int w)]
theorem lf_n : (lf n r c w).lookup ("name_blocks" : Str) = some (V.int n) := by simp [lf]
theorem lf_r : (lf n r c w).lookup ("record_blocks" : Str) = some (V.int r) := by
  simp [lf, List.lookup_cons, s_ne (a := "record_blocks") (b := "name_blocks") (by decide +kernel)]
theorem lf_c : (lf n r c w).lookup ("piece_blocks" : Str) = some (V.int c) := by
  simp [lf, List.lookup_cons, s_ne (a := "piece_blocks") (b := "name_blocks") (by decide +kernel), s_ne (a := "piece_blocks") (b := "record_blocks") (by decide +kernel)]
theorem lf_w : (lf n r c w).lookup ("width" : Str) = some (V.int w) := by
  simp [lf, List.lookup_cons, s_ne (a := "width") (b := "name_blocks") (by decide +kernel), s_ne (a := "width") (b := "record_blocks") (by decide +kernel), s_ne (a := "width") (b := "piece_blocks") (by decide +kernel)]
theorem lf_no {x : Str} (h : (strEq x "name_blocks" || strEq x "record_blocks" || strEq x "piece_blocks" || strEq x "width") = false) : (lf n r c w).lookup x = none := by
  simp only [Bool.or_eq_false_iff] at h
  obtain ⟨⟨⟨h1, h2⟩, h3⟩, h4⟩ := h
  simp [lf, List.lookup_cons, s_ne h1, s_ne h2, s_ne h3, s_ne h4]
theorem lf_new : putF "width" (.int w) (putF "piece_blocks" (.int c) (putF "record_blocks" (.int r) (putF "name_blocks" (.int n) []))) = lf n r c w := by
  repeat (first | rw [putF_nil] | rw [putF_ne (by decide +kernel)])
  rfl
end
/-- a layout at p -/
structure LayAt (a : Ad) (H : Hp) (p : Addr) (n r c w : Nat) : Prop where
  ob : ∃ dx, H p = some (.ins (a "Layout") dx (lf n r c w))
  hn : n ≤ 100
  hr : r ≤ 100
  hc : c ≤ 100
  h1 : 1 ≤ w
  hw : w ≤ 100
theorem LayAt.same {a : Ad} {H H' : Hp} {p : Addr} {n r c w : Nat} (L : LayAt a H p n r c w) (s : Same H H') : LayAt a H' p n r c w := by
  obtain ⟨⟨dx, e⟩, z1, z2, z3, z4, z5⟩ := L
  exact ⟨⟨dx, s _ _ e⟩, z1, z2, z3, z4, z5⟩
theorem LayAt.sb {a : Ad} {F : Addr → Prop} {H H' : Hp} {p : Addr} {n r c w : Nat} (L : LayAt a H p n r c w) (s : SameBut F H H') (f : ¬ F p) : LayAt a H' p n r c w := by
  obtain ⟨⟨dx, e⟩, z1, z2, z3, z4, z5⟩ := L
  exact ⟨⟨dx, s _ _ e f⟩, z1, z2, z3, z4, z5⟩
/-! ### the promises -/
def sp_Layout_init (K : PySem.W.Frag) (a : Ad) : Sp := fun vs H Q _ => ∃ (p dx : Addr) (n r c w : Nat), vs = [.ref p, .int n, .int r, .int c, .int w] ∧ TLay K a ∧ H p = some (.ins (a "Layout") dx []) ∧ n ≤ 100 ∧ r ≤ 100 ∧ c ≤ 100 ∧ 1 ≤ w ∧ w ≤ 100 ∧
  ∀ H', LayAt a H' p n r c w → SameBut (· = p) H H' → Q .non H'
/-- a place is told -/
def placeQ (x y : Int) (Q : VK) (H : Hp) : Prop := ∀ t, H t = none → Q (.ref t) (upd H t (.tup [.int x, .int y]))
def sp_Layout_place_from (K : PySem.W.Frag) (a : Ad) : Sp := fun vs H Q _ => ∃ (p : Addr) (n r c w k : Nat) (b : Int), vs = [.ref p, .int b, .int k] ∧ TLay K a ∧ LayAt a H p n r c w ∧ placeQ (b + k / w) (k % w) Q H
def sp_Layout_name_at (K : PySem.W.Frag) (a : Ad) : Sp := fun vs H Q _ => ∃ (p : Addr) (n r c w k : Nat), vs = [.ref p, .int k] ∧ TLay K a ∧ LayAt a H p n r c w ∧ placeQ (0 + k / w) (k % w) Q H
def sp_Layout_record_at (K : PySem.W.Frag) (a : Ad) : Sp := fun vs H Q _ => ∃ (p : Addr) (n r c w k : Nat), vs = [.ref p, .int k] ∧ TLay K a ∧ LayAt a H p n r c w ∧ placeQ (n + k / w) (k % w) Q H
def sp_Layout_piece_at (K : PySem.W.Frag) (a : Ad) : Sp := fun vs H Q _ => ∃ (p : Addr) (n r c w k : Nat), vs = [.ref p, .int k] ∧ TLay K a ∧ LayAt a H p n r c w ∧ placeQ (n + r + k / w) (k % w) Q H
def sp_Layout_record_mark (K : PySem.W.Frag) (a : Ad) : Sp := fun vs H Q _ => ∃ (p : Addr) (n r c w k : Nat), vs = [.ref p, .int k] ∧ TLay K a ∧ LayAt a H p n r c w ∧ placeQ (n + r + c + k / w) (k % w) Q H
def sp_Layout_piece_mark (K : PySem.W.Frag) (a : Ad) : Sp := fun vs H Q _ => ∃ (p : Addr) (n r c w k : Nat), vs = [.ref p, .int k] ∧ TLay K a ∧ LayAt a H p n r c w ∧ placeQ (n + r + c + r + k / w) (k % w) Q H
def sp_Layout_blocks_ahead_of_marks (K : PySem.W.Frag) (a : Ad) : Sp := fun vs H Q _ => ∃ (p : Addr) (n r c w : Nat), vs = [.ref p] ∧ TLay K a ∧ LayAt a H p n r c w ∧ Q (.int (n + r + c)) H
def sp_Layout_blocks (K : PySem.W.Frag) (a : Ad) : Sp := fun vs H Q _ => ∃ (p : Addr) (n r c w : Nat), vs = [.ref p] ∧ TLay K a ∧ LayAt a H p n r c w ∧ Q (.int (n + r + c + r + c)) H
def sp_Layout_counts (K : PySem.W.Frag) (a : Ad) : Sp := fun vs H Q _ => ∃ (p : Addr) (n r c w : Nat), vs = [.ref p] ∧ TLay K a ∧ LayAt a H p n r c w ∧ ∀ t, H t = none → Q (.ref t) (upd H t (.tup [.int (n * w), .int (r * w), .int (c * w)]))
def sp_Layout_plank (K : PySem.W.Frag) (a : Ad) : Sp := fun vs H Q _ => ∃ (p : Addr) (n r c w : Nat), vs = [.ref p] ∧ TLay K a ∧ TPlank K a ∧ LayAt a H p n r c w ∧
  ∀ x cl H', H x = none → H cl = none → PlankAt a H' x cl w (List.replicate (n + r + c + r + c) (List.replicate w .non)) 0 → Same H H' → Q (.ref x) H'
end L2

set_option linter.all false
namespace L2
open PySem PySem.Spec PyProof.Rows
def mill (c t : Int) : Int := (((c % 899809363 + 13 * t + 5) * (c % 899809363 + 13 * t + 5) % 899809363) * ((c % 899809363 + 13 * t + 5) + t) % 899809363) / 7
def sp_law_mill (K : PySem.W.Frag) (a : Ad) : Sp := fun vs H Q _ => ∃ c t : Int, vs = [.int c, .int t] ∧ 0 ≤ t ∧ t ≤ 1000 ∧ Q (.int (mill c t)) H
theorem sp_law_mill_ap {K : PySem.W.Frag} {a : Ad} {c t : Int} {H : Hp} {Q : VK} {E : XK} : sp_law_mill K a [.int c, .int t] H Q E = (0 ≤ t ∧ t ≤ 1000 ∧ Q (.int (mill c t)) H) := by simp [sp_law_mill, and_assoc]
structure TNb (K : PySem.W.Frag) (a : Ad) : Prop where
  hit : PySem.W.exmOne K (.ref (a "NoBlock")) (.ref (a "NoBlock")) = some true
def newRows (m w : Nat) : List (List V) := List.replicate m (List.replicate w V.non)
def sp_law_whole (K : PySem.W.Frag) (a : Ad) : Sp := fun vs H Q _ => ∃ i : Int, vs = [.int i] ∧ Q (.bl true) H
theorem sp_law_whole_ap {K : PySem.W.Frag} {a : Ad} {i : Int} {H : Hp} {Q : VK} {E : XK} : sp_law_whole K a [.int i] H Q E = Q (.bl true) H := by simp [sp_law_whole]
def sp_law_at (K : PySem.W.Frag) (a : Ad) : Sp := fun vs H Q _ => ∃ (t : Addr) (x y : Int), vs = [.ref t, .int x, .int y] ∧ H t = some (.tup [.int x, .int y]) ∧ ∀ H', Same H H' → Q (.bl true) H'
def sp_law_places (K : PySem.W.Frag) (a : Ad) : Sp := fun vs H Q _ => ∃ (p sz : Addr) (n r c w : Nat), vs = [.ref p, .ref sz, .int w] ∧ TLay K a ∧ LayAt a H p n r c w ∧ H sz = some (.lst [.int n, .int r, .int c]) ∧ ∀ H', Same H H' → Q (.bl true) H'
def sp_law_new (K : PySem.W.Frag) (a : Ad) : Sp := fun vs H Q _ => ∃ (p cl : Addr) (m w : Nat), vs = [.ref p, .int m, .int w] ∧ TPlank K a ∧ PlankAt a H p cl w (newRows m w) 0 ∧ 1 ≤ w ∧ w ≤ 100 ∧ m ≤ 500 ∧ ∀ H', Same H H' → Q (.bl true) H'
def sp_law_refused (K : PySem.W.Frag) (a : Ad) : Sp := fun vs H Q _ => ∃ (p cl : Addr) (w : Nat) (rows : List (List V)) (n : Nat) (b : Int) (l : Addr) (xs : List V), vs = [.ref p, .int b, .ref l] ∧ TPlank K a ∧ TNb K a ∧ PlankAt a H p cl w rows n ∧ SqL K H l xs ∧ xs.length ≤ 2000 ∧ (b < 0 ∨ rows.length ≤ b ∨ xs.length ≠ w) ∧ ∀ H', Same H H' → Q (.bl true) H'
def sp_law_written (K : PySem.W.Frag) (a : Ad) : Sp := fun vs H Q _ => ∃ (p cl : Addr) (m w b : Nat), vs = [.ref p, .int b, .int m, .int w] ∧ TPlank K a ∧ TNb K a ∧ PlankAt a H p cl w (newRows m w) 0 ∧ 1 ≤ w ∧ w ≤ 100 ∧ m ≤ 500 ∧ b < m ∧
  ∀ H', PlankAt a H' p cl w ((newRows m w).set b (List.replicate w (.int 1))) 1 → SameBut (fun x => x = p ∨ x = cl) H H' → Q (.bl true) H'
def sp_law_planks (K : PySem.W.Frag) (a : Ad) : Sp := fun vs H Q _ => ∃ (p : Addr) (n r c w b : Nat), vs = [.ref p, .int (n + r + c + r + c : Nat), .int w, .int b] ∧ TLay K a ∧ TPlank K a ∧ TNb K a ∧ LayAt a H p n r c w ∧ b < n + r + c + r + c ∧ ∀ H', Same H H' → Q (.bl true) H'
def sp_law (K : PySem.W.Frag) (a : Ad) : Sp := fun vs H Q _ => ∃ (s : Addr) (ns : List Int), vs = [.ref s] ∧ TLay K a ∧ TPlank K a ∧ TNb K a ∧ SqL K H s (ns.map V.int) ∧ ns.length ≤ 63 ∧ ∀ H', Q (.bl true) H'
end L2

set_option linter.all false
/-! The readings of the defs, as gen.py prints them. -/
namespace L2
open PySem PySem.Spec PyProof.Rows
def rd_Plank_init_1 (K : PySem.W.Frag) (a : String → Addr) (E E1 : St → XK) : TS :=
      (sFld K (tVr 0) (tComp (iRng1 (tCons (tVr 1) tNil)) (gName 0) tTrue (tOp (rMulA K) (tTup (tCons (tC .non) tNil)) (tVr 1)) 1 [2]) "contents")
theorem rd_Plank_init_1_ap {K : PySem.W.Frag} {a : String → Addr} {E E1 : St → XK} {D : Ends} {σ : St} {H : Hp} : rd_Plank_init_1 K a E E1 D σ H = (sFld K (tVr 0) (tComp (iRng1 (tCons (tVr 1) tNil)) (gName 0) tTrue (tOp (rMulA K) (tTup (tCons (tC .non) tNil)) (tVr 1)) 1 [2]) "contents") D σ H := rfl
def rd_Plank_init_2 (K : PySem.W.Frag) (a : String → Addr) (E E1 : St → XK) : TS :=
      (sFld K (tVr 0) (tVr 2) "width")
theorem rd_Plank_init_2_ap {K : PySem.W.Frag} {a : String → Addr} {E E1 : St → XK} {D : Ends} {σ : St} {H : Hp} : rd_Plank_init_2 K a E E1 D σ H = (sFld K (tVr 0) (tVr 2) "width") D σ H := rfl
def rd_Plank_init_3 (K : PySem.W.Frag) (a : String → Addr) (E E1 : St → XK) : TS :=
      (sFld K (tVr 0) (tC (.int 0)) "written")
theorem rd_Plank_init_3_ap {K : PySem.W.Frag} {a : String → Addr} {E E1 : St → XK} {D : Ends} {σ : St} {H : Hp} : rd_Plank_init_3 K a E E1 D σ H = (sFld K (tVr 0) (tC (.int 0)) "written") D σ H := rfl
def rd_Plank_init (K : PySem.W.Frag) (a : String → Addr) (E : St → XK) : TS :=
      (tSeq (rd_Plank_init_1 K a E E) (tSeq (rd_Plank_init_2 K a E E) (rd_Plank_init_3 K a E E)))

def rd_Plank_blocks_1 (K : PySem.W.Frag) (a : String → Addr) (E E1 : St → XK) : TS :=
      (tRet (tCB (r_call_lenA K) (tCons (tFld K (tVr 0) "contents") tNil)))
theorem rd_Plank_blocks_1_ap {K : PySem.W.Frag} {a : String → Addr} {E E1 : St → XK} {D : Ends} {σ : St} {H : Hp} : rd_Plank_blocks_1 K a E E1 D σ H = (tRet (tCB (r_call_lenA K) (tCons (tFld K (tVr 0) "contents") tNil))) D σ H := rfl
def rd_Plank_blocks (K : PySem.W.Frag) (a : String → Addr) (E : St → XK) : TS :=
      (rd_Plank_blocks_1 K a E E)

def rd_Plank_cells_1 (K : PySem.W.Frag) (a : String → Addr) (E E1 : St → XK) : TS :=
      (tRet (tFld K (tVr 0) "width"))
theorem rd_Plank_cells_1_ap {K : PySem.W.Frag} {a : String → Addr} {E E1 : St → XK} {D : Ends} {σ : St} {H : Hp} : rd_Plank_cells_1 K a E E1 D σ H = (tRet (tFld K (tVr 0) "width")) D σ H := rfl
def rd_Plank_cells (K : PySem.W.Frag) (a : String → Addr) (E : St → XK) : TS :=
      (rd_Plank_cells_1 K a E E)

def rd_Plank_writings_1 (K : PySem.W.Frag) (a : String → Addr) (E E1 : St → XK) : TS :=
      (tRet (tFld K (tVr 0) "written"))
theorem rd_Plank_writings_1_ap {K : PySem.W.Frag} {a : String → Addr} {E E1 : St → XK} {D : Ends} {σ : St} {H : Hp} : rd_Plank_writings_1 K a E E1 D σ H = (tRet (tFld K (tVr 0) "written")) D σ H := rfl
def rd_Plank_writings (K : PySem.W.Frag) (a : String → Addr) (E : St → XK) : TS :=
      (rd_Plank_writings_1 K a E E)

def rd_Plank_ask_for_block_1 (K : PySem.W.Frag) (a : String → Addr) (E E1 : St → XK) : TS :=
      (tRaise (a "NoBlock") E (tCons (tC (.str "there is no such block")) tNil))
theorem rd_Plank_ask_for_block_1_ap {K : PySem.W.Frag} {a : String → Addr} {E E1 : St → XK} {D : Ends} {σ : St} {H : Hp} : rd_Plank_ask_for_block_1 K a E E1 D σ H = (tRaise (a "NoBlock") E (tCons (tC (.str "there is no such block")) tNil)) D σ H := rfl
def rd_Plank_ask_for_block_2 (K : PySem.W.Frag) (a : String → Addr) (E E1 : St → XK) : TS :=
      (tIfS (tNot (tTest (tChain rLeA rLtA (tC (.int 0)) (tVr 1) (tCB (r_call_lenA K) (tCons (tFld K (tVr 0) "contents") tNil))))) (rd_Plank_ask_for_block_1 K a E E) tNext)
theorem rd_Plank_ask_for_block_2_ap {K : PySem.W.Frag} {a : String → Addr} {E E1 : St → XK} {D : Ends} {σ : St} {H : Hp} : rd_Plank_ask_for_block_2 K a E E1 D σ H = (tIfS (tNot (tTest (tChain rLeA rLtA (tC (.int 0)) (tVr 1) (tCB (r_call_lenA K) (tCons (tFld K (tVr 0) "contents") tNil))))) (rd_Plank_ask_for_block_1 K a E E) tNext) D σ H := rfl
def rd_Plank_ask_for_block (K : PySem.W.Frag) (a : String → Addr) (E : St → XK) : TS :=
      (rd_Plank_ask_for_block_2 K a E E)

def rd_Layout_init_1 (K : PySem.W.Frag) (a : String → Addr) (E E1 : St → XK) : TS :=
      (sFld K (tVr 0) (tVr 1) "name_blocks")
theorem rd_Layout_init_1_ap {K : PySem.W.Frag} {a : String → Addr} {E E1 : St → XK} {D : Ends} {σ : St} {H : Hp} : rd_Layout_init_1 K a E E1 D σ H = (sFld K (tVr 0) (tVr 1) "name_blocks") D σ H := rfl
def rd_Layout_init_2 (K : PySem.W.Frag) (a : String → Addr) (E E1 : St → XK) : TS :=
      (sFld K (tVr 0) (tVr 2) "record_blocks")
theorem rd_Layout_init_2_ap {K : PySem.W.Frag} {a : String → Addr} {E E1 : St → XK} {D : Ends} {σ : St} {H : Hp} : rd_Layout_init_2 K a E E1 D σ H = (sFld K (tVr 0) (tVr 2) "record_blocks") D σ H := rfl
def rd_Layout_init_3 (K : PySem.W.Frag) (a : String → Addr) (E E1 : St → XK) : TS :=
      (sFld K (tVr 0) (tVr 3) "piece_blocks")
theorem rd_Layout_init_3_ap {K : PySem.W.Frag} {a : String → Addr} {E E1 : St → XK} {D : Ends} {σ : St} {H : Hp} : rd_Layout_init_3 K a E E1 D σ H = (sFld K (tVr 0) (tVr 3) "piece_blocks") D σ H := rfl
def rd_Layout_init_4 (K : PySem.W.Frag) (a : String → Addr) (E E1 : St → XK) : TS :=
      (sFld K (tVr 0) (tVr 4) "width")
theorem rd_Layout_init_4_ap {K : PySem.W.Frag} {a : String → Addr} {E E1 : St → XK} {D : Ends} {σ : St} {H : Hp} : rd_Layout_init_4 K a E E1 D σ H = (sFld K (tVr 0) (tVr 4) "width") D σ H := rfl
def rd_Layout_init (K : PySem.W.Frag) (a : String → Addr) (E : St → XK) : TS :=
      (tSeq (rd_Layout_init_1 K a E E) (tSeq (rd_Layout_init_2 K a E E) (tSeq (rd_Layout_init_3 K a E E) (rd_Layout_init_4 K a E E))))

def rd_Layout_counts_1 (K : PySem.W.Frag) (a : String → Addr) (E E1 : St → XK) : TS :=
      (tRet (tTup (tCons (tOp (rMulA K) (tFld K (tVr 0) "name_blocks") (tFld K (tVr 0) "width")) (tCons (tOp (rMulA K) (tFld K (tVr 0) "record_blocks") (tFld K (tVr 0) "width")) (tCons (tOp (rMulA K) (tFld K (tVr 0) "piece_blocks") (tFld K (tVr 0) "width")) tNil)))))
theorem rd_Layout_counts_1_ap {K : PySem.W.Frag} {a : String → Addr} {E E1 : St → XK} {D : Ends} {σ : St} {H : Hp} : rd_Layout_counts_1 K a E E1 D σ H = (tRet (tTup (tCons (tOp (rMulA K) (tFld K (tVr 0) "name_blocks") (tFld K (tVr 0) "width")) (tCons (tOp (rMulA K) (tFld K (tVr 0) "record_blocks") (tFld K (tVr 0) "width")) (tCons (tOp (rMulA K) (tFld K (tVr 0) "piece_blocks") (tFld K (tVr 0) "width")) tNil))))) D σ H := rfl
def rd_Layout_counts (K : PySem.W.Frag) (a : String → Addr) (E : St → XK) : TS :=
      (rd_Layout_counts_1 K a E E)

def rd_Layout_blocks_ahead_of_marks_1 (K : PySem.W.Frag) (a : String → Addr) (E E1 : St → XK) : TS :=
      (tRet (tOp (rAddA K) (tOp (rAddA K) (tFld K (tVr 0) "name_blocks") (tFld K (tVr 0) "record_blocks")) (tFld K (tVr 0) "piece_blocks")))
theorem rd_Layout_blocks_ahead_of_marks_1_ap {K : PySem.W.Frag} {a : String → Addr} {E E1 : St → XK} {D : Ends} {σ : St} {H : Hp} : rd_Layout_blocks_ahead_of_marks_1 K a E E1 D σ H = (tRet (tOp (rAddA K) (tOp (rAddA K) (tFld K (tVr 0) "name_blocks") (tFld K (tVr 0) "record_blocks")) (tFld K (tVr 0) "piece_blocks"))) D σ H := rfl
def rd_Layout_blocks_ahead_of_marks (K : PySem.W.Frag) (a : String → Addr) (E : St → XK) : TS :=
      (rd_Layout_blocks_ahead_of_marks_1 K a E E)

def rd_Layout_place_from_1 (K : PySem.W.Frag) (a : String → Addr) (E E1 : St → XK) : TS :=
      (tRet (tTup (tCons (tOp (rAddA K) (tVr 1) (tOp rDivI (tVr 2) (tFld K (tVr 0) "width"))) (tCons (tOp rModI (tVr 2) (tFld K (tVr 0) "width")) tNil))))
theorem rd_Layout_place_from_1_ap {K : PySem.W.Frag} {a : String → Addr} {E E1 : St → XK} {D : Ends} {σ : St} {H : Hp} : rd_Layout_place_from_1 K a E E1 D σ H = (tRet (tTup (tCons (tOp (rAddA K) (tVr 1) (tOp rDivI (tVr 2) (tFld K (tVr 0) "width"))) (tCons (tOp rModI (tVr 2) (tFld K (tVr 0) "width")) tNil)))) D σ H := rfl
def rd_Layout_place_from (K : PySem.W.Frag) (a : String → Addr) (E : St → XK) : TS :=
      (rd_Layout_place_from_1 K a E E)

def rd_law_mill_1 (K : PySem.W.Frag) (a : String → Addr) (E E1 : St → XK) : TS :=
      (tAsg (tOp (rAddA K) (tOp (rAddA K) (tOp rModI (tVr 0) (tC (.int 899809363))) (tOp (rMulA K) (tC (.int 13)) (tVr 1))) (tC (.int 5))) (gName 2))
theorem rd_law_mill_1_ap {K : PySem.W.Frag} {a : String → Addr} {E E1 : St → XK} {D : Ends} {σ : St} {H : Hp} : rd_law_mill_1 K a E E1 D σ H = (tAsg (tOp (rAddA K) (tOp (rAddA K) (tOp rModI (tVr 0) (tC (.int 899809363))) (tOp (rMulA K) (tC (.int 13)) (tVr 1))) (tC (.int 5))) (gName 2)) D σ H := rfl
def rd_law_mill_2 (K : PySem.W.Frag) (a : String → Addr) (E E1 : St → XK) : TS :=
      (tRet (tOp rDivI (tOp rModI (tOp (rMulA K) (tOp rModI (tOp (rMulA K) (tVr 2) (tVr 2)) (tC (.int 899809363))) (tOp (rAddA K) (tVr 2) (tVr 1))) (tC (.int 899809363))) (tC (.int 7))))
theorem rd_law_mill_2_ap {K : PySem.W.Frag} {a : String → Addr} {E E1 : St → XK} {D : Ends} {σ : St} {H : Hp} : rd_law_mill_2 K a E E1 D σ H = (tRet (tOp rDivI (tOp rModI (tOp (rMulA K) (tOp rModI (tOp (rMulA K) (tVr 2) (tVr 2)) (tC (.int 899809363))) (tOp (rAddA K) (tVr 2) (tVr 1))) (tC (.int 899809363))) (tC (.int 7)))) D σ H := rfl
def rd_law_mill (K : PySem.W.Frag) (a : String → Addr) (E : St → XK) : TS :=
      (tSeq (rd_law_mill_1 K a E E) (rd_law_mill_2 K a E E))

def rd_law_whole_1 (K : PySem.W.Frag) (a : String → Addr) (E E1 : St → XK) : TS :=
      (tRet (tAndV (tCB (r_call_isinst K) (tCons (tVr 0) (tCons (tC (.ty "int")) tNil))) (tNotT K (tCB (r_call_isinst K) (tCons (tVr 0) (tCons (tC (.ty "bool")) tNil))))))
theorem rd_law_whole_1_ap {K : PySem.W.Frag} {a : String → Addr} {E E1 : St → XK} {D : Ends} {σ : St} {H : Hp} : rd_law_whole_1 K a E E1 D σ H = (tRet (tAndV (tCB (r_call_isinst K) (tCons (tVr 0) (tCons (tC (.ty "int")) tNil))) (tNotT K (tCB (r_call_isinst K) (tCons (tVr 0) (tCons (tC (.ty "bool")) tNil)))))) D σ H := rfl
def rd_law_whole (K : PySem.W.Frag) (a : String → Addr) (E : St → XK) : TS :=
      (rd_law_whole_1 K a E E)

def rd_Plank_read_1 (K : PySem.W.Frag) (a : String → Addr) (E E1 : St → XK) : TS :=
      (tDrop (tMeth (a "Plank") "ask_for_block" (sp_Plank_ask_for_block K a) [] E (tVr 0) (tCons (tVr 1) tNil)))
theorem rd_Plank_read_1_ap {K : PySem.W.Frag} {a : String → Addr} {E E1 : St → XK} {D : Ends} {σ : St} {H : Hp} : rd_Plank_read_1 K a E E1 D σ H = (tDrop (tMeth (a "Plank") "ask_for_block" (sp_Plank_ask_for_block K a) [] E (tVr 0) (tCons (tVr 1) tNil))) D σ H := rfl
def rd_Plank_read_2 (K : PySem.W.Frag) (a : String → Addr) (E E1 : St → XK) : TS :=
      (tRet (tCB (r_call_listA K) (tCons (tOp (rIxA K) (tFld K (tVr 0) "contents") (tVr 1)) tNil)))
theorem rd_Plank_read_2_ap {K : PySem.W.Frag} {a : String → Addr} {E E1 : St → XK} {D : Ends} {σ : St} {H : Hp} : rd_Plank_read_2 K a E E1 D σ H = (tRet (tCB (r_call_listA K) (tCons (tOp (rIxA K) (tFld K (tVr 0) "contents") (tVr 1)) tNil))) D σ H := rfl
def rd_Plank_read (K : PySem.W.Frag) (a : String → Addr) (E : St → XK) : TS :=
      (tSeq (rd_Plank_read_1 K a E E) (rd_Plank_read_2 K a E E))

def rd_Plank_write_1 (K : PySem.W.Frag) (a : String → Addr) (E E1 : St → XK) : TS :=
      (tDrop (tMeth (a "Plank") "ask_for_block" (sp_Plank_ask_for_block K a) [] E (tVr 0) (tCons (tVr 1) tNil)))
theorem rd_Plank_write_1_ap {K : PySem.W.Frag} {a : String → Addr} {E E1 : St → XK} {D : Ends} {σ : St} {H : Hp} : rd_Plank_write_1 K a E E1 D σ H = (tDrop (tMeth (a "Plank") "ask_for_block" (sp_Plank_ask_for_block K a) [] E (tVr 0) (tCons (tVr 1) tNil))) D σ H := rfl
def rd_Plank_write_2 (K : PySem.W.Frag) (a : String → Addr) (E E1 : St → XK) : TS :=
      (tRaise (a "NoBlock") E (tCons (tC (.str "the list is not as long as a block")) tNil))
theorem rd_Plank_write_2_ap {K : PySem.W.Frag} {a : String → Addr} {E E1 : St → XK} {D : Ends} {σ : St} {H : Hp} : rd_Plank_write_2 K a E E1 D σ H = (tRaise (a "NoBlock") E (tCons (tC (.str "the list is not as long as a block")) tNil)) D σ H := rfl
def rd_Plank_write_3 (K : PySem.W.Frag) (a : String → Addr) (E E1 : St → XK) : TS :=
      (tIfS (tTest (tOp (rNeA K) (tCB (r_call_lenA K) (tCons (tVr 2) tNil)) (tFld K (tVr 0) "width"))) (rd_Plank_write_2 K a E E) tNext)
theorem rd_Plank_write_3_ap {K : PySem.W.Frag} {a : String → Addr} {E E1 : St → XK} {D : Ends} {σ : St} {H : Hp} : rd_Plank_write_3 K a E E1 D σ H = (tIfS (tTest (tOp (rNeA K) (tCB (r_call_lenA K) (tCons (tVr 2) tNil)) (tFld K (tVr 0) "width"))) (rd_Plank_write_2 K a E E) tNext) D σ H := rfl
def rd_Plank_write_4 (K : PySem.W.Frag) (a : String → Addr) (E E1 : St → XK) : TS :=
      (tAsg (tCB (r_call_tupleA K) (tCons (tVr 2) tNil)) (gSub (tFld K (tVr 0) "contents") (tVr 1) rSetA))
theorem rd_Plank_write_4_ap {K : PySem.W.Frag} {a : String → Addr} {E E1 : St → XK} {D : Ends} {σ : St} {H : Hp} : rd_Plank_write_4 K a E E1 D σ H = (tAsg (tCB (r_call_tupleA K) (tCons (tVr 2) tNil)) (gSub (tFld K (tVr 0) "contents") (tVr 1) rSetA)) D σ H := rfl
def rd_Plank_write_5 (K : PySem.W.Frag) (a : String → Addr) (E E1 : St → XK) : TS :=
      (sFldAug K (tVr 0) (tC (.int 1)) rAdd "written")
theorem rd_Plank_write_5_ap {K : PySem.W.Frag} {a : String → Addr} {E E1 : St → XK} {D : Ends} {σ : St} {H : Hp} : rd_Plank_write_5 K a E E1 D σ H = (sFldAug K (tVr 0) (tC (.int 1)) rAdd "written") D σ H := rfl
def rd_Plank_write (K : PySem.W.Frag) (a : String → Addr) (E : St → XK) : TS :=
      (tSeq (rd_Plank_write_1 K a E E) (tSeq (rd_Plank_write_3 K a E E) (tSeq (rd_Plank_write_4 K a E E) (rd_Plank_write_5 K a E E))))

def rd_Layout_name_at_1 (K : PySem.W.Frag) (a : String → Addr) (E E1 : St → XK) : TS :=
      (tRet (tMeth (a "Layout") "place_from" (sp_Layout_place_from K a) [] E (tVr 0) (tCons (tC (.int 0)) (tCons (tVr 1) tNil))))
theorem rd_Layout_name_at_1_ap {K : PySem.W.Frag} {a : String → Addr} {E E1 : St → XK} {D : Ends} {σ : St} {H : Hp} : rd_Layout_name_at_1 K a E E1 D σ H = (tRet (tMeth (a "Layout") "place_from" (sp_Layout_place_from K a) [] E (tVr 0) (tCons (tC (.int 0)) (tCons (tVr 1) tNil)))) D σ H := rfl
def rd_Layout_name_at (K : PySem.W.Frag) (a : String → Addr) (E : St → XK) : TS :=
      (rd_Layout_name_at_1 K a E E)

def rd_Layout_record_at_1 (K : PySem.W.Frag) (a : String → Addr) (E E1 : St → XK) : TS :=
      (tRet (tMeth (a "Layout") "place_from" (sp_Layout_place_from K a) [] E (tVr 0) (tCons (tFld K (tVr 0) "name_blocks") (tCons (tVr 1) tNil))))
theorem rd_Layout_record_at_1_ap {K : PySem.W.Frag} {a : String → Addr} {E E1 : St → XK} {D : Ends} {σ : St} {H : Hp} : rd_Layout_record_at_1 K a E E1 D σ H = (tRet (tMeth (a "Layout") "place_from" (sp_Layout_place_from K a) [] E (tVr 0) (tCons (tFld K (tVr 0) "name_blocks") (tCons (tVr 1) tNil)))) D σ H := rfl
def rd_Layout_record_at (K : PySem.W.Frag) (a : String → Addr) (E : St → XK) : TS :=
      (rd_Layout_record_at_1 K a E E)

def rd_Layout_piece_at_1 (K : PySem.W.Frag) (a : String → Addr) (E E1 : St → XK) : TS :=
      (tRet (tMeth (a "Layout") "place_from" (sp_Layout_place_from K a) [] E (tVr 0) (tCons (tOp (rAddA K) (tFld K (tVr 0) "name_blocks") (tFld K (tVr 0) "record_blocks")) (tCons (tVr 1) tNil))))
theorem rd_Layout_piece_at_1_ap {K : PySem.W.Frag} {a : String → Addr} {E E1 : St → XK} {D : Ends} {σ : St} {H : Hp} : rd_Layout_piece_at_1 K a E E1 D σ H = (tRet (tMeth (a "Layout") "place_from" (sp_Layout_place_from K a) [] E (tVr 0) (tCons (tOp (rAddA K) (tFld K (tVr 0) "name_blocks") (tFld K (tVr 0) "record_blocks")) (tCons (tVr 1) tNil)))) D σ H := rfl
def rd_Layout_piece_at (K : PySem.W.Frag) (a : String → Addr) (E : St → XK) : TS :=
      (rd_Layout_piece_at_1 K a E E)

def rd_Layout_record_mark_1 (K : PySem.W.Frag) (a : String → Addr) (E E1 : St → XK) : TS :=
      (tRet (tMeth (a "Layout") "place_from" (sp_Layout_place_from K a) [] E (tVr 0) (tCons (tMeth (a "Layout") "blocks_ahead_of_marks" (sp_Layout_blocks_ahead_of_marks K a) [] E (tVr 0) tNil) (tCons (tVr 1) tNil))))
theorem rd_Layout_record_mark_1_ap {K : PySem.W.Frag} {a : String → Addr} {E E1 : St → XK} {D : Ends} {σ : St} {H : Hp} : rd_Layout_record_mark_1 K a E E1 D σ H = (tRet (tMeth (a "Layout") "place_from" (sp_Layout_place_from K a) [] E (tVr 0) (tCons (tMeth (a "Layout") "blocks_ahead_of_marks" (sp_Layout_blocks_ahead_of_marks K a) [] E (tVr 0) tNil) (tCons (tVr 1) tNil)))) D σ H := rfl
def rd_Layout_record_mark (K : PySem.W.Frag) (a : String → Addr) (E : St → XK) : TS :=
      (rd_Layout_record_mark_1 K a E E)

def rd_Layout_piece_mark_1 (K : PySem.W.Frag) (a : String → Addr) (E E1 : St → XK) : TS :=
      (tRet (tMeth (a "Layout") "place_from" (sp_Layout_place_from K a) [] E (tVr 0) (tCons (tOp (rAddA K) (tMeth (a "Layout") "blocks_ahead_of_marks" (sp_Layout_blocks_ahead_of_marks K a) [] E (tVr 0) tNil) (tFld K (tVr 0) "record_blocks")) (tCons (tVr 1) tNil))))
theorem rd_Layout_piece_mark_1_ap {K : PySem.W.Frag} {a : String → Addr} {E E1 : St → XK} {D : Ends} {σ : St} {H : Hp} : rd_Layout_piece_mark_1 K a E E1 D σ H = (tRet (tMeth (a "Layout") "place_from" (sp_Layout_place_from K a) [] E (tVr 0) (tCons (tOp (rAddA K) (tMeth (a "Layout") "blocks_ahead_of_marks" (sp_Layout_blocks_ahead_of_marks K a) [] E (tVr 0) tNil) (tFld K (tVr 0) "record_blocks")) (tCons (tVr 1) tNil)))) D σ H := rfl
def rd_Layout_piece_mark (K : PySem.W.Frag) (a : String → Addr) (E : St → XK) : TS :=
      (rd_Layout_piece_mark_1 K a E E)

def rd_Layout_blocks_1 (K : PySem.W.Frag) (a : String → Addr) (E E1 : St → XK) : TS :=
      (tRet (tOp (rAddA K) (tOp (rAddA K) (tMeth (a "Layout") "blocks_ahead_of_marks" (sp_Layout_blocks_ahead_of_marks K a) [] E (tVr 0) tNil) (tFld K (tVr 0) "record_blocks")) (tFld K (tVr 0) "piece_blocks")))
theorem rd_Layout_blocks_1_ap {K : PySem.W.Frag} {a : String → Addr} {E E1 : St → XK} {D : Ends} {σ : St} {H : Hp} : rd_Layout_blocks_1 K a E E1 D σ H = (tRet (tOp (rAddA K) (tOp (rAddA K) (tMeth (a "Layout") "blocks_ahead_of_marks" (sp_Layout_blocks_ahead_of_marks K a) [] E (tVr 0) tNil) (tFld K (tVr 0) "record_blocks")) (tFld K (tVr 0) "piece_blocks"))) D σ H := rfl
def rd_Layout_blocks (K : PySem.W.Frag) (a : String → Addr) (E : St → XK) : TS :=
      (rd_Layout_blocks_1 K a E E)

def rd_law_at_1 (K : PySem.W.Frag) (a : String → Addr) (E E1 : St → XK) : TS :=
      (tRet (tC (.bl false)))
theorem rd_law_at_1_ap {K : PySem.W.Frag} {a : String → Addr} {E E1 : St → XK} {D : Ends} {σ : St} {H : Hp} : rd_law_at_1 K a E E1 D σ H = (tRet (tC (.bl false))) D σ H := rfl
def rd_law_at_2 (K : PySem.W.Frag) (a : String → Addr) (E E1 : St → XK) : TS :=
      (tIfS (tOr (tNot (tTru K (tCB (r_call_isinst K) (tCons (tVr 0) (tCons (tC (.ty "tuple")) tNil))))) (tOr (tTest (tOp (rNeA K) (tCB (r_call_lenA K) (tCons (tVr 0) tNil)) (tC (.int 2)))) (tOr (tNot (tTru K (tCall (sp_law_whole K a) [] E (tCons (tOp (rIxA K) (tVr 0) (tC (.int 0))) tNil)))) (tNot (tTru K (tCall (sp_law_whole K a) [] E (tCons (tOp (rIxA K) (tVr 0) (tC (.int 1))) tNil))))))) (rd_law_at_1 K a E E) tNext)
theorem rd_law_at_2_ap {K : PySem.W.Frag} {a : String → Addr} {E E1 : St → XK} {D : Ends} {σ : St} {H : Hp} : rd_law_at_2 K a E E1 D σ H = (tIfS (tOr (tNot (tTru K (tCB (r_call_isinst K) (tCons (tVr 0) (tCons (tC (.ty "tuple")) tNil))))) (tOr (tTest (tOp (rNeA K) (tCB (r_call_lenA K) (tCons (tVr 0) tNil)) (tC (.int 2)))) (tOr (tNot (tTru K (tCall (sp_law_whole K a) [] E (tCons (tOp (rIxA K) (tVr 0) (tC (.int 0))) tNil)))) (tNot (tTru K (tCall (sp_law_whole K a) [] E (tCons (tOp (rIxA K) (tVr 0) (tC (.int 1))) tNil))))))) (rd_law_at_1 K a E E) tNext) D σ H := rfl
def rd_law_at_3 (K : PySem.W.Frag) (a : String → Addr) (E E1 : St → XK) : TS :=
      (tRet (tOp (rEqA K) (tVr 0) (tTup (tCons (tVr 1) (tCons (tVr 2) tNil)))))
theorem rd_law_at_3_ap {K : PySem.W.Frag} {a : String → Addr} {E E1 : St → XK} {D : Ends} {σ : St} {H : Hp} : rd_law_at_3 K a E E1 D σ H = (tRet (tOp (rEqA K) (tVr 0) (tTup (tCons (tVr 1) (tCons (tVr 2) tNil))))) D σ H := rfl
def rd_law_at (K : PySem.W.Frag) (a : String → Addr) (E : St → XK) : TS :=
      (tSeq (rd_law_at_2 K a E E) (rd_law_at_3 K a E E))

def rd_Layout_plank_1 (K : PySem.W.Frag) (a : String → Addr) (E E1 : St → XK) : TS :=
      (tRet (tMake (a "Plank") (sp_Plank_init K a) [] E (tCons (tMeth (a "Layout") "blocks" (sp_Layout_blocks K a) [] E (tVr 0) tNil) (tCons (tFld K (tVr 0) "width") tNil))))
theorem rd_Layout_plank_1_ap {K : PySem.W.Frag} {a : String → Addr} {E E1 : St → XK} {D : Ends} {σ : St} {H : Hp} : rd_Layout_plank_1 K a E E1 D σ H = (tRet (tMake (a "Plank") (sp_Plank_init K a) [] E (tCons (tMeth (a "Layout") "blocks" (sp_Layout_blocks K a) [] E (tVr 0) tNil) (tCons (tFld K (tVr 0) "width") tNil)))) D σ H := rfl
def rd_Layout_plank (K : PySem.W.Frag) (a : String → Addr) (E : St → XK) : TS :=
      (rd_Layout_plank_1 K a E E)

def rd_law_places_1 (K : PySem.W.Frag) (a : String → Addr) (E E1 : St → XK) : TS :=
      (tAsg (tC (.int 0)) (gName 3))
theorem rd_law_places_1_ap {K : PySem.W.Frag} {a : String → Addr} {E E1 : St → XK} {D : Ends} {σ : St} {H : Hp} : rd_law_places_1 K a E E1 D σ H = (tAsg (tC (.int 0)) (gName 3)) D σ H := rfl
def rd_law_places_2 (K : PySem.W.Frag) (a : String → Addr) (E E1 : St → XK) : TS :=
      (tAsg (tLst (tCons (tC (.int 0)) (tCons (tOp (rIxA K) (tVr 1) (tC (.int 0))) (tCons (tOp (rAddA K) (tOp (rIxA K) (tVr 1) (tC (.int 0))) (tOp (rIxA K) (tVr 1) (tC (.int 1)))) (tCons (tCB (r_call_sum K) (tCons (tVr 1) tNil)) (tCons (tOp (rAddA K) (tCB (r_call_sum K) (tCons (tVr 1) tNil)) (tOp (rIxA K) (tVr 1) (tC (.int 1)))) tNil)))))) (gName 4))
theorem rd_law_places_2_ap {K : PySem.W.Frag} {a : String → Addr} {E E1 : St → XK} {D : Ends} {σ : St} {H : Hp} : rd_law_places_2 K a E E1 D σ H = (tAsg (tLst (tCons (tC (.int 0)) (tCons (tOp (rIxA K) (tVr 1) (tC (.int 0))) (tCons (tOp (rAddA K) (tOp (rIxA K) (tVr 1) (tC (.int 0))) (tOp (rIxA K) (tVr 1) (tC (.int 1)))) (tCons (tCB (r_call_sum K) (tCons (tVr 1) tNil)) (tCons (tOp (rAddA K) (tCB (r_call_sum K) (tCons (tVr 1) tNil)) (tOp (rIxA K) (tVr 1) (tC (.int 1)))) tNil)))))) (gName 4)) D σ H := rfl
def rd_law_places_3 (K : PySem.W.Frag) (a : String → Addr) (E E1 : St → XK) : TS :=
      (tAsg (tOp rDivI (tVr 5) (tVr 2)) (gName 6))
theorem rd_law_places_3_ap {K : PySem.W.Frag} {a : String → Addr} {E E1 : St → XK} {D : Ends} {σ : St} {H : Hp} : rd_law_places_3 K a E E1 D σ H = (tAsg (tOp rDivI (tVr 5) (tVr 2)) (gName 6)) D σ H := rfl
def rd_law_places_4 (K : PySem.W.Frag) (a : String → Addr) (E E1 : St → XK) : TS :=
      (tAsg (tOp rSubI (tVr 5) (tOp (rMulA K) (tVr 6) (tVr 2))) (gName 7))
theorem rd_law_places_4_ap {K : PySem.W.Frag} {a : String → Addr} {E E1 : St → XK} {D : Ends} {σ : St} {H : Hp} : rd_law_places_4 K a E E1 D σ H = (tAsg (tOp rSubI (tVr 5) (tOp (rMulA K) (tVr 6) (tVr 2))) (gName 7)) D σ H := rfl
def rd_law_places_5 (K : PySem.W.Frag) (a : String → Addr) (E E1 : St → XK) : TS :=
      (tRet (tC (.bl false)))
theorem rd_law_places_5_ap {K : PySem.W.Frag} {a : String → Addr} {E E1 : St → XK} {D : Ends} {σ : St} {H : Hp} : rd_law_places_5 K a E E1 D σ H = (tRet (tC (.bl false))) D σ H := rfl
def rd_law_places_6 (K : PySem.W.Frag) (a : String → Addr) (E E1 : St → XK) : TS :=
      (tIfS (tAnd (tTest (tOp rLtA (tVr 6) (tOp (rIxA K) (tVr 1) (tC (.int 0))))) (tNot (tTru K (tCall (sp_law_at K a) [] E (tCons (tMeth (a "Layout") "name_at" (sp_Layout_name_at K a) [] E (tVr 0) (tCons (tVr 5) tNil)) (tCons (tOp (rAddA K) (tOp (rIxA K) (tVr 4) (tC (.int 0))) (tVr 6)) (tCons (tVr 7) tNil))))))) (rd_law_places_5 K a E E) tNext)
theorem rd_law_places_6_ap {K : PySem.W.Frag} {a : String → Addr} {E E1 : St → XK} {D : Ends} {σ : St} {H : Hp} : rd_law_places_6 K a E E1 D σ H = (tIfS (tAnd (tTest (tOp rLtA (tVr 6) (tOp (rIxA K) (tVr 1) (tC (.int 0))))) (tNot (tTru K (tCall (sp_law_at K a) [] E (tCons (tMeth (a "Layout") "name_at" (sp_Layout_name_at K a) [] E (tVr 0) (tCons (tVr 5) tNil)) (tCons (tOp (rAddA K) (tOp (rIxA K) (tVr 4) (tC (.int 0))) (tVr 6)) (tCons (tVr 7) tNil))))))) (rd_law_places_5 K a E E) tNext) D σ H := rfl
def rd_law_places_7 (K : PySem.W.Frag) (a : String → Addr) (E E1 : St → XK) : TS :=
      (tRet (tC (.bl false)))
theorem rd_law_places_7_ap {K : PySem.W.Frag} {a : String → Addr} {E E1 : St → XK} {D : Ends} {σ : St} {H : Hp} : rd_law_places_7 K a E E1 D σ H = (tRet (tC (.bl false))) D σ H := rfl
def rd_law_places_8 (K : PySem.W.Frag) (a : String → Addr) (E E1 : St → XK) : TS :=
      (tIfS (tAnd (tTest (tOp rLtA (tVr 6) (tOp (rIxA K) (tVr 1) (tC (.int 1))))) (tNot (tTru K (tCall (sp_law_at K a) [] E (tCons (tMeth (a "Layout") "record_at" (sp_Layout_record_at K a) [] E (tVr 0) (tCons (tVr 5) tNil)) (tCons (tOp (rAddA K) (tOp (rIxA K) (tVr 4) (tC (.int 1))) (tVr 6)) (tCons (tVr 7) tNil))))))) (rd_law_places_7 K a E E) tNext)
theorem rd_law_places_8_ap {K : PySem.W.Frag} {a : String → Addr} {E E1 : St → XK} {D : Ends} {σ : St} {H : Hp} : rd_law_places_8 K a E E1 D σ H = (tIfS (tAnd (tTest (tOp rLtA (tVr 6) (tOp (rIxA K) (tVr 1) (tC (.int 1))))) (tNot (tTru K (tCall (sp_law_at K a) [] E (tCons (tMeth (a "Layout") "record_at" (sp_Layout_record_at K a) [] E (tVr 0) (tCons (tVr 5) tNil)) (tCons (tOp (rAddA K) (tOp (rIxA K) (tVr 4) (tC (.int 1))) (tVr 6)) (tCons (tVr 7) tNil))))))) (rd_law_places_7 K a E E) tNext) D σ H := rfl
def rd_law_places_9 (K : PySem.W.Frag) (a : String → Addr) (E E1 : St → XK) : TS :=
      (tRet (tC (.bl false)))
theorem rd_law_places_9_ap {K : PySem.W.Frag} {a : String → Addr} {E E1 : St → XK} {D : Ends} {σ : St} {H : Hp} : rd_law_places_9 K a E E1 D σ H = (tRet (tC (.bl false))) D σ H := rfl
def rd_law_places_10 (K : PySem.W.Frag) (a : String → Addr) (E E1 : St → XK) : TS :=
      (tIfS (tAnd (tTest (tOp rLtA (tVr 6) (tOp (rIxA K) (tVr 1) (tC (.int 2))))) (tNot (tTru K (tCall (sp_law_at K a) [] E (tCons (tMeth (a "Layout") "piece_at" (sp_Layout_piece_at K a) [] E (tVr 0) (tCons (tVr 5) tNil)) (tCons (tOp (rAddA K) (tOp (rIxA K) (tVr 4) (tC (.int 2))) (tVr 6)) (tCons (tVr 7) tNil))))))) (rd_law_places_9 K a E E) tNext)
theorem rd_law_places_10_ap {K : PySem.W.Frag} {a : String → Addr} {E E1 : St → XK} {D : Ends} {σ : St} {H : Hp} : rd_law_places_10 K a E E1 D σ H = (tIfS (tAnd (tTest (tOp rLtA (tVr 6) (tOp (rIxA K) (tVr 1) (tC (.int 2))))) (tNot (tTru K (tCall (sp_law_at K a) [] E (tCons (tMeth (a "Layout") "piece_at" (sp_Layout_piece_at K a) [] E (tVr 0) (tCons (tVr 5) tNil)) (tCons (tOp (rAddA K) (tOp (rIxA K) (tVr 4) (tC (.int 2))) (tVr 6)) (tCons (tVr 7) tNil))))))) (rd_law_places_9 K a E E) tNext) D σ H := rfl
def rd_law_places_11 (K : PySem.W.Frag) (a : String → Addr) (E E1 : St → XK) : TS :=
      (tRet (tC (.bl false)))
theorem rd_law_places_11_ap {K : PySem.W.Frag} {a : String → Addr} {E E1 : St → XK} {D : Ends} {σ : St} {H : Hp} : rd_law_places_11 K a E E1 D σ H = (tRet (tC (.bl false))) D σ H := rfl
def rd_law_places_12 (K : PySem.W.Frag) (a : String → Addr) (E E1 : St → XK) : TS :=
      (tIfS (tAnd (tTest (tOp rLtA (tVr 6) (tOp (rIxA K) (tVr 1) (tC (.int 1))))) (tNot (tTru K (tCall (sp_law_at K a) [] E (tCons (tMeth (a "Layout") "record_mark" (sp_Layout_record_mark K a) [] E (tVr 0) (tCons (tVr 5) tNil)) (tCons (tOp (rAddA K) (tOp (rIxA K) (tVr 4) (tC (.int 3))) (tVr 6)) (tCons (tVr 7) tNil))))))) (rd_law_places_11 K a E E) tNext)
theorem rd_law_places_12_ap {K : PySem.W.Frag} {a : String → Addr} {E E1 : St → XK} {D : Ends} {σ : St} {H : Hp} : rd_law_places_12 K a E E1 D σ H = (tIfS (tAnd (tTest (tOp rLtA (tVr 6) (tOp (rIxA K) (tVr 1) (tC (.int 1))))) (tNot (tTru K (tCall (sp_law_at K a) [] E (tCons (tMeth (a "Layout") "record_mark" (sp_Layout_record_mark K a) [] E (tVr 0) (tCons (tVr 5) tNil)) (tCons (tOp (rAddA K) (tOp (rIxA K) (tVr 4) (tC (.int 3))) (tVr 6)) (tCons (tVr 7) tNil))))))) (rd_law_places_11 K a E E) tNext) D σ H := rfl
def rd_law_places_13 (K : PySem.W.Frag) (a : String → Addr) (E E1 : St → XK) : TS :=
      (tRet (tC (.bl false)))
theorem rd_law_places_13_ap {K : PySem.W.Frag} {a : String → Addr} {E E1 : St → XK} {D : Ends} {σ : St} {H : Hp} : rd_law_places_13 K a E E1 D σ H = (tRet (tC (.bl false))) D σ H := rfl
def rd_law_places_14 (K : PySem.W.Frag) (a : String → Addr) (E E1 : St → XK) : TS :=
      (tIfS (tAnd (tTest (tOp rLtA (tVr 6) (tOp (rIxA K) (tVr 1) (tC (.int 2))))) (tNot (tTru K (tCall (sp_law_at K a) [] E (tCons (tMeth (a "Layout") "piece_mark" (sp_Layout_piece_mark K a) [] E (tVr 0) (tCons (tVr 5) tNil)) (tCons (tOp (rAddA K) (tOp (rIxA K) (tVr 4) (tC (.int 4))) (tVr 6)) (tCons (tVr 7) tNil))))))) (rd_law_places_13 K a E E) tNext)
theorem rd_law_places_14_ap {K : PySem.W.Frag} {a : String → Addr} {E E1 : St → XK} {D : Ends} {σ : St} {H : Hp} : rd_law_places_14 K a E E1 D σ H = (tIfS (tAnd (tTest (tOp rLtA (tVr 6) (tOp (rIxA K) (tVr 1) (tC (.int 2))))) (tNot (tTru K (tCall (sp_law_at K a) [] E (tCons (tMeth (a "Layout") "piece_mark" (sp_Layout_piece_mark K a) [] E (tVr 0) (tCons (tVr 5) tNil)) (tCons (tOp (rAddA K) (tOp (rIxA K) (tVr 4) (tC (.int 4))) (tVr 6)) (tCons (tVr 7) tNil))))))) (rd_law_places_13 K a E E) tNext) D σ H := rfl
def rd_law_places_15 (K : PySem.W.Frag) (a : String → Addr) (E E1 : St → XK) : TS :=
      (tAsg (tOp (rAddA K) (tVr 3) (tCB (r_call_int1 K) (tCons (tOp rLtA (tVr 6) (tOp (rIxA K) (tVr 1) (tC (.int 0)))) tNil))) (gName 3))
theorem rd_law_places_15_ap {K : PySem.W.Frag} {a : String → Addr} {E E1 : St → XK} {D : Ends} {σ : St} {H : Hp} : rd_law_places_15 K a E E1 D σ H = (tAsg (tOp (rAddA K) (tVr 3) (tCB (r_call_int1 K) (tCons (tOp rLtA (tVr 6) (tOp (rIxA K) (tVr 1) (tC (.int 0)))) tNil))) (gName 3)) D σ H := rfl
def rd_law_places_16 (K : PySem.W.Frag) (a : String → Addr) (E E1 : St → XK) : TS :=
      (tAsg (tOp (rAddA K) (tVr 3) (tOp (rMulA K) (tC (.int 2)) (tCB (r_call_int1 K) (tCons (tOp rLtA (tVr 6) (tVr 8)) tNil)))) (gName 3))
theorem rd_law_places_16_ap {K : PySem.W.Frag} {a : String → Addr} {E E1 : St → XK} {D : Ends} {σ : St} {H : Hp} : rd_law_places_16 K a E E1 D σ H = (tAsg (tOp (rAddA K) (tVr 3) (tOp (rMulA K) (tC (.int 2)) (tCB (r_call_int1 K) (tCons (tOp rLtA (tVr 6) (tVr 8)) tNil)))) (gName 3)) D σ H := rfl
def rd_law_places_17 (K : PySem.W.Frag) (a : String → Addr) (E E1 : St → XK) : TS :=
      (tFor (iSeq K (tSl (rSlA K) (tVr 1) (tPart (tC (.int 1))) tNoPart)) (gName 8) (rd_law_places_16 K a E E))
theorem rd_law_places_17_ap {K : PySem.W.Frag} {a : String → Addr} {E E1 : St → XK} {D : Ends} {σ : St} {H : Hp} : rd_law_places_17 K a E E1 D σ H = (tFor (iSeq K (tSl (rSlA K) (tVr 1) (tPart (tC (.int 1))) tNoPart)) (gName 8) (rd_law_places_16 K a E E)) D σ H := rfl
def rd_law_places_18 (K : PySem.W.Frag) (a : String → Addr) (E E1 : St → XK) : TS :=
      (tFor (iRng1 (tCons (tOp (rMulA K) (tCB (r_call_maxL K) (tCons (tVr 1) tNil)) (tVr 2)) tNil)) (gName 5) (tSeq (rd_law_places_3 K a E E) (tSeq (rd_law_places_4 K a E E) (tSeq (rd_law_places_6 K a E E) (tSeq (rd_law_places_8 K a E E) (tSeq (rd_law_places_10 K a E E) (tSeq (rd_law_places_12 K a E E) (tSeq (rd_law_places_14 K a E E) (tSeq (rd_law_places_15 K a E E) (rd_law_places_17 K a E E))))))))))
theorem rd_law_places_18_ap {K : PySem.W.Frag} {a : String → Addr} {E E1 : St → XK} {D : Ends} {σ : St} {H : Hp} : rd_law_places_18 K a E E1 D σ H = (tFor (iRng1 (tCons (tOp (rMulA K) (tCB (r_call_maxL K) (tCons (tVr 1) tNil)) (tVr 2)) tNil)) (gName 5) (tSeq (rd_law_places_3 K a E E) (tSeq (rd_law_places_4 K a E E) (tSeq (rd_law_places_6 K a E E) (tSeq (rd_law_places_8 K a E E) (tSeq (rd_law_places_10 K a E E) (tSeq (rd_law_places_12 K a E E) (tSeq (rd_law_places_14 K a E E) (tSeq (rd_law_places_15 K a E E) (rd_law_places_17 K a E E)))))))))) D σ H := rfl
def rd_law_places_19 (K : PySem.W.Frag) (a : String → Addr) (E E1 : St → XK) : TS :=
      (tRet (tOp (rEqA K) (tVr 3) (tOp (rMulA K) (tMeth (a "Layout") "blocks" (sp_Layout_blocks K a) [] E (tVr 0) tNil) (tVr 2))))
theorem rd_law_places_19_ap {K : PySem.W.Frag} {a : String → Addr} {E E1 : St → XK} {D : Ends} {σ : St} {H : Hp} : rd_law_places_19 K a E E1 D σ H = (tRet (tOp (rEqA K) (tVr 3) (tOp (rMulA K) (tMeth (a "Layout") "blocks" (sp_Layout_blocks K a) [] E (tVr 0) tNil) (tVr 2)))) D σ H := rfl
def rd_law_places (K : PySem.W.Frag) (a : String → Addr) (E : St → XK) : TS :=
      (tSeq (rd_law_places_1 K a E E) (tSeq (rd_law_places_2 K a E E) (tSeq (rd_law_places_18 K a E E) (rd_law_places_19 K a E E))))

def rd_law_new_1 (K : PySem.W.Frag) (a : String → Addr) (E E1 : St → XK) : TS :=
      (tAsg (tLst (tCons (tMeth (a "Plank") "blocks" (sp_Plank_blocks K a) [] E (tVr 0) tNil) (tCons (tMeth (a "Plank") "cells" (sp_Plank_cells K a) [] E (tVr 0) tNil) (tCons (tMeth (a "Plank") "writings" (sp_Plank_writings K a) [] E (tVr 0) tNil) tNil)))) (gName 3))
theorem rd_law_new_1_ap {K : PySem.W.Frag} {a : String → Addr} {E E1 : St → XK} {D : Ends} {σ : St} {H : Hp} : rd_law_new_1 K a E E1 D σ H = (tAsg (tLst (tCons (tMeth (a "Plank") "blocks" (sp_Plank_blocks K a) [] E (tVr 0) tNil) (tCons (tMeth (a "Plank") "cells" (sp_Plank_cells K a) [] E (tVr 0) tNil) (tCons (tMeth (a "Plank") "writings" (sp_Plank_writings K a) [] E (tVr 0) tNil) tNil)))) (gName 3)) D σ H := rfl
def rd_law_new_2 (K : PySem.W.Frag) (a : String → Addr) (E E1 : St → XK) : TS :=
      (tRet (tC (.bl false)))
theorem rd_law_new_2_ap {K : PySem.W.Frag} {a : String → Addr} {E E1 : St → XK} {D : Ends} {σ : St} {H : Hp} : rd_law_new_2 K a E E1 D σ H = (tRet (tC (.bl false))) D σ H := rfl
def rd_law_new_3 (K : PySem.W.Frag) (a : String → Addr) (E E1 : St → XK) : TS :=
      (tIfS (tOr (tTest (tOp (rNeA K) (tVr 3) (tLst (tCons (tVr 1) (tCons (tVr 2) (tCons (tC (.int 0)) tNil)))))) (tTest (tOp (rNeA K) (tComp (iSeq K (tVr 3)) (gName 0) (tNot (tTru K (tCall (sp_law_whole K a) [] (fun _ => E0) (tCons (tVr 0) tNil)))) (tVr 0) 1 []) (tLst tNil)))) (rd_law_new_2 K a E E) tNext)
theorem rd_law_new_3_ap {K : PySem.W.Frag} {a : String → Addr} {E E1 : St → XK} {D : Ends} {σ : St} {H : Hp} : rd_law_new_3 K a E E1 D σ H = (tIfS (tOr (tTest (tOp (rNeA K) (tVr 3) (tLst (tCons (tVr 1) (tCons (tVr 2) (tCons (tC (.int 0)) tNil)))))) (tTest (tOp (rNeA K) (tComp (iSeq K (tVr 3)) (gName 0) (tNot (tTru K (tCall (sp_law_whole K a) [] (fun _ => E0) (tCons (tVr 0) tNil)))) (tVr 0) 1 []) (tLst tNil)))) (rd_law_new_2 K a E E) tNext) D σ H := rfl
def rd_law_new_4 (K : PySem.W.Frag) (a : String → Addr) (E E1 : St → XK) : TS :=
      (tAsg (tLst tNil) (gName 4))
theorem rd_law_new_4_ap {K : PySem.W.Frag} {a : String → Addr} {E E1 : St → XK} {D : Ends} {σ : St} {H : Hp} : rd_law_new_4 K a E E1 D σ H = (tAsg (tLst tNil) (gName 4)) D σ H := rfl
def rd_law_new_5 (K : PySem.W.Frag) (a : String → Addr) (E E1 : St → XK) : TS :=
      (tAsg (tMeth (a "Plank") "read" (sp_Plank_read K a) [] E (tVr 0) (tCons (tVr 5) tNil)) (gName 3))
theorem rd_law_new_5_ap {K : PySem.W.Frag} {a : String → Addr} {E E1 : St → XK} {D : Ends} {σ : St} {H : Hp} : rd_law_new_5 K a E E1 D σ H = (tAsg (tMeth (a "Plank") "read" (sp_Plank_read K a) [] E (tVr 0) (tCons (tVr 5) tNil)) (gName 3)) D σ H := rfl
def rd_law_new_6 (K : PySem.W.Frag) (a : String → Addr) (E E1 : St → XK) : TS :=
      (tRet (tC (.bl false)))
theorem rd_law_new_6_ap {K : PySem.W.Frag} {a : String → Addr} {E E1 : St → XK} {D : Ends} {σ : St} {H : Hp} : rd_law_new_6 K a E E1 D σ H = (tRet (tC (.bl false))) D σ H := rfl
def rd_law_new_7 (K : PySem.W.Frag) (a : String → Addr) (E E1 : St → XK) : TS :=
      (tIfS (tTest (tOp (rNeA K) (tVr 3) (tOp (rMulA K) (tLst (tCons (tC .non) tNil)) (tVr 2)))) (rd_law_new_6 K a E E) tNext)
theorem rd_law_new_7_ap {K : PySem.W.Frag} {a : String → Addr} {E E1 : St → XK} {D : Ends} {σ : St} {H : Hp} : rd_law_new_7 K a E E1 D σ H = (tIfS (tTest (tOp (rNeA K) (tVr 3) (tOp (rMulA K) (tLst (tCons (tC .non) tNil)) (tVr 2)))) (rd_law_new_6 K a E E) tNext) D σ H := rfl
def rd_law_new_8 (K : PySem.W.Frag) (a : String → Addr) (E E1 : St → XK) : TS :=
      (tAsg (tC (.int 7)) (gSub (tVr 3) (tC (.int 0)) rSetA))
theorem rd_law_new_8_ap {K : PySem.W.Frag} {a : String → Addr} {E E1 : St → XK} {D : Ends} {σ : St} {H : Hp} : rd_law_new_8 K a E E1 D σ H = (tAsg (tC (.int 7)) (gSub (tVr 3) (tC (.int 0)) rSetA)) D σ H := rfl
def rd_law_new_9 (K : PySem.W.Frag) (a : String → Addr) (E E1 : St → XK) : TS :=
      (tDrop (tBM K "list" r_mt_append (tVr 3) (tCons (tC (.int 8)) tNil)))
theorem rd_law_new_9_ap {K : PySem.W.Frag} {a : String → Addr} {E E1 : St → XK} {D : Ends} {σ : St} {H : Hp} : rd_law_new_9 K a E E1 D σ H = (tDrop (tBM K "list" r_mt_append (tVr 3) (tCons (tC (.int 8)) tNil))) D σ H := rfl
def rd_law_new_10 (K : PySem.W.Frag) (a : String → Addr) (E E1 : St → XK) : TS :=
      (tDrop (tBM K "list" r_mt_append (tVr 4) (tCons (tMeth (a "Plank") "read" (sp_Plank_read K a) [] E (tVr 0) (tCons (tVr 5) tNil)) tNil)))
theorem rd_law_new_10_ap {K : PySem.W.Frag} {a : String → Addr} {E E1 : St → XK} {D : Ends} {σ : St} {H : Hp} : rd_law_new_10 K a E E1 D σ H = (tDrop (tBM K "list" r_mt_append (tVr 4) (tCons (tMeth (a "Plank") "read" (sp_Plank_read K a) [] E (tVr 0) (tCons (tVr 5) tNil)) tNil))) D σ H := rfl
def rd_law_new_11 (K : PySem.W.Frag) (a : String → Addr) (E E1 : St → XK) : TS :=
      (tFor (iRng1 (tCons (tVr 1) tNil)) (gName 5) (tSeq (rd_law_new_5 K a E E) (tSeq (rd_law_new_7 K a E E) (tSeq (rd_law_new_8 K a E E) (tSeq (rd_law_new_9 K a E E) (rd_law_new_10 K a E E))))))
theorem rd_law_new_11_ap {K : PySem.W.Frag} {a : String → Addr} {E E1 : St → XK} {D : Ends} {σ : St} {H : Hp} : rd_law_new_11 K a E E1 D σ H = (tFor (iRng1 (tCons (tVr 1) tNil)) (gName 5) (tSeq (rd_law_new_5 K a E E) (tSeq (rd_law_new_7 K a E E) (tSeq (rd_law_new_8 K a E E) (tSeq (rd_law_new_9 K a E E) (rd_law_new_10 K a E E)))))) D σ H := rfl
def rd_law_new_12 (K : PySem.W.Frag) (a : String → Addr) (E E1 : St → XK) : TS :=
      (tRet (tC (.bl false)))
theorem rd_law_new_12_ap {K : PySem.W.Frag} {a : String → Addr} {E E1 : St → XK} {D : Ends} {σ : St} {H : Hp} : rd_law_new_12 K a E E1 D σ H = (tRet (tC (.bl false))) D σ H := rfl
def rd_law_new_13 (K : PySem.W.Frag) (a : String → Addr) (E E1 : St → XK) : TS :=
      (tIfS (tTest (tOp (rNeA K) (tVr 3) (tOp (rMulA K) (tLst (tCons (tC .non) tNil)) (tVr 2)))) (rd_law_new_12 K a E E) tNext)
theorem rd_law_new_13_ap {K : PySem.W.Frag} {a : String → Addr} {E E1 : St → XK} {D : Ends} {σ : St} {H : Hp} : rd_law_new_13 K a E E1 D σ H = (tIfS (tTest (tOp (rNeA K) (tVr 3) (tOp (rMulA K) (tLst (tCons (tC .non) tNil)) (tVr 2)))) (rd_law_new_12 K a E E) tNext) D σ H := rfl
def rd_law_new_14 (K : PySem.W.Frag) (a : String → Addr) (E E1 : St → XK) : TS :=
      (tAsg (tC (.int 9)) (gSub (tVr 3) (tC (.int 0)) rSetA))
theorem rd_law_new_14_ap {K : PySem.W.Frag} {a : String → Addr} {E E1 : St → XK} {D : Ends} {σ : St} {H : Hp} : rd_law_new_14 K a E E1 D σ H = (tAsg (tC (.int 9)) (gSub (tVr 3) (tC (.int 0)) rSetA)) D σ H := rfl
def rd_law_new_15 (K : PySem.W.Frag) (a : String → Addr) (E E1 : St → XK) : TS :=
      (tFor (iSeq K (tVr 4)) (gName 3) (tSeq (rd_law_new_13 K a E E) (rd_law_new_14 K a E E)))
theorem rd_law_new_15_ap {K : PySem.W.Frag} {a : String → Addr} {E E1 : St → XK} {D : Ends} {σ : St} {H : Hp} : rd_law_new_15 K a E E1 D σ H = (tFor (iSeq K (tVr 4)) (gName 3) (tSeq (rd_law_new_13 K a E E) (rd_law_new_14 K a E E))) D σ H := rfl
def rd_law_new_16 (K : PySem.W.Frag) (a : String → Addr) (E E1 : St → XK) : TS :=
      (tRet (tOp (rEqA K) (tMeth (a "Plank") "writings" (sp_Plank_writings K a) [] E (tVr 0) tNil) (tC (.int 0))))
theorem rd_law_new_16_ap {K : PySem.W.Frag} {a : String → Addr} {E E1 : St → XK} {D : Ends} {σ : St} {H : Hp} : rd_law_new_16 K a E E1 D σ H = (tRet (tOp (rEqA K) (tMeth (a "Plank") "writings" (sp_Plank_writings K a) [] E (tVr 0) tNil) (tC (.int 0)))) D σ H := rfl
def rd_law_new (K : PySem.W.Frag) (a : String → Addr) (E : St → XK) : TS :=
      (tSeq (rd_law_new_1 K a E E) (tSeq (rd_law_new_3 K a E E) (tSeq (rd_law_new_4 K a E E) (tSeq (rd_law_new_11 K a E E) (tSeq (rd_law_new_15 K a E E) (rd_law_new_16 K a E E))))))

def rd_law_refused_1 (K : PySem.W.Frag) (a : String → Addr) (E E1 : St → XK) : TS :=
      (tAsg (tC (.bl false)) (gName 3))
theorem rd_law_refused_1_ap {K : PySem.W.Frag} {a : String → Addr} {E E1 : St → XK} {D : Ends} {σ : St} {H : Hp} : rd_law_refused_1 K a E E1 D σ H = (tAsg (tC (.bl false)) (gName 3)) D σ H := rfl
def rd_law_refused_2 (K : PySem.W.Frag) (a : String → Addr) (E E1 : St → XK) : TS :=
      (tDrop (tMeth (a "Plank") "write" (sp_Plank_write K a) [] E1 (tVr 0) (tCons (tVr 1) (tCons (tVr 2) tNil))))
theorem rd_law_refused_2_ap {K : PySem.W.Frag} {a : String → Addr} {E E1 : St → XK} {D : Ends} {σ : St} {H : Hp} : rd_law_refused_2 K a E E1 D σ H = (tDrop (tMeth (a "Plank") "write" (sp_Plank_write K a) [] E1 (tVr 0) (tCons (tVr 1) (tCons (tVr 2) tNil)))) D σ H := rfl
def rd_law_refused_3 (K : PySem.W.Frag) (a : String → Addr) (E E1 : St → XK) : TS :=
      (tAsg (tC (.bl true)) (gName 3))
theorem rd_law_refused_3_ap {K : PySem.W.Frag} {a : String → Addr} {E E1 : St → XK} {D : Ends} {σ : St} {H : Hp} : rd_law_refused_3 K a E E1 D σ H = (tAsg (tC (.bl true)) (gName 3)) D σ H := rfl
def rd_law_refused_4 (K : PySem.W.Frag) (a : String → Addr) (E E1 : St → XK) : TS :=
      (tTry (fun E1 => (rd_law_refused_2 K a E E1)) (thCons (fun cls => PySem.W.exmOne K cls (.ref (a "NoBlock"))) (rd_law_refused_3 K a E E) thNil))
theorem rd_law_refused_4_ap {K : PySem.W.Frag} {a : String → Addr} {E E1 : St → XK} {D : Ends} {σ : St} {H : Hp} : rd_law_refused_4 K a E E1 D σ H = (tTry (fun E1 => (rd_law_refused_2 K a E E1)) (thCons (fun cls => PySem.W.exmOne K cls (.ref (a "NoBlock"))) (rd_law_refused_3 K a E E) thNil)) D σ H := rfl
def rd_law_refused_5 (K : PySem.W.Frag) (a : String → Addr) (E E1 : St → XK) : TS :=
      (tRet (tVr 3))
theorem rd_law_refused_5_ap {K : PySem.W.Frag} {a : String → Addr} {E E1 : St → XK} {D : Ends} {σ : St} {H : Hp} : rd_law_refused_5 K a E E1 D σ H = (tRet (tVr 3)) D σ H := rfl
def rd_law_refused (K : PySem.W.Frag) (a : String → Addr) (E : St → XK) : TS :=
      (tSeq (rd_law_refused_1 K a E E) (tSeq (rd_law_refused_4 K a E E) (rd_law_refused_5 K a E E)))

def rd_law_written_1 (K : PySem.W.Frag) (a : String → Addr) (E E1 : St → XK) : TS :=
      (tAsg (tOp (rMulA K) (tLst (tCons (tC (.int 1)) tNil)) (tVr 3)) (gName 4))
theorem rd_law_written_1_ap {K : PySem.W.Frag} {a : String → Addr} {E E1 : St → XK} {D : Ends} {σ : St} {H : Hp} : rd_law_written_1 K a E E1 D σ H = (tAsg (tOp (rMulA K) (tLst (tCons (tC (.int 1)) tNil)) (tVr 3)) (gName 4)) D σ H := rfl
def rd_law_written_2 (K : PySem.W.Frag) (a : String → Addr) (E E1 : St → XK) : TS :=
      (tDrop (tMeth (a "Plank") "write" (sp_Plank_write K a) [] E (tVr 0) (tCons (tVr 1) (tCons (tVr 4) tNil))))
theorem rd_law_written_2_ap {K : PySem.W.Frag} {a : String → Addr} {E E1 : St → XK} {D : Ends} {σ : St} {H : Hp} : rd_law_written_2 K a E E1 D σ H = (tDrop (tMeth (a "Plank") "write" (sp_Plank_write K a) [] E (tVr 0) (tCons (tVr 1) (tCons (tVr 4) tNil)))) D σ H := rfl
def rd_law_written_3 (K : PySem.W.Frag) (a : String → Addr) (E E1 : St → XK) : TS :=
      (tAsg (tC (.int 2)) (gSub (tVr 4) (tC (.int 0)) rSetA))
theorem rd_law_written_3_ap {K : PySem.W.Frag} {a : String → Addr} {E E1 : St → XK} {D : Ends} {σ : St} {H : Hp} : rd_law_written_3 K a E E1 D σ H = (tAsg (tC (.int 2)) (gSub (tVr 4) (tC (.int 0)) rSetA)) D σ H := rfl
def rd_law_written_4 (K : PySem.W.Frag) (a : String → Addr) (E E1 : St → XK) : TS :=
      (tDrop (tBM0 K "list" r_mt_clear (tMeth (a "Plank") "read" (sp_Plank_read K a) [] E (tVr 0) (tCons (tVr 1) tNil))))
theorem rd_law_written_4_ap {K : PySem.W.Frag} {a : String → Addr} {E E1 : St → XK} {D : Ends} {σ : St} {H : Hp} : rd_law_written_4 K a E E1 D σ H = (tDrop (tBM0 K "list" r_mt_clear (tMeth (a "Plank") "read" (sp_Plank_read K a) [] E (tVr 0) (tCons (tVr 1) tNil)))) D σ H := rfl
def rd_law_written_5 (K : PySem.W.Frag) (a : String → Addr) (E E1 : St → XK) : TS :=
      (tRet (tC (.bl false)))
theorem rd_law_written_5_ap {K : PySem.W.Frag} {a : String → Addr} {E E1 : St → XK} {D : Ends} {σ : St} {H : Hp} : rd_law_written_5 K a E E1 D σ H = (tRet (tC (.bl false))) D σ H := rfl
def rd_law_written_6 (K : PySem.W.Frag) (a : String → Addr) (E E1 : St → XK) : TS :=
      (tIfS (tNot (tTru K (tCall (sp_law_refused K a) [] E (tCons (tVr 0) (tCons (tVr 5) (tCons (tOp (rMulA K) (tLst (tCons (tC (.int 3)) tNil)) (tVr 3)) tNil)))))) (rd_law_written_5 K a E E) tNext)
theorem rd_law_written_6_ap {K : PySem.W.Frag} {a : String → Addr} {E E1 : St → XK} {D : Ends} {σ : St} {H : Hp} : rd_law_written_6 K a E E1 D σ H = (tIfS (tNot (tTru K (tCall (sp_law_refused K a) [] E (tCons (tVr 0) (tCons (tVr 5) (tCons (tOp (rMulA K) (tLst (tCons (tC (.int 3)) tNil)) (tVr 3)) tNil)))))) (rd_law_written_5 K a E E) tNext) D σ H := rfl
def rd_law_written_7 (K : PySem.W.Frag) (a : String → Addr) (E E1 : St → XK) : TS :=
      (tFor (iSeq K (tLst (tCons (tUn rNegI (tC (.int 1))) (tCons (tVr 2) tNil)))) (gName 5) (rd_law_written_6 K a E E))
theorem rd_law_written_7_ap {K : PySem.W.Frag} {a : String → Addr} {E E1 : St → XK} {D : Ends} {σ : St} {H : Hp} : rd_law_written_7 K a E E1 D σ H = (tFor (iSeq K (tLst (tCons (tUn rNegI (tC (.int 1))) (tCons (tVr 2) tNil)))) (gName 5) (rd_law_written_6 K a E E)) D σ H := rfl
def rd_law_written_8 (K : PySem.W.Frag) (a : String → Addr) (E E1 : St → XK) : TS :=
      (tRet (tC (.bl false)))
theorem rd_law_written_8_ap {K : PySem.W.Frag} {a : String → Addr} {E E1 : St → XK} {D : Ends} {σ : St} {H : Hp} : rd_law_written_8 K a E E1 D σ H = (tRet (tC (.bl false))) D σ H := rfl
def rd_law_written_9 (K : PySem.W.Frag) (a : String → Addr) (E E1 : St → XK) : TS :=
      (tIfS (tNot (tTru K (tCall (sp_law_refused K a) [] E (tCons (tVr 0) (tCons (tVr 1) (tCons (tOp (rMulA K) (tLst (tCons (tC (.int 3)) tNil)) (tOp (rAddA K) (tVr 3) (tC (.int 1)))) tNil)))))) (rd_law_written_8 K a E E) tNext)
theorem rd_law_written_9_ap {K : PySem.W.Frag} {a : String → Addr} {E E1 : St → XK} {D : Ends} {σ : St} {H : Hp} : rd_law_written_9 K a E E1 D σ H = (tIfS (tNot (tTru K (tCall (sp_law_refused K a) [] E (tCons (tVr 0) (tCons (tVr 1) (tCons (tOp (rMulA K) (tLst (tCons (tC (.int 3)) tNil)) (tOp (rAddA K) (tVr 3) (tC (.int 1)))) tNil)))))) (rd_law_written_8 K a E E) tNext) D σ H := rfl
def rd_law_written_10 (K : PySem.W.Frag) (a : String → Addr) (E E1 : St → XK) : TS :=
      (tRet (tAndV (tOp (rEqA K) (tMeth (a "Plank") "read" (sp_Plank_read K a) [] E (tVr 0) (tCons (tVr 1) tNil)) (tOp (rMulA K) (tLst (tCons (tC (.int 1)) tNil)) (tVr 3))) (tOp (rEqA K) (tMeth (a "Plank") "writings" (sp_Plank_writings K a) [] E (tVr 0) tNil) (tC (.int 1)))))
theorem rd_law_written_10_ap {K : PySem.W.Frag} {a : String → Addr} {E E1 : St → XK} {D : Ends} {σ : St} {H : Hp} : rd_law_written_10 K a E E1 D σ H = (tRet (tAndV (tOp (rEqA K) (tMeth (a "Plank") "read" (sp_Plank_read K a) [] E (tVr 0) (tCons (tVr 1) tNil)) (tOp (rMulA K) (tLst (tCons (tC (.int 1)) tNil)) (tVr 3))) (tOp (rEqA K) (tMeth (a "Plank") "writings" (sp_Plank_writings K a) [] E (tVr 0) tNil) (tC (.int 1))))) D σ H := rfl
def rd_law_written (K : PySem.W.Frag) (a : String → Addr) (E : St → XK) : TS :=
      (tSeq (rd_law_written_1 K a E E) (tSeq (rd_law_written_2 K a E E) (tSeq (rd_law_written_3 K a E E) (tSeq (rd_law_written_4 K a E E) (tSeq (rd_law_written_7 K a E E) (tSeq (rd_law_written_9 K a E E) (rd_law_written_10 K a E E)))))))

def rd_law_planks_1 (K : PySem.W.Frag) (a : String → Addr) (E E1 : St → XK) : TS :=
      (tAsg (tMeth (a "Layout") "plank" (sp_Layout_plank K a) [] E (tVr 0) tNil) (gName 4))
theorem rd_law_planks_1_ap {K : PySem.W.Frag} {a : String → Addr} {E E1 : St → XK} {D : Ends} {σ : St} {H : Hp} : rd_law_planks_1 K a E E1 D σ H = (tAsg (tMeth (a "Layout") "plank" (sp_Layout_plank K a) [] E (tVr 0) tNil) (gName 4)) D σ H := rfl
def rd_law_planks_2 (K : PySem.W.Frag) (a : String → Addr) (E E1 : St → XK) : TS :=
      (tAsg (tMeth (a "Layout") "plank" (sp_Layout_plank K a) [] E (tVr 0) tNil) (gName 5))
theorem rd_law_planks_2_ap {K : PySem.W.Frag} {a : String → Addr} {E E1 : St → XK} {D : Ends} {σ : St} {H : Hp} : rd_law_planks_2 K a E E1 D σ H = (tAsg (tMeth (a "Layout") "plank" (sp_Layout_plank K a) [] E (tVr 0) tNil) (gName 5)) D σ H := rfl
def rd_law_planks_3 (K : PySem.W.Frag) (a : String → Addr) (E E1 : St → XK) : TS :=
      (tRet (tC (.bl false)))
theorem rd_law_planks_3_ap {K : PySem.W.Frag} {a : String → Addr} {E E1 : St → XK} {D : Ends} {σ : St} {H : Hp} : rd_law_planks_3 K a E E1 D σ H = (tRet (tC (.bl false))) D σ H := rfl
def rd_law_planks_4 (K : PySem.W.Frag) (a : String → Addr) (E E1 : St → XK) : TS :=
      (tIfS (tOr (tNot (tTru K (tCall (sp_law_new K a) [] E (tCons (tVr 4) (tCons (tVr 1) (tCons (tVr 2) tNil)))))) (tOr (tNot (tTru K (tCall (sp_law_written K a) [] E (tCons (tVr 4) (tCons (tVr 3) (tCons (tVr 1) (tCons (tVr 2) tNil))))))) (tNot (tTru K (tCall (sp_law_new K a) [] E (tCons (tVr 5) (tCons (tVr 1) (tCons (tVr 2) tNil)))))))) (rd_law_planks_3 K a E E) tNext)
theorem rd_law_planks_4_ap {K : PySem.W.Frag} {a : String → Addr} {E E1 : St → XK} {D : Ends} {σ : St} {H : Hp} : rd_law_planks_4 K a E E1 D σ H = (tIfS (tOr (tNot (tTru K (tCall (sp_law_new K a) [] E (tCons (tVr 4) (tCons (tVr 1) (tCons (tVr 2) tNil)))))) (tOr (tNot (tTru K (tCall (sp_law_written K a) [] E (tCons (tVr 4) (tCons (tVr 3) (tCons (tVr 1) (tCons (tVr 2) tNil))))))) (tNot (tTru K (tCall (sp_law_new K a) [] E (tCons (tVr 5) (tCons (tVr 1) (tCons (tVr 2) tNil)))))))) (rd_law_planks_3 K a E E) tNext) D σ H := rfl
def rd_law_planks_5 (K : PySem.W.Frag) (a : String → Addr) (E E1 : St → XK) : TS :=
      (tRet (tC (.bl false)))
theorem rd_law_planks_5_ap {K : PySem.W.Frag} {a : String → Addr} {E E1 : St → XK} {D : Ends} {σ : St} {H : Hp} : rd_law_planks_5 K a E E1 D σ H = (tRet (tC (.bl false))) D σ H := rfl
def rd_law_planks_6 (K : PySem.W.Frag) (a : String → Addr) (E E1 : St → XK) : TS :=
      (tIfS (tNot (tTru K (tCall (sp_law_written K a) [] E (tCons (tVr 5) (tCons (tOp rSubI (tVr 1) (tC (.int 1))) (tCons (tVr 1) (tCons (tVr 2) tNil))))))) (rd_law_planks_5 K a E E) tNext)
theorem rd_law_planks_6_ap {K : PySem.W.Frag} {a : String → Addr} {E E1 : St → XK} {D : Ends} {σ : St} {H : Hp} : rd_law_planks_6 K a E E1 D σ H = (tIfS (tNot (tTru K (tCall (sp_law_written K a) [] E (tCons (tVr 5) (tCons (tOp rSubI (tVr 1) (tC (.int 1))) (tCons (tVr 1) (tCons (tVr 2) tNil))))))) (rd_law_planks_5 K a E E) tNext) D σ H := rfl
def rd_law_planks_7 (K : PySem.W.Frag) (a : String → Addr) (E E1 : St → XK) : TS :=
      (tRet (tAndV (tCall (sp_law_new K a) [] E (tCons (tMeth (a "Layout") "plank" (sp_Layout_plank K a) [] E (tVr 0) tNil) (tCons (tVr 1) (tCons (tVr 2) tNil)))) (tOp (rEqA K) (tMeth (a "Plank") "read" (sp_Plank_read K a) [] E (tVr 4) (tCons (tVr 3) tNil)) (tOp (rMulA K) (tLst (tCons (tC (.int 1)) tNil)) (tVr 2)))))
theorem rd_law_planks_7_ap {K : PySem.W.Frag} {a : String → Addr} {E E1 : St → XK} {D : Ends} {σ : St} {H : Hp} : rd_law_planks_7 K a E E1 D σ H = (tRet (tAndV (tCall (sp_law_new K a) [] E (tCons (tMeth (a "Layout") "plank" (sp_Layout_plank K a) [] E (tVr 0) tNil) (tCons (tVr 1) (tCons (tVr 2) tNil)))) (tOp (rEqA K) (tMeth (a "Plank") "read" (sp_Plank_read K a) [] E (tVr 4) (tCons (tVr 3) tNil)) (tOp (rMulA K) (tLst (tCons (tC (.int 1)) tNil)) (tVr 2))))) D σ H := rfl
def rd_law_planks (K : PySem.W.Frag) (a : String → Addr) (E : St → XK) : TS :=
      (tSeq (rd_law_planks_1 K a E E) (tSeq (rd_law_planks_2 K a E E) (tSeq (rd_law_planks_4 K a E E) (tSeq (rd_law_planks_6 K a E E) (rd_law_planks_7 K a E E)))))

def rd_law_1 (K : PySem.W.Frag) (a : String → Addr) (E E1 : St → XK) : TS :=
      (tAsg (tCall (sp_law_mill K a) [] E (tCons (tVr 1) (tCons (tC (.int 1)) tNil))) (gName 2))
theorem rd_law_1_ap {K : PySem.W.Frag} {a : String → Addr} {E E1 : St → XK} {D : Ends} {σ : St} {H : Hp} : rd_law_1 K a E E1 D σ H = (tAsg (tCall (sp_law_mill K a) [] E (tCons (tVr 1) (tCons (tC (.int 1)) tNil))) (gName 2)) D σ H := rfl
def rd_law_2 (K : PySem.W.Frag) (a : String → Addr) (E E1 : St → XK) : TS :=
      (tAsg (tLst (tCons (tOp (rAddA K) (tC (.int 1)) (tOp rModI (tVr 2) (tC (.int 6)))) (tCons (tOp (rAddA K) (tC (.int 1)) (tOp rModI (tOp rDivI (tVr 2) (tC (.int 6))) (tC (.int 6)))) (tCons (tOp (rAddA K) (tC (.int 1)) (tOp rModI (tOp rDivI (tVr 2) (tC (.int 36))) (tC (.int 6)))) tNil)))) (gName 3))
theorem rd_law_2_ap {K : PySem.W.Frag} {a : String → Addr} {E E1 : St → XK} {D : Ends} {σ : St} {H : Hp} : rd_law_2 K a E E1 D σ H = (tAsg (tLst (tCons (tOp (rAddA K) (tC (.int 1)) (tOp rModI (tVr 2) (tC (.int 6)))) (tCons (tOp (rAddA K) (tC (.int 1)) (tOp rModI (tOp rDivI (tVr 2) (tC (.int 6))) (tC (.int 6)))) (tCons (tOp (rAddA K) (tC (.int 1)) (tOp rModI (tOp rDivI (tVr 2) (tC (.int 36))) (tC (.int 6)))) tNil)))) (gName 3)) D σ H := rfl
def rd_law_3 (K : PySem.W.Frag) (a : String → Addr) (E E1 : St → XK) : TS :=
      (tAsg (tOp (rAddA K) (tC (.int 1)) (tOp rModI (tOp rDivI (tVr 2) (tC (.int 216))) (tC (.int 6)))) (gName 4))
theorem rd_law_3_ap {K : PySem.W.Frag} {a : String → Addr} {E E1 : St → XK} {D : Ends} {σ : St} {H : Hp} : rd_law_3 K a E E1 D σ H = (tAsg (tOp (rAddA K) (tC (.int 1)) (tOp rModI (tOp rDivI (tVr 2) (tC (.int 216))) (tC (.int 6)))) (gName 4)) D σ H := rfl
def rd_law_4 (K : PySem.W.Frag) (a : String → Addr) (E E1 : St → XK) : TS :=
      (tAsg (tMake (a "Layout") (sp_Layout_init K a) [] E (tCons (tOp (rIxA K) (tVr 3) (tC (.int 0))) (tCons (tOp (rIxA K) (tVr 3) (tC (.int 1))) (tCons (tOp (rIxA K) (tVr 3) (tC (.int 2))) (tCons (tVr 4) tNil))))) (gName 5))
theorem rd_law_4_ap {K : PySem.W.Frag} {a : String → Addr} {E E1 : St → XK} {D : Ends} {σ : St} {H : Hp} : rd_law_4 K a E E1 D σ H = (tAsg (tMake (a "Layout") (sp_Layout_init K a) [] E (tCons (tOp (rIxA K) (tVr 3) (tC (.int 0))) (tCons (tOp (rIxA K) (tVr 3) (tC (.int 1))) (tCons (tOp (rIxA K) (tVr 3) (tC (.int 2))) (tCons (tVr 4) tNil))))) (gName 5)) D σ H := rfl
def rd_law_5 (K : PySem.W.Frag) (a : String → Addr) (E E1 : St → XK) : TS :=
      (tAsg (tMeth (a "Layout") "counts" (sp_Layout_counts K a) [] E (tVr 5) tNil) (gName 6))
theorem rd_law_5_ap {K : PySem.W.Frag} {a : String → Addr} {E E1 : St → XK} {D : Ends} {σ : St} {H : Hp} : rd_law_5 K a E E1 D σ H = (tAsg (tMeth (a "Layout") "counts" (sp_Layout_counts K a) [] E (tVr 5) tNil) (gName 6)) D σ H := rfl
def rd_law_6 (K : PySem.W.Frag) (a : String → Addr) (E E1 : St → XK) : TS :=
      (tRet (tC (.bl false)))
theorem rd_law_6_ap {K : PySem.W.Frag} {a : String → Addr} {E E1 : St → XK} {D : Ends} {σ : St} {H : Hp} : rd_law_6 K a E E1 D σ H = (tRet (tC (.bl false))) D σ H := rfl
def rd_law_7 (K : PySem.W.Frag) (a : String → Addr) (E E1 : St → XK) : TS :=
      (tIfS (tOr (tNot (tTru K (tCB (r_call_isinst K) (tCons (tVr 6) (tCons (tC (.ty "tuple")) tNil))))) (tTest (tOp (rNeA K) (tVr 6) (tTup (tCons (tOp (rMulA K) (tOp (rIxA K) (tVr 3) (tC (.int 0))) (tVr 4)) (tCons (tOp (rMulA K) (tOp (rIxA K) (tVr 3) (tC (.int 1))) (tVr 4)) (tCons (tOp (rMulA K) (tOp (rIxA K) (tVr 3) (tC (.int 2))) (tVr 4)) tNil))))))) (rd_law_6 K a E E) tNext)
theorem rd_law_7_ap {K : PySem.W.Frag} {a : String → Addr} {E E1 : St → XK} {D : Ends} {σ : St} {H : Hp} : rd_law_7 K a E E1 D σ H = (tIfS (tOr (tNot (tTru K (tCB (r_call_isinst K) (tCons (tVr 6) (tCons (tC (.ty "tuple")) tNil))))) (tTest (tOp (rNeA K) (tVr 6) (tTup (tCons (tOp (rMulA K) (tOp (rIxA K) (tVr 3) (tC (.int 0))) (tVr 4)) (tCons (tOp (rMulA K) (tOp (rIxA K) (tVr 3) (tC (.int 1))) (tVr 4)) (tCons (tOp (rMulA K) (tOp (rIxA K) (tVr 3) (tC (.int 2))) (tVr 4)) tNil))))))) (rd_law_6 K a E E) tNext) D σ H := rfl
def rd_law_8 (K : PySem.W.Frag) (a : String → Addr) (E E1 : St → XK) : TS :=
      (tAsg (tOp (rAddA K) (tOp (rAddA K) (tOp (rIxA K) (tVr 3) (tC (.int 0))) (tOp (rMulA K) (tC (.int 2)) (tOp (rIxA K) (tVr 3) (tC (.int 1))))) (tOp (rMulA K) (tC (.int 2)) (tOp (rIxA K) (tVr 3) (tC (.int 2))))) (gName 7))
theorem rd_law_8_ap {K : PySem.W.Frag} {a : String → Addr} {E E1 : St → XK} {D : Ends} {σ : St} {H : Hp} : rd_law_8 K a E E1 D σ H = (tAsg (tOp (rAddA K) (tOp (rAddA K) (tOp (rIxA K) (tVr 3) (tC (.int 0))) (tOp (rMulA K) (tC (.int 2)) (tOp (rIxA K) (tVr 3) (tC (.int 1))))) (tOp (rMulA K) (tC (.int 2)) (tOp (rIxA K) (tVr 3) (tC (.int 2))))) (gName 7)) D σ H := rfl
def rd_law_9 (K : PySem.W.Frag) (a : String → Addr) (E E1 : St → XK) : TS :=
      (tRet (tC (.bl false)))
theorem rd_law_9_ap {K : PySem.W.Frag} {a : String → Addr} {E E1 : St → XK} {D : Ends} {σ : St} {H : Hp} : rd_law_9 K a E E1 D σ H = (tRet (tC (.bl false))) D σ H := rfl
def rd_law_10 (K : PySem.W.Frag) (a : String → Addr) (E E1 : St → XK) : TS :=
      (tIfS (tOr (tTest (tOp (rNeA K) (tComp (iSeq K (tVr 6)) (gName 0) (tNot (tTru K (tCall (sp_law_whole K a) [] (fun _ => E0) (tCons (tVr 0) tNil)))) (tVr 0) 1 []) (tLst tNil))) (tNot (tTru K (tCall (sp_law_places K a) [] E (tCons (tVr 5) (tCons (tVr 3) (tCons (tVr 4) tNil))))))) (rd_law_9 K a E E) tNext)
theorem rd_law_10_ap {K : PySem.W.Frag} {a : String → Addr} {E E1 : St → XK} {D : Ends} {σ : St} {H : Hp} : rd_law_10 K a E E1 D σ H = (tIfS (tOr (tTest (tOp (rNeA K) (tComp (iSeq K (tVr 6)) (gName 0) (tNot (tTru K (tCall (sp_law_whole K a) [] (fun _ => E0) (tCons (tVr 0) tNil)))) (tVr 0) 1 []) (tLst tNil))) (tNot (tTru K (tCall (sp_law_places K a) [] E (tCons (tVr 5) (tCons (tVr 3) (tCons (tVr 4) tNil))))))) (rd_law_9 K a E E) tNext) D σ H := rfl
def rd_law_11 (K : PySem.W.Frag) (a : String → Addr) (E E1 : St → XK) : TS :=
      (tRet (tC (.bl false)))
theorem rd_law_11_ap {K : PySem.W.Frag} {a : String → Addr} {E E1 : St → XK} {D : Ends} {σ : St} {H : Hp} : rd_law_11 K a E E1 D σ H = (tRet (tC (.bl false))) D σ H := rfl
def rd_law_12 (K : PySem.W.Frag) (a : String → Addr) (E E1 : St → XK) : TS :=
      (tIfS (tNot (tTru K (tCall (sp_law_planks K a) [] E (tCons (tVr 5) (tCons (tVr 7) (tCons (tVr 4) (tCons (tOp rModI (tCall (sp_law_mill K a) [] E (tCons (tVr 1) (tCons (tC (.int 2)) tNil))) (tVr 7)) tNil))))))) (rd_law_11 K a E E) tNext)
theorem rd_law_12_ap {K : PySem.W.Frag} {a : String → Addr} {E E1 : St → XK} {D : Ends} {σ : St} {H : Hp} : rd_law_12 K a E E1 D σ H = (tIfS (tNot (tTru K (tCall (sp_law_planks K a) [] E (tCons (tVr 5) (tCons (tVr 7) (tCons (tVr 4) (tCons (tOp rModI (tCall (sp_law_mill K a) [] E (tCons (tVr 1) (tCons (tC (.int 2)) tNil))) (tVr 7)) tNil))))))) (rd_law_11 K a E E) tNext) D σ H := rfl
def rd_law_13 (K : PySem.W.Frag) (a : String → Addr) (E E1 : St → XK) : TS :=
      (tRet (tC (.bl false)))
theorem rd_law_13_ap {K : PySem.W.Frag} {a : String → Addr} {E E1 : St → XK} {D : Ends} {σ : St} {H : Hp} : rd_law_13 K a E E1 D σ H = (tRet (tC (.bl false))) D σ H := rfl
def rd_law_14 (K : PySem.W.Frag) (a : String → Addr) (E E1 : St → XK) : TS :=
      (tIfS (tOr (tNot (tTru K (tCall (sp_law_whole K a) [] E (tCons (tMeth (a "Layout") "blocks" (sp_Layout_blocks K a) [] E (tVr 5) tNil) tNil)))) (tOr (tTest (tOp (rNeA K) (tMeth (a "Layout") "blocks" (sp_Layout_blocks K a) [] E (tVr 5) tNil) (tVr 7))) (tTest (tOp (rNeA K) (tMeth (a "Layout") "counts" (sp_Layout_counts K a) [] E (tVr 5) tNil) (tVr 6))))) (rd_law_13 K a E E) tNext)
theorem rd_law_14_ap {K : PySem.W.Frag} {a : String → Addr} {E E1 : St → XK} {D : Ends} {σ : St} {H : Hp} : rd_law_14 K a E E1 D σ H = (tIfS (tOr (tNot (tTru K (tCall (sp_law_whole K a) [] E (tCons (tMeth (a "Layout") "blocks" (sp_Layout_blocks K a) [] E (tVr 5) tNil) tNil)))) (tOr (tTest (tOp (rNeA K) (tMeth (a "Layout") "blocks" (sp_Layout_blocks K a) [] E (tVr 5) tNil) (tVr 7))) (tTest (tOp (rNeA K) (tMeth (a "Layout") "counts" (sp_Layout_counts K a) [] E (tVr 5) tNil) (tVr 6))))) (rd_law_13 K a E E) tNext) D σ H := rfl
def rd_law_15 (K : PySem.W.Frag) (a : String → Addr) (E E1 : St → XK) : TS :=
      (tRet (tC (.bl false)))
theorem rd_law_15_ap {K : PySem.W.Frag} {a : String → Addr} {E E1 : St → XK} {D : Ends} {σ : St} {H : Hp} : rd_law_15 K a E E1 D σ H = (tRet (tC (.bl false))) D σ H := rfl
def rd_law_16 (K : PySem.W.Frag) (a : String → Addr) (E E1 : St → XK) : TS :=
      (tIfS (tNot (tTru K (tCall (sp_law_places K a) [] E (tCons (tVr 5) (tCons (tVr 3) (tCons (tVr 4) tNil)))))) (rd_law_15 K a E E) tNext)
theorem rd_law_16_ap {K : PySem.W.Frag} {a : String → Addr} {E E1 : St → XK} {D : Ends} {σ : St} {H : Hp} : rd_law_16 K a E E1 D σ H = (tIfS (tNot (tTru K (tCall (sp_law_places K a) [] E (tCons (tVr 5) (tCons (tVr 3) (tCons (tVr 4) tNil)))))) (rd_law_15 K a E E) tNext) D σ H := rfl
def rd_law_17 (K : PySem.W.Frag) (a : String → Addr) (E E1 : St → XK) : TS :=
      (tFor (iSeq K (tOp (rAddA K) (tLst (tCons (tC (.int 5)) tNil)) (tSl (rSlA K) (tVr 0) tNoPart (tPart (tC (.int 24)))))) (gName 1) (tSeq (rd_law_1 K a E E) (tSeq (rd_law_2 K a E E) (tSeq (rd_law_3 K a E E) (tSeq (rd_law_4 K a E E) (tSeq (rd_law_5 K a E E) (tSeq (rd_law_7 K a E E) (tSeq (rd_law_8 K a E E) (tSeq (rd_law_10 K a E E) (tSeq (rd_law_12 K a E E) (tSeq (rd_law_14 K a E E) (rd_law_16 K a E E))))))))))))
theorem rd_law_17_ap {K : PySem.W.Frag} {a : String → Addr} {E E1 : St → XK} {D : Ends} {σ : St} {H : Hp} : rd_law_17 K a E E1 D σ H = (tFor (iSeq K (tOp (rAddA K) (tLst (tCons (tC (.int 5)) tNil)) (tSl (rSlA K) (tVr 0) tNoPart (tPart (tC (.int 24)))))) (gName 1) (tSeq (rd_law_1 K a E E) (tSeq (rd_law_2 K a E E) (tSeq (rd_law_3 K a E E) (tSeq (rd_law_4 K a E E) (tSeq (rd_law_5 K a E E) (tSeq (rd_law_7 K a E E) (tSeq (rd_law_8 K a E E) (tSeq (rd_law_10 K a E E) (tSeq (rd_law_12 K a E E) (tSeq (rd_law_14 K a E E) (rd_law_16 K a E E)))))))))))) D σ H := rfl
def rd_law_18 (K : PySem.W.Frag) (a : String → Addr) (E E1 : St → XK) : TS :=
      (tRet (tC (.bl true)))
theorem rd_law_18_ap {K : PySem.W.Frag} {a : String → Addr} {E E1 : St → XK} {D : Ends} {σ : St} {H : Hp} : rd_law_18 K a E E1 D σ H = (tRet (tC (.bl true))) D σ H := rfl
def rd_law (K : PySem.W.Frag) (a : String → Addr) (E : St → XK) : TS :=
      (tSeq (rd_law_17 K a E E) (rd_law_18 K a E E))

end L2

set_option linter.all false
set_option maxRecDepth 100000
set_option maxHeartbeats 8000000
namespace L2
open PySem PySem.Spec PyProof.Rows
local macro_rules
  | `(tactic| push_cast [$ls,*]) => `(tactic| simp only [↓tSeq_ap, ↓tNext_ap, ↓tBreak_ap, ↓tCont_ap, ↓tAsg_ap, ↓tDrop_ap, ↓tRet_ap, ↓tRetN_ap, ↓tIfS_ap, ↓tC_ap, ↓tOp_ap, ↓tTest_ap, ↓tChain_ap, ↓tNot_ap, ↓tAnd_ap, ↓tOr_ap, ↓tAndV_ap, ↓tOrV_ap, ↓tNotT_ap, ↓tTru_ap, ↓tIf_ap, ↓tNil_ap, ↓tCons_ap, ↓tTup_ap, ↓tLst_ap, ↓tCall_ap, ↓tMeth_ap, ↓tMake_ap, ↓tFld_ap, ↓sFld_ap, ↓tUn_ap, ↓tCB_ap, ↓tRaise_ap, ↓tTry_ap, ↓gName_ap, ↓gSub_ap, ↓gTup_ap, ↓gNil_ap, ↓gCons_ap, ↓tSl_ap, ↓tNoPart_ap, ↓tPart_ap, ↓tBM_ap, ↓tBM0_ap, ↓tAug_ap, ↓tTrue_ap, ↓tComp_rng1_ap, ↓tComp_rng2_ap, ↓tComp_seq_ap, ↓tFor_rng1_ap, ↓tFor_rng2_ap, ↓tFor_seq_ap, ↓sFldAug_ap,
          ↓tVr_0, ↓tVr_s, ↓ex_bl, ↓ex_int, ↓ex_ref, ↓ex_tru_bl, ↓ex_tru_int, ↓ex_tru_non, ↓rAddA_i, ↓rAddA_s, ↓rAddA_r, ↓rMulA_i, ↓rMulA_r, ↓rMulA_s, ↓rI0_i, ↓rI_i, ↓rU_i, ↓rLtA_i, ↓rLeA_i, ↓rLtA_s, ↓rLeA_s, ↓rSlA_s, ↓rGtA_i, ↓rGeA_i, ↓rEqA_i, ↓rEqA_s, ↓rEqA_b, ↓rEqA_ni, ↓rEqA_in, ↓rEqA_nn, ↓rNeA_i, ↓rNeA_s, ↓rNeA_b, ↓rNeA_ni, ↓rNeA_in, ↓rNeA_nn, ↓rIsN_ap, ↓rNotN_ap, ↓ipI_i, ↓rAdd_i, ↓len_i, ↓int_b, ↓int_i, ↓list_r, ↓tuple_r,
          rSubI, rModI, rDivI, rPowI, rNegI, ipAddI, Ends.drop, start, List.map_cons, List.map_nil, List.length_cons, List.length_nil, List.reduceReplicate, Nat.reduceAdd, Nat.reduceSub, Nat.zero_add, List.cons_append, List.nil_append, List.append_nil, List.getElem?_cons_zero, List.getElem?_cons_succ, Option.some.injEq, Option.join_some, List.set_cons_zero, List.set_cons_succ,
          V.int.injEq, V.ref.injEq, V.bl.injEq, V.str.injEq, List.cons.injEq, and_true, true_and, exists_eq_left', exists_eq_left, exists_eq', exists_eq, exists_and_left, exists_and_right, reduceCtorEq, false_and, and_false, or_false, false_or, exists_false, decide_eq_true_eq, Bool.not_eq_true', Bool.not_eq_true, decide_eq_false_iff_not, eq_self_iff_true, if_true, Bool.false_eq_true, if_false, ite_true, Bool.true_eq_false, forall_const, and_assoc, Int.reduceToNat, Int.reduceLT, Int.reduceLE, Int.reduceEq, Nat.reduceLeDiff, Int.toNat_natCast, not_true_eq_false, not_false_eq_true, Bool.not_false, Bool.not_true, $ls,*])
section
variable {K : PySem.W.Frag} {a : Ad} {vs : List V} {H : Hp} {Q : VK} {E : XK}
theorem rdok_law_mill (h : sp_law_mill K a vs H Q E) : rd_law_mill K a (fun _ => E) (ends Q) (start ["cell", "turn", "seed"] vs) H := by
  obtain ⟨c, t, rfl, h0, h1, q⟩ := h
  push_cast [rd_law_mill, ↓rd_law_mill_1_ap, ↓rd_law_mill_2_ap]
  exact ⟨.inl ⟨by decide, by decide⟩, .inl ⟨by omega, by omega⟩, .inl ⟨by omega, by omega⟩, ⟨by decide, by decide⟩, q⟩
theorem len_law_mill (h : sp_law_mill K a vs H Q E) : vs.length = 2 := by
  obtain ⟨_, _, rfl, _⟩ := h
  rfl
/-! ### the plank -/
theorem rdok_Plank_init (h : sp_Plank_init K a vs H Q E) : rd_Plank_init K a (fun _ => E) (ends Q) (start ["self", "blocks", "cells"] vs) H := by
  obtain ⟨p, dx, m, w, rfl, T, hp, hm, h1, h2, q⟩ := h
  push_cast [rd_Plank_init, ↓rd_Plank_init_1_ap, ↓rd_Plank_init_2_ap, ↓rd_Plank_init_3_ap]
  refine ⟨by omega, by omega, ?_⟩
  refine comp_range (small m (by omega)) (fun i ys H' => Same H H' ∧ ∃ ts : List Addr, ys = ts.map V.ref ∧ Paired (fun t r => H' t = some (.tup r)) ts (List.replicate i (List.replicate w .non))) ⟨Same.refl _, [], rfl, .nil⟩ (fun i ys H' hi hl ⟨s, ts, e, P⟩ => ?_) (fun ys H' hl ⟨s, ts, e, P⟩ cl hcl => ?_)
  · push_cast [capV, Option.join_some, Int.zero_add]
    refine ⟨by decide, fun t ht => .inr ?_⟩
    have fin : ∀ (t' : Addr) (H2 : Hp), Same H' H2 → H2 t' = some (.tup (List.replicate w .non)) → Same H H2 ∧ ∃ ts' : List Addr, ys ++ [V.ref t'] = ts'.map V.ref ∧ Paired (fun t r => H2 t = some (.tup r)) ts' (List.replicate (i + 1) (List.replicate w .non)) := fun t' H2 s2 e2 => by
      refine ⟨s.trans s2, ts ++ [t'], by rw [e, List.map_append]; rfl, ?_⟩
      rw [List.replicate_succ']
      exact Paired.snoc (Paired.mapP P fun t r z => s2 _ _ z) e2
    have s1 : Same H' (upd H' t (.tup [V.non])) := fun b o z => by rw [upd_ne (ne_of_none z ht)]; exact z
    refine ⟨t, w, [.non], rfl, rfl, SqT.of upd_same, by simp, by omega, by omega, small _ (by simp; omega), fun e1 => ?_, fun e1 u hu => ?_⟩
    · have e1 : w = 1 := by omega
      refine fin t _ s1 ?_
      rw [upd_same, e1]; rfl
    · rw [Int.toNat_natCast, flat1]
      exact fin u _ (s1.trans fun b o z => by rw [upd_ne (ne_of_none z hu)]; exact z) upd_same
  · have npc : p ≠ cl := ne_of_none (s _ _ hp) hcl
    have e1 : upd H' cl (HO.lst ys) p = some (HO.ins (a "Plank") dx []) := by rw [upd_ne npc]; exact s _ _ hp
    refine ⟨_, _, _, e1, T.cl, T.nC, by decide, _, _, _, upd_same, T.cl, T.nW, length_putF_lt (by decide), _, _, _, upd_same, T.cl, T.nN, length_putF_lt (n := 1000) (Nat.succ_lt_succ (length_putF_lt (n := 999) (by decide))), ?_⟩
    rw [pf_new, upd_upd, upd_upd]
    refine q cl _ (s.free hcl) ⟨⟨dx, upd_same⟩, ⟨ts, by rw [upd_ne npc.symm, upd_same, e], ?_⟩, fun r hr => ?_, by simpa using hm, h2⟩ fun b o eb hb => ?_
    · refine Paired.mapP P fun t r z => ?_
      rw [upd_ne (ne_of z (s _ _ hp) (by intro z'; cases z')), upd_ne (ne_of_none z hcl)]
      exact z
    · rw [List.eq_of_mem_replicate hr, List.length_replicate]
    · rw [upd_ne hb, upd_ne (ne_of_none (s _ _ eb) hcl)]
      exact s _ _ eb
theorem rdok_Plank_blocks (h : sp_Plank_blocks K a vs H Q E) : rd_Plank_blocks K a (fun _ => E) (ends Q) (start ["self"] vs) H := by
  obtain ⟨p, cl, w, rows, n, rfl, T, P, q⟩ := h
  obtain ⟨dx, h1⟩ := P.ob
  obtain ⟨ts, h2, h3⟩ := P.ls
  push_cast [rd_Plank_blocks, ↓rd_Plank_blocks_1_ap]
  refine ⟨_, _, _, h1, T.cl, T.nC, _, pf_c _ _ _, rows.length, .inl ⟨_, SqL.of h2, ?_⟩, q⟩
  rw [List.length_map, h3.length]
theorem rdok_Plank_cells (h : sp_Plank_cells K a vs H Q E) : rd_Plank_cells K a (fun _ => E) (ends Q) (start ["self"] vs) H := by
  obtain ⟨p, cl, w, rows, n, rfl, T, P, q⟩ := h
  obtain ⟨dx, h1⟩ := P.ob
  push_cast [rd_Plank_cells, ↓rd_Plank_cells_1_ap]
  exact ⟨_, _, _, h1, T.cl, T.nW, _, pf_w _ _ _, q⟩
theorem rdok_Plank_ask_for_block (h : sp_Plank_ask_for_block K a vs H Q E) : rd_Plank_ask_for_block K a (fun _ => E) (ends Q) (start ["self", "block"] vs) H := by
  obtain ⟨p, cl, w, rows, n, b, rfl, T, P, q, qe⟩ := h
  obtain ⟨dx, h1⟩ := P.ob
  obtain ⟨ts, h2, h3⟩ := P.ls
  push_cast [rd_Plank_ask_for_block, ↓rd_Plank_ask_for_block_1_ap, ↓rd_Plank_ask_for_block_2_ap]
  have hl : rows.length = (ts.map V.ref).length := by rw [List.length_map, h3.length]
  split
  · rename_i h0
    refine ⟨_, _, _, h1, T.cl, T.nC, _, pf_c _ _ _, rows.length, .inl ⟨_, SqL.of h2, hl⟩, ?_⟩
    split
    · exact ⟨by decide, qe (by omega)⟩
    · exact q h0 (by omega)
  · exact ⟨by decide, qe (by omega)⟩
theorem no_ask (cl : Addr) (w n : Int) : (pf cl w n).lookup ("ask_for_block" : Str) = none := pf_no _ _ _ (by decide +kernel) (by decide +kernel) (by decide +kernel)
theorem rdok_Plank_read (h : sp_Plank_read K a vs H Q E) : rd_Plank_read K a (fun _ => E) (ends Q) (start ["self", "block"] vs) H := by
  obtain ⟨p, cl, w, rows, n, b, rfl, T, P, q, qe⟩ := h
  obtain ⟨dx, h1⟩ := P.ob
  obtain ⟨ts, h2, h3⟩ := P.ls
  push_cast [rd_Plank_read, ↓rd_Plank_read_1_ap, ↓rd_Plank_read_2_ap, sp_Plank_ask_for_block]
  refine ⟨_, _, h1, no_ask _ _ _, T, cl, w, rows, ⟨n, P⟩, fun h0 hb => ⟨_, _, _, h1, T.cl, T.nC, _, pf_c _ _ _, ?_⟩, qe⟩
  obtain ⟨i, rfl⟩ : ∃ i : Nat, b = i := ⟨b.toNat, by omega⟩
  have hi : i < rows.length := by omega
  obtain ⟨t, et, ht⟩ := paired_at h3 (List.getElem?_eq_getElem hi)
  refine ix_sq (SqL.of h2) rfl (v := .ref t) (by rw [List.getElem?_map, et]; rfl) ?_
  rw [list_r]
  exact ⟨_, .inr (SqT.of ht), q i _ rfl (List.getElem?_eq_getElem hi)⟩
theorem rdok_Plank_write (h : sp_Plank_write K a vs H Q E) : rd_Plank_write K a (fun _ => E) (ends Q) (start ["self", "block", "values"] vs) H := by
  obtain ⟨p, cl, w, rows, n, b, v, xs, rfl, T, P, hv, hx, q, qe⟩ := h
  obtain ⟨dx, h1⟩ := P.ob
  obtain ⟨ts, h2, h3⟩ := P.ls
  have npc := P.ne
  push_cast [rd_Plank_write, ↓rd_Plank_write_1_ap, ↓rd_Plank_write_2_ap, ↓rd_Plank_write_3_ap, ↓rd_Plank_write_4_ap, ↓rd_Plank_write_5_ap, sp_Plank_ask_for_block]
  refine ⟨_, _, h1, no_ask _ _ _, T, cl, w, rows, ⟨n, P⟩, fun h0 hb => ⟨xs.length, .inl ⟨_, hv, rfl⟩, _, _, _, h1, T.cl, T.nW, _, pf_w _ _ _, ?_⟩, fun z => qe (z.imp id .inl)⟩
  obtain ⟨i, rfl⟩ : ∃ i : Nat, b = i := ⟨b.toNat, by omega⟩
  have hi : i < rows.length := by omega
  push_cast []
  split
  · exact ⟨by decide, qe (.inr (.inr (by omega)))⟩
  · rename_i hw
    have hw : xs.length = w := by omega
    refine ⟨xs, .inl ⟨hv, fun t ht => ?_⟩⟩
    have ntp : p ≠ t := ne_of_none h1 ht
    have ntc : cl ≠ t := ne_of_none h2 ht
    refine ⟨_, _, _, by rw [upd_ne ntp]; exact h1, T.cl, T.nC, _, pf_c _ _ _, ?_⟩
    refine ⟨cl, ts.map V.ref, (i : Int), i, rfl, rfl, by rw [upd_ne ntc]; exact h2, ?_, ?_⟩
    · unfold ixN
      rw [if_pos (by omega), if_pos (by rw [List.length_map, h3.length]; omega), Int.toNat_natCast]
    · refine ⟨_, _, _, by rw [upd_ne npc, upd_ne ntp]; exact h1, T.cl, T.nN, _, pf_n _ _ _, ?_⟩
      push_cast []
      refine ⟨_, _, by rw [upd_ne npc, upd_ne ntp]; exact h1, by show 3 < 1000; decide, ?_⟩
      rw [pf_put]
      refine q i rfl hi hw _ ⟨⟨dx, upd_same⟩, ⟨ts.set i t, ?_, ?_⟩, fun r hr => ?_, by rw [List.length_set]; exact P.sz, P.sw⟩ fun x o ex hxn => ?_
      · rw [upd_ne npc.symm, upd_same, List.map_set]
      · have keep : ∀ u r, H u = some (.tup r) → upd (upd (upd H t (.tup xs)) cl (.lst ((ts.map V.ref).set i (.ref t)))) p (.ins (a "Plank") dx (pf cl w ((n : Int) + 1))) u = some (.tup r) := fun u r hu => by
          rw [upd_ne (ne_of hu h1 (by intro z; cases z)), upd_ne (ne_of hu h2 (by intro z; cases z)), upd_ne (ne_of_none hu ht)]
          exact hu
        refine paired_set ?_ i (Paired.mapP h3 keep)
        rw [upd_ne ntp.symm, upd_ne ntc.symm, upd_same]
      · rcases List.mem_or_eq_of_mem_set hr with z | z
        · exact P.wd r z
        · rw [z]; exact hw
      · have hxn : x ≠ p ∧ x ≠ cl := ⟨fun z => hxn (.inl z), fun z => hxn (.inr z)⟩
        rw [upd_ne hxn.1, upd_ne hxn.2, upd_ne (ne_of_none ex ht)]
        exact ex
theorem no_read (cl : Addr) (w n : Int) : (pf cl w n).lookup ("read" : Str) = none := pf_no _ _ _ (by decide +kernel) (by decide +kernel) (by decide +kernel)
theorem no_write (cl : Addr) (w n : Int) : (pf cl w n).lookup ("write" : Str) = none := pf_no _ _ _ (by decide +kernel) (by decide +kernel) (by decide +kernel)
theorem no_writings (cl : Addr) (w n : Int) : (pf cl w n).lookup ("writings" : Str) = none := pf_no _ _ _ (by decide +kernel) (by decide +kernel) (by decide +kernel)
theorem len_Plank_init (h : sp_Plank_init K a vs H Q E) : vs.length = 3 := by
  obtain ⟨_, _, _, _, rfl, _⟩ := h
  rfl
theorem len_Plank_blocks (h : sp_Plank_blocks K a vs H Q E) : vs.length = 1 := by
  obtain ⟨_, _, _, _, _, rfl, _⟩ := h
  rfl
theorem len_Plank_cells (h : sp_Plank_cells K a vs H Q E) : vs.length = 1 := by
  obtain ⟨_, _, _, _, _, rfl, _⟩ := h
  rfl
theorem len_Plank_ask_for_block (h : sp_Plank_ask_for_block K a vs H Q E) : vs.length = 2 := by
  obtain ⟨_, _, _, _, _, _, rfl, _⟩ := h
  rfl
theorem len_Plank_read (h : sp_Plank_read K a vs H Q E) : vs.length = 2 := by
  obtain ⟨_, _, _, _, _, _, rfl, _⟩ := h
  rfl
theorem len_Plank_write (h : sp_Plank_write K a vs H Q E) : vs.length = 3 := by
  obtain ⟨_, _, _, _, _, _, _, _, rfl, _⟩ := h
  rfl
theorem rdok_Plank_writings (h : sp_Plank_writings K a vs H Q E) : rd_Plank_writings K a (fun _ => E) (ends Q) (start ["self"] vs) H := by
  obtain ⟨p, cl, w, rows, n, rfl, T, P, q⟩ := h
  obtain ⟨dx, h1⟩ := P.ob
  push_cast [rd_Plank_writings, ↓rd_Plank_writings_1_ap]
  exact ⟨_, _, _, h1, T.cl, T.nN, _, pf_n _ _ _, q⟩
theorem len_Plank_writings (h : sp_Plank_writings K a vs H Q E) : vs.length = 1 := by
  obtain ⟨_, _, _, _, _, rfl, _⟩ := h
  rfl
/-! ### the layout -/
theorem rdok_Layout_init (h : sp_Layout_init K a vs H Q E) : rd_Layout_init K a (fun _ => E) (ends Q) (start ["self", "names", "records", "pieces", "cells"] vs) H := by
  obtain ⟨p, dx, n, r, c, w, rfl, T, hp, b1, b2, b3, b4, b5, q⟩ := h
  push_cast [rd_Layout_init, ↓rd_Layout_init_1_ap, ↓rd_Layout_init_2_ap, ↓rd_Layout_init_3_ap, ↓rd_Layout_init_4_ap]
  refine ⟨_, _, _, hp, T.cl, T.n1, by decide, _, _, _, upd_same, T.cl, T.n2, length_putF_lt (by decide), _, _, _, upd_same, T.cl, T.n3, length_putF_lt (n := 1000) (Nat.succ_lt_succ (length_putF_lt (n := 999) (by decide))), _, _, _, upd_same, T.cl, T.n4, ?_, ?_⟩
  · exact length_putF_lt (n := 1000) (Nat.succ_lt_succ (length_putF_lt (n := 999) (Nat.succ_lt_succ (length_putF_lt (n := 998) (by decide)))))
  · rw [lf_new, upd_upd, upd_upd, upd_upd]
    exact q _ ⟨⟨dx, upd_same⟩, b1, b2, b3, b4, b5⟩ fun b o e hb => by rw [upd_ne hb]; exact e
theorem rdok_Layout_place_from (h : sp_Layout_place_from K a vs H Q E) : rd_Layout_place_from K a (fun _ => E) (ends Q) (start ["self", "block", "k"] vs) H := by
  obtain ⟨p, n, r, c, w, k, b, rfl, T, L, q⟩ := h
  obtain ⟨dx, e⟩ := L.ob
  have := L.h1
  have := L.hw
  push_cast [rd_Layout_place_from, ↓rd_Layout_place_from_1_ap]
  refine ⟨_, _, _, e, T.cl, T.n4, _, lf_w, ?_⟩
  push_cast []
  refine ⟨⟨by omega, by omega⟩, _, _, _, e, T.cl, T.n4, _, lf_w, ?_⟩
  push_cast []
  exact ⟨by omega, by decide, q⟩
theorem rdok_Layout_name_at (h : sp_Layout_name_at K a vs H Q E) : rd_Layout_name_at K a (fun _ => E) (ends Q) (start ["self", "k"] vs) H := by
  obtain ⟨p, n, r, c, w, k, rfl, T, L, q⟩ := h
  obtain ⟨dx, e⟩ := L.ob
  push_cast [rd_Layout_name_at, ↓rd_Layout_name_at_1_ap]
  exact ⟨_, _, e, lf_no (by decide +kernel), p, n, r, c, w, k, 0, rfl, T, L, q⟩
theorem rdok_Layout_record_at (h : sp_Layout_record_at K a vs H Q E) : rd_Layout_record_at K a (fun _ => E) (ends Q) (start ["self", "k"] vs) H := by
  obtain ⟨p, n, r, c, w, k, rfl, T, L, q⟩ := h
  obtain ⟨dx, e⟩ := L.ob
  push_cast [rd_Layout_record_at, ↓rd_Layout_record_at_1_ap]
  exact ⟨_, _, e, lf_no (by decide +kernel), _, _, _, e, T.cl, T.n1, _, lf_n, p, n, r, c, w, k, _, rfl, T, L, q⟩
theorem rdok_Layout_piece_at (h : sp_Layout_piece_at K a vs H Q E) : rd_Layout_piece_at K a (fun _ => E) (ends Q) (start ["self", "k"] vs) H := by
  obtain ⟨p, n, r, c, w, k, rfl, T, L, q⟩ := h
  obtain ⟨dx, e⟩ := L.ob
  push_cast [rd_Layout_piece_at, ↓rd_Layout_piece_at_1_ap]
  refine ⟨_, _, e, lf_no (by decide +kernel), _, _, _, e, T.cl, T.n1, _, lf_n, _, _, _, e, T.cl, T.n2, _, lf_r, ?_⟩
  push_cast []
  exact ⟨p, n, r, c, w, k, _, rfl, T, L, q⟩
theorem rdok_Layout_record_mark (h : sp_Layout_record_mark K a vs H Q E) : rd_Layout_record_mark K a (fun _ => E) (ends Q) (start ["self", "k"] vs) H := by
  obtain ⟨p, n, r, c, w, k, rfl, T, L, q⟩ := h
  obtain ⟨dx, e⟩ := L.ob
  push_cast [rd_Layout_record_mark, ↓rd_Layout_record_mark_1_ap]
  exact ⟨_, _, e, lf_no (by decide +kernel), _, _, e, lf_no (by decide +kernel), p, n, r, c, w, rfl, T, L, p, n, r, c, w, k, _, rfl, T, L, q⟩
theorem rdok_Layout_piece_mark (h : sp_Layout_piece_mark K a vs H Q E) : rd_Layout_piece_mark K a (fun _ => E) (ends Q) (start ["self", "k"] vs) H := by
  obtain ⟨p, n, r, c, w, k, rfl, T, L, q⟩ := h
  obtain ⟨dx, e⟩ := L.ob
  push_cast [rd_Layout_piece_mark, ↓rd_Layout_piece_mark_1_ap]
  refine ⟨_, _, e, lf_no (by decide +kernel), _, _, e, lf_no (by decide +kernel), p, n, r, c, w, rfl, T, L, _, _, _, e, T.cl, T.n2, _, lf_r, ?_⟩
  push_cast []
  exact ⟨p, n, r, c, w, k, _, rfl, T, L, q⟩
theorem rdok_Layout_blocks_ahead_of_marks (h : sp_Layout_blocks_ahead_of_marks K a vs H Q E) : rd_Layout_blocks_ahead_of_marks K a (fun _ => E) (ends Q) (start ["self"] vs) H := by
  obtain ⟨p, n, r, c, w, rfl, T, L, q⟩ := h
  obtain ⟨dx, e⟩ := L.ob
  push_cast [rd_Layout_blocks_ahead_of_marks, ↓rd_Layout_blocks_ahead_of_marks_1_ap]
  refine ⟨_, _, _, e, T.cl, T.n1, _, lf_n, _, _, _, e, T.cl, T.n2, _, lf_r, ?_⟩
  push_cast []
  refine ⟨_, _, _, e, T.cl, T.n3, _, lf_c, ?_⟩
  push_cast []
  exact q
theorem rdok_Layout_blocks (h : sp_Layout_blocks K a vs H Q E) : rd_Layout_blocks K a (fun _ => E) (ends Q) (start ["self"] vs) H := by
  obtain ⟨p, n, r, c, w, rfl, T, L, q⟩ := h
  obtain ⟨dx, e⟩ := L.ob
  push_cast [rd_Layout_blocks, ↓rd_Layout_blocks_1_ap]
  refine ⟨_, _, e, lf_no (by decide +kernel), p, n, r, c, w, rfl, T, L, _, _, _, e, T.cl, T.n2, _, lf_r, ?_⟩
  push_cast []
  refine ⟨_, _, _, e, T.cl, T.n3, _, lf_c, ?_⟩
  push_cast []
  exact q
theorem rdok_Layout_counts (h : sp_Layout_counts K a vs H Q E) : rd_Layout_counts K a (fun _ => E) (ends Q) (start ["self"] vs) H := by
  obtain ⟨p, n, r, c, w, rfl, T, L, q⟩ := h
  obtain ⟨dx, e⟩ := L.ob
  obtain ⟨_, b1, b2, b3, b4, b5⟩ := L
  push_cast [rd_Layout_counts, ↓rd_Layout_counts_1_ap]
  refine ⟨_, _, _, e, T.cl, T.n1, _, lf_n, _, _, _, e, T.cl, T.n4, _, lf_w, ?_⟩
  push_cast []
  refine ⟨.inl ⟨by omega, by omega⟩, _, _, _, e, T.cl, T.n2, _, lf_r, _, _, _, e, T.cl, T.n4, _, lf_w, ?_⟩
  push_cast []
  refine ⟨.inl ⟨by omega, by omega⟩, _, _, _, e, T.cl, T.n3, _, lf_c, _, _, _, e, T.cl, T.n4, _, lf_w, ?_⟩
  push_cast []
  exact ⟨.inl ⟨by omega, by omega⟩, by decide, q⟩
theorem rdok_Layout_plank (h : sp_Layout_plank K a vs H Q E) : rd_Layout_plank K a (fun _ => E) (ends Q) (start ["self"] vs) H := by
  obtain ⟨p, n, r, c, w, rfl, T, TP, L, q⟩ := h
  obtain ⟨dx, e⟩ := L.ob
  have LL := L
  obtain ⟨_, b1, b2, b3, b4, b5⟩ := L
  push_cast [rd_Layout_plank, ↓rd_Layout_plank_1_ap]
  refine ⟨_, _, e, lf_no (by decide +kernel), p, n, r, c, w, rfl, T, LL, _, _, _, e, T.cl, T.n4, _, lf_w, fun x dx' hx hdx hne => ?_⟩
  have s3 : Same H (upd (upd H dx' (.own x)) x (.ins (a "Plank") dx' [])) := (same_upd hdx).trans (same_upd (by rw [upd_ne hne.symm]; exact hx))
  refine ⟨x, dx', n + r + c + r + c, w, by simp, TP, upd_same, by omega, b4, by omega, fun cl H2 hcl P2 s4 => ⟨rfl, q x cl H2 hx (s3.free hcl) P2 fun b o eb => s4 _ _ (s3 _ _ eb) (ne_of_none eb hx)⟩⟩
theorem len_Layout_init (h : sp_Layout_init K a vs H Q E) : vs.length = 5 := by
  obtain ⟨_, _, _, _, _, _, rfl, _⟩ := h
  rfl
theorem len_Layout_place_from (h : sp_Layout_place_from K a vs H Q E) : vs.length = 3 := by
  obtain ⟨_, _, _, _, _, _, _, rfl, _⟩ := h
  rfl
theorem len_Layout_name_at (h : sp_Layout_name_at K a vs H Q E) : vs.length = 2 := by
  obtain ⟨_, _, _, _, _, _, rfl, _⟩ := h
  rfl
theorem len_Layout_record_at (h : sp_Layout_record_at K a vs H Q E) : vs.length = 2 := by
  obtain ⟨_, _, _, _, _, _, rfl, _⟩ := h
  rfl
theorem len_Layout_piece_at (h : sp_Layout_piece_at K a vs H Q E) : vs.length = 2 := by
  obtain ⟨_, _, _, _, _, _, rfl, _⟩ := h
  rfl
theorem len_Layout_record_mark (h : sp_Layout_record_mark K a vs H Q E) : vs.length = 2 := by
  obtain ⟨_, _, _, _, _, _, rfl, _⟩ := h
  rfl
theorem len_Layout_piece_mark (h : sp_Layout_piece_mark K a vs H Q E) : vs.length = 2 := by
  obtain ⟨_, _, _, _, _, _, rfl, _⟩ := h
  rfl
theorem len_Layout_blocks_ahead_of_marks (h : sp_Layout_blocks_ahead_of_marks K a vs H Q E) : vs.length = 1 := by
  obtain ⟨_, _, _, _, _, rfl, _⟩ := h
  rfl
theorem len_Layout_blocks (h : sp_Layout_blocks K a vs H Q E) : vs.length = 1 := by
  obtain ⟨_, _, _, _, _, rfl, _⟩ := h
  rfl
theorem len_Layout_counts (h : sp_Layout_counts K a vs H Q E) : vs.length = 1 := by
  obtain ⟨_, _, _, _, _, rfl, _⟩ := h
  rfl
theorem len_Layout_plank (h : sp_Layout_plank K a vs H Q E) : vs.length = 1 := by
  obtain ⟨_, _, _, _, _, rfl, _⟩ := h
  rfl
/-! ### the law's own words -/
theorem tx {H : Hp} {x : V} {t : Value} (h : TyOf K H x t) : TyX K H x t := .inl h
theorem rep_l {H : Hp} {Q : VK} {p : Addr} {x : V} {i : Int} {k : Nat} (h : H p = some (.lst [x])) (hi : i = k) (hk : k ≤ 1000) (q : ∀ r, H r = none → Q (.ref r) (upd H r (.lst (List.replicate k x)))) : rMulA K (.ref p) (.int i) H Q := by
  subst hi
  exact .inl ⟨p, k, [x], rfl, rfl, h, by omega, by omega, small _ (by simp; omega), fun r hr => by rw [Int.toNat_natCast, flat1]; exact q r hr⟩
theorem rdok_law_whole (h : sp_law_whole K a vs H Q E) : rd_law_whole K a (fun _ => E) (ends Q) (start ["found"] vs) H := by
  obtain ⟨i, rfl, q⟩ := h
  push_cast [rd_law_whole, ↓rd_law_whole_1_ap]
  refine isinst_one (tx (.int i)) (.ty _) (b := true) rfl ?_
  push_cast []
  refine isinst_one (tx (.int i)) (.ty _) (b := false) rfl ?_
  push_cast []
  exact q
theorem rdok_law_at (h : sp_law_at K a vs H Q E) : rd_law_at K a (fun _ => E) (ends Q) (start ["found", "block", "cell"] vs) H := by
  obtain ⟨t, x, y, rfl, ht, q⟩ := h
  push_cast [rd_law_at, ↓rd_law_at_1_ap, ↓rd_law_at_2_ap, ↓rd_law_at_3_ap]
  refine isinst_one (tx (.tup ht)) (.ty _) (b := true) rfl ?_
  push_cast []
  refine ⟨2, .inr ⟨_, SqT.of ht, rfl⟩, ?_⟩
  push_cast []
  refine ix_tpl ht (n := 0) rfl rfl ?_
  push_cast [↓sp_law_whole_ap]
  refine ix_tpl ht (n := 1) rfl rfl ?_
  push_cast [↓rd_law_at_1_ap, ↓rd_law_at_2_ap, ↓rd_law_at_3_ap, ↓sp_law_whole_ap]
  refine ⟨by decide, fun p hp => ?_⟩
  exact dat_eq (n := 1) (by decide) (.tup (SqT.of (same_upd hp _ _ ht)) (dat_ints [x, y])) (.tup (SqT.of upd_same) (dat_ints [x, y])) (q _ (same_upd hp))
theorem rdok_law_refused (h : sp_law_refused K a vs H Q E) : rd_law_refused K a (fun _ => E) (ends Q) (start ["plank", "block", "values", "refused"] vs) H := by
  obtain ⟨p, cl, w, rows, n, b, l, xs, rfl, T, X, P, hl, hx, hb, q⟩ := h
  obtain ⟨dx, h1⟩ := P.ob
  push_cast [rd_law_refused, ↓rd_law_refused_1_ap, ↓rd_law_refused_2_ap, ↓rd_law_refused_3_ap, ↓rd_law_refused_4_ap, ↓rd_law_refused_5_ap]
  refine ⟨_, _, h1, no_write _ _ _, p, cl, w, rows, n, b, l, xs, rfl, T, P, hl, hx, fun i hi hlt hw => ?_, fun _ => .inl ⟨X.hit, ?_⟩⟩
  · omega
  · push_cast [↓rd_law_refused_1_ap, ↓rd_law_refused_2_ap, ↓rd_law_refused_3_ap, ↓rd_law_refused_4_ap, ↓rd_law_refused_5_ap]
    exact q _ (Same.refl _)
theorem flat_rep (w : Nat) {v : V} (h : flatOk v = true) : ∀ x ∈ List.replicate w v, flatOk x = true := fun x hx => by rw [List.eq_of_mem_replicate hx]; exact h
theorem ix0 {n : Nat} (h : 1 ≤ n) : ixN n 0 = some 0 := by
  unfold ixN
  simp
  omega
theorem rdok_law_written (h : sp_law_written K a vs H Q E) : rd_law_written K a (fun _ => E) (ends Q) (start ["plank", "block", "many", "wide", "handed", "strange"] vs) H := by
  obtain ⟨p, cl, m, w, b, rfl, T, X, P, w1, w2, hm, hb, q⟩ := h
  have hlen : (newRows m w).length = m := by unfold newRows; rw [List.length_replicate]
  push_cast [rd_law_written, rd_law_written_1_ap, rd_law_written_2_ap]
  refine ⟨by decide, fun o ho => rep_l upd_same rfl (by omega) fun hd hhd => ?_⟩
  have s0 := same_upd (o := .lst [V.int 1]) ho
  have s1 := same_upd (o := .lst (List.replicate w (V.int 1))) hhd
  obtain ⟨dx0, e0⟩ := (P.same s0).ob
  obtain ⟨ts0, f0, _⟩ := (P.same s0).ls
  have np : p ≠ hd := ne_of_none e0 hhd
  have nc : cl ≠ hd := ne_of_none f0 hhd
  have P1 := (P.same s0).same s1
  obtain ⟨dx1, e1⟩ := P1.ob
  push_cast []
  refine ⟨_, _, e1, no_write _ _ _, p, cl, w, newRows m w, 0, b, hd, _, rfl, T, P1, SqL.of upd_same, by rw [List.length_replicate]; omega, fun i hi hlt hw H2 P2 s2 => ?_, fun hbad => ?_⟩
  · have hi : i = b := by omega
    subst hi
    have h2 : H2 hd = some (.lst (List.replicate w (V.int 1))) := s2 _ _ upd_same (by rintro (z | z); exact np z.symm; exact nc z.symm)
    have S02 : SameBut (fun x => x = p ∨ x = cl) H H2 := ((s0.trans s1).sb).trans s2
    clear s2 P1 e1 e0 f0
    push_cast [rd_law_written_3_ap, rd_law_written_4_ap]
    refine ⟨hd, _, 0, 0, rfl, rfl, h2, ix0 (by rw [List.length_replicate]; omega), ?_⟩
    have P3 : PlankAt a (upd H2 hd (.lst ((List.replicate w (V.int 1)).set 0 (V.int 2)))) p cl w ((newRows m w).set i (List.replicate w (V.int 1))) 1 :=
      P2.keep (upd_ne np) (upd_ne nc) fun b xs e => by rw [upd_ne (ne_of e h2 (by intro z; cases z))]; exact e
    have S03 : SameBut (fun x => x = p ∨ x = cl) H (upd H2 hd (.lst ((List.replicate w (V.int 1)).set 0 (V.int 2)))) := S02.upd (.inr (by
      cases z : H hd with
      | none => rfl
      | some o' => exact absurd (s0 _ _ z) (by rw [hhd]; intro z; cases z)))
    generalize upd H2 hd (.lst ((List.replicate w (V.int 1)).set 0 (V.int 2))) = H3 at P3 S03 ⊢
    clear P2 h2 S02
    obtain ⟨dx3, e3⟩ := P3.ob
    refine ⟨_, _, e3, no_read _ _ _, p, cl, w, _, 1, i, rfl, T, P3, fun j row hj hrow l hl => ?_, fun hbad => by rw [List.length_set, hlen] at hbad; omega⟩
    refine ⟨.inl ⟨rfl, _, SqL.of upd_same⟩, l, _, rfl, rfl, upd_same, ?_⟩
    rw [upd_upd]
    have s4 := same_upd (o := .lst []) hl
    have P4 := P3.same s4
    have S04 := S03.trans s4.sb
    generalize upd H3 l (.lst []) = H4 at P4 S04 ⊢
    clear S03 P3 s4 e3 hl
    push_cast [rd_law_written_7_ap]
    have hrl : ((newRows m w).set i (List.replicate w (V.int 1))).length = m := by rw [List.length_set, hlen]
    refine ⟨by decide, fun sl hsl => .inl ⟨⟨_, SqL.of upd_same⟩, for_listB (xs := [.int (-1), .int m]) (fun k σ H' => Same (upd H4 sl (.lst [V.int (-1), V.int m])) H' ∧ ∃ x5, σ = [some (V.ref p), some (V.int i), some (V.int m), some (V.int w), some (V.ref hd), x5]) ⟨Same.refl _, _, rfl⟩ (fun k σ H' _ z => SqL.of (z.1 _ _ upd_same)) ?_ ?_⟩⟩
    · rintro k v σ H' hk ⟨s5, x5, rfl⟩
      have hv : ∃ z : Int, v = .int z ∧ (z < 0 ∨ (m : Int) ≤ z) := by
        have := List.mem_of_getElem? hk
        simp only [List.mem_cons, List.not_mem_nil, or_false] at this
        rcases this with rfl | rfl
        · exact ⟨-1, rfl, .inl (by decide)⟩
        · exact ⟨m, rfl, .inr (Int.le_refl _)⟩
      obtain ⟨z, rfl, hz⟩ := hv
      push_cast [rd_law_written_5_ap, rd_law_written_6_ap]
      refine ⟨by decide, fun o3 ho3 => rep_l upd_same rfl (by omega) fun r3 hr3 => ?_⟩
      have s6 := (same_upd (o := .lst [V.int 3]) ho3).trans (same_upd (o := .lst (List.replicate w (V.int 3))) hr3)
      have s46 := ((same_upd (o := .lst [V.int (-1), V.int m]) hsl).trans s5).trans s6
      refine ⟨p, cl, w, _, 1, z, r3, _, rfl, T, X, P4.same s46, SqL.of upd_same, by rw [List.length_replicate]; omega, by rw [hrl]; omega, fun H7 s7 => ?_⟩
      push_cast []
      exact (s5.trans s6).trans s7
    · rintro σ H' ⟨s5, x5, rfl⟩
      have s45 := (same_upd (o := .lst [V.int (-1), V.int m]) hsl).trans s5
      have P5 := P4.same s45
      have S05 := S04.trans s45.sb
      clear P4 S04 s45 s5 hsl
      push_cast [rd_law_written_8_ap, rd_law_written_9_ap]
      refine ⟨by decide, fun o3 ho3 => ?_⟩
      push_cast []
      refine rep_l (k := w + 1) upd_same (by simp) (by omega) fun r3 hr3 => ?_
      have s6 := (same_upd (o := .lst [V.int 3]) ho3).trans (same_upd (o := .lst (List.replicate (w + 1) (V.int 3))) hr3)
      refine ⟨p, cl, w, _, 1, i, r3, _, rfl, T, X, P5.same s6, SqL.of upd_same, by rw [List.length_replicate]; omega, by rw [List.length_replicate]; omega, fun H7 s7 => ?_⟩
      have P7 := P5.same (s6.trans s7)
      have S07 := S05.trans (s6.trans s7).sb
      clear P5 S05 s6 s7 ho3 hr3
      obtain ⟨dx7, e7⟩ := P7.ob
      push_cast [rd_law_written_10_ap]
      refine ⟨_, _, e7, no_read _ _ _, p, cl, w, _, 1, i, rfl, T, P7, fun j row hj hrow l hl => ?_, fun hbad => by rw [hrl] at hbad; omega⟩
      have hj : j = i := by omega
      subst hj
      have hrow : row = List.replicate w (V.int 1) := by
        rw [List.getElem?_set_self (by omega)] at hrow
        exact (Option.some.inj hrow).symm
      subst hrow
      have s8 := same_upd (o := .lst (List.replicate w (V.int 1))) hl
      push_cast []
      refine ⟨by decide, fun o9 ho9 => rep_l upd_same rfl (by omega) fun r9 hr9 => ?_⟩
      have s9 := (same_upd (o := .lst [V.int 1]) ho9).trans (same_upd (o := .lst (List.replicate w (V.int 1))) hr9)
      have P9 := P7.same (s8.trans s9)
      obtain ⟨dx9, e9⟩ := P9.ob
      refine eq_same (SqL.of (s9 _ _ upd_same)) (SqL.of upd_same) (flat_rep w rfl) ?_
      push_cast []
      refine ⟨_, _, e9, no_writings _ _ _, p, cl, w, _, 1, rfl, T, P9, ?_⟩
      push_cast []
      exact q _ P9 (S07.trans (s8.trans s9).sb)
  · rw [hlen, List.length_replicate] at hbad
    omega
theorem no_blocks (cl : Addr) (w n : Int) : (pf cl w n).lookup ("blocks" : Str) = none := pf_no _ _ _ (by decide +kernel) (by decide +kernel) (by decide +kernel)
theorem no_cells (cl : Addr) (w n : Int) : (pf cl w n).lookup ("cells" : Str) = none := pf_no _ _ _ (by decide +kernel) (by decide +kernel) (by decide +kernel)
/-- the lists told, kept in a list -/
structure Kept (H0 H : Hp) (hl : Addr) (w k : Nat) (ps : List Addr) : Prop where
  fr : ∀ x ∈ ps, H0 x = none
  ls : H hl = some (.lst (ps.map V.ref))
  nd : ps.Nodup
  each : ∀ i x, k ≤ i → ps[i]? = some x → H x = some (.lst (List.replicate w .non))
  off : hl ∉ ps
theorem law_new_rest {p cl t0 : Addr} {m w : Nat} {H : Hp} (T : TPlank K a) (P : PlankAt a H p cl w (newRows m w) 0) (w1 : 1 ≤ w) (w2 : w ≤ 100) (hm : m ≤ 500) (q : ∀ H', Same H H' → Q (.bl true) H') :
    rd_law_new_4 K a (fun _ => E) (fun _ => E) { nx := tSeq (rd_law_new_11 K a (fun _ => E) fun _ => E) (tSeq (rd_law_new_15 K a (fun _ => E) fun _ => E) (rd_law_new_16 K a (fun _ => E) fun _ => E)) (ends Q), rt := Q }
      [some (V.ref p), some (V.int m), some (V.int w), some (V.ref t0), none, none] H := by
  have hlen : (newRows m w).length = m := by unfold newRows; rw [List.length_replicate]
  push_cast [rd_law_new_4_ap]
  refine ⟨by decide, fun hl hhl => ?_⟩
  push_cast [rd_law_new_11_ap]
  have s0 := same_upd (o := .lst []) hhl
  refine ⟨by omega, by omega, for_rangeB (fun i σ H' => Same H H' ∧ (∃ ps, Kept H H' hl w 0 ps ∧ ps.length = i) ∧ ∃ x3 x5, σ = [some (V.ref p), some (V.int m), some (V.int w), x3, some (V.ref hl), x5]) ⟨s0, ⟨[], ⟨by simp, upd_same, .nil, by simp, by simp⟩, rfl⟩, _, _, rfl⟩ ?_ ?_⟩
  · rintro i σ H' hi ⟨s1, ⟨ps, Kp, hpl⟩, x3, x5, rfl⟩
    have P1 := P.same s1
    obtain ⟨dx1, e1⟩ := P1.ob
    have hrow : ∀ row, (newRows m w)[i]? = some row → row = List.replicate w V.non := fun row hr => by
      unfold newRows at hr
      rw [List.getElem?_replicate, if_pos hi] at hr
      exact (Option.some.inj hr).symm
    push_cast [rd_law_new_5_ap]
    refine ⟨_, _, e1, no_read _ _ _, p, cl, w, _, 0, _, rfl, T, P1, fun j row hj hr l1 hl1 => ?_, fun hbad => by rw [hlen] at hbad; omega⟩
    have hj : i = j := by omega
    subst hj
    have hr := hrow _ hr
    subst hr
    have s2 := same_upd (o := .lst (List.replicate w V.non)) hl1
    push_cast [rd_law_new_6_ap, rd_law_new_7_ap]
    refine ⟨by decide, fun o ho => rep_l upd_same rfl (by omega) fun r hr => ?_⟩
    have s3 := (same_upd (o := .lst [V.non]) ho).trans (same_upd (o := .lst (List.replicate w V.non)) hr)
    refine ne_same (SqL.of (s3 _ _ upd_same)) (SqL.of upd_same) (flat_rep w rfl) ?_
    push_cast [rd_law_new_8_ap]
    have e3 : upd (upd (upd H' l1 (.lst (List.replicate w V.non))) o (.lst [V.non])) r (.lst (List.replicate w V.non)) l1 = some (.lst (List.replicate w V.non)) := s3 _ _ upd_same
    have K3 := s2.trans s3
    generalize upd (upd (upd H' l1 (.lst (List.replicate w V.non))) o (.lst [V.non])) r (.lst (List.replicate w V.non)) = H3 at e3 K3 ⊢
    refine ⟨l1, _, 0, 0, rfl, rfl, e3, ix0 (by rw [List.length_replicate]; omega), ?_⟩
    push_cast [rd_law_new_9_ap]
    refine ⟨.inl ⟨rfl, _, SqL.of upd_same⟩, l1, _, _, rfl, rfl, upd_same, by rw [List.length_set, List.length_replicate]; exact Nat.lt_of_le_of_lt w2 (by decide), ?_⟩
    rw [upd_upd]
    have K4 : Same H' (upd H3 l1 (.lst ((List.replicate w V.non).set 0 (V.int 7) ++ [V.int 8]))) := fun b o eb => by rw [upd_ne (ne_of_none eb hl1)]; exact K3 _ _ eb
    generalize upd H3 l1 (.lst ((List.replicate w V.non).set 0 (V.int 7) ++ [V.int 8])) = H4 at K4 ⊢
    have P4 := P1.same K4
    obtain ⟨dx4, e4⟩ := P4.ob
    push_cast [rd_law_new_10_ap]
    have h4 := K4 _ _ Kp.ls
    refine ⟨.inl ⟨rfl, _, SqL.of h4⟩, _, _, e4, no_read _ _ _, p, cl, w, _, 0, _, rfl, T, P4, fun j row hj hr l5 hl5 => ?_, fun hbad => by rw [hlen] at hbad; omega⟩
    have hj : i = j := by omega
    subst hj
    have hr := hrow _ hr
    subst hr
    have s5 := same_upd (o := .lst (List.replicate w V.non)) hl5
    have h5 := s5 _ _ h4
    refine ⟨hl, _, _, rfl, rfl, h5, by rw [List.length_map]; exact Nat.lt_of_lt_of_le (by omega : ps.length < 501) (by decide), ?_⟩
    have nl : l5 ≠ hl := (ne_of_none h4 hl5).symm
    refine ⟨fun b o eb => ?_, ⟨ps ++ [l5], ⟨?_, by rw [upd_same, List.map_append]; rfl, ?_, ?_, ?_⟩, by rw [List.length_append, hpl]; rfl⟩⟩
    · rw [upd_ne (ne_of_none eb hhl)]
      exact s5 _ _ (K4 _ _ (s1 _ _ eb))
    · intro x hx
      rcases List.mem_append.mp hx with hx | hx
      · exact Kp.fr x hx
      · rw [List.mem_singleton.mp hx]; exact (s1.trans K4).free hl5
    · refine List.nodup_append.mpr ⟨Kp.nd, by simp, fun x hx y hy => ?_⟩
      rw [List.mem_singleton.mp hy]
      obtain ⟨i', hi'⟩ := List.getElem?_of_mem hx
      exact ne_of_none (K4 _ _ (Kp.each i' x (Nat.zero_le _) hi')) hl5
    · intro i' x _ hx
      have hm' := List.mem_of_getElem? hx
      rcases List.mem_append.mp hm' with hm' | hm'
      · obtain ⟨i2, hi2⟩ := List.getElem?_of_mem hm'
        rw [upd_ne (show x ≠ hl from fun z => Kp.off (by rw [← z]; exact hm'))]
        exact s5 _ _ (K4 _ _ (Kp.each i2 x (Nat.zero_le _) hi2))
      · rw [List.mem_singleton.mp hm', upd_ne nl]
        exact upd_same
    · intro hm'
      rcases List.mem_append.mp hm' with hm' | hm'
      · exact Kp.off hm'
      · exact nl (List.mem_singleton.mp hm').symm
  · rintro σ H' ⟨s1, ⟨ps, Kp, hpl⟩, x3, x5, rfl⟩
    push_cast [rd_law_new_15_ap]
    refine .inl ⟨⟨_, SqL.of Kp.ls⟩, for_listB (xs := ps.map V.ref) (fun k σ H2 => Same H H2 ∧ Kept H H2 hl w k ps ∧ ∃ x3 x5, σ = [some (V.ref p), some (V.int m), some (V.int w), x3, some (V.ref hl), x5]) ⟨s1, Kp, _, _, rfl⟩ (fun k σ H2 _ z => SqL.of z.2.1.ls) ?_ ?_⟩
    · rintro k v σ H2 hk ⟨s2, K2, y3, y5, rfl⟩
      obtain ⟨l, hlk, rfl⟩ : ∃ l, ps[k]? = some l ∧ v = V.ref l := by
        rw [List.getElem?_map] at hk
        cases hz : ps[k]? with
        | none => rw [hz] at hk; cases hk
        | some z => rw [hz] at hk; exact ⟨z, rfl, by simpa using hk.symm⟩
      have el := K2.each k l (Nat.le_refl _) hlk
      push_cast [rd_law_new_12_ap, rd_law_new_13_ap]
      refine ⟨by decide, fun o ho => rep_l upd_same rfl (by omega) fun r hr => ?_⟩
      have s3 := (same_upd (o := .lst [V.non]) ho).trans (same_upd (o := .lst (List.replicate w V.non)) hr)
      refine ne_same (SqL.of (s3 _ _ el)) (SqL.of upd_same) (flat_rep w rfl) ?_
      push_cast [rd_law_new_14_ap]
      refine ⟨l, _, 0, 0, rfl, rfl, s3 _ _ el, ix0 (by rw [List.length_replicate]; omega), ?_⟩
      have hlm := List.mem_of_getElem? hlk
      refine ⟨fun b o' eb => ?_, ⟨K2.fr, ?_, K2.nd, fun i x hi hx => ?_, K2.off⟩⟩
      · rw [upd_ne (ne_of_none eb (K2.fr l hlm))]
        exact s3 _ _ (s2 _ _ eb)
      · rw [upd_ne (show hl ≠ l from fun z => K2.off (by rw [z]; exact hlm))]
        exact s3 _ _ K2.ls
      · rw [upd_ne fun z => ?_]
        · exact s3 _ _ (K2.each i x (by omega) hx)
        · subst z
          have h1 := (List.getElem?_eq_some_iff.mp hlk)
          have h2 := (List.getElem?_eq_some_iff.mp hx)
          exact absurd (h1.2.trans h2.2.symm) (List.pairwise_iff_getElem.mp K2.nd k i h1.1 h2.1 (by omega))
    · rintro σ H2 ⟨s2, K2, y3, y5, rfl⟩
      have P2 := P.same s2
      obtain ⟨dx2, e2⟩ := P2.ob
      push_cast [rd_law_new_16_ap]
      refine ⟨_, _, e2, no_writings _ _ _, p, cl, w, _, 0, rfl, T, P2, ?_⟩
      push_cast []
      exact q _ s2
theorem rdok_law_new (h : sp_law_new K a vs H Q E) : rd_law_new K a (fun _ => E) (ends Q) (start ["plank", "many", "wide", "told", "held", "block"] vs) H := by
  obtain ⟨p, cl, m, w, rfl, T, P, w1, w2, hm, q⟩ := h
  obtain ⟨dx, e⟩ := P.ob
  have hlen : (newRows m w).length = m := by unfold newRows; rw [List.length_replicate]
  push_cast [rd_law_new, rd_law_new_1_ap]
  refine ⟨_, _, e, no_blocks _ _ _, p, cl, w, _, 0, rfl, T, P, _, _, e, no_cells _ _ _, p, cl, w, _, 0, rfl, T, P, _, _, e, no_writings _ _ _, p, cl, w, _, 0, rfl, T, P, ?_⟩
  rw [hlen]
  refine ⟨by decide, fun t0 ht0 => ?_⟩
  have s1 := same_upd (o := .lst [V.int m, V.int w, V.int (0 : Nat)]) ht0
  push_cast [rd_law_new_2_ap, rd_law_new_3_ap]
  refine ⟨by decide, fun t1 ht1 => ?_⟩
  have s2 := same_upd (o := .lst [V.int m, V.int w, V.int 0]) ht1
  refine ne_same (xs := [V.int m, V.int w, V.int 0]) (SqL.of (s2 _ _ upd_same)) (SqL.of upd_same) (fun v hv => by simp only [List.mem_cons, List.not_mem_nil, or_false] at hv; rcases hv with rfl | rfl | rfl <;> rfl) ?_
  push_cast []
  have et : upd (upd H t0 (HO.lst [V.int m, V.int w, V.int (0 : Nat)])) t1 (HO.lst [V.int m, V.int w, V.int 0]) t0 = some (.lst [V.int m, V.int w, V.int (0 : Nat)]) := s2 _ _ upd_same
  refine .inl ⟨⟨_, SqL.of et⟩, comp_listF (fun _ => false) (small _ (by simp)) (SqL.of et) (fun x hx QB qb => ?_) fun l hl => ?_⟩
  · have : ∃ i : Int, x = .int i := by
      simp only [List.mem_cons, List.not_mem_nil, or_false] at hx
      rcases hx with rfl | rfl | rfl <;> exact ⟨_, rfl⟩
    obtain ⟨i, rfl⟩ := this
    push_cast [↓sp_law_whole_ap]
    exact qb
  · rw [show ([V.int m, V.int w, V.int (0 : Nat)].filter fun _ => false) = [] from rfl]
    refine ⟨by decide, fun l2 hl2 => ?_⟩
    have s3 := same_upd (o := .lst []) hl
    have s4 := same_upd (o := .lst []) hl2
    refine ne_same (xs := []) (SqL.of (s4 _ _ upd_same)) (SqL.of upd_same) (fun v hv => by cases hv) ?_
    push_cast []
    have s5 := ((s1.trans s2).trans s3).trans s4
    exact law_new_rest T (P.same s5) w1 w2 hm fun H' s' => q H' (s5.trans s')
/-- a plank stays where another one is written -/
theorem PlankAt.off {H H' : Hp} {x cl y dl : Addr} {w w' n n' : Nat} {rows rows' : List (List V)} (P : PlankAt a H y dl w rows n) (O : PlankAt a H x cl w' rows' n') (s : SameBut (fun z => z = x ∨ z = cl) H H') (n1 : y ≠ x) (n2 : y ≠ cl) (n3 : dl ≠ x) (n4 : dl ≠ cl) : PlankAt a H' y dl w rows n := by
  obtain ⟨⟨dx, e1⟩, ⟨ts, e2, e3⟩, r1, r2, r3⟩ := P
  obtain ⟨dx', o1⟩ := O.ob
  obtain ⟨ts', o2, _⟩ := O.ls
  refine ⟨⟨dx, s _ _ e1 (by rintro (z | z); exact n1 z; exact n2 z)⟩, ⟨ts, s _ _ e2 (by rintro (z | z); exact n3 z; exact n4 z), Paired.mapP e3 fun t r z => s _ _ z ?_⟩, r1, r2, r3⟩
  rintro (z' | z')
  · exact ne_of z o1 (by intro u; cases u) z'
  · exact ne_of z o2 (by intro u; cases u) z'
theorem rdok_law_planks (h : sp_law_planks K a vs H Q E) : rd_law_planks K a (fun _ => E) (ends Q) (start ["layout", "many", "wide", "block", "one", "other"] vs) H := by
  obtain ⟨p, n, r, c, w, b, rfl, TL, T, X, L, hb, q⟩ := h
  generalize hm : n + r + c + r + c = m at *
  obtain ⟨dx, e⟩ := L.ob
  have w1 := L.h1
  have w2 := L.hw
  have hm5 : m ≤ 500 := by have := L.hn; have := L.hr; have := L.hc; omega
  push_cast [rd_law_planks, rd_law_planks_1_ap]
  refine ⟨_, _, e, lf_no (by decide +kernel), p, n, r, c, w, rfl, TL, T, L, fun x cl H1 hx hcl P1 s1 => ?_⟩
  have L1 := L.same s1
  obtain ⟨dx1, e1⟩ := L1.ob
  push_cast [rd_law_planks_2_ap]
  refine ⟨_, _, e1, lf_no (by decide +kernel), p, n, r, c, w, rfl, TL, T, L1, fun y dl H2 hy hdl P2 s2 => ?_⟩
  rw [hm] at P1 P2
  have P1' := P1.same s2
  push_cast [rd_law_planks_3_ap, rd_law_planks_4_ap]
  refine ⟨x, cl, m, w, rfl, T, P1', w1, w2, hm5, fun H3 s3 => ?_⟩
  push_cast []
  have P13 := P1'.same s3
  refine ⟨x, cl, m, w, b, rfl, T, X, P13, w1, w2, hm5, hb, fun H4 P4 s4 => ?_⟩
  push_cast []
  obtain ⟨dxx, ex⟩ := P1.ob
  obtain ⟨tsx, fx, _⟩ := P1.ls
  have n1 : x ≠ y := ne_of_none ex hy
  have n2 : x ≠ dl := ne_of_none ex hdl
  have n3 : cl ≠ y := ne_of_none fx hy
  have n4 : cl ≠ dl := ne_of_none fx hdl
  have hy0 := s1.free hy
  have hdl0 := s1.free hdl
  have P24 := (P2.same s3).off P13 s4 n1.symm n3.symm n2.symm n4.symm
  refine ⟨y, dl, m, w, rfl, T, P24, w1, w2, hm5, fun H5 s5 => ?_⟩
  push_cast [rd_law_planks_5_ap, rd_law_planks_6_ap]
  have P25 := P24.same s5
  refine ⟨y, dl, m, w, m - 1, by rw [show ((m : Int) - 1) = ((m - 1 : Nat) : Int) by omega], T, X, P25, w1, w2, hm5, by omega, fun H6 P26 s6 => ?_⟩
  have P15 := P4.same s5
  have P16 := P15.off P25 s6 n1 n2 n3 n4
  have L3 := (L1.same s2).same s3
  have px : p ≠ x := ne_of_none e hx
  have pc : p ≠ cl := ne_of_none e hcl
  have py : p ≠ y := ne_of_none e hy0
  have pd : p ≠ dl := ne_of_none e hdl0
  have L6 := ((L3.sb s4 (by rintro (z | z); exact px z; exact pc z)).same s5).sb s6 (by rintro (z | z); exact py z; exact pd z)
  obtain ⟨dx6, e6⟩ := L6.ob
  have S06 : Same H H6 := fun b' o eb => s6 _ _ (s5 _ _ (s4 _ _ (s3 _ _ (s2 _ _ (s1 _ _ eb))) (by rintro (z | z); exact ne_of_none eb hx z; exact ne_of_none eb hcl z))) (by rintro (z | z); exact ne_of_none eb hy0 z; exact ne_of_none eb hdl0 z)
  push_cast [rd_law_planks_7_ap]
  refine ⟨_, _, e6, lf_no (by decide +kernel), p, n, r, c, w, rfl, TL, T, L6, fun z zl H7 hz hzl P37 s7 => ?_⟩
  rw [hm] at P37
  push_cast []
  refine ⟨z, zl, m, w, rfl, T, P37, w1, w2, hm5, fun H8 s8 => ?_⟩
  push_cast []
  have P18 := (P16.same s7).same s8
  obtain ⟨dx8, e8⟩ := P18.ob
  have hrl : ((newRows m w).set b (List.replicate w (V.int 1))).length = m := by rw [List.length_set]; unfold newRows; rw [List.length_replicate]
  refine ⟨_, _, e8, no_read _ _ _, x, cl, w, _, 1, b, rfl, T, P18, fun j row hj hrow l hl => ?_, fun hbad => by rw [hrl] at hbad; omega⟩
  have hj : b = j := by omega
  subst hj
  have hrow : row = List.replicate w (V.int 1) := by
    rw [List.getElem?_set_self (by unfold newRows; rw [List.length_replicate]; exact hb)] at hrow
    exact (Option.some.inj hrow).symm
  subst hrow
  push_cast []
  have s9 := same_upd (o := .lst (List.replicate w (V.int 1))) hl
  refine ⟨by decide, fun o9 ho9 => rep_l upd_same rfl (by omega) fun r9 hr9 => ?_⟩
  have s10 := (same_upd (o := .lst [V.int 1]) ho9).trans (same_upd (o := .lst (List.replicate w (V.int 1))) hr9)
  exact eq_same (SqL.of (s10 _ _ upd_same)) (SqL.of upd_same) (flat_rep w rfl) (q _ ((((S06.trans s7).trans s8).trans s9).trans s10))
/-- how many things were met -/
def cnt3 (n r c w i : Nat) : Int := (min i (n * w) : Nat) + 2 * (min i (r * w) : Nat) + 2 * (min i (c * w) : Nat)
theorem min_step {i x w : Nat} (hw : 1 ≤ w) : ((min (i + 1) (x * w) : Nat) : Int) = (min i (x * w) : Nat) + (if (i : Int) / (w : Int) < (x : Int) then 1 else 0) := by
  have h := Nat.div_lt_iff_lt_mul (k := w) (x := i) (y := x) (by omega)
  have e : ((i : Int) / (w : Int) < (x : Int)) ↔ i / w < x := by rw [← Int.natCast_ediv]; omega
  by_cases hx : i / w < x
  · rw [if_pos (e.mpr hx)]
    have := h.mp hx
    omega
  · rw [if_neg (fun z => hx (e.mp z))]
    have : ¬ i < x * w := fun z => hx (h.mpr z)
    omega
theorem cnt3_step {n r c w i : Nat} (hw : 1 ≤ w) : cnt3 n r c w (i + 1) = cnt3 n r c w i + (if (i : Int) / (w : Int) < (n : Int) then 1 else 0) + 2 * (if (i : Int) / (w : Int) < (r : Int) then 1 else 0) + 2 * (if (i : Int) / (w : Int) < (c : Int) then 1 else 0) := by
  unfold cnt3
  rw [min_step hw, min_step hw, min_step hw]
  omega
theorem cnt3_end {n r c w m : Nat} (h1 : n ≤ m) (h2 : r ≤ m) (h3 : c ≤ m) : cnt3 n r c w (m * w) = ((n : Int) + r + c + r + c) * w := by
  unfold cnt3
  rw [Nat.min_eq_right (Nat.mul_le_mul_right w h1), Nat.min_eq_right (Nat.mul_le_mul_right w h2), Nat.min_eq_right (Nat.mul_le_mul_right w h3)]
  simp only [Int.natCast_mul, Int.add_mul]
  omega
theorem places_turn {p sz fi : Addr} {n r c w i : Nat} {C0 C1 : Int} {x8 : Option V} {D : Ends} {H : Hp} (T : TLay K a) (L : LayAt a H p n r c w) (hs : H sz = some (.lst [.int n, .int r, .int c]))
    (hF : H fi = some (.lst [V.int 0, V.int n, V.int (n + r), V.int (n + r + c), V.int (n + r + c + r)]))
    (step : C1 = C0 + (if (i : Int) / (w : Int) < (n : Int) then 1 else 0) + 2 * (if (i : Int) / (w : Int) < (r : Int) then 1 else 0) + 2 * (if (i : Int) / (w : Int) < (c : Int) then 1 else 0))
    (q : ∀ x8 H', Same H H' → D.nx [some (V.ref p), some (V.ref sz), some (V.int w), some (V.int C1), some (V.ref fi), some (V.int i), some (V.int ((i : Int) / w)), some (V.int ((i : Int) % w)), x8] H') :
    (tSeq (rd_law_places_6 K a (fun _ => E) (fun _ => E)) (tSeq (rd_law_places_8 K a (fun _ => E) (fun _ => E)) (tSeq (rd_law_places_10 K a (fun _ => E) (fun _ => E)) (tSeq (rd_law_places_12 K a (fun _ => E) (fun _ => E)) (tSeq (rd_law_places_14 K a (fun _ => E) (fun _ => E)) (tSeq (rd_law_places_15 K a (fun _ => E) (fun _ => E)) (rd_law_places_17 K a (fun _ => E) (fun _ => E)))))))) D [some (V.ref p), some (V.ref sz), some (V.int w), some (V.int C0), some (V.ref fi), some (V.int i), some (V.int ((i : Int) / w)), some (V.int ((i : Int) % w)), x8] H := by
  have k15 : ∀ (H' : Hp), Same H H' → (tSeq (rd_law_places_15 K a (fun _ => E) (fun _ => E)) (rd_law_places_17 K a (fun _ => E) (fun _ => E))) D [some (V.ref p), some (V.ref sz), some (V.int w), some (V.int C0), some (V.ref fi), some (V.int i), some (V.int ((i : Int) / w)), some (V.int ((i : Int) % w)), x8] H' := fun H' s' => by
    push_cast [rd_law_places_15_ap]
    refine ix_sq (SqL.of (s' _ _ hs)) (n := 0) rfl rfl ?_
    push_cast [rd_law_places_17_ap]
    refine .inl ⟨sz, _, rfl, SqL.of (s' _ _ hs), fun b hb => ⟨b, rfl, .inl ⟨⟨_, SqL.of upd_same⟩, ?_⟩⟩⟩
    rw [cut_from _ (by decide)]
    change fBody (Itl K b) (gName 8) _ D _ (upd H' b (.lst [V.int r, V.int c]))
    have s2 := same_upd (o := .lst [V.int r, V.int c]) hb
    generalize hd : (fun x : Nat => if (i : Int) / (w : Int) < (x : Int) then (1 : Int) else 0) = d
    have e1 : (if (i : Int) / (w : Int) < (n : Int) then (1 : Int) else 0) = d n := by rw [← hd]
    have e2 : (if (i : Int) / (w : Int) < (r : Int) then (1 : Int) else 0) = d r := by rw [← hd]
    have e3 : (if (i : Int) / (w : Int) < (c : Int) then (1 : Int) else 0) = d c := by rw [← hd]
    rw [e1, e2, e3] at step
    rw [e1]
    refine for_listB (xs := [V.int r, V.int c]) (fun k σ H2 => Same (upd H' b (.lst [V.int r, V.int c])) H2 ∧ ∃ x8, σ = [some (V.ref p), some (V.ref sz), some (V.int w), some (V.int (C0 + d n + (if 1 ≤ k then 2 * d r else 0) + (if 2 ≤ k then 2 * d c else 0))), some (V.ref fi), some (V.int i), some (V.int ((i : Int) / w)), some (V.int ((i : Int) % w)), x8]) ⟨Same.refl _, x8, by simp⟩ (fun k σ H2 _ z => SqL.of (z.1 _ _ upd_same)) ?_ ?_
    · rintro k v σ H2 hk ⟨s3, y8, rfl⟩
      have hk2 : (k = 0 ∧ v = .int r) ∨ (k = 1 ∧ v = .int c) := by
        rcases k with _ | _ | k
        · exact .inl ⟨rfl, by simpa using hk.symm⟩
        · exact .inr ⟨rfl, by simpa using hk.symm⟩
        · simp at hk
      rcases hk2 with ⟨rfl, rfl⟩ | ⟨rfl, rfl⟩
      · push_cast [rd_law_places_16_ap]
        rw [e2]
        refine ⟨.inl ⟨by decide, by decide⟩, ?_⟩
        push_cast []
        exact ⟨s3, by omega⟩
      · push_cast [rd_law_places_16_ap]
        rw [e3]
        refine ⟨.inl ⟨by decide, by decide⟩, ?_⟩
        push_cast []
        exact ⟨s3, by omega⟩
    · rintro σ H2 ⟨s3, y8, rfl⟩
      have := q y8 H2 ((s'.trans s2).trans s3)
      rw [step] at this
      exact this
  have k14 : ∀ (H' : Hp), Same H H' → (tSeq (rd_law_places_14 K a (fun _ => E) (fun _ => E)) (tSeq (rd_law_places_15 K a (fun _ => E) (fun _ => E)) (rd_law_places_17 K a (fun _ => E) (fun _ => E)))) D [some (V.ref p), some (V.ref sz), some (V.int w), some (V.int C0), some (V.ref fi), some (V.int i), some (V.int ((i : Int) / w)), some (V.int ((i : Int) % w)), x8] H' := fun H' s' => by
    have L' := L.same s'
    obtain ⟨dx', e'⟩ := L'.ob
    push_cast [rd_law_places_13_ap, rd_law_places_14_ap]
    refine ix_sq (SqL.of (s' _ _ hs)) (n := 2) rfl rfl ?_
    push_cast []
    split
    · refine ⟨_, _, e', lf_no (by decide +kernel), p, n, r, c, w, i, rfl, T, L', fun t ht => ?_⟩
      have s2 := same_upd (o := .tup [V.int ((n + r + c + r : Int) + (i : Int) / w), V.int ((i : Int) % w)]) ht
      refine ix_sq (SqL.of (s2 _ _ (s' _ _ hF))) (n := 4) rfl rfl ?_
      push_cast []
      refine ⟨t, _, _, rfl, upd_same, fun H3 s3 => ?_⟩
      push_cast []
      exact k15 _ ((s'.trans s2).trans s3)
    · exact k15 _ s'
  have k12 : ∀ (H' : Hp), Same H H' → (tSeq (rd_law_places_12 K a (fun _ => E) (fun _ => E)) (tSeq (rd_law_places_14 K a (fun _ => E) (fun _ => E)) (tSeq (rd_law_places_15 K a (fun _ => E) (fun _ => E)) (rd_law_places_17 K a (fun _ => E) (fun _ => E))))) D [some (V.ref p), some (V.ref sz), some (V.int w), some (V.int C0), some (V.ref fi), some (V.int i), some (V.int ((i : Int) / w)), some (V.int ((i : Int) % w)), x8] H' := fun H' s' => by
    have L' := L.same s'
    obtain ⟨dx', e'⟩ := L'.ob
    push_cast [rd_law_places_11_ap, rd_law_places_12_ap]
    refine ix_sq (SqL.of (s' _ _ hs)) (n := 1) rfl rfl ?_
    push_cast []
    split
    · refine ⟨_, _, e', lf_no (by decide +kernel), p, n, r, c, w, i, rfl, T, L', fun t ht => ?_⟩
      have s2 := same_upd (o := .tup [V.int ((n + r + c : Int) + (i : Int) / w), V.int ((i : Int) % w)]) ht
      refine ix_sq (SqL.of (s2 _ _ (s' _ _ hF))) (n := 3) rfl rfl ?_
      push_cast []
      refine ⟨t, _, _, rfl, upd_same, fun H3 s3 => ?_⟩
      push_cast []
      exact k14 _ ((s'.trans s2).trans s3)
    · exact k14 _ s'
  have k10 : ∀ (H' : Hp), Same H H' → (tSeq (rd_law_places_10 K a (fun _ => E) (fun _ => E)) (tSeq (rd_law_places_12 K a (fun _ => E) (fun _ => E)) (tSeq (rd_law_places_14 K a (fun _ => E) (fun _ => E)) (tSeq (rd_law_places_15 K a (fun _ => E) (fun _ => E)) (rd_law_places_17 K a (fun _ => E) (fun _ => E)))))) D [some (V.ref p), some (V.ref sz), some (V.int w), some (V.int C0), some (V.ref fi), some (V.int i), some (V.int ((i : Int) / w)), some (V.int ((i : Int) % w)), x8] H' := fun H' s' => by
    have L' := L.same s'
    obtain ⟨dx', e'⟩ := L'.ob
    push_cast [rd_law_places_9_ap, rd_law_places_10_ap]
    refine ix_sq (SqL.of (s' _ _ hs)) (n := 2) rfl rfl ?_
    push_cast []
    split
    · refine ⟨_, _, e', lf_no (by decide +kernel), p, n, r, c, w, i, rfl, T, L', fun t ht => ?_⟩
      have s2 := same_upd (o := .tup [V.int ((n + r : Int) + (i : Int) / w), V.int ((i : Int) % w)]) ht
      refine ix_sq (SqL.of (s2 _ _ (s' _ _ hF))) (n := 2) rfl rfl ?_
      push_cast []
      refine ⟨t, _, _, rfl, upd_same, fun H3 s3 => ?_⟩
      push_cast []
      exact k12 _ ((s'.trans s2).trans s3)
    · exact k12 _ s'
  have k8 : ∀ (H' : Hp), Same H H' → (tSeq (rd_law_places_8 K a (fun _ => E) (fun _ => E)) (tSeq (rd_law_places_10 K a (fun _ => E) (fun _ => E)) (tSeq (rd_law_places_12 K a (fun _ => E) (fun _ => E)) (tSeq (rd_law_places_14 K a (fun _ => E) (fun _ => E)) (tSeq (rd_law_places_15 K a (fun _ => E) (fun _ => E)) (rd_law_places_17 K a (fun _ => E) (fun _ => E))))))) D [some (V.ref p), some (V.ref sz), some (V.int w), some (V.int C0), some (V.ref fi), some (V.int i), some (V.int ((i : Int) / w)), some (V.int ((i : Int) % w)), x8] H' := fun H' s' => by
    have L' := L.same s'
    obtain ⟨dx', e'⟩ := L'.ob
    push_cast [rd_law_places_7_ap, rd_law_places_8_ap]
    refine ix_sq (SqL.of (s' _ _ hs)) (n := 1) rfl rfl ?_
    push_cast []
    split
    · refine ⟨_, _, e', lf_no (by decide +kernel), p, n, r, c, w, i, rfl, T, L', fun t ht => ?_⟩
      have s2 := same_upd (o := .tup [V.int ((n : Int) + (i : Int) / w), V.int ((i : Int) % w)]) ht
      refine ix_sq (SqL.of (s2 _ _ (s' _ _ hF))) (n := 1) rfl rfl ?_
      push_cast []
      refine ⟨t, _, _, rfl, upd_same, fun H3 s3 => ?_⟩
      push_cast []
      exact k10 _ ((s'.trans s2).trans s3)
    · exact k10 _ s'
  have k6 : ∀ (H' : Hp), Same H H' → (tSeq (rd_law_places_6 K a (fun _ => E) (fun _ => E)) (tSeq (rd_law_places_8 K a (fun _ => E) (fun _ => E)) (tSeq (rd_law_places_10 K a (fun _ => E) (fun _ => E)) (tSeq (rd_law_places_12 K a (fun _ => E) (fun _ => E)) (tSeq (rd_law_places_14 K a (fun _ => E) (fun _ => E)) (tSeq (rd_law_places_15 K a (fun _ => E) (fun _ => E)) (rd_law_places_17 K a (fun _ => E) (fun _ => E)))))))) D [some (V.ref p), some (V.ref sz), some (V.int w), some (V.int C0), some (V.ref fi), some (V.int i), some (V.int ((i : Int) / w)), some (V.int ((i : Int) % w)), x8] H' := fun H' s' => by
    have L' := L.same s'
    obtain ⟨dx', e'⟩ := L'.ob
    push_cast [rd_law_places_5_ap, rd_law_places_6_ap]
    refine ix_sq (SqL.of (s' _ _ hs)) (n := 0) rfl rfl ?_
    push_cast []
    split
    · refine ⟨_, _, e', lf_no (by decide +kernel), p, n, r, c, w, i, rfl, T, L', fun t ht => ?_⟩
      have s2 := same_upd (o := .tup [V.int (0 + (i : Int) / w), V.int ((i : Int) % w)]) ht
      refine ix_sq (SqL.of (s2 _ _ (s' _ _ hF))) (n := 0) rfl rfl ?_
      push_cast []
      refine ⟨t, _, _, rfl, upd_same, fun H3 s3 => ?_⟩
      push_cast []
      exact k8 _ ((s'.trans s2).trans s3)
    · exact k8 _ s'
  exact k6 H (Same.refl _)
theorem rdok_law_places (h : sp_law_places K a vs H Q E) : rd_law_places K a (fun _ => E) (ends Q) (start ["layout", "sizes", "wide", "seen", "firsts", "k", "block", "cell", "size"] vs) H := by
  obtain ⟨p, sz, n, r, c, w, rfl, T, L, hs, q⟩ := h
  have hS : SqL K H sz [.int n, .int r, .int c] := SqL.of hs
  have w1 := L.h1
  have w2 := L.hw
  have b1 := L.hn
  have b2 := L.hr
  have b3 := L.hc
  push_cast [rd_law_places, rd_law_places_1_ap, rd_law_places_2_ap]
  refine ix_sq hS (n := 0) rfl rfl (ix_sq hS (n := 0) rfl rfl (ix_sq hS (n := 1) rfl rfl ?_))
  push_cast []
  refine sum_l (ns := [(n : Int), r, c]) hS ?_
  push_cast []
  refine sum_l (ns := [(n : Int), r, c]) hS (ix_sq hS (n := 1) rfl rfl ?_)
  push_cast []
  rw [show ([(n : Int), r, c]).sum = n + r + c by simp [List.sum_cons]; omega]
  refine ⟨by decide, fun fi hfi => ?_⟩
  have s0 := same_upd (o := .lst [V.int 0, V.int n, V.int (n + r), V.int (n + r + c), V.int (n + r + c + r)]) hfi
  have hF : upd H fi (.lst [V.int 0, V.int n, V.int (n + r), V.int (n + r + c), V.int (n + r + c + r)]) fi = some (.lst [V.int 0, V.int n, V.int (n + r), V.int (n + r + c), V.int (n + r + c + r)]) := upd_same
  generalize upd H fi (.lst [V.int 0, V.int n, V.int (n + r), V.int (n + r + c), V.int (n + r + c + r)]) = H0 at s0 hF ⊢
  have L0 := L.same s0
  have hs0 := s0 _ _ hs
  push_cast [rd_law_places_18_ap]
  refine max_l (ns := [(n : Int), r, c]) (SqL.of hs0) (by simp) fun mx hmx hle => ?_
  obtain ⟨m, rfl, m1, m2, m3, m4⟩ : ∃ m : Nat, mx = m ∧ n ≤ m ∧ r ≤ m ∧ c ≤ m ∧ m ≤ 100 := by
    simp only [List.mem_cons, List.not_mem_nil, or_false] at hmx hle
    have e1 := hle n (.inl rfl)
    have e2 := hle r (.inr (.inl rfl))
    have e3 := hle c (.inr (.inr rfl))
    exact ⟨mx.toNat, by omega, by omega, by omega, by omega, by omega⟩
  push_cast []
  have hmw : (m : Int) * w = ((m * w : Nat) : Int) := by simp
  have hmw2 : m * w ≤ 100 * 100 := Nat.mul_le_mul m4 w2
  rw [hmw]
  refine ⟨.inl ⟨by omega, by omega⟩, by omega, by omega, ?_⟩
  rw [Int.toNat_natCast]
  refine for_rangeB (fun i σ H' => Same H0 H' ∧ ∃ x5 x6 x7 x8, σ = [some (V.ref p), some (V.ref sz), some (V.int w), some (V.int (cnt3 n r c w i)), some (V.ref fi), x5, x6, x7, x8]) ⟨Same.refl _, none, none, none, none, by rw [show cnt3 n r c w 0 = 0 by simp [cnt3]]⟩ ?_ ?_
  · rintro i σ H' hi ⟨s1, x5, x6, x7, x8, rfl⟩
    have step := cnt3_step (n := n) (r := r) (c := c) (i := i) w1
    generalize cnt3 n r c w i = C0 at step ⊢
    generalize cnt3 n r c w (i + 1) = C1 at step ⊢
    push_cast [rd_law_places_3_ap, rd_law_places_4_ap]
    rw [Int.zero_add, show (i : Int) - (i : Int) / w * w = (i : Int) % w by rw [Int.emod_def, Int.mul_comm]]
    refine ⟨⟨by omega, by omega⟩, .inr ⟨by omega, by omega⟩, ?_⟩
    exact places_turn T (L0.same s1) (s1 _ _ hs0) (s1 _ _ hF) step fun x8 H2 s2 => ⟨s1.trans s2, _, _, _, _, rfl⟩
  · rintro σ H' ⟨s1, x5, x6, x7, x8, rfl⟩
    have L1 := L0.same s1
    obtain ⟨dx1, e1⟩ := L1.ob
    push_cast [rd_law_places_19_ap]
    refine ⟨_, _, e1, lf_no (by decide +kernel), p, n, r, c, w, rfl, T, L1, ?_⟩
    push_cast []
    rw [cnt3_end m1 m2 m3]
    refine ⟨.inl ⟨by omega, by omega⟩, ?_⟩
    simp only [decide_true]
    exact q _ (s0.trans s1)
theorem mill_nn {c t : Int} : 0 ≤ mill c t := by
  unfold mill
  omega
theorem nat_of {i : Int} {n : Nat} (h0 : 1 ≤ i) (h : i ≤ n) : ∃ k : Nat, i = k ∧ 1 ≤ k ∧ k ≤ n := ⟨i.toNat, by omega, by omega, by omega⟩
theorem law_turn {s : Addr} {c : Int} {x2 x3 x4 x5 x6 x7 : Option V} {D : Ends} {H : Hp} (TL : TLay K a) (T : TPlank K a) (X : TNb K a) (q : ∀ y2 y3 y4 y5 y6 y7 H', Same H H' → D.nx [some (V.ref s), some (V.int c), y2, y3, y4, y5, y6, y7] H') :
    (tSeq (rd_law_1 K a (fun _ => E) (fun _ => E)) (tSeq (rd_law_2 K a (fun _ => E) (fun _ => E)) (tSeq (rd_law_3 K a (fun _ => E) (fun _ => E)) (tSeq (rd_law_4 K a (fun _ => E) (fun _ => E)) (tSeq (rd_law_5 K a (fun _ => E) (fun _ => E)) (tSeq (rd_law_7 K a (fun _ => E) (fun _ => E)) (tSeq (rd_law_8 K a (fun _ => E) (fun _ => E)) (tSeq (rd_law_10 K a (fun _ => E) (fun _ => E)) (tSeq (rd_law_12 K a (fun _ => E) (fun _ => E)) (tSeq (rd_law_14 K a (fun _ => E) (fun _ => E)) (rd_law_16 K a (fun _ => E) (fun _ => E)))))))))))) D [some (V.ref s), some (V.int c), x2, x3, x4, x5, x6, x7] H := by
  push_cast [rd_law_1_ap, rd_law_2_ap, rd_law_3_ap, ↓sp_law_mill_ap]
  have m1 := mill_nn (c := c) (t := 1)
  have m2 := mill_nn (c := c) (t := 2)
  generalize mill c 1 = A at *
  obtain ⟨n, en, n1, n2⟩ := nat_of (i := 1 + A % 6) (n := 6) (by omega) (by omega)
  obtain ⟨r, er, r1, r2⟩ := nat_of (i := 1 + A / 6 % 6) (n := 6) (by omega) (by omega)
  obtain ⟨k, ek, k1, k2⟩ := nat_of (i := 1 + A / 36 % 6) (n := 6) (by omega) (by omega)
  obtain ⟨w, ew, w1, w2⟩ := nat_of (i := 1 + A / 216 % 6) (n := 6) (by omega) (by omega)
  rw [en, er, ek, ew]
  refine ⟨⟨by decide, by decide⟩, ⟨by decide, by decide⟩, by decide, fun sz hsz => ⟨⟨by decide, by decide⟩, ?_⟩⟩
  have s1 := same_upd (o := .lst [V.int n, V.int r, V.int k]) hsz
  have es : upd H sz (.lst [V.int n, V.int r, V.int k]) sz = some (.lst [V.int n, V.int r, V.int k]) := upd_same
  generalize upd H sz (.lst [V.int n, V.int r, V.int k]) = H1 at s1 es ⊢
  have hS : SqL K H1 sz [.int n, .int r, .int k] := SqL.of es
  push_cast [rd_law_4_ap]
  refine ix_sq hS (n := 0) rfl rfl (ix_sq hS (n := 1) rfl rfl (ix_sq hS (n := 2) rfl rfl fun x dx hx hdx hne => ?_))
  have s2 : Same H1 (upd (upd H1 dx (.own x)) x (.ins (a "Layout") dx [])) := (same_upd hdx).trans (same_upd (by rw [upd_ne hne.symm]; exact hx))
  refine ⟨x, dx, n, r, k, w, rfl, TL, upd_same, by omega, by omega, by omega, w1, by omega, fun H2 L2 s3 => ⟨rfl, ?_⟩⟩
  have s12 : Same H1 H2 := fun b o eb => s3 _ _ (s2 _ _ eb) (ne_of_none eb hx)
  have es2 := s12 _ _ es
  clear s3 s2 hS hx hdx hne
  obtain ⟨dy, e2⟩ := L2.ob
  push_cast [rd_law_5_ap]
  refine ⟨_, _, e2, lf_no (by decide +kernel), x, n, r, k, w, rfl, TL, L2, fun t ht => ?_⟩
  have s3 := same_upd (o := .tup [V.int (n * w), V.int (r * w), V.int (k * w)]) ht
  have et : upd H2 t (.tup [V.int (n * w), V.int (r * w), V.int (k * w)]) t = some (.tup [V.int (n * w), V.int (r * w), V.int (k * w)]) := upd_same
  generalize upd H2 t (.tup [V.int (n * w), V.int (r * w), V.int (k * w)]) = H3 at s3 et ⊢
  have L3 := L2.same s3
  have es3 := s3 _ _ es2
  have hS3 : SqL K H3 sz [.int n, .int r, .int k] := SqL.of es3
  have S3 := (s1.trans s12).trans s3
  clear e2 L2 es2
  push_cast [rd_law_6_ap, rd_law_7_ap]
  refine isinst_one (tx (.tup et)) (.ty _) (b := true) rfl ?_
  push_cast []
  refine ix_sq hS3 (n := 0) rfl rfl ?_
  push_cast []
  refine ⟨.inl ⟨by omega, by omega⟩, ix_sq hS3 (n := 1) rfl rfl ?_⟩
  push_cast []
  refine ⟨.inl ⟨by omega, by omega⟩, ix_sq hS3 (n := 2) rfl rfl ?_⟩
  push_cast []
  refine ⟨.inl ⟨by omega, by omega⟩, by decide, fun t4 ht4 => ?_⟩
  have s4 := same_upd (o := .tup [V.int (n * w), V.int (r * w), V.int (k * w)]) ht4
  refine dat_ne (n := 1) (by decide) (.tup (SqT.of (s4 _ _ et)) (dat_ints [(n : Int) * w, r * w, k * w])) (.tup (SqT.of upd_same) (dat_ints [(n : Int) * w, r * w, k * w])) ?_
  generalize upd H3 t4 (.tup [V.int (n * w), V.int (r * w), V.int (k * w)]) = H4 at s4 ⊢
  have L4 := L3.same s4
  have es4 := s4 _ _ es3
  have et4 := s4 _ _ et
  have S4 := S3.trans s4
  have hS4 : SqL K H4 sz [.int n, .int r, .int k] := SqL.of es4
  clear S3 s4 es3 L3 hS3 et
  push_cast [rd_law_8_ap]
  refine ix_sq hS4 (n := 0) rfl rfl (ix_sq hS4 (n := 1) rfl rfl ?_)
  push_cast []
  refine ⟨.inl ⟨by decide, by decide⟩, ix_sq hS4 (n := 2) rfl rfl ?_⟩
  push_cast []
  refine ⟨.inl ⟨by decide, by decide⟩, ?_⟩
  rw [show (n : Int) + 2 * r + 2 * k = ((n + r + k + r + k : Nat) : Int) by omega]
  push_cast [rd_law_9_ap, rd_law_10_ap]
  have hl3 : ([V.int (n * w), V.int (r * w), V.int (k * w)]).length ≤ sizeLine := small _ (by simp)
  refine .inr ⟨⟨_, SqT.of et4⟩, comp_tupF (fun _ => false) hl3 (SqT.of et4) (fun x hx QB qb => ?_) fun l hl => ?_⟩
  · have : ∃ i : Int, x = .int i := by
      simp only [List.mem_cons, List.not_mem_nil, or_false] at hx
      rcases hx with rfl | rfl | rfl <;> exact ⟨_, rfl⟩
    obtain ⟨i, rfl⟩ := this
    push_cast [↓sp_law_whole_ap]
    exact qb
  rw [show ([V.int (n * w), V.int (r * w), V.int (k * w)].filter fun _ => false) = [] from rfl]
  refine ⟨by decide, fun l2 hl2 => ?_⟩
  have s5 := (same_upd (o := .lst []) hl).trans (same_upd (o := .lst []) hl2)
  refine ne_same (xs := []) (SqL.of (same_upd hl2 _ _ upd_same)) (SqL.of upd_same) (fun v hv => by cases hv) ?_
  push_cast []
  generalize upd (upd H4 l (.lst [])) l2 (.lst []) = H5 at s5 ⊢
  refine ⟨x, sz, n, r, k, w, rfl, TL, L4.same s5, s5 _ _ es4, fun H6 s6 => ?_⟩
  have s46 := s5.trans s6
  have L6 := L4.same s46
  have es6 := s46 _ _ es4
  have et6 := s46 _ _ et4
  have S6 := S4.trans s46
  clear S4 L4 es4 et4 hS4 s5 s6 s46 hl hl2 H5
  push_cast [rd_law_11_ap, rd_law_12_ap, ↓sp_law_mill_ap]
  obtain ⟨b, hb, hb2⟩ : ∃ b : Nat, mill c 2 % ((n + r + k + r + k : Nat) : Int) = b ∧ b < n + r + k + r + k :=
    ⟨(mill c 2 % ((n + r + k + r + k : Nat) : Int)).toNat, by have := Int.emod_nonneg (mill c 2) (show ((n + r + k + r + k : Nat) : Int) ≠ 0 by omega); omega, by
      have := Int.emod_lt_of_pos (mill c 2) (show (0 : Int) < ((n + r + k + r + k : Nat) : Int) by omega)
      have := Int.emod_nonneg (mill c 2) (show ((n + r + k + r + k : Nat) : Int) ≠ 0 by omega); omega⟩
  rw [hb]
  refine ⟨by omega, x, n, r, k, w, b, rfl, TL, T, X, L6, hb2, fun H7 s7 => ?_⟩
  have L7 := L6.same s7
  have es7 := s7 _ _ es6
  have et7 := s7 _ _ et6
  have S7 := S6.trans s7
  obtain ⟨dy, e7⟩ := L7.ob
  clear S6 L6 es6 et6 s7
  push_cast [rd_law_13_ap, rd_law_14_ap]
  refine ⟨_, _, e7, lf_no (by decide +kernel), x, n, r, k, w, rfl, TL, L7, ?_⟩
  push_cast [↓sp_law_whole_ap]
  refine ⟨_, _, e7, lf_no (by decide +kernel), x, n, r, k, w, rfl, TL, L7, ?_⟩
  push_cast []
  rw [if_neg (by omega)]
  refine ⟨_, _, e7, lf_no (by decide +kernel), x, n, r, k, w, rfl, TL, L7, fun t8 ht8 => ?_⟩
  have s8 := same_upd (o := .tup [V.int (n * w), V.int (r * w), V.int (k * w)]) ht8
  refine dat_ne (n := 1) (by decide) (.tup (SqT.of upd_same) (dat_ints [(n : Int) * w, r * w, k * w])) (.tup (SqT.of (s8 _ _ et7)) (dat_ints [(n : Int) * w, r * w, k * w])) ?_
  push_cast [rd_law_15_ap, rd_law_16_ap]
  refine ⟨x, sz, n, r, k, w, rfl, TL, L7.same s8, s8 _ _ es7, fun H9 s9 => ?_⟩
  push_cast []
  exact q _ _ _ _ _ _ _ ((S7.trans s8).trans s9)
theorem rdok_law (h : sp_law K a vs H Q E) : rd_law K a (fun _ => E) (ends Q) (start ["script", "cell", "number", "sizes", "wide", "layout", "counts", "many"] vs) H := by
  obtain ⟨s, ns, rfl, TL, T, X, hs, hn, q⟩ := h
  push_cast [rd_law, ↓rd_law_1_ap, ↓rd_law_2_ap, ↓rd_law_3_ap, ↓rd_law_4_ap, ↓rd_law_5_ap, ↓rd_law_6_ap, ↓rd_law_7_ap, ↓rd_law_8_ap, ↓rd_law_9_ap, ↓rd_law_10_ap, ↓rd_law_11_ap, ↓rd_law_12_ap, ↓rd_law_13_ap, ↓rd_law_14_ap, ↓rd_law_15_ap, ↓rd_law_16_ap, ↓rd_law_17_ap, ↓rd_law_18_ap]
  refine ⟨by decide, fun p hp => .inl ⟨s, _, rfl, (same_upd hp).seq hs, fun b hb => .inl ⟨p, b, _, _, rfl, rfl, same_upd hb _ _ upd_same, upd_same, ?_, fun t ht => ⟨t, rfl, .inl ⟨⟨_, SqL.of upd_same⟩, ?_⟩⟩⟩⟩⟩
  · exact small _ (Nat.le_trans (Nat.add_le_add_left (cutV_length ..) _) (by simp; omega))
  · rw [cut_to _ (by decide), ← List.map_take, show ([V.int 5] ++ (ns.take (24 : Int).toNat).map V.int) = (5 :: ns.take (24 : Int).toNat).map V.int from rfl]
    generalize 5 :: ns.take (24 : Int).toNat = ks
    refine for_listB (xs := ks.map V.int) (fun i σ H' => H' t = some (.lst (ks.map V.int)) ∧ ∃ x1 x2 x3 x4 x5 x6 x7, σ = [some (V.ref s), x1, x2, x3, x4, x5, x6, x7]) ⟨upd_same, _, _, _, _, _, _, _, rfl⟩ (fun i σ H' _ z => SqL.of z.1) ?_ ?_
    · rintro i v σ H3 hi ⟨h3, x1, x2, x3, x4, x5, x6, x7, rfl⟩
      obtain ⟨z, hzi, rfl⟩ : ∃ z, ks[i]? = some z ∧ v = V.int z := by
        rw [List.getElem?_map] at hi
        cases hz : ks[i]? with
        | none => rw [hz] at hi; cases hi
        | some z => rw [hz] at hi; exact ⟨z, rfl, by simpa using hi.symm⟩
      simp only [gName, List.set_cons_succ, List.set_cons_zero]
      exact law_turn TL T X fun y2 y3 y4 y5 y6 y7 H' s' => ⟨s' _ _ h3, _, _, _, _, _, _, _, rfl⟩
    · rintro σ H3 ⟨_, x1, x2, x3, x4, x5, x6, x7, rfl⟩
      push_cast [↓rd_law_1_ap, ↓rd_law_2_ap, ↓rd_law_3_ap, ↓rd_law_4_ap, ↓rd_law_5_ap, ↓rd_law_6_ap, ↓rd_law_7_ap, ↓rd_law_8_ap, ↓rd_law_9_ap, ↓rd_law_10_ap, ↓rd_law_11_ap, ↓rd_law_12_ap, ↓rd_law_13_ap, ↓rd_law_14_ap, ↓rd_law_15_ap, ↓rd_law_16_ap, ↓rd_law_17_ap, ↓rd_law_18_ap]
      exact q _
theorem len_law_whole (h : sp_law_whole K a vs H Q E) : vs.length = 1 := by
  obtain ⟨_, rfl, _⟩ := h
  rfl
theorem len_law_at (h : sp_law_at K a vs H Q E) : vs.length = 3 := by
  obtain ⟨_, _, _, rfl, _⟩ := h
  rfl
theorem len_law_places (h : sp_law_places K a vs H Q E) : vs.length = 3 := by
  obtain ⟨_, _, _, _, _, _, rfl, _⟩ := h
  rfl
theorem len_law_new (h : sp_law_new K a vs H Q E) : vs.length = 3 := by
  obtain ⟨_, _, _, _, rfl, _⟩ := h
  rfl
theorem len_law_refused (h : sp_law_refused K a vs H Q E) : vs.length = 3 := by
  obtain ⟨_, _, _, _, _, _, _, _, rfl, _⟩ := h
  rfl
theorem len_law_written (h : sp_law_written K a vs H Q E) : vs.length = 4 := by
  obtain ⟨_, _, _, _, _, rfl, _⟩ := h
  rfl
theorem len_law_planks (h : sp_law_planks K a vs H Q E) : vs.length = 4 := by
  obtain ⟨_, _, _, _, _, _, rfl, _⟩ := h
  rfl
theorem len_law (h : sp_law K a vs H Q E) : vs.length = 1 := by
  obtain ⟨_, _, rfl, _⟩ := h
  rfl
end
end L2

set_option linter.all false
set_option maxRecDepth 100000
set_option maxHeartbeats 4000000
/-! The derivations of the bodies, as gen.py prints them. -/
namespace L2
open PySem PySem.Spec PyProof.Rows
def top (i : Nat) : Stmt := PySem.Challenge.pw_holdback_k31_places_apart.main.body.getD i (.Pass ⟨0, 0, 0, 0⟩)
structure Txt (K : PySem.W.Frag) (mg : Str → Option Value) (a : Ad) : Prop where
  c_Layout : Cls K (a "Layout")
  c_Plank : Cls K (a "Plank")
  r_NoBlock : mg "NoBlock" = some (.ref (a "NoBlock"))
  g_NoBlock : GV mg "NoBlock" (.ref (a "NoBlock"))
  x_NoBlock : Exc K (a "NoBlock")
  b_bool : mg "bool" = none
  b_int : mg "int" = none
  b_isinstance : mg "isinstance" = none
  b_len : mg "len" = none
  b_list : mg "list" = none
  b_max : mg "max" = none
  b_range : mg "range" = none
  b_sum : mg "sum" = none
  b_tuple : mg "tuple" = none
abbrev s_Plank_init : Stmt := inClass (top 4) 0
theorem sc_Plank_init : FnScope ["self", "blocks", "cells"] ["self", "blocks", "cells"] (defScope s_Plank_init) := ⟨rfl, rfl, rfl, by decide +kernel, rfl, by decide +kernel, by decide +kernel⟩
theorem ok_Plank_init {P : Program} {w : World} {K : PySem.W.Frag} {mg : Str → Option Value} {base : Heap} {a : Ad} {f : Addr} {fd : FuncData} (T : Txt K mg a) (F : Fun K "__init__" "Plank.__init__" s_Plank_init f fd)
    (R : ∀ (vs : List V) (H : Hp) (Q : VK) (E : XK), sp_Plank_init K a vs H Q E → rd_Plank_init K a (fun _ => E) { nx := fun _ H' => Q .non H', rt := Q } (start ["self", "blocks", "cells"] vs) H) (L : ∀ vs H Q E, sp_Plank_init K a vs H Q E → vs.length = 3) :
    FnOk P w K mg base (cxE P w) 1 f fd ["self", "blocks", "cells"] (sp_Plank_init K a) := by
  refine F.okE sc_Plank_init L (fun cdv A outer s H vs Q E hr h => ?_)
  have hx : XOk (cxOf (cxE P w) P w K mg base ["self", "blocks", "cells"] "Plank.__init__" (defScope s_Plank_init) f cdv A outer s H E) (fun _ => E) := xok_fn
  exact ⟨rd_Plank_init K a (fun _ => E), (pss_cons (ps_fld (pvr 0) (pe_comp (tn := ["block"]) (cn := ["cells"]) (cap := [2]) (cps_of (outer := defScope s_Plank_init) (N := ["self", "blocks", "cells"]) rfl rfl (by decide +kernel)) rfl (pi_range1 rfl T.b_range (pa_cons (pvr 1) pa_nil)) (fun _ _ _ _ _ _ => (pg_name (i := 0) (show (["block", "cells"] : List Str).Nodup from by decide +kernel) rfl (Or.inl rfl))) (fun _ _ _ _ _ _ => pts_nil) (fun _ _ _ _ _ _ => (pe_op op_mulA (pe_tup (pa_cons pe_non pa_nil)) (pvr 1)))) rfl)
      (pss_cons (ps_fld (pvr 0) (pvr 2) rfl)
      (pss_one (ps_fld (pvr 0) pe_int rfl)))), R vs H Q E h⟩
abbrev s_Plank_blocks : Stmt := inClass (top 4) 1
theorem sc_Plank_blocks : FnScope ["self"] ["self"] (defScope s_Plank_blocks) := ⟨rfl, rfl, rfl, by decide +kernel, rfl, by decide +kernel, by decide +kernel⟩
theorem ok_Plank_blocks {P : Program} {w : World} {K : PySem.W.Frag} {mg : Str → Option Value} {base : Heap} {a : Ad} {f : Addr} {fd : FuncData} (T : Txt K mg a) (F : Fun K "blocks" "Plank.blocks" s_Plank_blocks f fd)
    (R : ∀ (vs : List V) (H : Hp) (Q : VK) (E : XK), sp_Plank_blocks K a vs H Q E → rd_Plank_blocks K a (fun _ => E) { nx := fun _ H' => Q .non H', rt := Q } (start ["self"] vs) H) (L : ∀ vs H Q E, sp_Plank_blocks K a vs H Q E → vs.length = 1) :
    FnOk P w K mg base (cxE P w) 1 f fd ["self"] (sp_Plank_blocks K a) := by
  refine F.okE sc_Plank_blocks L (fun cdv A outer s H vs Q E hr h => ?_)
  have hx : XOk (cxOf (cxE P w) P w K mg base ["self"] "Plank.blocks" (defScope s_Plank_blocks) f cdv A outer s H E) (fun _ => E) := xok_fn
  exact ⟨rd_Plank_blocks K a (fun _ => E), (pss_one (ps_ret (pe_callB call_lenA rfl T.b_len (by rfl) (pa_cons (pe_fld (pvr 0) rfl) pa_nil)))), R vs H Q E h⟩
abbrev s_Plank_cells : Stmt := inClass (top 4) 2
theorem sc_Plank_cells : FnScope ["self"] ["self"] (defScope s_Plank_cells) := ⟨rfl, rfl, rfl, by decide +kernel, rfl, by decide +kernel, by decide +kernel⟩
theorem ok_Plank_cells {P : Program} {w : World} {K : PySem.W.Frag} {mg : Str → Option Value} {base : Heap} {a : Ad} {f : Addr} {fd : FuncData} (T : Txt K mg a) (F : Fun K "cells" "Plank.cells" s_Plank_cells f fd)
    (R : ∀ (vs : List V) (H : Hp) (Q : VK) (E : XK), sp_Plank_cells K a vs H Q E → rd_Plank_cells K a (fun _ => E) { nx := fun _ H' => Q .non H', rt := Q } (start ["self"] vs) H) (L : ∀ vs H Q E, sp_Plank_cells K a vs H Q E → vs.length = 1) :
    FnOk P w K mg base (cxE P w) 1 f fd ["self"] (sp_Plank_cells K a) := by
  refine F.okE sc_Plank_cells L (fun cdv A outer s H vs Q E hr h => ?_)
  have hx : XOk (cxOf (cxE P w) P w K mg base ["self"] "Plank.cells" (defScope s_Plank_cells) f cdv A outer s H E) (fun _ => E) := xok_fn
  exact ⟨rd_Plank_cells K a (fun _ => E), (pss_one (ps_ret (pe_fld (pvr 0) rfl))), R vs H Q E h⟩
abbrev s_Plank_writings : Stmt := inClass (top 4) 3
theorem sc_Plank_writings : FnScope ["self"] ["self"] (defScope s_Plank_writings) := ⟨rfl, rfl, rfl, by decide +kernel, rfl, by decide +kernel, by decide +kernel⟩
theorem ok_Plank_writings {P : Program} {w : World} {K : PySem.W.Frag} {mg : Str → Option Value} {base : Heap} {a : Ad} {f : Addr} {fd : FuncData} (T : Txt K mg a) (F : Fun K "writings" "Plank.writings" s_Plank_writings f fd)
    (R : ∀ (vs : List V) (H : Hp) (Q : VK) (E : XK), sp_Plank_writings K a vs H Q E → rd_Plank_writings K a (fun _ => E) { nx := fun _ H' => Q .non H', rt := Q } (start ["self"] vs) H) (L : ∀ vs H Q E, sp_Plank_writings K a vs H Q E → vs.length = 1) :
    FnOk P w K mg base (cxE P w) 1 f fd ["self"] (sp_Plank_writings K a) := by
  refine F.okE sc_Plank_writings L (fun cdv A outer s H vs Q E hr h => ?_)
  have hx : XOk (cxOf (cxE P w) P w K mg base ["self"] "Plank.writings" (defScope s_Plank_writings) f cdv A outer s H E) (fun _ => E) := xok_fn
  exact ⟨rd_Plank_writings K a (fun _ => E), (pss_one (ps_ret (pe_fld (pvr 0) rfl))), R vs H Q E h⟩
abbrev s_Plank_ask_for_block : Stmt := inClass (top 4) 6
theorem sc_Plank_ask_for_block : FnScope ["self", "block"] ["self", "block"] (defScope s_Plank_ask_for_block) := ⟨rfl, rfl, rfl, by decide +kernel, rfl, by decide +kernel, by decide +kernel⟩
theorem ok_Plank_ask_for_block {P : Program} {w : World} {K : PySem.W.Frag} {mg : Str → Option Value} {base : Heap} {a : Ad} {f : Addr} {fd : FuncData} (T : Txt K mg a) (F : Fun K "ask_for_block" "Plank.ask_for_block" s_Plank_ask_for_block f fd)
    (R : ∀ (vs : List V) (H : Hp) (Q : VK) (E : XK), sp_Plank_ask_for_block K a vs H Q E → rd_Plank_ask_for_block K a (fun _ => E) { nx := fun _ H' => Q .non H', rt := Q } (start ["self", "block"] vs) H) (L : ∀ vs H Q E, sp_Plank_ask_for_block K a vs H Q E → vs.length = 2) :
    FnOk P w K mg base (cxE P w) 1 f fd ["self", "block"] (sp_Plank_ask_for_block K a) := by
  refine F.okE sc_Plank_ask_for_block L (fun cdv A outer s H vs Q E hr h => ?_)
  have hx : XOk (cxOf (cxE P w) P w K mg base ["self", "block"] "Plank.ask_for_block" (defScope s_Plank_ask_for_block) f cdv A outer s H E) (fun _ => E) := xok_fn
  exact ⟨rd_Plank_ask_for_block K a (fun _ => E), (pss_one (ps_if (pt_not (pt_chain op_leA op_ltA pe_int (pvr 1) (pe_callB call_lenA rfl T.b_len (by rfl) (pa_cons (pe_fld (pvr 0) rfl) pa_nil)))) (pss_one (ps_raise hx T.x_NoBlock rfl T.r_NoBlock (pa_cons pe_str pa_nil))) pss_nil)), R vs H Q E h⟩
abbrev s_Layout_init : Stmt := inClass (top 6) 0
theorem sc_Layout_init : FnScope ["self", "names", "records", "pieces", "cells"] ["self", "names", "records", "pieces", "cells"] (defScope s_Layout_init) := ⟨rfl, rfl, rfl, by decide +kernel, rfl, by decide +kernel, by decide +kernel⟩
theorem ok_Layout_init {P : Program} {w : World} {K : PySem.W.Frag} {mg : Str → Option Value} {base : Heap} {a : Ad} {f : Addr} {fd : FuncData} (T : Txt K mg a) (F : Fun K "__init__" "Layout.__init__" s_Layout_init f fd)
    (R : ∀ (vs : List V) (H : Hp) (Q : VK) (E : XK), sp_Layout_init K a vs H Q E → rd_Layout_init K a (fun _ => E) { nx := fun _ H' => Q .non H', rt := Q } (start ["self", "names", "records", "pieces", "cells"] vs) H) (L : ∀ vs H Q E, sp_Layout_init K a vs H Q E → vs.length = 5) :
    FnOk P w K mg base (cxE P w) 1 f fd ["self", "names", "records", "pieces", "cells"] (sp_Layout_init K a) := by
  refine F.okE sc_Layout_init L (fun cdv A outer s H vs Q E hr h => ?_)
  have hx : XOk (cxOf (cxE P w) P w K mg base ["self", "names", "records", "pieces", "cells"] "Layout.__init__" (defScope s_Layout_init) f cdv A outer s H E) (fun _ => E) := xok_fn
  exact ⟨rd_Layout_init K a (fun _ => E), (pss_cons (ps_fld (pvr 0) (pvr 1) rfl)
      (pss_cons (ps_fld (pvr 0) (pvr 2) rfl)
      (pss_cons (ps_fld (pvr 0) (pvr 3) rfl)
      (pss_one (ps_fld (pvr 0) (pvr 4) rfl))))), R vs H Q E h⟩
abbrev s_Layout_counts : Stmt := inClass (top 6) 6
theorem sc_Layout_counts : FnScope ["self"] ["self"] (defScope s_Layout_counts) := ⟨rfl, rfl, rfl, by decide +kernel, rfl, by decide +kernel, by decide +kernel⟩
theorem ok_Layout_counts {P : Program} {w : World} {K : PySem.W.Frag} {mg : Str → Option Value} {base : Heap} {a : Ad} {f : Addr} {fd : FuncData} (T : Txt K mg a) (F : Fun K "counts" "Layout.counts" s_Layout_counts f fd)
    (R : ∀ (vs : List V) (H : Hp) (Q : VK) (E : XK), sp_Layout_counts K a vs H Q E → rd_Layout_counts K a (fun _ => E) { nx := fun _ H' => Q .non H', rt := Q } (start ["self"] vs) H) (L : ∀ vs H Q E, sp_Layout_counts K a vs H Q E → vs.length = 1) :
    FnOk P w K mg base (cxE P w) 1 f fd ["self"] (sp_Layout_counts K a) := by
  refine F.okE sc_Layout_counts L (fun cdv A outer s H vs Q E hr h => ?_)
  have hx : XOk (cxOf (cxE P w) P w K mg base ["self"] "Layout.counts" (defScope s_Layout_counts) f cdv A outer s H E) (fun _ => E) := xok_fn
  exact ⟨rd_Layout_counts K a (fun _ => E), (pss_one (ps_ret (pe_tup (pa_cons (pe_op op_mulA (pe_fld (pvr 0) rfl) (pe_fld (pvr 0) rfl)) (pa_cons (pe_op op_mulA (pe_fld (pvr 0) rfl) (pe_fld (pvr 0) rfl)) (pa_cons (pe_op op_mulA (pe_fld (pvr 0) rfl) (pe_fld (pvr 0) rfl)) pa_nil)))))), R vs H Q E h⟩
abbrev s_Layout_blocks_ahead_of_marks : Stmt := inClass (top 6) 9
theorem sc_Layout_blocks_ahead_of_marks : FnScope ["self"] ["self"] (defScope s_Layout_blocks_ahead_of_marks) := ⟨rfl, rfl, rfl, by decide +kernel, rfl, by decide +kernel, by decide +kernel⟩
theorem ok_Layout_blocks_ahead_of_marks {P : Program} {w : World} {K : PySem.W.Frag} {mg : Str → Option Value} {base : Heap} {a : Ad} {f : Addr} {fd : FuncData} (T : Txt K mg a) (F : Fun K "blocks_ahead_of_marks" "Layout.blocks_ahead_of_marks" s_Layout_blocks_ahead_of_marks f fd)
    (R : ∀ (vs : List V) (H : Hp) (Q : VK) (E : XK), sp_Layout_blocks_ahead_of_marks K a vs H Q E → rd_Layout_blocks_ahead_of_marks K a (fun _ => E) { nx := fun _ H' => Q .non H', rt := Q } (start ["self"] vs) H) (L : ∀ vs H Q E, sp_Layout_blocks_ahead_of_marks K a vs H Q E → vs.length = 1) :
    FnOk P w K mg base (cxE P w) 1 f fd ["self"] (sp_Layout_blocks_ahead_of_marks K a) := by
  refine F.okE sc_Layout_blocks_ahead_of_marks L (fun cdv A outer s H vs Q E hr h => ?_)
  have hx : XOk (cxOf (cxE P w) P w K mg base ["self"] "Layout.blocks_ahead_of_marks" (defScope s_Layout_blocks_ahead_of_marks) f cdv A outer s H E) (fun _ => E) := xok_fn
  exact ⟨rd_Layout_blocks_ahead_of_marks K a (fun _ => E), (pss_one (ps_ret (pe_op op_addA (pe_op op_addA (pe_fld (pvr 0) rfl) (pe_fld (pvr 0) rfl)) (pe_fld (pvr 0) rfl)))), R vs H Q E h⟩
abbrev s_Layout_place_from : Stmt := inClass (top 6) 10
theorem sc_Layout_place_from : FnScope ["self", "block", "k"] ["self", "block", "k"] (defScope s_Layout_place_from) := ⟨rfl, rfl, rfl, by decide +kernel, rfl, by decide +kernel, by decide +kernel⟩
theorem ok_Layout_place_from {P : Program} {w : World} {K : PySem.W.Frag} {mg : Str → Option Value} {base : Heap} {a : Ad} {f : Addr} {fd : FuncData} (T : Txt K mg a) (F : Fun K "place_from" "Layout.place_from" s_Layout_place_from f fd)
    (R : ∀ (vs : List V) (H : Hp) (Q : VK) (E : XK), sp_Layout_place_from K a vs H Q E → rd_Layout_place_from K a (fun _ => E) { nx := fun _ H' => Q .non H', rt := Q } (start ["self", "block", "k"] vs) H) (L : ∀ vs H Q E, sp_Layout_place_from K a vs H Q E → vs.length = 3) :
    FnOk P w K mg base (cxE P w) 1 f fd ["self", "block", "k"] (sp_Layout_place_from K a) := by
  refine F.okE sc_Layout_place_from L (fun cdv A outer s H vs Q E hr h => ?_)
  have hx : XOk (cxOf (cxE P w) P w K mg base ["self", "block", "k"] "Layout.place_from" (defScope s_Layout_place_from) f cdv A outer s H E) (fun _ => E) := xok_fn
  exact ⟨rd_Layout_place_from K a (fun _ => E), (pss_one (ps_ret (pe_tup (pa_cons (pe_op op_addA (pvr 1) (pe_op op_fdiv (pvr 2) (pe_fld (pvr 0) rfl))) (pa_cons (pe_op op_mod (pvr 2) (pe_fld (pvr 0) rfl)) pa_nil))))), R vs H Q E h⟩
abbrev s_law_mill : Stmt := top 8
theorem sc_law_mill : FnScope ["cell", "turn", "seed"] ["cell", "turn"] (defScope s_law_mill) := ⟨rfl, rfl, rfl, by decide +kernel, rfl, by decide +kernel, by decide +kernel⟩
theorem ok_law_mill {P : Program} {w : World} {K : PySem.W.Frag} {mg : Str → Option Value} {base : Heap} {a : Ad} {f : Addr} {fd : FuncData} (T : Txt K mg a) (F : Fun K "_law_mill" "_law_mill" s_law_mill f fd)
    (R : ∀ (vs : List V) (H : Hp) (Q : VK) (E : XK), sp_law_mill K a vs H Q E → rd_law_mill K a (fun _ => E) { nx := fun _ H' => Q .non H', rt := Q } (start ["cell", "turn", "seed"] vs) H) (L : ∀ vs H Q E, sp_law_mill K a vs H Q E → vs.length = 2) :
    FnOk P w K mg base (cxE P w) 1 f fd ["cell", "turn"] (sp_law_mill K a) := by
  refine F.okE sc_law_mill L (fun cdv A outer s H vs Q E hr h => ?_)
  have hx : XOk (cxOf (cxE P w) P w K mg base ["cell", "turn", "seed"] "_law_mill" (defScope s_law_mill) f cdv A outer s H E) (fun _ => E) := xok_fn
  exact ⟨rd_law_mill K a (fun _ => E), (pss_cons (ps_set (i := 2) sc_law_mill.nd rfl (Or.inl rfl) (pe_op op_addA (pe_op op_addA (pe_op op_mod (pvr 0) pe_int) (pe_op op_mulA pe_int (pvr 1))) pe_int))
      (pss_one (ps_ret (pe_op op_fdiv (pe_op op_mod (pe_op op_mulA (pe_op op_mod (pe_op op_mulA (pvr 2) (pvr 2)) pe_int) (pe_op op_addA (pvr 2) (pvr 1))) pe_int) pe_int)))), R vs H Q E h⟩
abbrev s_law_whole : Stmt := top 9
theorem sc_law_whole : FnScope ["found"] ["found"] (defScope s_law_whole) := ⟨rfl, rfl, rfl, by decide +kernel, rfl, by decide +kernel, by decide +kernel⟩
theorem ok_law_whole {P : Program} {w : World} {K : PySem.W.Frag} {mg : Str → Option Value} {base : Heap} {a : Ad} {f : Addr} {fd : FuncData} (T : Txt K mg a) (F : Fun K "_law_whole" "_law_whole" s_law_whole f fd)
    (R : ∀ (vs : List V) (H : Hp) (Q : VK) (E : XK), sp_law_whole K a vs H Q E → rd_law_whole K a (fun _ => E) { nx := fun _ H' => Q .non H', rt := Q } (start ["found"] vs) H) (L : ∀ vs H Q E, sp_law_whole K a vs H Q E → vs.length = 1) :
    FnOk P w K mg base (cxE P w) 1 f fd ["found"] (sp_law_whole K a) := by
  refine F.okE sc_law_whole L (fun cdv A outer s H vs Q E hr h => ?_)
  have hx : XOk (cxOf (cxE P w) P w K mg base ["found"] "_law_whole" (defScope s_law_whole) f cdv A outer s H E) (fun _ => E) := xok_fn
  exact ⟨rd_law_whole K a (fun _ => E), (pss_one (ps_ret (pe_and (pe_callB call_isinst rfl T.b_isinstance (by rfl) (pa_cons (pvr 0) (pa_cons (pe_bltn rfl T.b_int (by rfl) rfl) pa_nil))) (pe_one (pe_notT (pe_callB call_isinst rfl T.b_isinstance (by rfl) (pa_cons (pvr 0) (pa_cons (pe_bltn rfl T.b_bool (by rfl) rfl) pa_nil)))))))), R vs H Q E h⟩
abbrev s_Plank_read : Stmt := inClass (top 4) 4
theorem sc_Plank_read : FnScope ["self", "block"] ["self", "block"] (defScope s_Plank_read) := ⟨rfl, rfl, rfl, by decide +kernel, rfl, by decide +kernel, by decide +kernel⟩
theorem ok_Plank_read {P : Program} {w : World} {K : PySem.W.Frag} {mg : Str → Option Value} {base : Heap} {a : Ad} {f : Addr} {fd : FuncData} (T : Txt K mg a) (F : Fun K "read" "Plank.read" s_Plank_read f fd) (m_Plank_ask_for_block : MCal P w K mg base (a "Plank") 1 "ask_for_block" ["self", "block"] (sp_Plank_ask_for_block K a))
    (R : ∀ (vs : List V) (H : Hp) (Q : VK) (E : XK), sp_Plank_read K a vs H Q E → rd_Plank_read K a (fun _ => E) { nx := fun _ H' => Q .non H', rt := Q } (start ["self", "block"] vs) H) (L : ∀ vs H Q E, sp_Plank_read K a vs H Q E → vs.length = 2) :
    FnOk P w K mg base (cxE P w) 2 f fd ["self", "block"] (sp_Plank_read K a) := by
  refine F.okE sc_Plank_read L (fun cdv A outer s H vs Q E hr h => ?_)
  have hx : XOk (cxOf (cxE P w) P w K mg base ["self", "block"] "Plank.read" (defScope s_Plank_read) f cdv A outer s H E) (fun _ => E) := xok_fn
  exact ⟨rd_Plank_read K a (fun _ => E), (pss_cons (ps_expr (pe_methX (pvr 0) T.c_Plank m_Plank_ask_for_block (hr.mono (by decide)) hx.passes (pa_cons (pvr 1) pa_nil)))
      (pss_one (ps_ret (pe_callTy call_listA rfl T.b_list (by rfl) (pa_cons (pe_ix ix_any (pe_fld (pvr 0) rfl) (pvr 1) (fun _ _ => rfl)) pa_nil))))), R vs H Q E h⟩
abbrev s_Plank_write : Stmt := inClass (top 4) 5
theorem sc_Plank_write : FnScope ["self", "block", "values"] ["self", "block", "values"] (defScope s_Plank_write) := ⟨rfl, rfl, rfl, by decide +kernel, rfl, by decide +kernel, by decide +kernel⟩
theorem ok_Plank_write {P : Program} {w : World} {K : PySem.W.Frag} {mg : Str → Option Value} {base : Heap} {a : Ad} {f : Addr} {fd : FuncData} (T : Txt K mg a) (F : Fun K "write" "Plank.write" s_Plank_write f fd) (m_Plank_ask_for_block : MCal P w K mg base (a "Plank") 1 "ask_for_block" ["self", "block"] (sp_Plank_ask_for_block K a))
    (R : ∀ (vs : List V) (H : Hp) (Q : VK) (E : XK), sp_Plank_write K a vs H Q E → rd_Plank_write K a (fun _ => E) { nx := fun _ H' => Q .non H', rt := Q } (start ["self", "block", "values"] vs) H) (L : ∀ vs H Q E, sp_Plank_write K a vs H Q E → vs.length = 3) :
    FnOk P w K mg base (cxE P w) 2 f fd ["self", "block", "values"] (sp_Plank_write K a) := by
  refine F.okE sc_Plank_write L (fun cdv A outer s H vs Q E hr h => ?_)
  have hx : XOk (cxOf (cxE P w) P w K mg base ["self", "block", "values"] "Plank.write" (defScope s_Plank_write) f cdv A outer s H E) (fun _ => E) := xok_fn
  exact ⟨rd_Plank_write K a (fun _ => E), (pss_cons (ps_expr (pe_methX (pvr 0) T.c_Plank m_Plank_ask_for_block (hr.mono (by decide)) hx.passes (pa_cons (pvr 1) pa_nil)))
      (pss_cons (ps_if (pt_cmpR (op_neA hr.units) (pe_callB call_lenA rfl T.b_len (by rfl) (pa_cons (pvr 2) pa_nil)) (pe_fld (pvr 0) rfl) (nomark _)) (pss_one (ps_raise hx T.x_NoBlock rfl T.r_NoBlock (pa_cons pe_str pa_nil))) pss_nil)
      (pss_cons (ps_asg (pe_callTy call_tupleA rfl T.b_tuple (by rfl) (pa_cons (pvr 2) pa_nil)) (pg_sub (pe_fld (pvr 0) rfl) (pvr 1) set_any))
      (pss_one (ps_fldaug (pvr 0) pe_int in_add))))), R vs H Q E h⟩
abbrev s_Layout_name_at : Stmt := inClass (top 6) 1
theorem sc_Layout_name_at : FnScope ["self", "k"] ["self", "k"] (defScope s_Layout_name_at) := ⟨rfl, rfl, rfl, by decide +kernel, rfl, by decide +kernel, by decide +kernel⟩
theorem ok_Layout_name_at {P : Program} {w : World} {K : PySem.W.Frag} {mg : Str → Option Value} {base : Heap} {a : Ad} {f : Addr} {fd : FuncData} (T : Txt K mg a) (F : Fun K "name_at" "Layout.name_at" s_Layout_name_at f fd) (m_Layout_place_from : MCal P w K mg base (a "Layout") 1 "place_from" ["self", "block", "k"] (sp_Layout_place_from K a))
    (R : ∀ (vs : List V) (H : Hp) (Q : VK) (E : XK), sp_Layout_name_at K a vs H Q E → rd_Layout_name_at K a (fun _ => E) { nx := fun _ H' => Q .non H', rt := Q } (start ["self", "k"] vs) H) (L : ∀ vs H Q E, sp_Layout_name_at K a vs H Q E → vs.length = 2) :
    FnOk P w K mg base (cxE P w) 2 f fd ["self", "k"] (sp_Layout_name_at K a) := by
  refine F.okE sc_Layout_name_at L (fun cdv A outer s H vs Q E hr h => ?_)
  have hx : XOk (cxOf (cxE P w) P w K mg base ["self", "k"] "Layout.name_at" (defScope s_Layout_name_at) f cdv A outer s H E) (fun _ => E) := xok_fn
  exact ⟨rd_Layout_name_at K a (fun _ => E), (pss_one (ps_ret (pe_methX (pvr 0) T.c_Layout m_Layout_place_from (hr.mono (by decide)) hx.passes (pa_cons pe_int (pa_cons (pvr 1) pa_nil))))), R vs H Q E h⟩
abbrev s_Layout_record_at : Stmt := inClass (top 6) 2
theorem sc_Layout_record_at : FnScope ["self", "k"] ["self", "k"] (defScope s_Layout_record_at) := ⟨rfl, rfl, rfl, by decide +kernel, rfl, by decide +kernel, by decide +kernel⟩
theorem ok_Layout_record_at {P : Program} {w : World} {K : PySem.W.Frag} {mg : Str → Option Value} {base : Heap} {a : Ad} {f : Addr} {fd : FuncData} (T : Txt K mg a) (F : Fun K "record_at" "Layout.record_at" s_Layout_record_at f fd) (m_Layout_place_from : MCal P w K mg base (a "Layout") 1 "place_from" ["self", "block", "k"] (sp_Layout_place_from K a))
    (R : ∀ (vs : List V) (H : Hp) (Q : VK) (E : XK), sp_Layout_record_at K a vs H Q E → rd_Layout_record_at K a (fun _ => E) { nx := fun _ H' => Q .non H', rt := Q } (start ["self", "k"] vs) H) (L : ∀ vs H Q E, sp_Layout_record_at K a vs H Q E → vs.length = 2) :
    FnOk P w K mg base (cxE P w) 2 f fd ["self", "k"] (sp_Layout_record_at K a) := by
  refine F.okE sc_Layout_record_at L (fun cdv A outer s H vs Q E hr h => ?_)
  have hx : XOk (cxOf (cxE P w) P w K mg base ["self", "k"] "Layout.record_at" (defScope s_Layout_record_at) f cdv A outer s H E) (fun _ => E) := xok_fn
  exact ⟨rd_Layout_record_at K a (fun _ => E), (pss_one (ps_ret (pe_methX (pvr 0) T.c_Layout m_Layout_place_from (hr.mono (by decide)) hx.passes (pa_cons (pe_fld (pvr 0) rfl) (pa_cons (pvr 1) pa_nil))))), R vs H Q E h⟩
abbrev s_Layout_piece_at : Stmt := inClass (top 6) 3
theorem sc_Layout_piece_at : FnScope ["self", "k"] ["self", "k"] (defScope s_Layout_piece_at) := ⟨rfl, rfl, rfl, by decide +kernel, rfl, by decide +kernel, by decide +kernel⟩
theorem ok_Layout_piece_at {P : Program} {w : World} {K : PySem.W.Frag} {mg : Str → Option Value} {base : Heap} {a : Ad} {f : Addr} {fd : FuncData} (T : Txt K mg a) (F : Fun K "piece_at" "Layout.piece_at" s_Layout_piece_at f fd) (m_Layout_place_from : MCal P w K mg base (a "Layout") 1 "place_from" ["self", "block", "k"] (sp_Layout_place_from K a))
    (R : ∀ (vs : List V) (H : Hp) (Q : VK) (E : XK), sp_Layout_piece_at K a vs H Q E → rd_Layout_piece_at K a (fun _ => E) { nx := fun _ H' => Q .non H', rt := Q } (start ["self", "k"] vs) H) (L : ∀ vs H Q E, sp_Layout_piece_at K a vs H Q E → vs.length = 2) :
    FnOk P w K mg base (cxE P w) 2 f fd ["self", "k"] (sp_Layout_piece_at K a) := by
  refine F.okE sc_Layout_piece_at L (fun cdv A outer s H vs Q E hr h => ?_)
  have hx : XOk (cxOf (cxE P w) P w K mg base ["self", "k"] "Layout.piece_at" (defScope s_Layout_piece_at) f cdv A outer s H E) (fun _ => E) := xok_fn
  exact ⟨rd_Layout_piece_at K a (fun _ => E), (pss_one (ps_ret (pe_methX (pvr 0) T.c_Layout m_Layout_place_from (hr.mono (by decide)) hx.passes (pa_cons (pe_op op_addA (pe_fld (pvr 0) rfl) (pe_fld (pvr 0) rfl)) (pa_cons (pvr 1) pa_nil))))), R vs H Q E h⟩
abbrev s_Layout_record_mark : Stmt := inClass (top 6) 4
theorem sc_Layout_record_mark : FnScope ["self", "k"] ["self", "k"] (defScope s_Layout_record_mark) := ⟨rfl, rfl, rfl, by decide +kernel, rfl, by decide +kernel, by decide +kernel⟩
theorem ok_Layout_record_mark {P : Program} {w : World} {K : PySem.W.Frag} {mg : Str → Option Value} {base : Heap} {a : Ad} {f : Addr} {fd : FuncData} (T : Txt K mg a) (F : Fun K "record_mark" "Layout.record_mark" s_Layout_record_mark f fd) (m_Layout_place_from : MCal P w K mg base (a "Layout") 1 "place_from" ["self", "block", "k"] (sp_Layout_place_from K a)) (m_Layout_blocks_ahead_of_marks : MCal P w K mg base (a "Layout") 1 "blocks_ahead_of_marks" ["self"] (sp_Layout_blocks_ahead_of_marks K a))
    (R : ∀ (vs : List V) (H : Hp) (Q : VK) (E : XK), sp_Layout_record_mark K a vs H Q E → rd_Layout_record_mark K a (fun _ => E) { nx := fun _ H' => Q .non H', rt := Q } (start ["self", "k"] vs) H) (L : ∀ vs H Q E, sp_Layout_record_mark K a vs H Q E → vs.length = 2) :
    FnOk P w K mg base (cxE P w) 2 f fd ["self", "k"] (sp_Layout_record_mark K a) := by
  refine F.okE sc_Layout_record_mark L (fun cdv A outer s H vs Q E hr h => ?_)
  have hx : XOk (cxOf (cxE P w) P w K mg base ["self", "k"] "Layout.record_mark" (defScope s_Layout_record_mark) f cdv A outer s H E) (fun _ => E) := xok_fn
  exact ⟨rd_Layout_record_mark K a (fun _ => E), (pss_one (ps_ret (pe_methX (pvr 0) T.c_Layout m_Layout_place_from (hr.mono (by decide)) hx.passes (pa_cons (pe_methX0 (pvr 0) T.c_Layout m_Layout_blocks_ahead_of_marks (hr.mono (by decide)) hx.passes) (pa_cons (pvr 1) pa_nil))))), R vs H Q E h⟩
abbrev s_Layout_piece_mark : Stmt := inClass (top 6) 5
theorem sc_Layout_piece_mark : FnScope ["self", "k"] ["self", "k"] (defScope s_Layout_piece_mark) := ⟨rfl, rfl, rfl, by decide +kernel, rfl, by decide +kernel, by decide +kernel⟩
theorem ok_Layout_piece_mark {P : Program} {w : World} {K : PySem.W.Frag} {mg : Str → Option Value} {base : Heap} {a : Ad} {f : Addr} {fd : FuncData} (T : Txt K mg a) (F : Fun K "piece_mark" "Layout.piece_mark" s_Layout_piece_mark f fd) (m_Layout_place_from : MCal P w K mg base (a "Layout") 1 "place_from" ["self", "block", "k"] (sp_Layout_place_from K a)) (m_Layout_blocks_ahead_of_marks : MCal P w K mg base (a "Layout") 1 "blocks_ahead_of_marks" ["self"] (sp_Layout_blocks_ahead_of_marks K a))
    (R : ∀ (vs : List V) (H : Hp) (Q : VK) (E : XK), sp_Layout_piece_mark K a vs H Q E → rd_Layout_piece_mark K a (fun _ => E) { nx := fun _ H' => Q .non H', rt := Q } (start ["self", "k"] vs) H) (L : ∀ vs H Q E, sp_Layout_piece_mark K a vs H Q E → vs.length = 2) :
    FnOk P w K mg base (cxE P w) 2 f fd ["self", "k"] (sp_Layout_piece_mark K a) := by
  refine F.okE sc_Layout_piece_mark L (fun cdv A outer s H vs Q E hr h => ?_)
  have hx : XOk (cxOf (cxE P w) P w K mg base ["self", "k"] "Layout.piece_mark" (defScope s_Layout_piece_mark) f cdv A outer s H E) (fun _ => E) := xok_fn
  exact ⟨rd_Layout_piece_mark K a (fun _ => E), (pss_one (ps_ret (pe_methX (pvr 0) T.c_Layout m_Layout_place_from (hr.mono (by decide)) hx.passes (pa_cons (pe_op op_addA (pe_methX0 (pvr 0) T.c_Layout m_Layout_blocks_ahead_of_marks (hr.mono (by decide)) hx.passes) (pe_fld (pvr 0) rfl)) (pa_cons (pvr 1) pa_nil))))), R vs H Q E h⟩
abbrev s_Layout_blocks : Stmt := inClass (top 6) 7
theorem sc_Layout_blocks : FnScope ["self"] ["self"] (defScope s_Layout_blocks) := ⟨rfl, rfl, rfl, by decide +kernel, rfl, by decide +kernel, by decide +kernel⟩
theorem ok_Layout_blocks {P : Program} {w : World} {K : PySem.W.Frag} {mg : Str → Option Value} {base : Heap} {a : Ad} {f : Addr} {fd : FuncData} (T : Txt K mg a) (F : Fun K "blocks" "Layout.blocks" s_Layout_blocks f fd) (m_Layout_blocks_ahead_of_marks : MCal P w K mg base (a "Layout") 1 "blocks_ahead_of_marks" ["self"] (sp_Layout_blocks_ahead_of_marks K a))
    (R : ∀ (vs : List V) (H : Hp) (Q : VK) (E : XK), sp_Layout_blocks K a vs H Q E → rd_Layout_blocks K a (fun _ => E) { nx := fun _ H' => Q .non H', rt := Q } (start ["self"] vs) H) (L : ∀ vs H Q E, sp_Layout_blocks K a vs H Q E → vs.length = 1) :
    FnOk P w K mg base (cxE P w) 2 f fd ["self"] (sp_Layout_blocks K a) := by
  refine F.okE sc_Layout_blocks L (fun cdv A outer s H vs Q E hr h => ?_)
  have hx : XOk (cxOf (cxE P w) P w K mg base ["self"] "Layout.blocks" (defScope s_Layout_blocks) f cdv A outer s H E) (fun _ => E) := xok_fn
  exact ⟨rd_Layout_blocks K a (fun _ => E), (pss_one (ps_ret (pe_op op_addA (pe_op op_addA (pe_methX0 (pvr 0) T.c_Layout m_Layout_blocks_ahead_of_marks (hr.mono (by decide)) hx.passes) (pe_fld (pvr 0) rfl)) (pe_fld (pvr 0) rfl)))), R vs H Q E h⟩
abbrev s_law_at : Stmt := top 10
theorem sc_law_at : FnScope ["found", "block", "cell"] ["found", "block", "cell"] (defScope s_law_at) := ⟨rfl, rfl, rfl, by decide +kernel, rfl, by decide +kernel, by decide +kernel⟩
theorem ok_law_at {P : Program} {w : World} {K : PySem.W.Frag} {mg : Str → Option Value} {base : Heap} {a : Ad} {f : Addr} {fd : FuncData} (T : Txt K mg a) (F : Fun K "_law_at" "_law_at" s_law_at f fd) (c_law_whole : Cal P w K mg base (1) "_law_whole" ["found"] (sp_law_whole K a))
    (R : ∀ (vs : List V) (H : Hp) (Q : VK) (E : XK), sp_law_at K a vs H Q E → rd_law_at K a (fun _ => E) { nx := fun _ H' => Q .non H', rt := Q } (start ["found", "block", "cell"] vs) H) (L : ∀ vs H Q E, sp_law_at K a vs H Q E → vs.length = 3) :
    FnOk P w K mg base (cxE P w) 2 f fd ["found", "block", "cell"] (sp_law_at K a) := by
  refine F.okE sc_law_at L (fun cdv A outer s H vs Q E hr h => ?_)
  have hx : XOk (cxOf (cxE P w) P w K mg base ["found", "block", "cell"] "_law_at" (defScope s_law_at) f cdv A outer s H E) (fun _ => E) := xok_fn
  exact ⟨rd_law_at K a (fun _ => E), (pss_cons (ps_if (PW.pt (pw_or (pt_not (pt_truth (pe_callB call_isinst rfl T.b_isinstance (by rfl) (pa_cons (pvr 0) (pa_cons (pe_bltn rfl T.b_tuple (by rfl) rfl) pa_nil))) (fun _ => rfl))) (pw_or (pt_cmpR (op_neA hr.units) (pe_callB call_lenA rfl T.b_len (by rfl) (pa_cons (pvr 0) pa_nil)) pe_int (nomark _)) (pw_or (pt_not (pt_truth (pe_callX c_law_whole (hr.mono (by decide)) hx.passes rfl (pa_cons (pe_ix ix_any (pvr 0) pe_int (fun _ _ => rfl)) pa_nil)) (fun _ => rfl))) (pw_or1 (pt_not (pt_truth (pe_callX c_law_whole (hr.mono (by decide)) hx.passes rfl (pa_cons (pe_ix ix_any (pvr 0) pe_int (fun _ _ => rfl)) pa_nil)) (fun _ => rfl)))))))) (pss_one (ps_ret pe_bl)) pss_nil)
      (pss_one (ps_ret (pe_cmpR (op_eqA hr.units) (pvr 0) (pe_tup (pa_cons (pvr 1) (pa_cons (pvr 2) pa_nil))) (nomark _))))), R vs H Q E h⟩
abbrev s_Layout_plank : Stmt := inClass (top 6) 8
theorem sc_Layout_plank : FnScope ["self"] ["self"] (defScope s_Layout_plank) := ⟨rfl, rfl, rfl, by decide +kernel, rfl, by decide +kernel, by decide +kernel⟩
theorem ok_Layout_plank {P : Program} {w : World} {K : PySem.W.Frag} {mg : Str → Option Value} {base : Heap} {a : Ad} {f : Addr} {fd : FuncData} (T : Txt K mg a) (F : Fun K "plank" "Layout.plank" s_Layout_plank f fd) (m_Layout_blocks : MCal P w K mg base (a "Layout") 2 "blocks" ["self"] (sp_Layout_blocks K a)) (n_Plank : NCal P w K mg base (a "Plank") 1 "Plank" ["self", "blocks", "cells"] (sp_Plank_init K a))
    (R : ∀ (vs : List V) (H : Hp) (Q : VK) (E : XK), sp_Layout_plank K a vs H Q E → rd_Layout_plank K a (fun _ => E) { nx := fun _ H' => Q .non H', rt := Q } (start ["self"] vs) H) (L : ∀ vs H Q E, sp_Layout_plank K a vs H Q E → vs.length = 1) :
    FnOk P w K mg base (cxE P w) 3 f fd ["self"] (sp_Layout_plank K a) := by
  refine F.okE sc_Layout_plank L (fun cdv A outer s H vs Q E hr h => ?_)
  have hx : XOk (cxOf (cxE P w) P w K mg base ["self"] "Layout.plank" (defScope s_Layout_plank) f cdv A outer s H E) (fun _ => E) := xok_fn
  exact ⟨rd_Layout_plank K a (fun _ => E), (pss_one (ps_ret (pe_makeX n_Plank (hr.mono (by decide)) hx.passes rfl (pa_cons (pe_methX0 (pvr 0) T.c_Layout m_Layout_blocks (hr.mono (by decide)) hx.passes) (pa_cons (pe_fld (pvr 0) rfl) pa_nil))))), R vs H Q E h⟩
abbrev s_law_places : Stmt := top 11
theorem sc_law_places : FnScope ["layout", "sizes", "wide", "seen", "firsts", "k", "block", "cell", "size"] ["layout", "sizes", "wide"] (defScope s_law_places) := ⟨rfl, rfl, rfl, by decide +kernel, rfl, by decide +kernel, by decide +kernel⟩
theorem ok_law_places {P : Program} {w : World} {K : PySem.W.Frag} {mg : Str → Option Value} {base : Heap} {a : Ad} {f : Addr} {fd : FuncData} (T : Txt K mg a) (F : Fun K "_law_places" "_law_places" s_law_places f fd) (m_Layout_name_at : MCal P w K mg base (a "Layout") 2 "name_at" ["self", "k"] (sp_Layout_name_at K a)) (c_law_at : Cal P w K mg base (2) "_law_at" ["found", "block", "cell"] (sp_law_at K a)) (m_Layout_record_at : MCal P w K mg base (a "Layout") 2 "record_at" ["self", "k"] (sp_Layout_record_at K a)) (m_Layout_piece_at : MCal P w K mg base (a "Layout") 2 "piece_at" ["self", "k"] (sp_Layout_piece_at K a)) (m_Layout_record_mark : MCal P w K mg base (a "Layout") 2 "record_mark" ["self", "k"] (sp_Layout_record_mark K a)) (m_Layout_piece_mark : MCal P w K mg base (a "Layout") 2 "piece_mark" ["self", "k"] (sp_Layout_piece_mark K a)) (m_Layout_blocks : MCal P w K mg base (a "Layout") 2 "blocks" ["self"] (sp_Layout_blocks K a))
    (R : ∀ (vs : List V) (H : Hp) (Q : VK) (E : XK), sp_law_places K a vs H Q E → rd_law_places K a (fun _ => E) { nx := fun _ H' => Q .non H', rt := Q } (start ["layout", "sizes", "wide", "seen", "firsts", "k", "block", "cell", "size"] vs) H) (L : ∀ vs H Q E, sp_law_places K a vs H Q E → vs.length = 3) :
    FnOk P w K mg base (cxE P w) 3 f fd ["layout", "sizes", "wide"] (sp_law_places K a) := by
  refine F.okE sc_law_places L (fun cdv A outer s H vs Q E hr h => ?_)
  have hx : XOk (cxOf (cxE P w) P w K mg base ["layout", "sizes", "wide", "seen", "firsts", "k", "block", "cell", "size"] "_law_places" (defScope s_law_places) f cdv A outer s H E) (fun _ => E) := xok_fn
  exact ⟨rd_law_places K a (fun _ => E), (pss_cons (ps_set (i := 3) sc_law_places.nd rfl (Or.inl rfl) pe_int)
      (pss_cons (ps_set (i := 4) sc_law_places.nd rfl (Or.inl rfl) (pe_lst (pa_cons pe_int (pa_cons (pe_ix ix_any (pvr 1) pe_int (fun _ _ => rfl)) (pa_cons (pe_op op_addA (pe_ix ix_any (pvr 1) pe_int (fun _ _ => rfl)) (pe_ix ix_any (pvr 1) pe_int (fun _ _ => rfl))) (pa_cons (pe_callB (call_sum rfl) rfl T.b_sum (by rfl) (pa_cons (pvr 1) pa_nil)) (pa_cons (pe_op op_addA (pe_callB (call_sum rfl) rfl T.b_sum (by rfl) (pa_cons (pvr 1) pa_nil)) (pe_ix ix_any (pvr 1) pe_int (fun _ _ => rfl))) pa_nil)))))))
      (pss_cons (ps_for hx.po rfl (pi_range1 rfl T.b_range (pa_cons (pe_op op_mulA (pe_callB (call_maxL rfl) rfl T.b_max (by rfl) (pa_cons (pvr 1) pa_nil)) (pvr 2)) pa_nil)) (pg_name (i := 5) sc_law_places.nd rfl (Or.inl rfl)) (pss_cons (ps_set (i := 6) sc_law_places.nd rfl (Or.inl rfl) (pe_op op_fdiv (pvr 5) (pvr 2)))
      (pss_cons (ps_set (i := 7) sc_law_places.nd rfl (Or.inl rfl) (pe_op op_sub (pvr 5) (pe_op op_mulA (pvr 6) (pvr 2))))
      (pss_cons (ps_if (PW.pt (pw_and (pt_cmpR op_ltA (pvr 6) (pe_ix ix_any (pvr 1) pe_int (fun _ _ => rfl)) (nomark _)) (pw_and1 (pt_not (pt_truth (pe_callX c_law_at (hr.mono (by decide)) hx.passes rfl (pa_cons (pe_methX (pvr 0) T.c_Layout m_Layout_name_at (hr.mono (by decide)) hx.passes (pa_cons (pvr 5) pa_nil)) (pa_cons (pe_op op_addA (pe_ix ix_any (pvr 4) pe_int (fun _ _ => rfl)) (pvr 6)) (pa_cons (pvr 7) pa_nil)))) (fun _ => rfl)))))) (pss_one (ps_ret pe_bl)) pss_nil)
      (pss_cons (ps_if (PW.pt (pw_and (pt_cmpR op_ltA (pvr 6) (pe_ix ix_any (pvr 1) pe_int (fun _ _ => rfl)) (nomark _)) (pw_and1 (pt_not (pt_truth (pe_callX c_law_at (hr.mono (by decide)) hx.passes rfl (pa_cons (pe_methX (pvr 0) T.c_Layout m_Layout_record_at (hr.mono (by decide)) hx.passes (pa_cons (pvr 5) pa_nil)) (pa_cons (pe_op op_addA (pe_ix ix_any (pvr 4) pe_int (fun _ _ => rfl)) (pvr 6)) (pa_cons (pvr 7) pa_nil)))) (fun _ => rfl)))))) (pss_one (ps_ret pe_bl)) pss_nil)
      (pss_cons (ps_if (PW.pt (pw_and (pt_cmpR op_ltA (pvr 6) (pe_ix ix_any (pvr 1) pe_int (fun _ _ => rfl)) (nomark _)) (pw_and1 (pt_not (pt_truth (pe_callX c_law_at (hr.mono (by decide)) hx.passes rfl (pa_cons (pe_methX (pvr 0) T.c_Layout m_Layout_piece_at (hr.mono (by decide)) hx.passes (pa_cons (pvr 5) pa_nil)) (pa_cons (pe_op op_addA (pe_ix ix_any (pvr 4) pe_int (fun _ _ => rfl)) (pvr 6)) (pa_cons (pvr 7) pa_nil)))) (fun _ => rfl)))))) (pss_one (ps_ret pe_bl)) pss_nil)
      (pss_cons (ps_if (PW.pt (pw_and (pt_cmpR op_ltA (pvr 6) (pe_ix ix_any (pvr 1) pe_int (fun _ _ => rfl)) (nomark _)) (pw_and1 (pt_not (pt_truth (pe_callX c_law_at (hr.mono (by decide)) hx.passes rfl (pa_cons (pe_methX (pvr 0) T.c_Layout m_Layout_record_mark (hr.mono (by decide)) hx.passes (pa_cons (pvr 5) pa_nil)) (pa_cons (pe_op op_addA (pe_ix ix_any (pvr 4) pe_int (fun _ _ => rfl)) (pvr 6)) (pa_cons (pvr 7) pa_nil)))) (fun _ => rfl)))))) (pss_one (ps_ret pe_bl)) pss_nil)
      (pss_cons (ps_if (PW.pt (pw_and (pt_cmpR op_ltA (pvr 6) (pe_ix ix_any (pvr 1) pe_int (fun _ _ => rfl)) (nomark _)) (pw_and1 (pt_not (pt_truth (pe_callX c_law_at (hr.mono (by decide)) hx.passes rfl (pa_cons (pe_methX (pvr 0) T.c_Layout m_Layout_piece_mark (hr.mono (by decide)) hx.passes (pa_cons (pvr 5) pa_nil)) (pa_cons (pe_op op_addA (pe_ix ix_any (pvr 4) pe_int (fun _ _ => rfl)) (pvr 6)) (pa_cons (pvr 7) pa_nil)))) (fun _ => rfl)))))) (pss_one (ps_ret pe_bl)) pss_nil)
      (pss_cons (ps_set (i := 3) sc_law_places.nd rfl (Or.inl rfl) (pe_op op_addA (pvr 3) (pe_callTy call_int1 rfl T.b_int (by rfl) (pa_cons (pe_cmpR op_ltA (pvr 6) (pe_ix ix_any (pvr 1) pe_int (fun _ _ => rfl)) (nomark _)) pa_nil))))
      (pss_one (ps_for hx.po rfl (pi_seq (pe_slice sl_any (pvr 1) (po_some pe_int) po_none)) (pg_name (i := 8) sc_law_places.nd rfl (Or.inl rfl)) (pss_one (ps_set (i := 3) sc_law_places.nd rfl (Or.inl rfl) (pe_op op_addA (pvr 3) (pe_op op_mulA pe_int (pe_callTy call_int1 rfl T.b_int (by rfl) (pa_cons (pe_cmpR op_ltA (pvr 6) (pvr 8) (nomark _)) pa_nil)))))))))))))))))
      (pss_one (ps_ret (pe_cmpR (op_eqA hr.units) (pvr 3) (pe_op op_mulA (pe_methX0 (pvr 0) T.c_Layout m_Layout_blocks (hr.mono (by decide)) hx.passes) (pvr 2)) (nomark _))))))), R vs H Q E h⟩
abbrev s_law_new : Stmt := top 12
theorem sc_law_new : FnScope ["plank", "many", "wide", "told", "held", "block"] ["plank", "many", "wide"] (defScope s_law_new) := ⟨rfl, rfl, rfl, by decide +kernel, rfl, by decide +kernel, by decide +kernel⟩
theorem ok_law_new {P : Program} {w : World} {K : PySem.W.Frag} {mg : Str → Option Value} {base : Heap} {a : Ad} {f : Addr} {fd : FuncData} (T : Txt K mg a) (F : Fun K "_law_new" "_law_new" s_law_new f fd) (m_Plank_writings : MCal P w K mg base (a "Plank") 1 "writings" ["self"] (sp_Plank_writings K a)) (m_Plank_cells : MCal P w K mg base (a "Plank") 1 "cells" ["self"] (sp_Plank_cells K a)) (m_Plank_blocks : MCal P w K mg base (a "Plank") 1 "blocks" ["self"] (sp_Plank_blocks K a)) (c_law_whole : Cal P w K mg base (1) "_law_whole" ["found"] (sp_law_whole K a)) (m_Plank_read : MCal P w K mg base (a "Plank") 2 "read" ["self", "block"] (sp_Plank_read K a))
    (R : ∀ (vs : List V) (H : Hp) (Q : VK) (E : XK), sp_law_new K a vs H Q E → rd_law_new K a (fun _ => E) { nx := fun _ H' => Q .non H', rt := Q } (start ["plank", "many", "wide", "told", "held", "block"] vs) H) (L : ∀ vs H Q E, sp_law_new K a vs H Q E → vs.length = 3) :
    FnOk P w K mg base (cxE P w) 3 f fd ["plank", "many", "wide"] (sp_law_new K a) := by
  refine F.okE sc_law_new L (fun cdv A outer s H vs Q E hr h => ?_)
  have hx : XOk (cxOf (cxE P w) P w K mg base ["plank", "many", "wide", "told", "held", "block"] "_law_new" (defScope s_law_new) f cdv A outer s H E) (fun _ => E) := xok_fn
  exact ⟨rd_law_new K a (fun _ => E), (pss_cons (ps_set (i := 3) sc_law_new.nd rfl (Or.inl rfl) (pe_lst (pa_cons (pe_methX0 (pvr 0) T.c_Plank m_Plank_blocks (hr.mono (by decide)) hx.passes) (pa_cons (pe_methX0 (pvr 0) T.c_Plank m_Plank_cells (hr.mono (by decide)) hx.passes) (pa_cons (pe_methX0 (pvr 0) T.c_Plank m_Plank_writings (hr.mono (by decide)) hx.passes) pa_nil)))))
      (pss_cons (ps_if (PW.pt (pw_or (pt_cmpR (op_neA hr.units) (pvr 3) (pe_lst (pa_cons (pvr 1) (pa_cons (pvr 2) (pa_cons pe_int pa_nil)))) (nomark _)) (pw_or1 (pt_cmpR (op_neA hr.units) (pe_comp (tn := ["number"]) (cn := []) (cap := []) (cps_of (outer := defScope s_law_new) (N := ["plank", "many", "wide", "told", "held", "block"]) rfl rfl (by decide +kernel)) rfl (pi_seq (pvr 3)) (fun _ _ _ _ _ _ => (pg_name (i := 0) (show (["number"] : List Str).Nodup from by decide +kernel) rfl (Or.inl rfl))) (fun _ _ _ _ _ _ => (pts_one (pt_not (pt_truth (pe_callX c_law_whole (hr.mono (by decide)) passesN rfl (pa_cons (pvr 0) pa_nil)) (fun _ => rfl))))) (fun _ _ _ _ _ _ => (pvr 0))) (pe_lst pa_nil) (nomark _))))) (pss_one (ps_ret pe_bl)) pss_nil)
      (pss_cons (ps_set (i := 4) sc_law_new.nd rfl (Or.inl rfl) (pe_lst pa_nil))
      (pss_cons (ps_for hx.po rfl (pi_range1 rfl T.b_range (pa_cons (pvr 1) pa_nil)) (pg_name (i := 5) sc_law_new.nd rfl (Or.inl rfl)) (pss_cons (ps_set (i := 3) sc_law_new.nd rfl (Or.inl rfl) (pe_methX (pvr 0) T.c_Plank m_Plank_read (hr.mono (by decide)) hx.passes (pa_cons (pvr 5) pa_nil)))
      (pss_cons (ps_if (pt_cmpR (op_neA hr.units) (pvr 3) (pe_op op_mulA (pe_lst (pa_cons pe_non pa_nil)) (pvr 2)) (nomark _)) (pss_one (ps_ret pe_bl)) pss_nil)
      (pss_cons (ps_asg pe_int (pg_sub (pvr 3) pe_int set_any))
      (pss_cons (ps_expr (pe_bm PySem.F.plainAttrs_list PySem.F.slot_list_append PySem.F.type_list_append mt_append (pvr 3) (pa_cons pe_int pa_nil)))
      (pss_one (ps_expr (pe_bm PySem.F.plainAttrs_list PySem.F.slot_list_append PySem.F.type_list_append mt_append (pvr 4) (pa_cons (pe_methX (pvr 0) T.c_Plank m_Plank_read (hr.mono (by decide)) hx.passes (pa_cons (pvr 5) pa_nil)) pa_nil)))))))))
      (pss_cons (ps_for hx.po rfl (pi_seq (pvr 4)) (pg_name (i := 3) sc_law_new.nd rfl (Or.inl rfl)) (pss_cons (ps_if (pt_cmpR (op_neA hr.units) (pvr 3) (pe_op op_mulA (pe_lst (pa_cons pe_non pa_nil)) (pvr 2)) (nomark _)) (pss_one (ps_ret pe_bl)) pss_nil)
      (pss_one (ps_asg pe_int (pg_sub (pvr 3) pe_int set_any)))))
      (pss_one (ps_ret (pe_cmpR (op_eqA hr.units) (pe_methX0 (pvr 0) T.c_Plank m_Plank_writings (hr.mono (by decide)) hx.passes) pe_int (nomark _))))))))), R vs H Q E h⟩
abbrev s_law_refused : Stmt := top 13
theorem sc_law_refused : FnScope ["plank", "block", "values", "refused"] ["plank", "block", "values"] (defScope s_law_refused) := ⟨rfl, rfl, rfl, by decide +kernel, rfl, by decide +kernel, by decide +kernel⟩
theorem ok_law_refused {P : Program} {w : World} {K : PySem.W.Frag} {mg : Str → Option Value} {base : Heap} {a : Ad} {f : Addr} {fd : FuncData} (T : Txt K mg a) (F : Fun K "_law_refused" "_law_refused" s_law_refused f fd) (m_Plank_write : MCal P w K mg base (a "Plank") 2 "write" ["self", "block", "values"] (sp_Plank_write K a))
    (R : ∀ (vs : List V) (H : Hp) (Q : VK) (E : XK), sp_law_refused K a vs H Q E → rd_law_refused K a (fun _ => E) { nx := fun _ H' => Q .non H', rt := Q } (start ["plank", "block", "values", "refused"] vs) H) (L : ∀ vs H Q E, sp_law_refused K a vs H Q E → vs.length = 3) :
    FnOk P w K mg base (cxE P w) 3 f fd ["plank", "block", "values"] (sp_law_refused K a) := by
  refine F.okE sc_law_refused L (fun cdv A outer s H vs Q E hr h => ?_)
  have hx : XOk (cxOf (cxE P w) P w K mg base ["plank", "block", "values", "refused"] "_law_refused" (defScope s_law_refused) f cdv A outer s H E) (fun _ => E) := xok_fn
  exact ⟨rd_law_refused K a (fun _ => E), (pss_cons (ps_set (i := 3) sc_law_refused.nd rfl (Or.inl rfl) pe_bl)
      (pss_cons (ps_try rfl rfl rfl rfl (fun E1 _ _ hx1 => (pss_one (ps_expr (pe_methX (pvr 0) T.c_Plank m_Plank_write (hr.mono (by decide)) hx1.passes (pa_cons (pvr 1) (pa_cons (pvr 2) pa_nil)))))) (ph_cons (px_name rfl T.r_NoBlock) (fun _ => (pss_one (ps_set (i := 3) sc_law_refused.nd rfl (Or.inl rfl) pe_bl))) ph_nil))
      (pss_one (ps_ret (pvr 3))))), R vs H Q E h⟩
abbrev s_law_written : Stmt := top 14
theorem sc_law_written : FnScope ["plank", "block", "many", "wide", "handed", "strange"] ["plank", "block", "many", "wide"] (defScope s_law_written) := ⟨rfl, rfl, rfl, by decide +kernel, rfl, by decide +kernel, by decide +kernel⟩
theorem ok_law_written {P : Program} {w : World} {K : PySem.W.Frag} {mg : Str → Option Value} {base : Heap} {a : Ad} {f : Addr} {fd : FuncData} (T : Txt K mg a) (F : Fun K "_law_written" "_law_written" s_law_written f fd) (m_Plank_write : MCal P w K mg base (a "Plank") 2 "write" ["self", "block", "values"] (sp_Plank_write K a)) (m_Plank_read : MCal P w K mg base (a "Plank") 2 "read" ["self", "block"] (sp_Plank_read K a)) (c_law_refused : Cal P w K mg base (3) "_law_refused" ["plank", "block", "values"] (sp_law_refused K a)) (m_Plank_writings : MCal P w K mg base (a "Plank") 1 "writings" ["self"] (sp_Plank_writings K a))
    (R : ∀ (vs : List V) (H : Hp) (Q : VK) (E : XK), sp_law_written K a vs H Q E → rd_law_written K a (fun _ => E) { nx := fun _ H' => Q .non H', rt := Q } (start ["plank", "block", "many", "wide", "handed", "strange"] vs) H) (L : ∀ vs H Q E, sp_law_written K a vs H Q E → vs.length = 4) :
    FnOk P w K mg base (cxE P w) 4 f fd ["plank", "block", "many", "wide"] (sp_law_written K a) := by
  refine F.okE sc_law_written L (fun cdv A outer s H vs Q E hr h => ?_)
  have hx : XOk (cxOf (cxE P w) P w K mg base ["plank", "block", "many", "wide", "handed", "strange"] "_law_written" (defScope s_law_written) f cdv A outer s H E) (fun _ => E) := xok_fn
  exact ⟨rd_law_written K a (fun _ => E), (pss_cons (ps_set (i := 4) sc_law_written.nd rfl (Or.inl rfl) (pe_op op_mulA (pe_lst (pa_cons pe_int pa_nil)) (pvr 3)))
      (pss_cons (ps_expr (pe_methX (pvr 0) T.c_Plank m_Plank_write (hr.mono (by decide)) hx.passes (pa_cons (pvr 1) (pa_cons (pvr 4) pa_nil))))
      (pss_cons (ps_asg pe_int (pg_sub (pvr 4) pe_int set_any))
      (pss_cons (ps_expr (pe_bm0 PySem.F.plainAttrs_list PySem.F.slot_list_clear PySem.F.type_list_clear mt_clear (pe_methX (pvr 0) T.c_Plank m_Plank_read (hr.mono (by decide)) hx.passes (pa_cons (pvr 1) pa_nil))))
      (pss_cons (ps_for hx.po rfl (pi_seq (pe_lst (pa_cons (pe_un un_neg pe_int) (pa_cons (pvr 2) pa_nil)))) (pg_name (i := 5) sc_law_written.nd rfl (Or.inl rfl)) (pss_one (ps_if (pt_not (pt_truth (pe_callX c_law_refused (hr.mono (by decide)) hx.passes rfl (pa_cons (pvr 0) (pa_cons (pvr 5) (pa_cons (pe_op op_mulA (pe_lst (pa_cons pe_int pa_nil)) (pvr 3)) pa_nil)))) (fun _ => rfl))) (pss_one (ps_ret pe_bl)) pss_nil)))
      (pss_cons (ps_if (pt_not (pt_truth (pe_callX c_law_refused (hr.mono (by decide)) hx.passes rfl (pa_cons (pvr 0) (pa_cons (pvr 1) (pa_cons (pe_op op_mulA (pe_lst (pa_cons pe_int pa_nil)) (pe_op op_addA (pvr 3) pe_int)) pa_nil)))) (fun _ => rfl))) (pss_one (ps_ret pe_bl)) pss_nil)
      (pss_one (ps_ret (pe_and (pe_cmpR (op_eqA hr.units) (pe_methX (pvr 0) T.c_Plank m_Plank_read (hr.mono (by decide)) hx.passes (pa_cons (pvr 1) pa_nil)) (pe_op op_mulA (pe_lst (pa_cons pe_int pa_nil)) (pvr 3)) (nomark _)) (pe_one (pe_cmpR (op_eqA hr.units) (pe_methX0 (pvr 0) T.c_Plank m_Plank_writings (hr.mono (by decide)) hx.passes) pe_int (nomark _)))))))))))), R vs H Q E h⟩
abbrev s_law_planks : Stmt := top 15
theorem sc_law_planks : FnScope ["layout", "many", "wide", "block", "one", "other"] ["layout", "many", "wide", "block"] (defScope s_law_planks) := ⟨rfl, rfl, rfl, by decide +kernel, rfl, by decide +kernel, by decide +kernel⟩
theorem ok_law_planks {P : Program} {w : World} {K : PySem.W.Frag} {mg : Str → Option Value} {base : Heap} {a : Ad} {f : Addr} {fd : FuncData} (T : Txt K mg a) (F : Fun K "_law_planks" "_law_planks" s_law_planks f fd) (m_Layout_plank : MCal P w K mg base (a "Layout") 3 "plank" ["self"] (sp_Layout_plank K a)) (c_law_new : Cal P w K mg base (3) "_law_new" ["plank", "many", "wide"] (sp_law_new K a)) (c_law_written : Cal P w K mg base (4) "_law_written" ["plank", "block", "many", "wide"] (sp_law_written K a)) (m_Plank_read : MCal P w K mg base (a "Plank") 2 "read" ["self", "block"] (sp_Plank_read K a))
    (R : ∀ (vs : List V) (H : Hp) (Q : VK) (E : XK), sp_law_planks K a vs H Q E → rd_law_planks K a (fun _ => E) { nx := fun _ H' => Q .non H', rt := Q } (start ["layout", "many", "wide", "block", "one", "other"] vs) H) (L : ∀ vs H Q E, sp_law_planks K a vs H Q E → vs.length = 4) :
    FnOk P w K mg base (cxE P w) 5 f fd ["layout", "many", "wide", "block"] (sp_law_planks K a) := by
  refine F.okE sc_law_planks L (fun cdv A outer s H vs Q E hr h => ?_)
  have hx : XOk (cxOf (cxE P w) P w K mg base ["layout", "many", "wide", "block", "one", "other"] "_law_planks" (defScope s_law_planks) f cdv A outer s H E) (fun _ => E) := xok_fn
  exact ⟨rd_law_planks K a (fun _ => E), (pss_cons (ps_set (i := 4) sc_law_planks.nd rfl (Or.inl rfl) (pe_methX0 (pvr 0) T.c_Layout m_Layout_plank (hr.mono (by decide)) hx.passes))
      (pss_cons (ps_set (i := 5) sc_law_planks.nd rfl (Or.inl rfl) (pe_methX0 (pvr 0) T.c_Layout m_Layout_plank (hr.mono (by decide)) hx.passes))
      (pss_cons (ps_if (PW.pt (pw_or (pt_not (pt_truth (pe_callX c_law_new (hr.mono (by decide)) hx.passes rfl (pa_cons (pvr 4) (pa_cons (pvr 1) (pa_cons (pvr 2) pa_nil)))) (fun _ => rfl))) (pw_or (pt_not (pt_truth (pe_callX c_law_written (hr.mono (by decide)) hx.passes rfl (pa_cons (pvr 4) (pa_cons (pvr 3) (pa_cons (pvr 1) (pa_cons (pvr 2) pa_nil))))) (fun _ => rfl))) (pw_or1 (pt_not (pt_truth (pe_callX c_law_new (hr.mono (by decide)) hx.passes rfl (pa_cons (pvr 5) (pa_cons (pvr 1) (pa_cons (pvr 2) pa_nil)))) (fun _ => rfl))))))) (pss_one (ps_ret pe_bl)) pss_nil)
      (pss_cons (ps_if (pt_not (pt_truth (pe_callX c_law_written (hr.mono (by decide)) hx.passes rfl (pa_cons (pvr 5) (pa_cons (pe_op op_sub (pvr 1) pe_int) (pa_cons (pvr 1) (pa_cons (pvr 2) pa_nil))))) (fun _ => rfl))) (pss_one (ps_ret pe_bl)) pss_nil)
      (pss_one (ps_ret (pe_and (pe_callX c_law_new (hr.mono (by decide)) hx.passes rfl (pa_cons (pe_methX0 (pvr 0) T.c_Layout m_Layout_plank (hr.mono (by decide)) hx.passes) (pa_cons (pvr 1) (pa_cons (pvr 2) pa_nil)))) (pe_one (pe_cmpR (op_eqA hr.units) (pe_methX (pvr 4) T.c_Plank m_Plank_read (hr.mono (by decide)) hx.passes (pa_cons (pvr 3) pa_nil)) (pe_op op_mulA (pe_lst (pa_cons pe_int pa_nil)) (pvr 2)) (nomark _)))))))))), R vs H Q E h⟩
abbrev s_law : Stmt := top 16
theorem sc_law : FnScope ["script", "cell", "number", "sizes", "wide", "layout", "counts", "many"] ["script"] (defScope s_law) := ⟨rfl, rfl, rfl, by decide +kernel, rfl, by decide +kernel, by decide +kernel⟩
theorem ok_law {P : Program} {w : World} {K : PySem.W.Frag} {mg : Str → Option Value} {base : Heap} {a : Ad} {f : Addr} {fd : FuncData} (T : Txt K mg a) (F : Fun K "law" "law" s_law f fd) (c_law_mill : Cal P w K mg base (1) "_law_mill" ["cell", "turn"] (sp_law_mill K a)) (n_Layout : NCal P w K mg base (a "Layout") 1 "Layout" ["self", "names", "records", "pieces", "cells"] (sp_Layout_init K a)) (m_Layout_counts : MCal P w K mg base (a "Layout") 1 "counts" ["self"] (sp_Layout_counts K a)) (c_law_places : Cal P w K mg base (3) "_law_places" ["layout", "sizes", "wide"] (sp_law_places K a)) (c_law_whole : Cal P w K mg base (1) "_law_whole" ["found"] (sp_law_whole K a)) (c_law_planks : Cal P w K mg base (5) "_law_planks" ["layout", "many", "wide", "block"] (sp_law_planks K a)) (m_Layout_blocks : MCal P w K mg base (a "Layout") 2 "blocks" ["self"] (sp_Layout_blocks K a))
    (R : ∀ (vs : List V) (H : Hp) (Q : VK) (E : XK), sp_law K a vs H Q E → rd_law K a (fun _ => E) { nx := fun _ H' => Q .non H', rt := Q } (start ["script", "cell", "number", "sizes", "wide", "layout", "counts", "many"] vs) H) (L : ∀ vs H Q E, sp_law K a vs H Q E → vs.length = 1) :
    FnOk P w K mg base (cxE P w) 6 f fd ["script"] (sp_law K a) := by
  refine F.okE sc_law L (fun cdv A outer s H vs Q E hr h => ?_)
  have hx : XOk (cxOf (cxE P w) P w K mg base ["script", "cell", "number", "sizes", "wide", "layout", "counts", "many"] "law" (defScope s_law) f cdv A outer s H E) (fun _ => E) := xok_fn
  exact ⟨rd_law K a (fun _ => E), (pss_cons (ps_for hx.po rfl (pi_seq (pe_op op_addA (pe_lst (pa_cons pe_int pa_nil)) (pe_slice sl_any (pvr 0) po_none (po_some pe_int)))) (pg_name (i := 1) sc_law.nd rfl (Or.inl rfl)) (pss_cons (ps_set (i := 2) sc_law.nd rfl (Or.inl rfl) (pe_callX c_law_mill (hr.mono (by decide)) hx.passes rfl (pa_cons (pvr 1) (pa_cons pe_int pa_nil))))
      (pss_cons (ps_set (i := 3) sc_law.nd rfl (Or.inl rfl) (pe_lst (pa_cons (pe_op op_addA pe_int (pe_op op_mod (pvr 2) pe_int)) (pa_cons (pe_op op_addA pe_int (pe_op op_mod (pe_op op_fdiv (pvr 2) pe_int) pe_int)) (pa_cons (pe_op op_addA pe_int (pe_op op_mod (pe_op op_fdiv (pvr 2) pe_int) pe_int)) pa_nil)))))
      (pss_cons (ps_set (i := 4) sc_law.nd rfl (Or.inl rfl) (pe_op op_addA pe_int (pe_op op_mod (pe_op op_fdiv (pvr 2) pe_int) pe_int)))
      (pss_cons (ps_set (i := 5) sc_law.nd rfl (Or.inl rfl) (pe_makeX n_Layout (hr.mono (by decide)) hx.passes rfl (pa_cons (pe_ix ix_any (pvr 3) pe_int (fun _ _ => rfl)) (pa_cons (pe_ix ix_any (pvr 3) pe_int (fun _ _ => rfl)) (pa_cons (pe_ix ix_any (pvr 3) pe_int (fun _ _ => rfl)) (pa_cons (pvr 4) pa_nil))))))
      (pss_cons (ps_set (i := 6) sc_law.nd rfl (Or.inl rfl) (pe_methX0 (pvr 5) T.c_Layout m_Layout_counts (hr.mono (by decide)) hx.passes))
      (pss_cons (ps_if (PW.pt (pw_or (pt_not (pt_truth (pe_callB call_isinst rfl T.b_isinstance (by rfl) (pa_cons (pvr 6) (pa_cons (pe_bltn rfl T.b_tuple (by rfl) rfl) pa_nil))) (fun _ => rfl))) (pw_or1 (pt_cmpR (op_neA hr.units) (pvr 6) (pe_tup (pa_cons (pe_op op_mulA (pe_ix ix_any (pvr 3) pe_int (fun _ _ => rfl)) (pvr 4)) (pa_cons (pe_op op_mulA (pe_ix ix_any (pvr 3) pe_int (fun _ _ => rfl)) (pvr 4)) (pa_cons (pe_op op_mulA (pe_ix ix_any (pvr 3) pe_int (fun _ _ => rfl)) (pvr 4)) pa_nil)))) (nomark _))))) (pss_one (ps_ret pe_bl)) pss_nil)
      (pss_cons (ps_set (i := 7) sc_law.nd rfl (Or.inl rfl) (pe_op op_addA (pe_op op_addA (pe_ix ix_any (pvr 3) pe_int (fun _ _ => rfl)) (pe_op op_mulA pe_int (pe_ix ix_any (pvr 3) pe_int (fun _ _ => rfl)))) (pe_op op_mulA pe_int (pe_ix ix_any (pvr 3) pe_int (fun _ _ => rfl)))))
      (pss_cons (ps_if (PW.pt (pw_or (pt_cmpR (op_neA hr.units) (pe_comp (tn := ["part"]) (cn := []) (cap := []) (cps_of (outer := defScope s_law) (N := ["script", "cell", "number", "sizes", "wide", "layout", "counts", "many"]) rfl rfl (by decide +kernel)) rfl (pi_seq (pvr 6)) (fun _ _ _ _ _ _ => (pg_name (i := 0) (show (["part"] : List Str).Nodup from by decide +kernel) rfl (Or.inl rfl))) (fun _ _ _ _ _ _ => (pts_one (pt_not (pt_truth (pe_callX c_law_whole (hr.mono (by decide)) passesN rfl (pa_cons (pvr 0) pa_nil)) (fun _ => rfl))))) (fun _ _ _ _ _ _ => (pvr 0))) (pe_lst pa_nil) (nomark _)) (pw_or1 (pt_not (pt_truth (pe_callX c_law_places (hr.mono (by decide)) hx.passes rfl (pa_cons (pvr 5) (pa_cons (pvr 3) (pa_cons (pvr 4) pa_nil)))) (fun _ => rfl)))))) (pss_one (ps_ret pe_bl)) pss_nil)
      (pss_cons (ps_if (pt_not (pt_truth (pe_callX c_law_planks (hr.mono (by decide)) hx.passes rfl (pa_cons (pvr 5) (pa_cons (pvr 7) (pa_cons (pvr 4) (pa_cons (pe_op op_mod (pe_callX c_law_mill (hr.mono (by decide)) hx.passes rfl (pa_cons (pvr 1) (pa_cons pe_int pa_nil))) (pvr 7)) pa_nil))))) (fun _ => rfl))) (pss_one (ps_ret pe_bl)) pss_nil)
      (pss_cons (ps_if (PW.pt (pw_or (pt_not (pt_truth (pe_callX c_law_whole (hr.mono (by decide)) hx.passes rfl (pa_cons (pe_methX0 (pvr 5) T.c_Layout m_Layout_blocks (hr.mono (by decide)) hx.passes) pa_nil)) (fun _ => rfl))) (pw_or (pt_cmpR (op_neA hr.units) (pe_methX0 (pvr 5) T.c_Layout m_Layout_blocks (hr.mono (by decide)) hx.passes) (pvr 7) (nomark _)) (pw_or1 (pt_cmpR (op_neA hr.units) (pe_methX0 (pvr 5) T.c_Layout m_Layout_counts (hr.mono (by decide)) hx.passes) (pvr 6) (nomark _)))))) (pss_one (ps_ret pe_bl)) pss_nil)
      (pss_one (ps_if (pt_not (pt_truth (pe_callX c_law_places (hr.mono (by decide)) hx.passes rfl (pa_cons (pvr 5) (pa_cons (pvr 3) (pa_cons (pvr 4) pa_nil)))) (fun _ => rfl))) (pss_one (ps_ret pe_bl)) pss_nil)))))))))))))
      (pss_one (ps_ret pe_bl))), R vs H Q E h⟩
end L2

set_option linter.all false
set_option maxRecDepth 100000
set_option maxHeartbeats 4000000
/-! The row: what stands behind the top, and the end. (Printed by tools/mk.py.) -/
namespace L2
open PySem PySem.Spec PyProof.Rows
theorem ad_ex (C_NoBlock C_Plank C_Layout : Addr) : ∃ a : Ad, a "NoBlock" = C_NoBlock ∧ a "Plank" = C_Plank ∧ a "Layout" = C_Layout :=
  ⟨fun s => if s = "NoBlock" then C_NoBlock else if s = "Plank" then C_Plank else if s = "Layout" then C_Layout else 0, by simp, by simp, by simp⟩
theorem us1 {α : Type} {P : List α → Prop} (h : ∀ x0, P [x0]) : ∀ us : List α, us.length = 1 → P us
  | [], e => by simp at e
  | [x0], _ => h x0
  | _ :: _ :: _, e => by simp at e
theorem us2 {α : Type} {P : List α → Prop} (h : ∀ x0 x1, P [x0, x1]) : ∀ us : List α, us.length = 2 → P us
  | [], e => by simp at e
  | [_], e => by simp at e
  | [x0, x1], _ => h x0 x1
  | _ :: _ :: _ :: _, e => by simp at e
theorem us3 {α : Type} {P : List α → Prop} (h : ∀ x0 x1 x2, P [x0, x1, x2]) : ∀ us : List α, us.length = 3 → P us
  | [], e => by simp at e
  | [_], e => by simp at e
  | [_, _], e => by simp at e
  | [x0, x1, x2], _ => h x0 x1 x2
  | _ :: _ :: _ :: _ :: _, e => by simp at e
theorem us4 {α : Type} {P : List α → Prop} (h : ∀ x0 x1 x2 x3, P [x0, x1, x2, x3]) : ∀ us : List α, us.length = 4 → P us
  | [], e => by simp at e
  | [_], e => by simp at e
  | [_, _], e => by simp at e
  | [_, _, _], e => by simp at e
  | [x0, x1, x2, x3], _ => h x0 x1 x2 x3
  | _ :: _ :: _ :: _ :: _ :: _, e => by simp at e
theorem us5 {α : Type} {P : List α → Prop} (h : ∀ x0 x1 x2 x3 x4, P [x0, x1, x2, x3, x4]) : ∀ us : List α, us.length = 5 → P us
  | [], e => by simp at e
  | [_], e => by simp at e
  | [_, _], e => by simp at e
  | [_, _, _], e => by simp at e
  | [_, _, _, _], e => by simp at e
  | [x0, x1, x2, x3, x4], _ => h x0 x1 x2 x3 x4
  | _ :: _ :: _ :: _ :: _ :: _ :: _, e => by simp at e
def spL (K : PySem.W.Frag) : Sp := fun vs H Q _ => ∃ (s : Addr) (ns : List Int), vs = [.ref s] ∧ SqL K H s (ns.map V.int) ∧ ns.length ≤ 63 ∧ ∀ H', Q (.bl true) H'
theorem all_mk {l : PySem.W.OpenLaw} {w : World} {K : PySem.W.Frag} {h : Heap} {mg : Str → Option Value} {fa : Addr} {C_NoBlock C_Plank C_Layout : Addr} {f_Plank_init f_Plank_blocks f_Plank_cells f_Plank_writings f_Plank_ask_for_block f_Layout_init f_Layout_counts f_Layout_blocks_ahead_of_marks f_Layout_place_from f_law_mill f_law_whole f_Plank_read f_Plank_write f_Layout_name_at f_Layout_record_at f_Layout_piece_at f_Layout_record_mark f_Layout_piece_mark f_Layout_blocks f_law_at f_Layout_plank f_law_places f_law_new f_law_refused f_law_written f_law_planks f_law : Addr} {oc_Plank_init kV_Plank_init dc_Plank_init pm_Plank_init cd_Plank_init ct_Plank_init : Value} {od_Plank_init an_Plank_init : Option Addr} {sl_Plank_init : Array (Option Value)} {oc_Plank_blocks kV_Plank_blocks dc_Plank_blocks pm_Plank_blocks cd_Plank_blocks ct_Plank_blocks : Value} {od_Plank_blocks an_Plank_blocks : Option Addr} {sl_Plank_blocks : Array (Option Value)} {oc_Plank_cells kV_Plank_cells dc_Plank_cells pm_Plank_cells cd_Plank_cells ct_Plank_cells : Value} {od_Plank_cells an_Plank_cells : Option Addr} {sl_Plank_cells : Array (Option Value)} {oc_Plank_writings kV_Plank_writings dc_Plank_writings pm_Plank_writings cd_Plank_writings ct_Plank_writings : Value} {od_Plank_writings an_Plank_writings : Option Addr} {sl_Plank_writings : Array (Option Value)} {oc_Plank_ask_for_block kV_Plank_ask_for_block dc_Plank_ask_for_block pm_Plank_ask_for_block cd_Plank_ask_for_block ct_Plank_ask_for_block : Value} {od_Plank_ask_for_block an_Plank_ask_for_block : Option Addr} {sl_Plank_ask_for_block : Array (Option Value)} {oc_Layout_init kV_Layout_init dc_Layout_init pm_Layout_init cd_Layout_init ct_Layout_init : Value} {od_Layout_init an_Layout_init : Option Addr} {sl_Layout_init : Array (Option Value)} {oc_Layout_counts kV_Layout_counts dc_Layout_counts pm_Layout_counts cd_Layout_counts ct_Layout_counts : Value} {od_Layout_counts an_Layout_counts : Option Addr} {sl_Layout_counts : Array (Option Value)} {oc_Layout_blocks_ahead_of_marks kV_Layout_blocks_ahead_of_marks dc_Layout_blocks_ahead_of_marks pm_Layout_blocks_ahead_of_marks cd_Layout_blocks_ahead_of_marks ct_Layout_blocks_ahead_of_marks : Value} {od_Layout_blocks_ahead_of_marks an_Layout_blocks_ahead_of_marks : Option Addr} {sl_Layout_blocks_ahead_of_marks : Array (Option Value)} {oc_Layout_place_from kV_Layout_place_from dc_Layout_place_from pm_Layout_place_from cd_Layout_place_from ct_Layout_place_from : Value} {od_Layout_place_from an_Layout_place_from : Option Addr} {sl_Layout_place_from : Array (Option Value)} {oc_law_mill kV_law_mill dc_law_mill pm_law_mill cd_law_mill ct_law_mill : Value} {od_law_mill an_law_mill : Option Addr} {sl_law_mill : Array (Option Value)} {oc_law_whole kV_law_whole dc_law_whole pm_law_whole cd_law_whole ct_law_whole : Value} {od_law_whole an_law_whole : Option Addr} {sl_law_whole : Array (Option Value)} {oc_Plank_read kV_Plank_read dc_Plank_read pm_Plank_read cd_Plank_read ct_Plank_read : Value} {od_Plank_read an_Plank_read : Option Addr} {sl_Plank_read : Array (Option Value)} {oc_Plank_write kV_Plank_write dc_Plank_write pm_Plank_write cd_Plank_write ct_Plank_write : Value} {od_Plank_write an_Plank_write : Option Addr} {sl_Plank_write : Array (Option Value)} {oc_Layout_name_at kV_Layout_name_at dc_Layout_name_at pm_Layout_name_at cd_Layout_name_at ct_Layout_name_at : Value} {od_Layout_name_at an_Layout_name_at : Option Addr} {sl_Layout_name_at : Array (Option Value)} {oc_Layout_record_at kV_Layout_record_at dc_Layout_record_at pm_Layout_record_at cd_Layout_record_at ct_Layout_record_at : Value} {od_Layout_record_at an_Layout_record_at : Option Addr} {sl_Layout_record_at : Array (Option Value)} {oc_Layout_piece_at kV_Layout_piece_at dc_Layout_piece_at pm_Layout_piece_at cd_Layout_piece_at ct_Layout_piece_at : Value} {od_Layout_piece_at an_Layout_piece_at : Option Addr} {sl_Layout_piece_at : Array (Option Value)} {oc_Layout_record_mark kV_Layout_record_mark dc_Layout_record_mark pm_Layout_record_mark cd_Layout_record_mark ct_Layout_record_mark : Value} {od_Layout_record_mark an_Layout_record_mark : Option Addr} {sl_Layout_record_mark : Array (Option Value)} {oc_Layout_piece_mark kV_Layout_piece_mark dc_Layout_piece_mark pm_Layout_piece_mark cd_Layout_piece_mark ct_Layout_piece_mark : Value} {od_Layout_piece_mark an_Layout_piece_mark : Option Addr} {sl_Layout_piece_mark : Array (Option Value)} {oc_Layout_blocks kV_Layout_blocks dc_Layout_blocks pm_Layout_blocks cd_Layout_blocks ct_Layout_blocks : Value} {od_Layout_blocks an_Layout_blocks : Option Addr} {sl_Layout_blocks : Array (Option Value)} {oc_law_at kV_law_at dc_law_at pm_law_at cd_law_at ct_law_at : Value} {od_law_at an_law_at : Option Addr} {sl_law_at : Array (Option Value)} {oc_Layout_plank kV_Layout_plank dc_Layout_plank pm_Layout_plank cd_Layout_plank ct_Layout_plank : Value} {od_Layout_plank an_Layout_plank : Option Addr} {sl_Layout_plank : Array (Option Value)} {oc_law_places kV_law_places dc_law_places pm_law_places cd_law_places ct_law_places : Value} {od_law_places an_law_places : Option Addr} {sl_law_places : Array (Option Value)} {oc_law_new kV_law_new dc_law_new pm_law_new cd_law_new ct_law_new : Value} {od_law_new an_law_new : Option Addr} {sl_law_new : Array (Option Value)} {oc_law_refused kV_law_refused dc_law_refused pm_law_refused cd_law_refused ct_law_refused : Value} {od_law_refused an_law_refused : Option Addr} {sl_law_refused : Array (Option Value)} {oc_law_written kV_law_written dc_law_written pm_law_written cd_law_written ct_law_written : Value} {od_law_written an_law_written : Option Addr} {sl_law_written : Array (Option Value)} {oc_law_planks kV_law_planks dc_law_planks pm_law_planks cd_law_planks ct_law_planks : Value} {od_law_planks an_law_planks : Option Addr} {sl_law_planks : Array (Option Value)} {oc_law kV_law dc_law pm_law cd_law ct_law : Value} {od_law an_law : Option Addr} {sl_law : Array (Option Value)} (X : K.In h) (G : h.Ns mainGlobals mg) (hfa : mg "law" = some (.ref fa))
    (ac_NoBlock : PySem.W.nsIn K mainGlobals "NoBlock" = some (some (.ref C_NoBlock)))
    (ac_Plank : PySem.W.nsIn K mainGlobals "Plank" = some (some (.ref C_Plank)))
    (ac_Layout : PySem.W.nsIn K mainGlobals "Layout" = some (some (.ref C_Layout)))
    (pg_Layout : PySem.W.plainGet K C_Layout Str.empty = true)
    (hd_Layout : PySem.W.hasDictIn K C_Layout = true)
    (po_Layout : PySem.W.plainOver K C_Layout = true)
    (sa_Layout : PySem.W.findIn K (.ref C_Layout) "__setattr__" = some (some (.builtin "object.__setattr__")))
    (pg_Plank : PySem.W.plainGet K C_Plank Str.empty = true)
    (hd_Plank : PySem.W.hasDictIn K C_Plank = true)
    (po_Plank : PySem.W.plainOver K C_Plank = true)
    (sa_Plank : PySem.W.findIn K (.ref C_Plank) "__setattr__" = some (some (.builtin "object.__setattr__")))
    (mk_Layout : PySem.W.makesIn K C_Layout = true)
    (kc_Layout : PySem.W.keepIn K (.ref C_Layout) = true)
    (mk_Plank : PySem.W.makesIn K C_Plank = true)
    (kc_Plank : PySem.W.keepIn K (.ref C_Plank) = true)
    (ex_NoBlock : PySem.W.excIn K C_NoBlock [.type "ValueError", .type "Exception", .type "BaseException", .type "object"] "ValueError.__new__" = true)
    (bl_bool : PySem.W.nsIn K mainGlobals "bool" = some none)
    (bl_int : PySem.W.nsIn K mainGlobals "int" = some none)
    (bl_isinstance : PySem.W.nsIn K mainGlobals "isinstance" = some none)
    (bl_len : PySem.W.nsIn K mainGlobals "len" = some none)
    (bl_list : PySem.W.nsIn K mainGlobals "list" = some none)
    (bl_max : PySem.W.nsIn K mainGlobals "max" = some none)
    (bl_range : PySem.W.nsIn K mainGlobals "range" = some none)
    (bl_sum : PySem.W.nsIn K mainGlobals "sum" = some none)
    (bl_tuple : PySem.W.nsIn K mainGlobals "tuple" = some none)
    (a_Plank_init : PySem.W.findIn K (.ref C_Plank) "__init__" = some (some (.ref f_Plank_init)))
    (i_Plank_init : PySem.W.isFn K (.ref f_Plank_init) = true)
    (l_Plank_init : K.lookup f_Plank_init = some ⟨oc_Plank_init, od_Plank_init, .func (PySem.W.fnOf "__init__" "Plank.__init__" (defArgs s_Plank_init) (defBody s_Plank_init) (defScope s_Plank_init) .none kV_Plank_init dc_Plank_init pm_Plank_init an_Plank_init cd_Plank_init ct_Plank_init), sl_Plank_init⟩)
    (c_Plank_init : PySem.W.codeIn K cd_Plank_init "Plank.__init__" = true)
    (k_Plank_init : PySem.W.keepIn K (.ref f_Plank_init) = true)
    (a_Plank_blocks : PySem.W.findIn K (.ref C_Plank) "blocks" = some (some (.ref f_Plank_blocks)))
    (i_Plank_blocks : PySem.W.isFn K (.ref f_Plank_blocks) = true)
    (l_Plank_blocks : K.lookup f_Plank_blocks = some ⟨oc_Plank_blocks, od_Plank_blocks, .func (PySem.W.fnOf "blocks" "Plank.blocks" (defArgs s_Plank_blocks) (defBody s_Plank_blocks) (defScope s_Plank_blocks) .none kV_Plank_blocks dc_Plank_blocks pm_Plank_blocks an_Plank_blocks cd_Plank_blocks ct_Plank_blocks), sl_Plank_blocks⟩)
    (c_Plank_blocks : PySem.W.codeIn K cd_Plank_blocks "Plank.blocks" = true)
    (k_Plank_blocks : PySem.W.keepIn K (.ref f_Plank_blocks) = true)
    (a_Plank_cells : PySem.W.findIn K (.ref C_Plank) "cells" = some (some (.ref f_Plank_cells)))
    (i_Plank_cells : PySem.W.isFn K (.ref f_Plank_cells) = true)
    (l_Plank_cells : K.lookup f_Plank_cells = some ⟨oc_Plank_cells, od_Plank_cells, .func (PySem.W.fnOf "cells" "Plank.cells" (defArgs s_Plank_cells) (defBody s_Plank_cells) (defScope s_Plank_cells) .none kV_Plank_cells dc_Plank_cells pm_Plank_cells an_Plank_cells cd_Plank_cells ct_Plank_cells), sl_Plank_cells⟩)
    (c_Plank_cells : PySem.W.codeIn K cd_Plank_cells "Plank.cells" = true)
    (k_Plank_cells : PySem.W.keepIn K (.ref f_Plank_cells) = true)
    (a_Plank_writings : PySem.W.findIn K (.ref C_Plank) "writings" = some (some (.ref f_Plank_writings)))
    (i_Plank_writings : PySem.W.isFn K (.ref f_Plank_writings) = true)
    (l_Plank_writings : K.lookup f_Plank_writings = some ⟨oc_Plank_writings, od_Plank_writings, .func (PySem.W.fnOf "writings" "Plank.writings" (defArgs s_Plank_writings) (defBody s_Plank_writings) (defScope s_Plank_writings) .none kV_Plank_writings dc_Plank_writings pm_Plank_writings an_Plank_writings cd_Plank_writings ct_Plank_writings), sl_Plank_writings⟩)
    (c_Plank_writings : PySem.W.codeIn K cd_Plank_writings "Plank.writings" = true)
    (k_Plank_writings : PySem.W.keepIn K (.ref f_Plank_writings) = true)
    (a_Plank_ask_for_block : PySem.W.findIn K (.ref C_Plank) "ask_for_block" = some (some (.ref f_Plank_ask_for_block)))
    (i_Plank_ask_for_block : PySem.W.isFn K (.ref f_Plank_ask_for_block) = true)
    (l_Plank_ask_for_block : K.lookup f_Plank_ask_for_block = some ⟨oc_Plank_ask_for_block, od_Plank_ask_for_block, .func (PySem.W.fnOf "ask_for_block" "Plank.ask_for_block" (defArgs s_Plank_ask_for_block) (defBody s_Plank_ask_for_block) (defScope s_Plank_ask_for_block) .none kV_Plank_ask_for_block dc_Plank_ask_for_block pm_Plank_ask_for_block an_Plank_ask_for_block cd_Plank_ask_for_block ct_Plank_ask_for_block), sl_Plank_ask_for_block⟩)
    (c_Plank_ask_for_block : PySem.W.codeIn K cd_Plank_ask_for_block "Plank.ask_for_block" = true)
    (k_Plank_ask_for_block : PySem.W.keepIn K (.ref f_Plank_ask_for_block) = true)
    (a_Layout_init : PySem.W.findIn K (.ref C_Layout) "__init__" = some (some (.ref f_Layout_init)))
    (i_Layout_init : PySem.W.isFn K (.ref f_Layout_init) = true)
    (l_Layout_init : K.lookup f_Layout_init = some ⟨oc_Layout_init, od_Layout_init, .func (PySem.W.fnOf "__init__" "Layout.__init__" (defArgs s_Layout_init) (defBody s_Layout_init) (defScope s_Layout_init) .none kV_Layout_init dc_Layout_init pm_Layout_init an_Layout_init cd_Layout_init ct_Layout_init), sl_Layout_init⟩)
    (c_Layout_init : PySem.W.codeIn K cd_Layout_init "Layout.__init__" = true)
    (k_Layout_init : PySem.W.keepIn K (.ref f_Layout_init) = true)
    (a_Layout_counts : PySem.W.findIn K (.ref C_Layout) "counts" = some (some (.ref f_Layout_counts)))
    (i_Layout_counts : PySem.W.isFn K (.ref f_Layout_counts) = true)
    (l_Layout_counts : K.lookup f_Layout_counts = some ⟨oc_Layout_counts, od_Layout_counts, .func (PySem.W.fnOf "counts" "Layout.counts" (defArgs s_Layout_counts) (defBody s_Layout_counts) (defScope s_Layout_counts) .none kV_Layout_counts dc_Layout_counts pm_Layout_counts an_Layout_counts cd_Layout_counts ct_Layout_counts), sl_Layout_counts⟩)
    (c_Layout_counts : PySem.W.codeIn K cd_Layout_counts "Layout.counts" = true)
    (k_Layout_counts : PySem.W.keepIn K (.ref f_Layout_counts) = true)
    (a_Layout_blocks_ahead_of_marks : PySem.W.findIn K (.ref C_Layout) "blocks_ahead_of_marks" = some (some (.ref f_Layout_blocks_ahead_of_marks)))
    (i_Layout_blocks_ahead_of_marks : PySem.W.isFn K (.ref f_Layout_blocks_ahead_of_marks) = true)
    (l_Layout_blocks_ahead_of_marks : K.lookup f_Layout_blocks_ahead_of_marks = some ⟨oc_Layout_blocks_ahead_of_marks, od_Layout_blocks_ahead_of_marks, .func (PySem.W.fnOf "blocks_ahead_of_marks" "Layout.blocks_ahead_of_marks" (defArgs s_Layout_blocks_ahead_of_marks) (defBody s_Layout_blocks_ahead_of_marks) (defScope s_Layout_blocks_ahead_of_marks) .none kV_Layout_blocks_ahead_of_marks dc_Layout_blocks_ahead_of_marks pm_Layout_blocks_ahead_of_marks an_Layout_blocks_ahead_of_marks cd_Layout_blocks_ahead_of_marks ct_Layout_blocks_ahead_of_marks), sl_Layout_blocks_ahead_of_marks⟩)
    (c_Layout_blocks_ahead_of_marks : PySem.W.codeIn K cd_Layout_blocks_ahead_of_marks "Layout.blocks_ahead_of_marks" = true)
    (k_Layout_blocks_ahead_of_marks : PySem.W.keepIn K (.ref f_Layout_blocks_ahead_of_marks) = true)
    (a_Layout_place_from : PySem.W.findIn K (.ref C_Layout) "place_from" = some (some (.ref f_Layout_place_from)))
    (i_Layout_place_from : PySem.W.isFn K (.ref f_Layout_place_from) = true)
    (l_Layout_place_from : K.lookup f_Layout_place_from = some ⟨oc_Layout_place_from, od_Layout_place_from, .func (PySem.W.fnOf "place_from" "Layout.place_from" (defArgs s_Layout_place_from) (defBody s_Layout_place_from) (defScope s_Layout_place_from) .none kV_Layout_place_from dc_Layout_place_from pm_Layout_place_from an_Layout_place_from cd_Layout_place_from ct_Layout_place_from), sl_Layout_place_from⟩)
    (c_Layout_place_from : PySem.W.codeIn K cd_Layout_place_from "Layout.place_from" = true)
    (k_Layout_place_from : PySem.W.keepIn K (.ref f_Layout_place_from) = true)
    (a_law_mill : PySem.W.nsIn K mainGlobals "_law_mill" = some (some (.ref f_law_mill)))
    (l_law_mill : K.lookup f_law_mill = some ⟨oc_law_mill, od_law_mill, .func (PySem.W.fnOf "_law_mill" "_law_mill" (defArgs s_law_mill) (defBody s_law_mill) (defScope s_law_mill) .none kV_law_mill dc_law_mill pm_law_mill an_law_mill cd_law_mill ct_law_mill), sl_law_mill⟩)
    (c_law_mill : PySem.W.codeIn K cd_law_mill "_law_mill" = true)
    (k_law_mill : PySem.W.keepIn K (.ref f_law_mill) = true)
    (a_law_whole : PySem.W.nsIn K mainGlobals "_law_whole" = some (some (.ref f_law_whole)))
    (l_law_whole : K.lookup f_law_whole = some ⟨oc_law_whole, od_law_whole, .func (PySem.W.fnOf "_law_whole" "_law_whole" (defArgs s_law_whole) (defBody s_law_whole) (defScope s_law_whole) .none kV_law_whole dc_law_whole pm_law_whole an_law_whole cd_law_whole ct_law_whole), sl_law_whole⟩)
    (c_law_whole : PySem.W.codeIn K cd_law_whole "_law_whole" = true)
    (k_law_whole : PySem.W.keepIn K (.ref f_law_whole) = true)
    (a_Plank_read : PySem.W.findIn K (.ref C_Plank) "read" = some (some (.ref f_Plank_read)))
    (i_Plank_read : PySem.W.isFn K (.ref f_Plank_read) = true)
    (l_Plank_read : K.lookup f_Plank_read = some ⟨oc_Plank_read, od_Plank_read, .func (PySem.W.fnOf "read" "Plank.read" (defArgs s_Plank_read) (defBody s_Plank_read) (defScope s_Plank_read) .none kV_Plank_read dc_Plank_read pm_Plank_read an_Plank_read cd_Plank_read ct_Plank_read), sl_Plank_read⟩)
    (c_Plank_read : PySem.W.codeIn K cd_Plank_read "Plank.read" = true)
    (k_Plank_read : PySem.W.keepIn K (.ref f_Plank_read) = true)
    (a_Plank_write : PySem.W.findIn K (.ref C_Plank) "write" = some (some (.ref f_Plank_write)))
    (i_Plank_write : PySem.W.isFn K (.ref f_Plank_write) = true)
    (l_Plank_write : K.lookup f_Plank_write = some ⟨oc_Plank_write, od_Plank_write, .func (PySem.W.fnOf "write" "Plank.write" (defArgs s_Plank_write) (defBody s_Plank_write) (defScope s_Plank_write) .none kV_Plank_write dc_Plank_write pm_Plank_write an_Plank_write cd_Plank_write ct_Plank_write), sl_Plank_write⟩)
    (c_Plank_write : PySem.W.codeIn K cd_Plank_write "Plank.write" = true)
    (k_Plank_write : PySem.W.keepIn K (.ref f_Plank_write) = true)
    (a_Layout_name_at : PySem.W.findIn K (.ref C_Layout) "name_at" = some (some (.ref f_Layout_name_at)))
    (i_Layout_name_at : PySem.W.isFn K (.ref f_Layout_name_at) = true)
    (l_Layout_name_at : K.lookup f_Layout_name_at = some ⟨oc_Layout_name_at, od_Layout_name_at, .func (PySem.W.fnOf "name_at" "Layout.name_at" (defArgs s_Layout_name_at) (defBody s_Layout_name_at) (defScope s_Layout_name_at) .none kV_Layout_name_at dc_Layout_name_at pm_Layout_name_at an_Layout_name_at cd_Layout_name_at ct_Layout_name_at), sl_Layout_name_at⟩)
    (c_Layout_name_at : PySem.W.codeIn K cd_Layout_name_at "Layout.name_at" = true)
    (k_Layout_name_at : PySem.W.keepIn K (.ref f_Layout_name_at) = true)
    (a_Layout_record_at : PySem.W.findIn K (.ref C_Layout) "record_at" = some (some (.ref f_Layout_record_at)))
    (i_Layout_record_at : PySem.W.isFn K (.ref f_Layout_record_at) = true)
    (l_Layout_record_at : K.lookup f_Layout_record_at = some ⟨oc_Layout_record_at, od_Layout_record_at, .func (PySem.W.fnOf "record_at" "Layout.record_at" (defArgs s_Layout_record_at) (defBody s_Layout_record_at) (defScope s_Layout_record_at) .none kV_Layout_record_at dc_Layout_record_at pm_Layout_record_at an_Layout_record_at cd_Layout_record_at ct_Layout_record_at), sl_Layout_record_at⟩)
    (c_Layout_record_at : PySem.W.codeIn K cd_Layout_record_at "Layout.record_at" = true)
    (k_Layout_record_at : PySem.W.keepIn K (.ref f_Layout_record_at) = true)
    (a_Layout_piece_at : PySem.W.findIn K (.ref C_Layout) "piece_at" = some (some (.ref f_Layout_piece_at)))
    (i_Layout_piece_at : PySem.W.isFn K (.ref f_Layout_piece_at) = true)
    (l_Layout_piece_at : K.lookup f_Layout_piece_at = some ⟨oc_Layout_piece_at, od_Layout_piece_at, .func (PySem.W.fnOf "piece_at" "Layout.piece_at" (defArgs s_Layout_piece_at) (defBody s_Layout_piece_at) (defScope s_Layout_piece_at) .none kV_Layout_piece_at dc_Layout_piece_at pm_Layout_piece_at an_Layout_piece_at cd_Layout_piece_at ct_Layout_piece_at), sl_Layout_piece_at⟩)
    (c_Layout_piece_at : PySem.W.codeIn K cd_Layout_piece_at "Layout.piece_at" = true)
    (k_Layout_piece_at : PySem.W.keepIn K (.ref f_Layout_piece_at) = true)
    (a_Layout_record_mark : PySem.W.findIn K (.ref C_Layout) "record_mark" = some (some (.ref f_Layout_record_mark)))
    (i_Layout_record_mark : PySem.W.isFn K (.ref f_Layout_record_mark) = true)
    (l_Layout_record_mark : K.lookup f_Layout_record_mark = some ⟨oc_Layout_record_mark, od_Layout_record_mark, .func (PySem.W.fnOf "record_mark" "Layout.record_mark" (defArgs s_Layout_record_mark) (defBody s_Layout_record_mark) (defScope s_Layout_record_mark) .none kV_Layout_record_mark dc_Layout_record_mark pm_Layout_record_mark an_Layout_record_mark cd_Layout_record_mark ct_Layout_record_mark), sl_Layout_record_mark⟩)
    (c_Layout_record_mark : PySem.W.codeIn K cd_Layout_record_mark "Layout.record_mark" = true)
    (k_Layout_record_mark : PySem.W.keepIn K (.ref f_Layout_record_mark) = true)
    (a_Layout_piece_mark : PySem.W.findIn K (.ref C_Layout) "piece_mark" = some (some (.ref f_Layout_piece_mark)))
    (i_Layout_piece_mark : PySem.W.isFn K (.ref f_Layout_piece_mark) = true)
    (l_Layout_piece_mark : K.lookup f_Layout_piece_mark = some ⟨oc_Layout_piece_mark, od_Layout_piece_mark, .func (PySem.W.fnOf "piece_mark" "Layout.piece_mark" (defArgs s_Layout_piece_mark) (defBody s_Layout_piece_mark) (defScope s_Layout_piece_mark) .none kV_Layout_piece_mark dc_Layout_piece_mark pm_Layout_piece_mark an_Layout_piece_mark cd_Layout_piece_mark ct_Layout_piece_mark), sl_Layout_piece_mark⟩)
    (c_Layout_piece_mark : PySem.W.codeIn K cd_Layout_piece_mark "Layout.piece_mark" = true)
    (k_Layout_piece_mark : PySem.W.keepIn K (.ref f_Layout_piece_mark) = true)
    (a_Layout_blocks : PySem.W.findIn K (.ref C_Layout) "blocks" = some (some (.ref f_Layout_blocks)))
    (i_Layout_blocks : PySem.W.isFn K (.ref f_Layout_blocks) = true)
    (l_Layout_blocks : K.lookup f_Layout_blocks = some ⟨oc_Layout_blocks, od_Layout_blocks, .func (PySem.W.fnOf "blocks" "Layout.blocks" (defArgs s_Layout_blocks) (defBody s_Layout_blocks) (defScope s_Layout_blocks) .none kV_Layout_blocks dc_Layout_blocks pm_Layout_blocks an_Layout_blocks cd_Layout_blocks ct_Layout_blocks), sl_Layout_blocks⟩)
    (c_Layout_blocks : PySem.W.codeIn K cd_Layout_blocks "Layout.blocks" = true)
    (k_Layout_blocks : PySem.W.keepIn K (.ref f_Layout_blocks) = true)
    (a_law_at : PySem.W.nsIn K mainGlobals "_law_at" = some (some (.ref f_law_at)))
    (l_law_at : K.lookup f_law_at = some ⟨oc_law_at, od_law_at, .func (PySem.W.fnOf "_law_at" "_law_at" (defArgs s_law_at) (defBody s_law_at) (defScope s_law_at) .none kV_law_at dc_law_at pm_law_at an_law_at cd_law_at ct_law_at), sl_law_at⟩)
    (c_law_at : PySem.W.codeIn K cd_law_at "_law_at" = true)
    (k_law_at : PySem.W.keepIn K (.ref f_law_at) = true)
    (a_Layout_plank : PySem.W.findIn K (.ref C_Layout) "plank" = some (some (.ref f_Layout_plank)))
    (i_Layout_plank : PySem.W.isFn K (.ref f_Layout_plank) = true)
    (l_Layout_plank : K.lookup f_Layout_plank = some ⟨oc_Layout_plank, od_Layout_plank, .func (PySem.W.fnOf "plank" "Layout.plank" (defArgs s_Layout_plank) (defBody s_Layout_plank) (defScope s_Layout_plank) .none kV_Layout_plank dc_Layout_plank pm_Layout_plank an_Layout_plank cd_Layout_plank ct_Layout_plank), sl_Layout_plank⟩)
    (c_Layout_plank : PySem.W.codeIn K cd_Layout_plank "Layout.plank" = true)
    (k_Layout_plank : PySem.W.keepIn K (.ref f_Layout_plank) = true)
    (a_law_places : PySem.W.nsIn K mainGlobals "_law_places" = some (some (.ref f_law_places)))
    (l_law_places : K.lookup f_law_places = some ⟨oc_law_places, od_law_places, .func (PySem.W.fnOf "_law_places" "_law_places" (defArgs s_law_places) (defBody s_law_places) (defScope s_law_places) .none kV_law_places dc_law_places pm_law_places an_law_places cd_law_places ct_law_places), sl_law_places⟩)
    (c_law_places : PySem.W.codeIn K cd_law_places "_law_places" = true)
    (k_law_places : PySem.W.keepIn K (.ref f_law_places) = true)
    (a_law_new : PySem.W.nsIn K mainGlobals "_law_new" = some (some (.ref f_law_new)))
    (l_law_new : K.lookup f_law_new = some ⟨oc_law_new, od_law_new, .func (PySem.W.fnOf "_law_new" "_law_new" (defArgs s_law_new) (defBody s_law_new) (defScope s_law_new) .none kV_law_new dc_law_new pm_law_new an_law_new cd_law_new ct_law_new), sl_law_new⟩)
    (c_law_new : PySem.W.codeIn K cd_law_new "_law_new" = true)
    (k_law_new : PySem.W.keepIn K (.ref f_law_new) = true)
    (a_law_refused : PySem.W.nsIn K mainGlobals "_law_refused" = some (some (.ref f_law_refused)))
    (l_law_refused : K.lookup f_law_refused = some ⟨oc_law_refused, od_law_refused, .func (PySem.W.fnOf "_law_refused" "_law_refused" (defArgs s_law_refused) (defBody s_law_refused) (defScope s_law_refused) .none kV_law_refused dc_law_refused pm_law_refused an_law_refused cd_law_refused ct_law_refused), sl_law_refused⟩)
    (c_law_refused : PySem.W.codeIn K cd_law_refused "_law_refused" = true)
    (k_law_refused : PySem.W.keepIn K (.ref f_law_refused) = true)
    (a_law_written : PySem.W.nsIn K mainGlobals "_law_written" = some (some (.ref f_law_written)))
    (l_law_written : K.lookup f_law_written = some ⟨oc_law_written, od_law_written, .func (PySem.W.fnOf "_law_written" "_law_written" (defArgs s_law_written) (defBody s_law_written) (defScope s_law_written) .none kV_law_written dc_law_written pm_law_written an_law_written cd_law_written ct_law_written), sl_law_written⟩)
    (c_law_written : PySem.W.codeIn K cd_law_written "_law_written" = true)
    (k_law_written : PySem.W.keepIn K (.ref f_law_written) = true)
    (a_law_planks : PySem.W.nsIn K mainGlobals "_law_planks" = some (some (.ref f_law_planks)))
    (l_law_planks : K.lookup f_law_planks = some ⟨oc_law_planks, od_law_planks, .func (PySem.W.fnOf "_law_planks" "_law_planks" (defArgs s_law_planks) (defBody s_law_planks) (defScope s_law_planks) .none kV_law_planks dc_law_planks pm_law_planks an_law_planks cd_law_planks ct_law_planks), sl_law_planks⟩)
    (c_law_planks : PySem.W.codeIn K cd_law_planks "_law_planks" = true)
    (k_law_planks : PySem.W.keepIn K (.ref f_law_planks) = true)
    (a_law : PySem.W.nsIn K mainGlobals "law" = some (some (.ref f_law)))
    (l_law : K.lookup f_law = some ⟨oc_law, od_law, .func (PySem.W.fnOf "law" "law" (defArgs s_law) (defBody s_law) (defScope s_law) .none kV_law dc_law pm_law an_law cd_law ct_law), sl_law⟩)
    (c_law : PySem.W.codeIn K cd_law "law" = true)
    (k_law : PySem.W.keepIn K (.ref f_law) = true)
    (np0 : PySem.W.findIn K (.ref C_Plank) "contents" = some none)
    (np1 : PySem.W.findIn K (.ref C_Plank) "width" = some none)
    (np2 : PySem.W.findIn K (.ref C_Plank) "written" = some none)
    (nl0 : PySem.W.findIn K (.ref C_Layout) "name_blocks" = some none)
    (nl1 : PySem.W.findIn K (.ref C_Layout) "record_blocks" = some none)
    (nl2 : PySem.W.findIn K (.ref C_Layout) "piece_blocks" = some none)
    (nl3 : PySem.W.findIn K (.ref C_Layout) "width" = some none)
    (xh : PySem.W.exmOne K (.ref C_NoBlock) (.ref C_NoBlock) = some true) :
    ∃ fd : FuncData, (∀ (s : Shared) (v : Value), BindsTo s fd ⟨[v], []⟩ [("script", v)]) ∧ ∀ base : Heap, K.In base → base.Ns mainGlobals mg → FnOk l.prog w K mg base (cxE l.prog w) 6 fa fd ["script"] (spL K) := by
  obtain ⟨a, rfl, rfl, rfl⟩ := ad_ex C_NoBlock C_Plank C_Layout
  have e := hfa.symm.trans (PySem.W.mg_of X G a_law)
  cases e
  have T : Txt K mg a := ⟨⟨pg_Layout, hd_Layout, po_Layout, sa_Layout⟩, ⟨pg_Plank, hd_Plank, po_Plank, sa_Plank⟩, PySem.W.mg_of X G ac_NoBlock, ⟨_, PySem.W.mg_of X G ac_NoBlock, rfl⟩, ⟨ex_NoBlock⟩, PySem.W.mg_none_of X G bl_bool, PySem.W.mg_none_of X G bl_int, PySem.W.mg_none_of X G bl_isinstance, PySem.W.mg_none_of X G bl_len, PySem.W.mg_none_of X G bl_list, PySem.W.mg_none_of X G bl_max, PySem.W.mg_none_of X G bl_range, PySem.W.mg_none_of X G bl_sum, PySem.W.mg_none_of X G bl_tuple⟩
  have TPk : TPlank K a := ⟨T.c_Plank, np0, np1, np2⟩
  have TLy : TLay K a := ⟨T.c_Layout, nl0, nl1, nl2, nl3⟩
  have TNo : TNb K a := ⟨xh⟩
  have F_Plank_init := fun_mk (st := s_Plank_init) l_Plank_init c_Plank_init k_Plank_init
  have B_Plank_init := F_Plank_init.binds (ps := ["self", "blocks", "cells"]) fun _ _ _ _ _ _ => us3 fun _ _ _ => rfl
  have F_Plank_blocks := fun_mk (st := s_Plank_blocks) l_Plank_blocks c_Plank_blocks k_Plank_blocks
  have B_Plank_blocks := F_Plank_blocks.binds (ps := ["self"]) fun _ _ _ _ _ _ => us1 fun _ => rfl
  have F_Plank_cells := fun_mk (st := s_Plank_cells) l_Plank_cells c_Plank_cells k_Plank_cells
  have B_Plank_cells := F_Plank_cells.binds (ps := ["self"]) fun _ _ _ _ _ _ => us1 fun _ => rfl
  have F_Plank_writings := fun_mk (st := s_Plank_writings) l_Plank_writings c_Plank_writings k_Plank_writings
  have B_Plank_writings := F_Plank_writings.binds (ps := ["self"]) fun _ _ _ _ _ _ => us1 fun _ => rfl
  have F_Plank_ask_for_block := fun_mk (st := s_Plank_ask_for_block) l_Plank_ask_for_block c_Plank_ask_for_block k_Plank_ask_for_block
  have B_Plank_ask_for_block := F_Plank_ask_for_block.binds (ps := ["self", "block"]) fun _ _ _ _ _ _ => us2 fun _ _ => rfl
  have F_Layout_init := fun_mk (st := s_Layout_init) l_Layout_init c_Layout_init k_Layout_init
  have B_Layout_init := F_Layout_init.binds (ps := ["self", "names", "records", "pieces", "cells"]) fun _ _ _ _ _ _ => us5 fun _ _ _ _ _ => rfl
  have F_Layout_counts := fun_mk (st := s_Layout_counts) l_Layout_counts c_Layout_counts k_Layout_counts
  have B_Layout_counts := F_Layout_counts.binds (ps := ["self"]) fun _ _ _ _ _ _ => us1 fun _ => rfl
  have F_Layout_blocks_ahead_of_marks := fun_mk (st := s_Layout_blocks_ahead_of_marks) l_Layout_blocks_ahead_of_marks c_Layout_blocks_ahead_of_marks k_Layout_blocks_ahead_of_marks
  have B_Layout_blocks_ahead_of_marks := F_Layout_blocks_ahead_of_marks.binds (ps := ["self"]) fun _ _ _ _ _ _ => us1 fun _ => rfl
  have F_Layout_place_from := fun_mk (st := s_Layout_place_from) l_Layout_place_from c_Layout_place_from k_Layout_place_from
  have B_Layout_place_from := F_Layout_place_from.binds (ps := ["self", "block", "k"]) fun _ _ _ _ _ _ => us3 fun _ _ _ => rfl
  have F_law_mill := fun_mk (st := s_law_mill) l_law_mill c_law_mill k_law_mill
  have B_law_mill := F_law_mill.binds (ps := ["cell", "turn"]) fun _ _ _ _ _ _ => us2 fun _ _ => rfl
  have F_law_whole := fun_mk (st := s_law_whole) l_law_whole c_law_whole k_law_whole
  have B_law_whole := F_law_whole.binds (ps := ["found"]) fun _ _ _ _ _ _ => us1 fun _ => rfl
  have F_Plank_read := fun_mk (st := s_Plank_read) l_Plank_read c_Plank_read k_Plank_read
  have B_Plank_read := F_Plank_read.binds (ps := ["self", "block"]) fun _ _ _ _ _ _ => us2 fun _ _ => rfl
  have F_Plank_write := fun_mk (st := s_Plank_write) l_Plank_write c_Plank_write k_Plank_write
  have B_Plank_write := F_Plank_write.binds (ps := ["self", "block", "values"]) fun _ _ _ _ _ _ => us3 fun _ _ _ => rfl
  have F_Layout_name_at := fun_mk (st := s_Layout_name_at) l_Layout_name_at c_Layout_name_at k_Layout_name_at
  have B_Layout_name_at := F_Layout_name_at.binds (ps := ["self", "k"]) fun _ _ _ _ _ _ => us2 fun _ _ => rfl
  have F_Layout_record_at := fun_mk (st := s_Layout_record_at) l_Layout_record_at c_Layout_record_at k_Layout_record_at
  have B_Layout_record_at := F_Layout_record_at.binds (ps := ["self", "k"]) fun _ _ _ _ _ _ => us2 fun _ _ => rfl
  have F_Layout_piece_at := fun_mk (st := s_Layout_piece_at) l_Layout_piece_at c_Layout_piece_at k_Layout_piece_at
  have B_Layout_piece_at := F_Layout_piece_at.binds (ps := ["self", "k"]) fun _ _ _ _ _ _ => us2 fun _ _ => rfl
  have F_Layout_record_mark := fun_mk (st := s_Layout_record_mark) l_Layout_record_mark c_Layout_record_mark k_Layout_record_mark
  have B_Layout_record_mark := F_Layout_record_mark.binds (ps := ["self", "k"]) fun _ _ _ _ _ _ => us2 fun _ _ => rfl
  have F_Layout_piece_mark := fun_mk (st := s_Layout_piece_mark) l_Layout_piece_mark c_Layout_piece_mark k_Layout_piece_mark
  have B_Layout_piece_mark := F_Layout_piece_mark.binds (ps := ["self", "k"]) fun _ _ _ _ _ _ => us2 fun _ _ => rfl
  have F_Layout_blocks := fun_mk (st := s_Layout_blocks) l_Layout_blocks c_Layout_blocks k_Layout_blocks
  have B_Layout_blocks := F_Layout_blocks.binds (ps := ["self"]) fun _ _ _ _ _ _ => us1 fun _ => rfl
  have F_law_at := fun_mk (st := s_law_at) l_law_at c_law_at k_law_at
  have B_law_at := F_law_at.binds (ps := ["found", "block", "cell"]) fun _ _ _ _ _ _ => us3 fun _ _ _ => rfl
  have F_Layout_plank := fun_mk (st := s_Layout_plank) l_Layout_plank c_Layout_plank k_Layout_plank
  have B_Layout_plank := F_Layout_plank.binds (ps := ["self"]) fun _ _ _ _ _ _ => us1 fun _ => rfl
  have F_law_places := fun_mk (st := s_law_places) l_law_places c_law_places k_law_places
  have B_law_places := F_law_places.binds (ps := ["layout", "sizes", "wide"]) fun _ _ _ _ _ _ => us3 fun _ _ _ => rfl
  have F_law_new := fun_mk (st := s_law_new) l_law_new c_law_new k_law_new
  have B_law_new := F_law_new.binds (ps := ["plank", "many", "wide"]) fun _ _ _ _ _ _ => us3 fun _ _ _ => rfl
  have F_law_refused := fun_mk (st := s_law_refused) l_law_refused c_law_refused k_law_refused
  have B_law_refused := F_law_refused.binds (ps := ["plank", "block", "values"]) fun _ _ _ _ _ _ => us3 fun _ _ _ => rfl
  have F_law_written := fun_mk (st := s_law_written) l_law_written c_law_written k_law_written
  have B_law_written := F_law_written.binds (ps := ["plank", "block", "many", "wide"]) fun _ _ _ _ _ _ => us4 fun _ _ _ _ => rfl
  have F_law_planks := fun_mk (st := s_law_planks) l_law_planks c_law_planks k_law_planks
  have B_law_planks := F_law_planks.binds (ps := ["layout", "many", "wide", "block"]) fun _ _ _ _ _ _ => us4 fun _ _ _ _ => rfl
  have F_law := fun_mk (st := s_law) l_law c_law k_law
  have B_law := F_law.binds (ps := ["script"]) fun _ _ _ _ _ _ => us1 fun _ => rfl
  refine ⟨PySem.W.fnOf "law" "law" (defArgs s_law) (defBody s_law) (defScope s_law) .none kV_law dc_law pm_law an_law cd_law ct_law, fun s v => .of_eq rfl, fun base _ _ => ?_⟩
  have G_Plank_init : FnOk l.prog w K mg base (cxE l.prog w) 1 f_Plank_init _ ["self", "blocks", "cells"] (sp_Plank_init K a) := ok_Plank_init T F_Plank_init  (fun _ _ _ _ h => rdok_Plank_init h) (fun _ _ _ _ h => len_Plank_init h)
  have G_Plank_blocks : FnOk l.prog w K mg base (cxE l.prog w) 1 f_Plank_blocks _ ["self"] (sp_Plank_blocks K a) := ok_Plank_blocks T F_Plank_blocks  (fun _ _ _ _ h => rdok_Plank_blocks h) (fun _ _ _ _ h => len_Plank_blocks h)
  have G_Plank_cells : FnOk l.prog w K mg base (cxE l.prog w) 1 f_Plank_cells _ ["self"] (sp_Plank_cells K a) := ok_Plank_cells T F_Plank_cells  (fun _ _ _ _ h => rdok_Plank_cells h) (fun _ _ _ _ h => len_Plank_cells h)
  have G_Plank_writings : FnOk l.prog w K mg base (cxE l.prog w) 1 f_Plank_writings _ ["self"] (sp_Plank_writings K a) := ok_Plank_writings T F_Plank_writings  (fun _ _ _ _ h => rdok_Plank_writings h) (fun _ _ _ _ h => len_Plank_writings h)
  have G_Plank_ask_for_block : FnOk l.prog w K mg base (cxE l.prog w) 1 f_Plank_ask_for_block _ ["self", "block"] (sp_Plank_ask_for_block K a) := ok_Plank_ask_for_block T F_Plank_ask_for_block  (fun _ _ _ _ h => rdok_Plank_ask_for_block h) (fun _ _ _ _ h => len_Plank_ask_for_block h)
  have G_Layout_init : FnOk l.prog w K mg base (cxE l.prog w) 1 f_Layout_init _ ["self", "names", "records", "pieces", "cells"] (sp_Layout_init K a) := ok_Layout_init T F_Layout_init  (fun _ _ _ _ h => rdok_Layout_init h) (fun _ _ _ _ h => len_Layout_init h)
  have G_Layout_counts : FnOk l.prog w K mg base (cxE l.prog w) 1 f_Layout_counts _ ["self"] (sp_Layout_counts K a) := ok_Layout_counts T F_Layout_counts  (fun _ _ _ _ h => rdok_Layout_counts h) (fun _ _ _ _ h => len_Layout_counts h)
  have G_Layout_blocks_ahead_of_marks : FnOk l.prog w K mg base (cxE l.prog w) 1 f_Layout_blocks_ahead_of_marks _ ["self"] (sp_Layout_blocks_ahead_of_marks K a) := ok_Layout_blocks_ahead_of_marks T F_Layout_blocks_ahead_of_marks  (fun _ _ _ _ h => rdok_Layout_blocks_ahead_of_marks h) (fun _ _ _ _ h => len_Layout_blocks_ahead_of_marks h)
  have G_Layout_place_from : FnOk l.prog w K mg base (cxE l.prog w) 1 f_Layout_place_from _ ["self", "block", "k"] (sp_Layout_place_from K a) := ok_Layout_place_from T F_Layout_place_from  (fun _ _ _ _ h => rdok_Layout_place_from h) (fun _ _ _ _ h => len_Layout_place_from h)
  have G_law_mill : FnOk l.prog w K mg base (cxE l.prog w) 1 f_law_mill _ ["cell", "turn"] (sp_law_mill K a) := ok_law_mill T F_law_mill  (fun _ _ _ _ h => rdok_law_mill h) (fun _ _ _ _ h => len_law_mill h)
  have G_law_whole : FnOk l.prog w K mg base (cxE l.prog w) 1 f_law_whole _ ["found"] (sp_law_whole K a) := ok_law_whole T F_law_whole  (fun _ _ _ _ h => rdok_law_whole h) (fun _ _ _ _ h => len_law_whole h)
  have G_Plank_read : FnOk l.prog w K mg base (cxE l.prog w) 2 f_Plank_read _ ["self", "block"] (sp_Plank_read K a) := ok_Plank_read T F_Plank_read ⟨_, _, G_Plank_ask_for_block, ⟨a_Plank_ask_for_block, i_Plank_ask_for_block, k_Plank_ask_for_block⟩, B_Plank_ask_for_block⟩ (fun _ _ _ _ h => rdok_Plank_read h) (fun _ _ _ _ h => len_Plank_read h)
  have G_Plank_write : FnOk l.prog w K mg base (cxE l.prog w) 2 f_Plank_write _ ["self", "block", "values"] (sp_Plank_write K a) := ok_Plank_write T F_Plank_write ⟨_, _, G_Plank_ask_for_block, ⟨a_Plank_ask_for_block, i_Plank_ask_for_block, k_Plank_ask_for_block⟩, B_Plank_ask_for_block⟩ (fun _ _ _ _ h => rdok_Plank_write h) (fun _ _ _ _ h => len_Plank_write h)
  have G_Layout_name_at : FnOk l.prog w K mg base (cxE l.prog w) 2 f_Layout_name_at _ ["self", "k"] (sp_Layout_name_at K a) := ok_Layout_name_at T F_Layout_name_at ⟨_, _, G_Layout_place_from, ⟨a_Layout_place_from, i_Layout_place_from, k_Layout_place_from⟩, B_Layout_place_from⟩ (fun _ _ _ _ h => rdok_Layout_name_at h) (fun _ _ _ _ h => len_Layout_name_at h)
  have G_Layout_record_at : FnOk l.prog w K mg base (cxE l.prog w) 2 f_Layout_record_at _ ["self", "k"] (sp_Layout_record_at K a) := ok_Layout_record_at T F_Layout_record_at ⟨_, _, G_Layout_place_from, ⟨a_Layout_place_from, i_Layout_place_from, k_Layout_place_from⟩, B_Layout_place_from⟩ (fun _ _ _ _ h => rdok_Layout_record_at h) (fun _ _ _ _ h => len_Layout_record_at h)
  have G_Layout_piece_at : FnOk l.prog w K mg base (cxE l.prog w) 2 f_Layout_piece_at _ ["self", "k"] (sp_Layout_piece_at K a) := ok_Layout_piece_at T F_Layout_piece_at ⟨_, _, G_Layout_place_from, ⟨a_Layout_place_from, i_Layout_place_from, k_Layout_place_from⟩, B_Layout_place_from⟩ (fun _ _ _ _ h => rdok_Layout_piece_at h) (fun _ _ _ _ h => len_Layout_piece_at h)
  have G_Layout_record_mark : FnOk l.prog w K mg base (cxE l.prog w) 2 f_Layout_record_mark _ ["self", "k"] (sp_Layout_record_mark K a) := ok_Layout_record_mark T F_Layout_record_mark ⟨_, _, G_Layout_place_from, ⟨a_Layout_place_from, i_Layout_place_from, k_Layout_place_from⟩, B_Layout_place_from⟩ ⟨_, _, G_Layout_blocks_ahead_of_marks, ⟨a_Layout_blocks_ahead_of_marks, i_Layout_blocks_ahead_of_marks, k_Layout_blocks_ahead_of_marks⟩, B_Layout_blocks_ahead_of_marks⟩ (fun _ _ _ _ h => rdok_Layout_record_mark h) (fun _ _ _ _ h => len_Layout_record_mark h)
  have G_Layout_piece_mark : FnOk l.prog w K mg base (cxE l.prog w) 2 f_Layout_piece_mark _ ["self", "k"] (sp_Layout_piece_mark K a) := ok_Layout_piece_mark T F_Layout_piece_mark ⟨_, _, G_Layout_place_from, ⟨a_Layout_place_from, i_Layout_place_from, k_Layout_place_from⟩, B_Layout_place_from⟩ ⟨_, _, G_Layout_blocks_ahead_of_marks, ⟨a_Layout_blocks_ahead_of_marks, i_Layout_blocks_ahead_of_marks, k_Layout_blocks_ahead_of_marks⟩, B_Layout_blocks_ahead_of_marks⟩ (fun _ _ _ _ h => rdok_Layout_piece_mark h) (fun _ _ _ _ h => len_Layout_piece_mark h)
  have G_Layout_blocks : FnOk l.prog w K mg base (cxE l.prog w) 2 f_Layout_blocks _ ["self"] (sp_Layout_blocks K a) := ok_Layout_blocks T F_Layout_blocks ⟨_, _, G_Layout_blocks_ahead_of_marks, ⟨a_Layout_blocks_ahead_of_marks, i_Layout_blocks_ahead_of_marks, k_Layout_blocks_ahead_of_marks⟩, B_Layout_blocks_ahead_of_marks⟩ (fun _ _ _ _ h => rdok_Layout_blocks h) (fun _ _ _ _ h => len_Layout_blocks h)
  have G_law_at : FnOk l.prog w K mg base (cxE l.prog w) 2 f_law_at _ ["found", "block", "cell"] (sp_law_at K a) := ok_law_at T F_law_at ⟨_, _, G_law_whole, PySem.W.mg_of X G a_law_whole, k_law_whole, B_law_whole⟩ (fun _ _ _ _ h => rdok_law_at h) (fun _ _ _ _ h => len_law_at h)
  have G_Layout_plank : FnOk l.prog w K mg base (cxE l.prog w) 3 f_Layout_plank _ ["self"] (sp_Layout_plank K a) := ok_Layout_plank T F_Layout_plank ⟨_, _, G_Layout_blocks, ⟨a_Layout_blocks, i_Layout_blocks, k_Layout_blocks⟩, B_Layout_blocks⟩ ⟨_, _, G_Plank_init, ⟨mk_Plank, a_Plank_init, i_Plank_init, kc_Plank⟩, PySem.W.mg_of X G ac_Plank, B_Plank_init⟩ (fun _ _ _ _ h => rdok_Layout_plank h) (fun _ _ _ _ h => len_Layout_plank h)
  have G_law_places : FnOk l.prog w K mg base (cxE l.prog w) 3 f_law_places _ ["layout", "sizes", "wide"] (sp_law_places K a) := ok_law_places T F_law_places ⟨_, _, G_Layout_name_at, ⟨a_Layout_name_at, i_Layout_name_at, k_Layout_name_at⟩, B_Layout_name_at⟩ ⟨_, _, G_law_at, PySem.W.mg_of X G a_law_at, k_law_at, B_law_at⟩ ⟨_, _, G_Layout_record_at, ⟨a_Layout_record_at, i_Layout_record_at, k_Layout_record_at⟩, B_Layout_record_at⟩ ⟨_, _, G_Layout_piece_at, ⟨a_Layout_piece_at, i_Layout_piece_at, k_Layout_piece_at⟩, B_Layout_piece_at⟩ ⟨_, _, G_Layout_record_mark, ⟨a_Layout_record_mark, i_Layout_record_mark, k_Layout_record_mark⟩, B_Layout_record_mark⟩ ⟨_, _, G_Layout_piece_mark, ⟨a_Layout_piece_mark, i_Layout_piece_mark, k_Layout_piece_mark⟩, B_Layout_piece_mark⟩ ⟨_, _, G_Layout_blocks, ⟨a_Layout_blocks, i_Layout_blocks, k_Layout_blocks⟩, B_Layout_blocks⟩ (fun _ _ _ _ h => rdok_law_places h) (fun _ _ _ _ h => len_law_places h)
  have G_law_new : FnOk l.prog w K mg base (cxE l.prog w) 3 f_law_new _ ["plank", "many", "wide"] (sp_law_new K a) := ok_law_new T F_law_new ⟨_, _, G_Plank_writings, ⟨a_Plank_writings, i_Plank_writings, k_Plank_writings⟩, B_Plank_writings⟩ ⟨_, _, G_Plank_cells, ⟨a_Plank_cells, i_Plank_cells, k_Plank_cells⟩, B_Plank_cells⟩ ⟨_, _, G_Plank_blocks, ⟨a_Plank_blocks, i_Plank_blocks, k_Plank_blocks⟩, B_Plank_blocks⟩ ⟨_, _, G_law_whole, PySem.W.mg_of X G a_law_whole, k_law_whole, B_law_whole⟩ ⟨_, _, G_Plank_read, ⟨a_Plank_read, i_Plank_read, k_Plank_read⟩, B_Plank_read⟩ (fun _ _ _ _ h => rdok_law_new h) (fun _ _ _ _ h => len_law_new h)
  have G_law_refused : FnOk l.prog w K mg base (cxE l.prog w) 3 f_law_refused _ ["plank", "block", "values"] (sp_law_refused K a) := ok_law_refused T F_law_refused ⟨_, _, G_Plank_write, ⟨a_Plank_write, i_Plank_write, k_Plank_write⟩, B_Plank_write⟩ (fun _ _ _ _ h => rdok_law_refused h) (fun _ _ _ _ h => len_law_refused h)
  have G_law_written : FnOk l.prog w K mg base (cxE l.prog w) 4 f_law_written _ ["plank", "block", "many", "wide"] (sp_law_written K a) := ok_law_written T F_law_written ⟨_, _, G_Plank_write, ⟨a_Plank_write, i_Plank_write, k_Plank_write⟩, B_Plank_write⟩ ⟨_, _, G_Plank_read, ⟨a_Plank_read, i_Plank_read, k_Plank_read⟩, B_Plank_read⟩ ⟨_, _, G_law_refused, PySem.W.mg_of X G a_law_refused, k_law_refused, B_law_refused⟩ ⟨_, _, G_Plank_writings, ⟨a_Plank_writings, i_Plank_writings, k_Plank_writings⟩, B_Plank_writings⟩ (fun _ _ _ _ h => rdok_law_written h) (fun _ _ _ _ h => len_law_written h)
  have G_law_planks : FnOk l.prog w K mg base (cxE l.prog w) 5 f_law_planks _ ["layout", "many", "wide", "block"] (sp_law_planks K a) := ok_law_planks T F_law_planks ⟨_, _, G_Layout_plank, ⟨a_Layout_plank, i_Layout_plank, k_Layout_plank⟩, B_Layout_plank⟩ ⟨_, _, G_law_new, PySem.W.mg_of X G a_law_new, k_law_new, B_law_new⟩ ⟨_, _, G_law_written, PySem.W.mg_of X G a_law_written, k_law_written, B_law_written⟩ ⟨_, _, G_Plank_read, ⟨a_Plank_read, i_Plank_read, k_Plank_read⟩, B_Plank_read⟩ (fun _ _ _ _ h => rdok_law_planks h) (fun _ _ _ _ h => len_law_planks h)
  have G_law : FnOk l.prog w K mg base (cxE l.prog w) 6 fa _ ["script"] (sp_law K a) := ok_law T F_law ⟨_, _, G_law_mill, PySem.W.mg_of X G a_law_mill, k_law_mill, B_law_mill⟩ ⟨_, _, G_Layout_init, ⟨mk_Layout, a_Layout_init, i_Layout_init, kc_Layout⟩, PySem.W.mg_of X G ac_Layout, B_Layout_init⟩ ⟨_, _, G_Layout_counts, ⟨a_Layout_counts, i_Layout_counts, k_Layout_counts⟩, B_Layout_counts⟩ ⟨_, _, G_law_places, PySem.W.mg_of X G a_law_places, k_law_places, B_law_places⟩ ⟨_, _, G_law_whole, PySem.W.mg_of X G a_law_whole, k_law_whole, B_law_whole⟩ ⟨_, _, G_law_planks, PySem.W.mg_of X G a_law_planks, k_law_planks, B_law_planks⟩ ⟨_, _, G_Layout_blocks, ⟨a_Layout_blocks, i_Layout_blocks, k_Layout_blocks⟩, B_Layout_blocks⟩ (fun _ _ _ _ h => rdok_law h) (fun _ _ _ _ h => len_law h)
  exact G_law.imp (fun vs H Q E ⟨s, ns, e, hs, hn, q⟩ => ⟨s, ns, e, TLy, TPk, TNo, hs, hn, q⟩)
theorem walk {l : PySem.W.OpenLaw} {q : Program} {loose : List Str} {XP : (Str → Option Value) → Heap → Prop} {YP : World → Heap → Prop} {d : DefRec} {K : Params → PySem.W.Frag} (hn : l.most = some 63) (hdf : d.params.defaults = [])
    (hY : ∀ (w : World) (h : Heap), YP w h → (K w.params).In h)
    (F : ∀ (w : World) (mg : Str → Option Value) (fa : Addr) (h : Heap), (K w.params).In h → h.Ns mainGlobals mg → mg d.name = some (.ref fa) →
      ∃ fd : FuncData, (∀ (s : Shared) (u : Value), BindsTo s fd ⟨[u], []⟩ [("script", u)]) ∧ ∀ base : Heap, (K w.params).In base → base.Ns mainGlobals mg → FnOk l.prog w (K w.params) mg base (cxE l.prog w) 6 fa fd ["script"] (spL (K w.params))) :
    PySem.W.WalkO q loose XP YP l.row.toRowW d [] (fun f vs => PySem.call f vs) :=
  L2.walk_of (n := 63) (k := 6) (x := "script") (CX := fun w => cxE l.prog w) (sp := fun w => spL (K w.params)) hn (by decide) hdf ⟨rfl, by decide, by decide⟩ hY F (fun _ _ a ns hl _ hS => ⟨a, ns, rfl, hS, hl, fun _ => rfl⟩) fun _ _ _ _ _ z => cxE_no z
end L2
open PySem PySem.W PyProof.Rows
set_option maxRecDepth 100000 in
set_option maxHeartbeats 0 in
theorem PySem.Challenge.cw_holdback_k31_places_apart_holds : PySem.Challenge.rw_holdback_k31_places_apart.Holds := by
  w_on; o_law; k_head; (case hw => w_witness2)
  k_fill
  refine L2.walk (l := PySem.Challenge.rw_holdback_k31_places_apart) rfl rfl (fun w h Y => PySem.W.kIn_of Y) ?F
  case F =>
    intro w mg fa h KX G hmg
    refine' L2.all_mk KX G hmg ?ac_NoBlock ?ac_Plank ?ac_Layout ?pg_Layout ?hd_Layout ?po_Layout ?sa_Layout ?pg_Plank ?hd_Plank ?po_Plank ?sa_Plank ?mk_Layout ?kc_Layout ?mk_Plank ?kc_Plank ?ex_NoBlock ?bl_bool ?bl_int ?bl_isinstance ?bl_len ?bl_list ?bl_max ?bl_range ?bl_sum ?bl_tuple ?a_Plank_init ?i_Plank_init ?l_Plank_init ?c_Plank_init ?k_Plank_init ?a_Plank_blocks ?i_Plank_blocks ?l_Plank_blocks ?c_Plank_blocks ?k_Plank_blocks ?a_Plank_cells ?i_Plank_cells ?l_Plank_cells ?c_Plank_cells ?k_Plank_cells ?a_Plank_writings ?i_Plank_writings ?l_Plank_writings ?c_Plank_writings ?k_Plank_writings ?a_Plank_ask_for_block ?i_Plank_ask_for_block ?l_Plank_ask_for_block ?c_Plank_ask_for_block ?k_Plank_ask_for_block ?a_Layout_init ?i_Layout_init ?l_Layout_init ?c_Layout_init ?k_Layout_init ?a_Layout_counts ?i_Layout_counts ?l_Layout_counts ?c_Layout_counts ?k_Layout_counts ?a_Layout_blocks_ahead_of_marks ?i_Layout_blocks_ahead_of_marks ?l_Layout_blocks_ahead_of_marks ?c_Layout_blocks_ahead_of_marks ?k_Layout_blocks_ahead_of_marks ?a_Layout_place_from ?i_Layout_place_from ?l_Layout_place_from ?c_Layout_place_from ?k_Layout_place_from ?a_law_mill ?l_law_mill ?c_law_mill ?k_law_mill ?a_law_whole ?l_law_whole ?c_law_whole ?k_law_whole ?a_Plank_read ?i_Plank_read ?l_Plank_read ?c_Plank_read ?k_Plank_read ?a_Plank_write ?i_Plank_write ?l_Plank_write ?c_Plank_write ?k_Plank_write ?a_Layout_name_at ?i_Layout_name_at ?l_Layout_name_at ?c_Layout_name_at ?k_Layout_name_at ?a_Layout_record_at ?i_Layout_record_at ?l_Layout_record_at ?c_Layout_record_at ?k_Layout_record_at ?a_Layout_piece_at ?i_Layout_piece_at ?l_Layout_piece_at ?c_Layout_piece_at ?k_Layout_piece_at ?a_Layout_record_mark ?i_Layout_record_mark ?l_Layout_record_mark ?c_Layout_record_mark ?k_Layout_record_mark ?a_Layout_piece_mark ?i_Layout_piece_mark ?l_Layout_piece_mark ?c_Layout_piece_mark ?k_Layout_piece_mark ?a_Layout_blocks ?i_Layout_blocks ?l_Layout_blocks ?c_Layout_blocks ?k_Layout_blocks ?a_law_at ?l_law_at ?c_law_at ?k_law_at ?a_Layout_plank ?i_Layout_plank ?l_Layout_plank ?c_Layout_plank ?k_Layout_plank ?a_law_places ?l_law_places ?c_law_places ?k_law_places ?a_law_new ?l_law_new ?c_law_new ?k_law_new ?a_law_refused ?l_law_refused ?c_law_refused ?k_law_refused ?a_law_written ?l_law_written ?c_law_written ?k_law_written ?a_law_planks ?l_law_planks ?c_law_planks ?k_law_planks ?a_law ?l_law ?c_law ?k_law ?np0 ?np1 ?np2 ?nl0 ?nl1 ?nl2 ?nl3 ?xh
    (case ac_NoBlock => k_is)
    (case ac_Plank => k_is)
    (case ac_Layout => k_is)
    (case pg_Layout => k_is)
    (case hd_Layout => k_is)
    (case po_Layout => k_is)
    (case sa_Layout => k_is)
    (case pg_Plank => k_is)
    (case hd_Plank => k_is)
    (case po_Plank => k_is)
    (case sa_Plank => k_is)
    (case mk_Layout => k_is)
    (case kc_Layout => k_is)
    (case mk_Plank => k_is)
    (case kc_Plank => k_is)
    (case ex_NoBlock => k_exc)
    (case bl_bool => k_is)
    (case bl_int => k_is)
    (case bl_isinstance => k_is)
    (case bl_len => k_is)
    (case bl_list => k_is)
    (case bl_max => k_is)
    (case bl_range => k_is)
    (case bl_sum => k_is)
    (case bl_tuple => k_is)
    (case a_Plank_init => k_is)
    (case i_Plank_init => k_is)
    (case l_Plank_init => k_is)
    (case c_Plank_init => k_is)
    (case k_Plank_init => k_is)
    (case a_Plank_blocks => k_is)
    (case i_Plank_blocks => k_is)
    (case l_Plank_blocks => k_is)
    (case c_Plank_blocks => k_is)
    (case k_Plank_blocks => k_is)
    (case a_Plank_cells => k_is)
    (case i_Plank_cells => k_is)
    (case l_Plank_cells => k_is)
    (case c_Plank_cells => k_is)
    (case k_Plank_cells => k_is)
    (case a_Plank_writings => k_is)
    (case i_Plank_writings => k_is)
    (case l_Plank_writings => k_is)
    (case c_Plank_writings => k_is)
    (case k_Plank_writings => k_is)
    (case a_Plank_ask_for_block => k_is)
    (case i_Plank_ask_for_block => k_is)
    (case l_Plank_ask_for_block => k_is)
    (case c_Plank_ask_for_block => k_is)
    (case k_Plank_ask_for_block => k_is)
    (case a_Layout_init => k_is)
    (case i_Layout_init => k_is)
    (case l_Layout_init => k_is)
    (case c_Layout_init => k_is)
    (case k_Layout_init => k_is)
    (case a_Layout_counts => k_is)
    (case i_Layout_counts => k_is)
    (case l_Layout_counts => k_is)
    (case c_Layout_counts => k_is)
    (case k_Layout_counts => k_is)
    (case a_Layout_blocks_ahead_of_marks => k_is)
    (case i_Layout_blocks_ahead_of_marks => k_is)
    (case l_Layout_blocks_ahead_of_marks => k_is)
    (case c_Layout_blocks_ahead_of_marks => k_is)
    (case k_Layout_blocks_ahead_of_marks => k_is)
    (case a_Layout_place_from => k_is)
    (case i_Layout_place_from => k_is)
    (case l_Layout_place_from => k_is)
    (case c_Layout_place_from => k_is)
    (case k_Layout_place_from => k_is)
    (case a_law_mill => k_is)
    (case l_law_mill => k_is)
    (case c_law_mill => k_is)
    (case k_law_mill => k_is)
    (case a_law_whole => k_is)
    (case l_law_whole => k_is)
    (case c_law_whole => k_is)
    (case k_law_whole => k_is)
    (case a_Plank_read => k_is)
    (case i_Plank_read => k_is)
    (case l_Plank_read => k_is)
    (case c_Plank_read => k_is)
    (case k_Plank_read => k_is)
    (case a_Plank_write => k_is)
    (case i_Plank_write => k_is)
    (case l_Plank_write => k_is)
    (case c_Plank_write => k_is)
    (case k_Plank_write => k_is)
    (case a_Layout_name_at => k_is)
    (case i_Layout_name_at => k_is)
    (case l_Layout_name_at => k_is)
    (case c_Layout_name_at => k_is)
    (case k_Layout_name_at => k_is)
    (case a_Layout_record_at => k_is)
    (case i_Layout_record_at => k_is)
    (case l_Layout_record_at => k_is)
    (case c_Layout_record_at => k_is)
    (case k_Layout_record_at => k_is)
    (case a_Layout_piece_at => k_is)
    (case i_Layout_piece_at => k_is)
    (case l_Layout_piece_at => k_is)
    (case c_Layout_piece_at => k_is)
    (case k_Layout_piece_at => k_is)
    (case a_Layout_record_mark => k_is)
    (case i_Layout_record_mark => k_is)
    (case l_Layout_record_mark => k_is)
    (case c_Layout_record_mark => k_is)
    (case k_Layout_record_mark => k_is)
    (case a_Layout_piece_mark => k_is)
    (case i_Layout_piece_mark => k_is)
    (case l_Layout_piece_mark => k_is)
    (case c_Layout_piece_mark => k_is)
    (case k_Layout_piece_mark => k_is)
    (case a_Layout_blocks => k_is)
    (case i_Layout_blocks => k_is)
    (case l_Layout_blocks => k_is)
    (case c_Layout_blocks => k_is)
    (case k_Layout_blocks => k_is)
    (case a_law_at => k_is)
    (case l_law_at => k_is)
    (case c_law_at => k_is)
    (case k_law_at => k_is)
    (case a_Layout_plank => k_is)
    (case i_Layout_plank => k_is)
    (case l_Layout_plank => k_is)
    (case c_Layout_plank => k_is)
    (case k_Layout_plank => k_is)
    (case a_law_places => k_is)
    (case l_law_places => k_is)
    (case c_law_places => k_is)
    (case k_law_places => k_is)
    (case a_law_new => k_is)
    (case l_law_new => k_is)
    (case c_law_new => k_is)
    (case k_law_new => k_is)
    (case a_law_refused => k_is)
    (case l_law_refused => k_is)
    (case c_law_refused => k_is)
    (case k_law_refused => k_is)
    (case a_law_written => k_is)
    (case l_law_written => k_is)
    (case c_law_written => k_is)
    (case k_law_written => k_is)
    (case a_law_planks => k_is)
    (case l_law_planks => k_is)
    (case c_law_planks => k_is)
    (case k_law_planks => k_is)
    (case a_law => k_is)
    (case l_law => k_is)
    (case c_law => k_is)
    (case k_law => k_is)
    (case np0 => k_is)
    (case np1 => k_is)
    (case np2 => k_is)
    (case nl0 => k_is)
    (case nl1 => k_is)
    (case nl2 => k_is)
    (case nl3 => k_is)
    (case xh => kts_exm)

