import PyProof.Rows.All
import Wide.All
import OpenK.AllK
import Wide.FinOn
import Lean
import PyProof.EqAt
import PyProof.EqKinds
import PyProof.TupleCall
import KE.LcSums
import PySem.Challenge.RW_fewways_k41_plans_looked_at
set_option Elab.async false
set_option linter.all false
set_option maxRecDepth 100000
/-! THE HAND LAYER, for ints, bools, texts, own classes, LISTS and tuples (index, slices, in, append, pop ..), calls, loops. Paste it whole ahead of your own text; what your proof does not reach may be deleted. -/
namespace L2
open PySem PySem.Spec PyProof.Rows

/-- a key: an int or a str -/
abbrev Key := Sum Int Str
def keyIs : Key → Value → Bool
  | .inl k, v => Value.isInt k v
  | .inr x, v => Value.isStrOf x v
def keyH (w : World) : Key → Int
  | .inl k => hashInt k
  | .inr x => hashStr w x
theorem keyIs_shape : ∀ {k : Key} {v : Value}, keyIs k v = true → (∃ i t, k = Sum.inl i ∧ v = Value.int i t) ∨ (∃ x t, k = Sum.inr x ∧ v = Value.str x t)
  | .inl i, v, h => by
    obtain ⟨t, e⟩ := Value.isInt_shape (k := i) (v := v) h
    exact .inl ⟨i, t, rfl, e⟩
  | .inr x, v, h => by
    obtain ⟨t, e⟩ := Value.isStrOf_shape (x := x) (v := v) h
    exact .inr ⟨x, t, rfl, e⟩
theorem keyIs_int (i : Int) (t : Tok) : keyIs (.inl i) (.int i t) = true := by simp [keyIs, Value.isInt]
theorem keyIs_str (x : Str) (t : Tok) : keyIs (.inr x) (.str x t) = true := by simp [keyIs, Value.isStrOf]
theorem key_ll (a b : Int) : decide ((Sum.inl a : Key) = Sum.inl b) = (a == b) := by
  by_cases e : a = b
  · subst e; simp
  · have h : ¬ (Sum.inl a : Key) = Sum.inl b := fun q => e (Sum.inl.inj q)
    rw [decide_eq_false h]
    exact (beq_eq_false_iff_ne.mpr e).symm
theorem key_rr (a b : Str) : decide ((Sum.inr a : Key) = Sum.inr b) = decide (a = b) := by
  by_cases e : a = b
  · subst e; simp
  · have h : ¬ (Sum.inr a : Key) = Sum.inr b := fun q => e (Sum.inr.inj q)
    rw [decide_eq_false h, decide_eq_false e]
theorem key_lr (a : Int) (b : Str) : decide ((Sum.inl a : Key) = Sum.inr b) = false := decide_eq_false (fun q => nomatch q)
theorem key_rl (a : Str) (b : Int) : decide ((Sum.inr a : Key) = Sum.inl b) = false := decide_eq_false (fun q => nomatch q)

def mixKind (prog : Program) (w : World) : PySem.KeyKind prog w Key where
  is := keyIs
  hash := keyH w
  inj := fun v a b ha hb => by
    rcases keyIs_shape ha with ⟨i, t, rfl, rfl⟩ | ⟨x, t, rfl, rfl⟩
    · rcases keyIs_shape hb with ⟨j, u, rfl, e⟩ | ⟨y, u, rfl, e⟩
      · injection e with e1 _; rw [e1]
      · exact nomatch e
    · rcases keyIs_shape hb with ⟨j, u, rfl, e⟩ | ⟨y, u, rfl, e⟩
      · exact nomatch e
      · injection e with e1 _; rw [e1]
  byValue := fun k v h => by
    rcases keyIs_shape h with ⟨i, t, rfl, rfl⟩ | ⟨x, t, rfl, rfl⟩ <;> rfl
  pyHash := fun hv h => by
    rcases keyIs_shape hv with ⟨i, t, rfl, rfl⟩ | ⟨x, t, rfl, rfl⟩
    · exact wpAny_pyHash_int h
    · exact wpAny_pyHash_str h
  eqBool := fun hu hv h => by
    rcases keyIs_shape hu with ⟨i, t, rfl, rfl⟩ | ⟨x, t, rfl, rfl⟩
    · rcases keyIs_shape hv with ⟨j, u, rfl, rfl⟩ | ⟨y, u, rfl, rfl⟩
      · rw [key_ll] at h; exact wpAny_eqBool_int h
      · rw [key_lr] at h; exact SeqAt.EqAt.int_str i t y u _ _ _ _ h
    · rcases keyIs_shape hv with ⟨j, u, rfl, rfl⟩ | ⟨y, u, rfl, rfl⟩
      · rw [key_rl] at h; exact SeqAt.EqAt.str_int x t j u _ _ _ _ h
      · rw [key_rr] at h; exact wpAny_eqBool_str h
  «strs» := fun k x t v h => by
    rcases keyIs_shape h with ⟨i, u, rfl, e⟩ | ⟨y, u, rfl, e⟩
    · exact nomatch e
    · injection e with e1 _
      subst e1
      cases v <;> rfl

theorem mixKind_is (prog : Program) (w : World) (k : Key) (v : Value) : (mixKind prog w).is k v = keyIs k v := rfl
theorem mixKind_int (prog : Program) (w : World) (i : Int) (t : Tok) : (mixKind prog w).is (.inl i) (.int i t) = true := keyIs_int i t
theorem mixKind_str (prog : Program) (w : World) (x : Str) (t : Tok) : (mixKind prog w).is (.inr x) (.str x t) = true := keyIs_str x t
end L2

namespace L2
open PySem PySem.Spec PyProof.Rows

/-- a value, without the heap -/
inductive V where
  | non | bl (b : Bool) | int (i : Int) | str (x : Str) | byt (b : Array UInt8) | flt (b : UInt64) | ref (a : Addr) | ty (n : String)
  deriving DecidableEq

def RelV : V → Value → Prop
  | .non, u => u = Value.none
  | .bl b, u => u = Value.bool b
  | .int i, u => ∃ t, u = Value.int i t
  | .str x, u => ∃ t, u = Value.str x t
  | .byt b, u => ∃ t, u = Value.bytes b t
  | .flt b, u => ∃ t, u = Value.float b t
  | .ref a, u => u = Value.ref a
  | .ty n, u => u = Value.type n

abbrev Vals : List V → List Value → Prop := Paired RelV
theorem Vals.length {xs : List V} {us : List Value} (r : Vals xs us) : xs.length = us.length := Paired.length r
theorem Vals.get : ∀ {xs : List V} {us : List Value} {i : Nat} {x : V}, Vals xs us → xs[i]? = some x → ∃ u, us[i]? = some u ∧ RelV x u
  | _, _, _, _, .nil, e => by simp at e
  | _, _, 0, _, .cons r _, e => by simp at e; subst e; exact ⟨_, rfl, r⟩
  | _, _, i + 1, x, .cons _ t, e => by
    obtain ⟨u, h1, h2⟩ := Vals.get (i := i) (x := x) t (by simpa using e)
    exact ⟨u, by simpa using h1, h2⟩
theorem Vals.set {x : V} {u : Value} (r : RelV x u) : ∀ {xs : List V} {us : List Value} (i : Nat), Vals xs us → Vals (xs.set i x) (us.set i u)
  | _, _, _, .nil => .nil
  | _, _, 0, .cons _ t => .cons r t
  | _, _, i + 1, .cons q t => .cons q (Vals.set r i t)
theorem Vals.append : ∀ {xs ys : List V} {us ws : List Value}, Vals xs us → Vals ys ws → Vals (xs ++ ys) (us ++ ws)
  | _, _, _, _, .nil, s => s
  | _, _, _, _, .cons r t, s => .cons r (Vals.append t s)
theorem Vals.take : ∀ {xs : List V} {us : List Value} (n : Nat), Vals xs us → Vals (xs.take n) (us.take n)
  | _, _, 0, _ => .nil
  | _, _, _ + 1, .nil => .nil
  | _, _, n + 1, .cons r t => .cons r (Vals.take n t)
theorem Vals.drop : ∀ {xs : List V} {us : List Value} (n : Nat), Vals xs us → Vals (xs.drop n) (us.drop n)
  | _, _, 0, r => r
  | _, _, _ + 1, .nil => .nil
  | _, _, n + 1, .cons _ t => Vals.drop n t
theorem Vals.none_of : ∀ {xs : List V} {us : List Value} {i : Nat}, Vals xs us → xs[i]? = none → us[i]? = none := fun {xs us i} r e => by
  have h1 := r.length
  have h2 : xs.length ≤ i := List.getElem?_eq_none_iff.mp e
  exact List.getElem?_eq_none_iff.mpr (by omega)

def RelO : Option V → Option Value → Prop
  | some v, some u => RelV v u
  | none, none => True
  | _, _ => False
def KV {κ : Type} : List (κ × V) → List (κ × Value) → Prop := Paired fun (p : κ × V) (q : κ × Value) => p.1 = q.1 ∧ RelV p.2 q.2

/-- a key of a dict (00_mix): an int or a text -/
def kV : Key → V
  | .inl i => .int i
  | .inr x => .str x

/-- what stands at a tracked address -/
inductive HO where
  /-- a list -/
  | lst (xs : List V)
  /-- a tuple (never changes) -/
  | tup (xs : List V)
  /-- a dict whose keys are ints and texts; one whose keys are tuples of ints and texts (the empty one is both) -/
  | dK (kvs : List (Key × V)) | dT (kvs : List (List Key × V))
  /-- a set of ints: its members, its size -/
  | set (S : Int → Bool) (n : Nat)
  /-- an instance of the class at C, its dict at dx, its attributes -/
  | ins (C dx : Addr) (fs : List (Str × V))
  /-- the dict of the instance at x -/
  | own (x : Addr)
  /-- the dict of an exception -/
  | xd (fs : List (Str × V))
  /-- a bound method, f of x -/
  | met (f x : Addr)
  /-- a range object lo, lo + 1, .. below hi -/
  | rng (lo hi : Int)
  /-- a thing that is known to the object (the script; a dict while a loop walks it): read, never written while it is so -/
  | frz (o : Obj) (u : HO)
  /-- a code object's table -/
  | tbl (ps : Array Value)
  /-- any other thing, by what is true of its one object (a def of one's own: SetO a S n := HO.ext fun h => ..) -/
  | ext (φ : Heap → Prop)

abbrev Hp := Addr → Option HO
def upd (H : Hp) (a : Addr) (o : HO) : Hp := fun b => if b = a then some o else H b
theorem upd_same {H : Hp} {a : Addr} {o : HO} : upd H a o a = some o := by unfold upd; rw [if_pos rfl]
theorem upd_ne {H : Hp} {a b : Addr} {o : HO} (h : b ≠ a) : upd H a o b = H b := by unfold upd; rw [if_neg h]
theorem upd_upd {H : Hp} {a : Addr} {o u : HO} : upd (upd H a o) a u = upd H a u := by
  funext b; unfold upd; split <;> rfl
/-- two objects of different content stand apart -/
theorem ne_of {H : Hp} {a b : Addr} {o u : HO} (h : H a = some o) (h' : H b = some u) (d : o ≠ u) : a ≠ b := by
  intro e; subst e; rw [h] at h'; exact d (Option.some.inj h')
theorem ne_of_none {H : Hp} {a b : Addr} {o : HO} (h : H a = some o) (h' : H b = none) : a ≠ b := by
  intro e; subst e; rw [h] at h'; cases h'

section
variable (P : Program) (w : World)
def ObjOk (H : Hp) (h : Heap) (a : Addr) : HO → Prop
  | .lst xs => xs.length ≤ sizeLine ∧ ∃ (its : List Value) (n : Nat), Vals xs its ∧ h.get? a = some { cls := .type "list", data := .seq its.toArray n }
  | .tup xs => xs.length ≤ sizeLine ∧ ∃ its : List Value, Vals xs its ∧ IsTup h a its.toArray
  | .dK kvs => kvs.length ≤ sizeLine ∧ (a == sysModules) = false ∧ ∃ vs, KV kvs vs ∧ h.DictOf (mixKind P w) a vs
  | .dT kvs => kvs.length ≤ sizeLine ∧ (a == sysModules) = false ∧ ∃ xs : List (List Key × Addr × Value),
      Paired (fun (p : List Key × V) (q : List Key × Addr × Value) => p.1 = q.1 ∧ H q.2.1 = some (.tup (p.1.map kV)) ∧ RelV p.2 q.2.2) kvs xs ∧
      ∃ o es ep, h.get? a = some o ∧ o.ExactDict ∧ o.data = .dict es ep ∧ es.toList = xs.map (entryOfKey (tupleKind (mixKind P w))) ∧ (xs.map (·.1)).Nodup
  | .set S n => h.SetOf (intKind P w) a S n
  | .ins C dx fs => H dx = some (.own a) ∧ fs.length ≤ 1000 ∧ dx ≠ a ∧ h.get? a = some (PySem.W.instObj C dx) ∧
      ∃ mA, h.Ns1 dx mA ∧ (∀ f, RelO (fs.lookup f) (mA f)) ∧ PySem.Within mA (fs.map (·.1))
  | .own _ => ∃ o, h.get? a = some o
  | .xd fs => ∃ mA, h.Ns1 a mA ∧ ∀ f, RelO (fs.lookup f) (mA f)
  | .rng lo hi => ∃ t u v, h.get? a = some { cls := .type "range", data := .fields #[.int lo t, .int hi u, .int 1 v] }
  | .frz o u => h.get? a = some o ∧ ObjOk H h a u
  | .tbl ps => h.get? a = some { cls := .none, data := .fields ps }
  | .met f x => h.get? a = some (PySem.W.methodObj (.ref f) (.ref x))
  | .ext φ => φ h ∧ (∃ o, h.get? a = some o) ∧ ∀ h1 h2 : Heap, φ h1 → (∀ o, h1.get? a = some o → h2.get? a = some o) → φ h2
/-- the abstract heap is held -/
def HOk (H : Hp) (h : Heap) : Prop := ∀ a o, H a = some o → ObjOk P w H h a o
end

section
variable {P : Program} {w : World} {H H' : Hp} {h h' : Heap} {a : Addr} {o : HO}
theorem ObjOk.lt (x : ObjOk P w H h a o) : a < h.objs.size := by
  cases o with
  | lst xs => obtain ⟨_, _, _, _, e⟩ := x; exact Heap.lt_size e
  | tup xs => obtain ⟨_, _, _, p⟩ := x; exact p.lt
  | dK kvs => obtain ⟨_, _, _, _, o, _, _, e, _⟩ := x; exact Heap.lt_size e
  | dT kvs => obtain ⟨_, _, _, _, o, _, _, e, _⟩ := x; exact Heap.lt_size e
  | set S n => obtain ⟨o, _, _, _, e, _⟩ := x; exact Heap.lt_size e
  | ins C dx fs => obtain ⟨_, _, _, e, _⟩ := x; exact Heap.lt_size e
  | own y => obtain ⟨_, e⟩ := x; exact Heap.lt_size e
  | xd fs => obtain ⟨_, ⟨_, _, _, e, _⟩, _⟩ := x; exact Heap.lt_size e
  | rng lo hi => obtain ⟨_, _, _, e⟩ := x; exact Heap.lt_size e
  | frz ob u => obtain ⟨e, _⟩ := x; exact Heap.lt_size e
  | tbl ps => exact Heap.lt_size (show h.get? a = some _ from x)
  | met f y => exact Heap.lt_size (show h.get? a = some _ from x)
  | ext φ => obtain ⟨_, ⟨_, e⟩, _⟩ := x; exact Heap.lt_size e
theorem Paired.mapP {α β : Type} {F G : α → β → Prop} : ∀ {l₁ : List α} {l₂ : List β}, Paired F l₁ l₂ → (∀ a b, F a b → G a b) → Paired G l₁ l₂
  | _, _, .nil, _ => .nil
  | _, _, .cons r t, f => .cons (f _ _ r) (Paired.mapP t f)
theorem Paired.imp' {α β : Type} {F G : α → β → Prop} (f : ∀ a b, F a b → G a b) {l₁ : List α} {l₂ : List β} (r : Paired F l₁ l₂) : Paired G l₁ l₂ := Paired.mapP r f
/-- what an object's description leans on: its own object, its own dict, the tuples -/
theorem ObjOk.stay (x : ObjOk P w H h a o) (k : ∀ b u, (b = a ∨ H b = some (.own a)) → h.get? b = some u → h'.get? b = some u)
    (ho : ∀ b, H b = some (.own a) → H' b = some (.own a)) (ht : ∀ b xs, H b = some (.tup xs) → H' b = some (.tup xs)) : ObjOk P w H' h' a o := by
  induction o with
  | lst xs => obtain ⟨z, its, n, r, e⟩ := x; exact ⟨z, its, n, r, k _ _ (.inl rfl) e⟩
  | tup xs => obtain ⟨z, its, r, ob, e, c⟩ := x; exact ⟨z, its, r, ob, k _ _ (.inl rfl) e, c⟩
  | dK kvs => obtain ⟨z, y, vs, r, ob, es, ep, e, c⟩ := x; exact ⟨z, y, vs, r, ob, es, ep, k _ _ (.inl rfl) e, c⟩
  | dT kvs =>
    obtain ⟨z, y, xs, r, ob, es, ep, e, c⟩ := x
    exact ⟨z, y, xs, Paired.mapP r fun p q z => ⟨z.1, ht _ _ z.2.1, z.2.2⟩, ob, es, ep, k _ _ (.inl rfl) e, c⟩
  | set S n => obtain ⟨ob, es, ep, t, e, c⟩ := x; exact ⟨ob, es, ep, t, k _ _ (.inl rfl) e, c⟩
  | ins C dx fs =>
    obtain ⟨d, z, ne, e, mA, ⟨od, es, ep, e2, c⟩, r⟩ := x
    exact ⟨ho _ d, z, ne, k _ _ (.inl rfl) e, mA, ⟨od, es, ep, k _ _ (.inr d) e2, c⟩, r⟩
  | own y => obtain ⟨ob, e⟩ := x; exact ⟨ob, k _ _ (.inl rfl) e⟩
  | xd fs => obtain ⟨mA, ⟨od, es, ep, e, c⟩, r⟩ := x; exact ⟨mA, ⟨od, es, ep, k _ _ (.inl rfl) e, c⟩, r⟩
  | rng lo hi => obtain ⟨t, u, v, e⟩ := x; exact ⟨t, u, v, k _ _ (.inl rfl) e⟩
  | frz ob u ih => obtain ⟨e, q⟩ := x; exact ⟨k _ _ (.inl rfl) e, ih q⟩
  | tbl ps =>
    have e : h.get? a = some { cls := .none, data := .fields ps } := x
    show h'.get? a = some { cls := .none, data := .fields ps }
    exact k a _ (.inl rfl) e
  | met f y =>
    have e : h.get? a = some (PySem.W.methodObj (.ref f) (.ref y)) := x
    show h'.get? a = some (PySem.W.methodObj (.ref f) (.ref y))
    exact k a _ (.inl rfl) e
  | ext φ => obtain ⟨p, ⟨o, e⟩, st⟩ := x; exact ⟨st _ _ p fun o q => k _ _ (.inl rfl) q, ⟨o, k _ _ (.inl rfl) e⟩, st⟩
theorem HOk.lt (x : HOk P w H h) (e : H a = some o) : a < h.objs.size := (x a o e).lt
theorem HOk.fresh (x : HOk P w H h) (e : h.objs.size ≤ a) : H a = none := by
  cases q : H a with
  | none => rfl
  | some u => exact absurd (Nat.lt_of_lt_of_le (x.lt q) e) (Nat.lt_irrefl _)
/-- every object of the heap is kept -/
theorem HOk.kept (x : HOk P w H h) (k : ∀ b u, h.get? b = some u → h'.get? b = some u) : HOk P w H h' := fun a o e =>
  (x a o e).stay (fun b u _ q => k b u q) (fun _ q => q) fun _ _ q => q
/-- a new object is laid and tracked -/
theorem HOk.laid (x : HOk P w H h) (k : ∀ b u, h.get? b = some u → h'.get? b = some u) (hp : h.objs.size ≤ a) (new : ObjOk P w (upd H a o) h' a o) : HOk P w (upd H a o) h' := fun b u e => by
  have hn := x.fresh hp
  by_cases hb : b = a
  · subst hb; rw [upd_same] at e; cases e; exact new
  · rw [upd_ne hb] at e
    exact (x b u e).stay (fun c v _ q => k c v q) (fun c q => by rw [upd_ne (ne_of_none q hn)]; exact q) fun c xs q => by rw [upd_ne (ne_of_none q hn)]; exact q
end

/-- what may be read as u: it is u, or a known u -/
def Rd (H : Hp) (a : Addr) (u : HO) : Prop := H a = some u ∨ ∃ o, H a = some (.frz o u)
theorem Rd.of {H : Hp} {a : Addr} {u : HO} (h : H a = some u) : Rd H a u := .inl h
theorem Rd.ok {P : Program} {w : World} {H : Hp} {h : Heap} {a : Addr} {u : HO} (r : Rd H a u) (x : HOk P w H h) : ObjOk P w H h a u := by
  rcases r with r | ⟨o, r⟩
  · exact x a u r
  · obtain ⟨_, q⟩ := x a _ r
    exact q
/-- what may be written -/
def Mut : Option HO → Prop
  | some (.lst _) => True
  | some (.dK _) => True
  | some (.dT _) => True
  | some (.set _ _) => True
  | some (.ins _ _ _) => True
  | some (.ext _) => True
  | _ => False
section
variable {P : Program} {w : World} {H : Hp} {h h' : Heap} {x e : Addr} {o' : HO}
/-- the object at e is changed: x itself, or the dict of the instance x -/
theorem HOk.write (ok : HOk P w H h) (mu : Mut (H x)) (he : e = x ∨ H e = some (.own x)) (k : ∀ b u, b ≠ e → h.get? b = some u → h'.get? b = some u) (heo : ∃ u, h'.get? e = some u)
    (new : ObjOk P w (upd H x o') h' x o') : HOk P w (upd H x o') h' := fun b u q => by
  have nown : ∀ c y, H c = some (.own y) → c ≠ x := fun c y r z => by subst z; rw [r] at mu; exact mu
  have ntup : ∀ c xs, H c = some (.tup xs) → c ≠ x := fun c xs r z => by subst z; rw [r] at mu; exact mu
  by_cases hb : b = x
  · subst hb; rw [upd_same] at q; cases q; exact new
  · rw [upd_ne hb] at q
    by_cases hbe : b = e
    · have q' : H b = some (.own x) := by
        rcases he with z | z
        · exact absurd (hbe.trans z) hb
        · rw [hbe]; exact z
      rw [q] at q'; cases q'
      obtain ⟨v, hv⟩ := heo
      exact ⟨v, by rw [hbe]; exact hv⟩
    · refine (ok b u q).stay (fun c v hc r => k c v ?_ r) (fun c r => by rw [upd_ne (nown c b r)]; exact r) fun c xs r => by rw [upd_ne (ntup c xs r)]; exact r
      rcases hc with rfl | hc
      · exact hbe
      · rintro rfl
        rcases he with z | z
        · exact nown c b hc z
        · rw [hc] at z; cases z; exact hb rfl
end

/-! ### kept unless tracked; of the frames at fs (the callers') the slots may change (an exception that passes writes there); of the records at ex (iterators) nothing is said -/
structure Un (fs ex : List Addr) (H H' : Hp) (h h' : Heap) : Prop where
  keep : ∀ b o, h.get? b = some o → H b = none → b ∉ fs → b ∉ ex → h'.get? b = some o
  slot : ∀ b o, h.get? b = some o → H b = none → b ∈ fs → b ∉ ex → ∃ sl, h'.get? b = some { o with slots := sl }
  free : ∀ b o, h.get? b = some o → H b = none → b ∉ ex → H' b = none
  there : ∀ b o, h.get? b = some o → b ∉ ex → ∃ o', h'.get? b = some o'
  tups : ∀ b xs, H b = some (.tup xs) → H' b = some (.tup xs)
  frzs : ∀ b o u, H b = some (.frz o u) → H' b = some (.frz o u)
  tbls : ∀ b ps, H b = some (.tbl ps) → ∃ more, H' b = some (.tbl (ps ++ more))
section
variable {fs fs' ex ex' : List Addr} {H H1 H2 : Hp} {h h1 h2 h' : Heap} {a x e : Addr} {o : HO}
theorem Un.any (u : Un fs ex H H1 h h1) {b : Addr} {ob : Obj} (q : h.get? b = some ob) (n : H b = none) (hx : b ∉ ex) : ∃ sl, h1.get? b = some { ob with slots := sl } := by
  by_cases hb : b ∈ fs
  · exact u.slot b ob q n hb hx
  · exact ⟨ob.slots, u.keep b ob q n hb hx⟩
theorem Un.trans (a : Un fs ex H H1 h h1) (b : Un fs ex H1 H2 h1 h2) : Un fs ex H H2 h h2 where
  keep := fun c ob q n hc hx => b.keep c ob (a.keep c ob q n hc hx) (a.free c ob q n hx) hc hx
  slot := fun c ob q n hc hx => by
    obtain ⟨sl, e1⟩ := a.slot c ob q n hc hx
    obtain ⟨sl', e2⟩ := b.slot c _ e1 (a.free c ob q n hx) hc hx
    exact ⟨sl', e2⟩
  free := fun c ob q n hx => by
    obtain ⟨o', e1⟩ := a.there c ob q hx
    exact b.free c o' e1 (a.free c ob q n hx) hx
  there := fun c ob q hx => by
    obtain ⟨o', e1⟩ := a.there c ob q hx
    exact b.there c o' e1 hx
  tups := fun c xs q => b.tups c xs (a.tups c xs q)
  frzs := fun c ob xs q => b.frzs c ob xs (a.frzs c ob xs q)
  tbls := fun c ps q => by
    obtain ⟨m1, e1⟩ := a.tbls c ps q
    obtain ⟨m2, e2⟩ := b.tbls c _ e1
    exact ⟨m1 ++ m2, by rw [e2, Array.append_assoc]⟩
theorem Un.kept (k : ∀ b u, h.get? b = some u → h'.get? b = some u) : Un fs ex H H h h' :=
  ⟨fun b ob q _ _ _ => k b ob q, fun b ob q _ _ _ => ⟨ob.slots, k b ob q⟩, fun _ _ _ n _ => n, fun b ob q _ => ⟨ob, k b ob q⟩, fun _ _ q => q, fun _ _ _ q => q, fun _ ps q => ⟨#[], by rw [q]; simp⟩⟩
theorem Un.refl : Un fs ex H H h h := Un.kept fun _ _ q => q
theorem Un.laid (k : ∀ b u, h.get? b = some u → h'.get? b = some u) (hp : h.objs.size ≤ a) (hn : H a = none) : Un fs ex H (upd H a o) h h' where
  keep := fun b u q _ _ _ => k b u q
  slot := fun b u q _ _ _ => ⟨u.slots, k b u q⟩
  free := fun b u q n _ => by rw [upd_ne (Nat.ne_of_lt (Nat.lt_of_lt_of_le (Heap.lt_size q) hp))]; exact n
  there := fun b u q _ => ⟨u, k b u q⟩
  tups := fun b xs q => by rw [upd_ne (ne_of_none q hn)]; exact q
  frzs := fun b u xs q => by rw [upd_ne (ne_of_none q hn)]; exact q
  tbls := fun b ps q => ⟨#[], by rw [upd_ne (ne_of_none q hn), q]; simp⟩
theorem Un.write (mu : Mut (H x)) (he : e = x ∨ H e = some (.own x)) (k : ∀ b u, b ≠ e → h.get? b = some u → h'.get? b = some u) (heo : ∃ u, h'.get? e = some u) : Un fs ex H (upd H x o) h h' := by
  have hx : ∀ b, H b = none → b ≠ x := fun b n z => by subst z; rw [n] at mu; exact mu
  have hb : ∀ b, H b = none → b ≠ e := fun b n z => by
    subst z
    rcases he with r | r
    · exact hx b n r
    · rw [n] at r; cases r
  have hm : ∀ b u, H b = some u → ¬ Mut (some u) → b ≠ x := fun b u q nm z => by subst z; rw [q] at mu; exact nm mu
  refine ⟨fun b u q n _ _ => k b u (hb b n) q, fun b u q n _ _ => ⟨u.slots, k b u (hb b n) q⟩, fun b u q n _ => by rw [upd_ne (hx b n)]; exact n, fun b u q _ => ?_,
    fun b xs q => by rw [upd_ne (hm b _ q fun z => z)]; exact q, fun b u xs q => by rw [upd_ne (hm b _ q fun z => z)]; exact q, fun b ps q => ⟨#[], by rw [upd_ne (hm b _ q fun z => z), q]; simp⟩⟩
  by_cases hbe : b = e
  · subst hbe; exact heo
  · exact ⟨u, k b u hbe q⟩
theorem Un.mono (u : Un fs ex H H1 h h1) (hs : ∀ b ∈ fs, b ∈ fs') (hx : ∀ b ∈ ex, b ∈ ex') : Un fs' ex' H H1 h h1 :=
  ⟨fun b ob q n hb he => u.keep b ob q n (fun z => hb (hs b z)) fun z => he (hx b z), fun _ _ q n _ he => u.any q n fun z => he (hx _ z), fun b ob q n he => u.free b ob q n fun z => he (hx b z), fun b ob q he => u.there b ob q fun z => he (hx b z), u.tups, u.frzs, u.tbls⟩
end

/-! ### the heap without what is tracked -/
def trk (h : Heap) (H : Hp) : List Addr := (List.range h.objs.size).filter fun a => (H a).isSome
def hidT (h : Heap) (H : Hp) : Heap := PySem.W.hideAll h (trk h H)
theorem hidT_size (h : Heap) (H : Hp) : (hidT h H).objs.size = h.objs.size := PySem.W.hideAll_size _ _
theorem hidT_get {h : Heap} {H : Hp} {b : Addr} {o : Obj} (e : h.get? b = some o) (n : H b = none) : (hidT h H).get? b = some o :=
  PySem.W.hideAll_get _ e fun hm => by
    have q : (H b).isSome = true := (List.mem_filter.mp hm).2
    rw [n] at q; simp at q
theorem of_hidT {h : Heap} {H : Hp} {b : Addr} {o : Obj} (e : (hidT h H).get? b = some o) : h.get? b = some o ∧ H b = none := by
  have e' : h.get? b = some o := PySem.W.of_hideAll (trk h H) e
  refine ⟨e', ?_⟩
  cases q : H b with
  | none => rfl
  | some x =>
    have hm : b ∈ trk h H := List.mem_filter.mpr ⟨List.mem_range.mpr (Heap.lt_size e'), by simp [q]⟩
    have z : (hidT h H).get? b = none := PySem.W.hideAll_none (trk h H) hm
    rw [z] at e; cases e

/-! ### OpenK's ledger, filled with every new object but one -/
def allNews (g h : Heap) (L : Addr) : List (Addr × Obj) := (List.range h.objs.size).filterMap fun a => if a = L ∨ (g.get? a).isSome = true then none else (h.get? a).map fun o => (a, o)
theorem mem_allNews {g h : Heap} {L a : Addr} {o : Obj} (h1 : a ≠ L) (h2 : g.get? a = none) (h3 : h.get? a = some o) : (a, o) ∈ allNews g h L :=
  List.mem_filterMap.mpr ⟨a, List.mem_range.mpr (Heap.lt_size h3), by simp [h1, h2, h3]⟩
theorem of_mem_allNews {g h : Heap} {L : Addr} {p : Addr × Obj} (hp : p ∈ allNews g h L) : p.1 ≠ L ∧ g.get? p.1 = none ∧ h.get? p.1 = some p.2 := by
  obtain ⟨b, _, e⟩ := List.mem_filterMap.mp hp
  split at e
  · cases e
  · rename_i hn
    cases q : h.get? b with
    | none => rw [q] at e; simp at e
    | some u =>
      rw [q] at e
      simp only [Option.map_some, Option.some.injEq] at e
      subst e
      refine ⟨fun z => hn (.inl z), ?_, q⟩
      show g.get? b = none
      cases r : g.get? b with
      | none => rfl
      | some v => exact (hn (.inr (by simp [r]))).elim
def rest (g h : Heap) (L d : Addr) : List (Addr × Obj) := (allNews g h L).filter fun p => decide (p.1 ≠ d)
theorem rest_ne {g h : Heap} {L d : Addr} : ∀ p ∈ rest g h L d, p.1 ≠ d := fun p hp => of_decide_eq_true (List.mem_filter.mp hp).2
theorem mem_rest {g h : Heap} {L d a : Addr} {o : Obj} (h1 : a ≠ L) (h2 : g.get? a = none) (h3 : h.get? a = some o) (h4 : a ≠ d) : (a, o) ∈ rest g h L d :=
  List.mem_filter.mpr ⟨mem_allNews h1 h2 h3, decide_eq_true h4⟩
theorem news_all {g h : Heap} {L : Addr} : News g L h (allNews g h L) := fun p hp => let ⟨a, b, c⟩ := of_mem_allNews hp; ⟨c, a, b⟩
theorem news_at {g h : Heap} {L d : Addr} {o : Obj} (h1 : d ≠ L) (h2 : g.get? d = none) (h3 : h.get? d = some o) : News g L h ((d, o) :: rest g h L d) := fun p hp => by
  rcases List.mem_cons.mp hp with rfl | hp
  · exact ⟨h3, h1, h2⟩
  · exact news_all p (List.mem_filter.mp hp).1
/-- behind a rule that changed d alone: all else but the frame is kept -/
theorem kept_of_news {g h h' : Heap} {L d : Addr} {m : Str → Option Value} (k : ∀ b o, g.get? b = some o → h.get? b = some o) (F : Fr g L h' m) (N : News g L h' (rest g h L d)) :
    ∀ b o, b ≠ L → b ≠ d → h.get? b = some o → h'.get? b = some o := fun b o h1 h2 e => by
  cases q : g.get? b with
  | some u =>
    have := k b u q
    rw [e] at this; cases this
    exact F.keep b _ q
  | none => exact (N (b, o) (mem_rest h1 q e h2)).1
end L2

namespace L2
open PySem PySem.Spec PyProof.Rows

/-- the module's facts, over the base: the heap at the law's entry without what is tracked there -/
structure Mod (K : PySem.W.Frag) (mg : Str → Option Value) (base : Heap) : Prop where
  kin : K.In base
  glob : base.Ns mainGlobals mg
  blt : ∃ mb, base.Ns builtinsNs mb ∧ ∀ x : Str, x ≠ "__name__" → mb x = bootBuiltins x
  nolimit : base.NoLimit

/-- the context: a def's body (or a comprehension's block) running. base: fixed through the whole law; s₀, H₀: the entry; outer: the frames whose slots others may change (a def's callers); stack: all frames that run;
   ex: iterators that were made ahead of the entry and are walked here (a comprehension's); fn: the names whose cells were made at the entry (a def: all; a comprehension's block: its own); calm: not within an except suite; pn: pins that every state bears; xe: what is wanted of an exception that leaves the code -/
structure Cx where
  prog : Program
  w : World
  K : PySem.W.Frag
  mg : Str → Option Value
  base : Heap
  A : Around
  N : List Str
  s₀ : Shared
  H₀ : Hp
  env : Env
  outer : List Env
  stack : List Env
  ex : List Addr
  fn : Str → Bool
  calm : Bool
  pn : List (Addr × Obj)
  xe : Value → Shared → Prop
/-- the callers' frames -/
def frs (l : List Env) : List Addr := l.filterMap (·.frame)
abbrev Cx.fs (X : Cx) : List Addr := frs X.outer

def Vis (sc : Scope) (x : Str) : Prop := sc.names.lookup x = some .local ∨ sc.names.lookup x = some .cell ∨ sc.names.lookup x = some .free
def Loc (sc : Scope) (x : Str) : Prop := sc.names.lookup x = some .local ∨ sc.names.lookup x = some .cell
def Look (env : Env) (h : Heap) (m : Str → Option Value) (x : Str) (u : Value) : Prop :=
  (env.kindOf x = some .local ∧ m x = some u) ∨ ((env.kindOf x = some .cell ∨ env.kindOf x = some .free) ∧ ∃ c, env.cells.lookup x = some c ∧ h.IsCell c (some u))

structure Cx.Ok (X : Cx) : Prop where
  mod : Mod X.K X.mg X.base
  kind : X.env.scope.kind = .function
  glob : X.env.globals = mainGlobals
  blt : X.env.builtins = builtinsNs
  above : X.s₀.heap.objs.size ≤ X.env.locals
  inj : ∀ x y c, X.env.cells.lookup x = some c → X.env.cells.lookup y = some c → x = y
  has : ∀ x, (X.env.kindOf x = some .cell ∨ X.env.kindOf x = some .free) → ∃ c, X.env.cells.lookup x = some c
  cab : ∀ x c, X.fn x = true → X.env.cells.lookup x = some c → X.s₀.heap.objs.size ≤ c
  hd : X.calm = true → X.A.handled = none
  frames : X.A.frames = some X.stack
  stk : X.stack = X.outer ∨ (X.stack = X.env :: X.outer ∧ X.env.frame = some X.env.locals)
  exf : ∀ b ∈ X.ex, b ≠ X.env.locals ∧ ∀ x c, X.env.cells.lookup x = some c → c ≠ b
  bs : ∀ b o, X.base.get? b = some o → X.s₀.heap.get? b = some o ∧ X.H₀ b = none
  bsz : X.base.objs.size ≤ X.s₀.heap.objs.size
  noex : ∀ b o, X.base.get? b = some o → b ∉ X.ex
  exfs : ∀ b ∈ X.ex, b ∉ X.fs
  funs : X.s₀.heap.FunFrames X.base X.outer
  frf : ∀ b ∈ X.fs, X.H₀ b = none

structure Inv (X : Cx) (pins : List (Addr × Obj)) (σ : List (Option V)) (H : Hp) (s : Shared) : Prop where
  ok : X.Ok
  os : s.os = X.s₀.os
  bare : AllBare s.gens
  base : Un X.fs X.ex X.H₀ H X.s₀.heap s.heap
  loc : ∃ m, s.heap.Ns X.env.locals m ∧ ∀ (i : Nat) (x : Str) (v : V), X.N[i]? = some x → σ[i]? = some (some v) → Vis X.env.scope x → ∃ u, RelV v u ∧ Look X.env s.heap m x u
  cell : ∀ x c, X.env.cells.lookup x = some c → ∃ v, s.heap.IsCell c v
  free : H X.env.locals = none
  freeC : ∀ x c, X.env.cells.lookup x = some c → H c = none
  pin : ∀ p ∈ X.pn ++ pins, s.heap.get? p.1 = some p.2 ∧ H p.1 = none ∧ p.1 ≠ X.env.locals ∧ p.1 ∉ X.fs ∧ ∀ v, p.2.data ≠ .cell v
  hok : HOk X.prog X.w H s.heap
  len : σ.length = X.N.length

section
variable {X : Cx} {pins : List (Addr × Obj)} {σ : List (Option V)} {H H' : Hp} {s : Shared} {h' : Heap}

theorem Cx.Ok.nofr (ok : X.Ok) {b : Addr} {o : Obj} (e : X.base.get? b = some o) : b ∉ X.fs := fun hb => by
  have := (ok.funs.mem hb).1
  rw [e] at this; cases this
theorem Inv.bs (I : Inv X pins σ H s) : ∀ b o, X.base.get? b = some o → s.heap.get? b = some o ∧ H b = none := fun b o e =>
  ⟨I.base.keep b o (I.ok.bs b o e).1 (I.ok.bs b o e).2 (I.ok.nofr e) (I.ok.noex b o e), I.base.free b o (I.ok.bs b o e).1 (I.ok.bs b o e).2 (I.ok.noex b o e)⟩
theorem Inv.bk (I : Inv X pins σ H s) : ∀ b o, X.base.get? b = some o → s.heap.get? b = some o := fun b o e => (I.bs b o e).1
theorem Inv.mod (I : Inv X pins σ H s) : Mod X.K X.mg X.base := I.ok.mod
theorem Inv.kIn (I : Inv X pins σ H s) : X.K.In s.heap := I.ok.mod.kin.keeps I.bk
theorem Inv.nolimit (I : Inv X pins σ H s) : s.heap.NoLimit := I.ok.mod.nolimit.keeps I.bk
/-- the frame over the base: for OpenK's rules (K.In X.base is I.mod.kin) -/
theorem Inv.fr (I : Inv X pins σ H s) : ∃ m, Fr X.base X.env.locals s.heap m :=
  let ⟨m, hn, _⟩ := I.loc
  ⟨m, hn, I.bk, Nat.le_trans I.ok.bsz I.ok.above⟩
theorem Inv.lt (I : Inv X pins σ H s) : X.env.locals < s.heap.objs.size := let ⟨_, hn, _⟩ := I.loc; hn.lt
theorem Inv.sz (I : Inv X pins σ H s) : X.s₀.heap.objs.size ≤ s.heap.objs.size := Nat.le_trans I.ok.above (Nat.le_of_lt I.lt)
theorem Inv.nofs (I : Inv X pins σ H s) {a : Addr} (h : s.heap.objs.size ≤ a) : a ∉ X.fs := fun hb => by
  obtain ⟨_, o, ho, _⟩ := I.ok.funs.mem hb
  exact absurd (Nat.lt_of_lt_of_le (Heap.lt_size ho) (Nat.le_trans I.sz h)) (Nat.lt_irrefl _)
theorem Inv.cne (I : Inv X pins σ H s) : ∀ x c, X.env.cells.lookup x = some c → c ≠ X.env.locals := fun x c e z => by
  obtain ⟨v, o, ho, hd⟩ := I.cell x c e
  obtain ⟨m, ⟨o', es, ep, ho', hd', _⟩, _⟩ := I.loc
  rw [z, ho'] at ho; cases ho; rw [hd'] at hd; cases hd
theorem Inv.funs (I : Inv X pins σ H s) : s.heap.FunFrames X.base X.outer := by
  have all : ∀ (l : List Env), (∀ b ∈ frs l, b ∈ X.fs) → X.s₀.heap.FunFrames X.base l → s.heap.FunFrames X.base l := by
    intro l
    induction l with
    | nil => intro _ _; trivial
    | cons env r ih =>
      intro hs hl
      obtain ⟨hk, ⟨L, o, hf, hn, ho, hd⟩, hr⟩ := hl
      have hL : L ∈ X.fs := hs L (by unfold frs; rw [List.filterMap_cons, hf]; exact List.mem_cons_self)
      obtain ⟨sl, e⟩ := I.base.slot L o ho (I.ok.frf L hL) hL fun z => I.ok.exfs L z hL
      exact ⟨hk, ⟨L, _, hf, hn, e, hd⟩, ih (fun b hb => hs b (by unfold frs; rw [List.filterMap_cons, hf]; exact List.mem_cons_of_mem _ hb)) hr⟩
  exact all X.outer (fun _ hb => hb) I.ok.funs

/-- the frames that run, for a call -/
theorem Inv.stack (I : Inv X pins σ H s) : s.heap.FunFrames X.base X.stack := by
  rcases I.ok.stk with e | ⟨e, hf⟩
  · rw [e]; exact I.funs
  · rw [e]
    obtain ⟨m, hn, _⟩ := I.loc
    refine .cons (by rw [I.ok.kind]; decide) hf hn ?_ I.funs
    exact Heap.get?_none_of_le (Nat.le_trans I.ok.bsz I.ok.above)
theorem Inv.stkSub (I : Inv X pins σ H s) : ∀ b ∈ frs X.stack, b ∈ X.env.locals :: X.fs := fun b hb => by
  rcases I.ok.stk with e | ⟨e, hf⟩
  · rw [e] at hb; exact List.mem_cons_of_mem _ hb
  · rw [e] at hb
    unfold frs at hb
    rw [List.filterMap_cons, hf] at hb
    exact hb
theorem Inv.stkFree (I : Inv X pins σ H s) : ∀ b ∈ frs X.stack, H b = none := fun b hb => by
  rcases List.mem_cons.mp (I.stkSub b hb) with e | hb
  · rw [e]; exact I.free
  · obtain ⟨_, o, ho, _⟩ := I.ok.funs.mem hb
    exact I.base.free b o ho (I.ok.frf b hb) fun z => I.ok.exfs b z hb

/-- THE STEP: the untracked objects but the frame and the records at ch are kept (the callers' frames up to slots), the frame's map is kept, the new abstract heap is held -/
theorem Inv.step {g' : Array GenState} {t' : Nat} {d' : Drawn} {ch : List Addr} (I : Inv X pins σ H s)
    (hch : ∀ b ∈ ch, (b ∈ X.ex ∨ X.s₀.heap.objs.size ≤ b) ∧ b ≠ X.env.locals ∧ (∀ x c, X.env.cells.lookup x = some c → c ≠ b) ∧ ∀ p ∈ X.pn ++ pins, p.1 ≠ b)
    (keep : ∀ b o, b ≠ X.env.locals → b ∉ X.fs → b ∉ ch → s.heap.get? b = some o → H b = none → h'.get? b = some o)
    (slot : ∀ b o, b ≠ X.env.locals → b ∈ X.fs → b ∉ ch → s.heap.get? b = some o → H b = none → ∃ sl, h'.get? b = some { o with slots := sl }) (free : ∀ b o, b ∉ ch → s.heap.get? b = some o → H b = none → H' b = none)
    (there : ∀ b o, b ∉ ch → s.heap.get? b = some o → ∃ o', h'.get? b = some o')
    (tups : ∀ b xs, H b = some (.tup xs) → H' b = some (.tup xs)) (frzs : ∀ b o u, H b = some (.frz o u) → H' b = some (.frz o u)) (tbls : ∀ b ps, H b = some (.tbl ps) → ∃ more, H' b = some (.tbl (ps ++ more)))
    (ns : ∀ m, s.heap.Ns X.env.locals m → h'.Ns X.env.locals m) (hok : HOk X.prog X.w H' h') (hg : AllBare g') :
    Inv X pins σ H' { s with heap := h', gens := g', drawn := d', toks := t' } := by
  have neL : ∀ b o, X.s₀.heap.get? b = some o → b ≠ X.env.locals := fun b o e => Nat.ne_of_lt (Nat.lt_of_lt_of_le (Heap.lt_size e) I.ok.above)
  have neC : ∀ b o, X.s₀.heap.get? b = some o → b ∉ X.ex → b ∉ ch := fun b o e hx hb => by
    rcases (hch b hb).1 with z | z
    · exact hx z
    · exact absurd (Nat.lt_of_lt_of_le (Heap.lt_size e) z) (Nat.lt_irrefl _)
  have cellK : ∀ x c, X.env.cells.lookup x = some c → ∀ v, s.heap.IsCell c v → h'.IsCell c v := fun x c e v ⟨o, ho, hd⟩ => by
    have nch : c ∉ ch := fun z => (hch c z).2.2.1 x c e rfl
    by_cases hc : c ∈ X.fs
    · obtain ⟨sl, q⟩ := slot c o (I.cne x c e) hc nch ho (I.freeC x c e)
      exact ⟨_, q, hd⟩
    · exact ⟨o, keep c o (I.cne x c e) hc nch ho (I.freeC x c e), hd⟩
  refine ⟨I.ok, I.os, hg, ⟨fun b o e n hb hx => ?_, fun b o e n hb hx => ?_, fun b o e n hx => ?_, fun b o e hx => ?_, fun b xs e => tups b xs (I.base.tups b xs e), fun b o xs e => frzs b o xs (I.base.frzs b o xs e), fun b ps e => ?_⟩, ?_, fun x c e => ?_, ?_, fun x c e => ?_, fun p hp => ?_, hok, I.len⟩
  · exact keep b o (neL b o e) hb (neC b o e hx) (I.base.keep b o e n hb hx) (I.base.free b o e n hx)
  · obtain ⟨sl, e1⟩ := I.base.slot b o e n hb hx
    obtain ⟨sl', e2⟩ := slot b _ (neL b o e) hb (neC b o e hx) e1 (I.base.free b o e n hx)
    exact ⟨sl', e2⟩
  · obtain ⟨o', e1⟩ := I.base.there b o e hx
    exact free b o' (neC b o e hx) e1 (I.base.free b o e n hx)
  · obtain ⟨o', e1⟩ := I.base.there b o e hx
    exact there b o' (neC b o e hx) e1
  · obtain ⟨m1, e1⟩ := I.base.tbls b ps e
    obtain ⟨m2, e2⟩ := tbls b _ e1
    exact ⟨m1 ++ m2, by rw [e2, Array.append_assoc]⟩
  · obtain ⟨m, hn, hl⟩ := I.loc
    refine ⟨m, ns m hn, fun i x v e1 e2 e3 => ?_⟩
    obtain ⟨u, r, l⟩ := hl i x v e1 e2 e3
    refine ⟨u, r, ?_⟩
    rcases l with l | ⟨k, c, e, z⟩
    · exact .inl l
    · exact .inr ⟨k, c, e, cellK x c e _ z⟩
  · obtain ⟨v, z⟩ := I.cell x c e
    exact ⟨v, cellK x c e v z⟩
  · obtain ⟨m, ⟨o, _, _, ho, _⟩, _⟩ := I.loc
    exact free _ o (fun z => (hch _ z).2.1 rfl) ho I.free
  · obtain ⟨v, o, ho, hd⟩ := I.cell x c e
    exact free c o (fun z => (hch c z).2.2.1 x c e rfl) ho (I.freeC x c e)
  · obtain ⟨e, n, ne, nf, d⟩ := I.pin p hp
    have nch : p.1 ∉ ch := fun z => (hch p.1 z).2.2.2 p hp rfl
    exact ⟨keep p.1 p.2 ne nf nch e n, free p.1 p.2 nch e n, ne, nf, d⟩
/-- .. where the frame's own object is kept too -/
theorem Inv.un {t' : Nat} (I : Inv X pins σ H s) (u : Un X.fs [] H H' s.heap h') (hok : HOk X.prog X.w H' h') : Inv X pins σ H' { s with heap := h', toks := t' } := by
  obtain ⟨m, ⟨o, es, ep, ho, r⟩, _⟩ := id I.loc
  obtain ⟨sl, hL⟩ := u.any ho I.free (by simp)
  exact I.step (g' := s.gens) (d' := s.drawn) (ch := []) (fun _ z => nomatch z) (fun b o _ hb _ e n => u.keep b o e n hb (by simp)) (fun b o _ hb _ e n => u.slot b o e n hb (by simp)) (fun b o _ e n => u.free b o e n (by simp)) (fun b o _ e => u.there b o e (by simp)) u.tups u.frzs u.tbls (fun m' hm => by
    obtain ⟨o', es', ep', ho', r'⟩ := hm
    rw [ho] at ho'; cases ho'
    exact ⟨_, es', ep', hL, r'⟩) hok I.bare
/-- behind a call (or a comprehension's block): the slots of this frame may have changed too, the records at ch may have turned -/
theorem Inv.call {g' : Array GenState} {t' : Nat} {d' : Drawn} {ch : List Addr} (I : Inv X pins σ H s) (u : Un (frs X.stack) ch H H' s.heap h') (hok : HOk X.prog X.w H' h') (hg : AllBare g')
    (hch : ∀ b ∈ ch, (b ∈ X.ex ∨ X.s₀.heap.objs.size ≤ b) ∧ b ≠ X.env.locals ∧ (∀ x c, X.env.cells.lookup x = some c → c ≠ b) ∧ ∀ p ∈ X.pn ++ pins, p.1 ≠ b) :
    Inv X pins σ H' { s with heap := h', gens := g', drawn := d', toks := t' } := by
  obtain ⟨m, ⟨o, es, ep, ho, r⟩, _⟩ := id I.loc
  obtain ⟨sl, hL⟩ := u.any ho I.free fun z => (hch _ z).2.1 rfl
  exact I.step (ch := ch) hch (fun b o hL hb hc e n => u.keep b o e n (fun z => (List.mem_cons.mp (I.stkSub b z)).elim hL hb) hc) (fun b o _ _ hc e n => u.any e n hc) (fun b o hc e n => u.free b o e n hc) (fun b o hc e => u.there b o e hc) u.tups u.frzs u.tbls (fun m' hm => by
    obtain ⟨o', es', ep', ho', r'⟩ := hm
    rw [ho] at ho'; cases ho'
    exact ⟨_, es', ep', hL, r'⟩) hok hg
/-- an untracked record of ours (an iterator) has turned -/
theorem Inv.turned {t' : Nat} {it : Addr} (I : Inv X pins σ H s) (k : ∀ b o, b ≠ it → s.heap.get? b = some o → h'.get? b = some o) (hn : H it = none) (hL : it ≠ X.env.locals)
    (h1 : it ∈ X.ex ∨ X.s₀.heap.objs.size ≤ it) (h2 : ∀ x c, X.env.cells.lookup x = some c → c ≠ it) (h3 : ∀ p ∈ X.pn ++ pins, p.1 ≠ it) : Inv X pins σ H { s with heap := h', toks := t' } := by
  have nit : ∀ b u, H b = some u → b ≠ it := fun b u e z => by rw [z, hn] at e; cases e
  refine I.step (g' := s.gens) (d' := s.drawn) (ch := [it]) (fun b hb => ?_) (fun b o _ _ hc e _ => k b o (fun z => hc (by simp [z])) e) (fun b o _ _ hc e _ => ⟨o.slots, k b o (fun z => hc (by simp [z])) e⟩) (fun _ _ _ _ n => n)
    (fun b o hc e => ⟨o, k b o (fun z => hc (by simp [z])) e⟩) (fun _ _ e => e) (fun _ _ _ e => e) (fun b ps e => ⟨#[], by rw [e]; simp⟩) (fun m hm => ?_) (fun b u e => ?_) I.bare
  · have e : b = it := by simpa using hb
    subst e
    exact ⟨h1, hL, h2, h3⟩
  · obtain ⟨o, es, ep, ho, r⟩ := hm
    exact ⟨o, es, ep, k _ o (Ne.symm hL) ho, r⟩
  · refine (I.hok b u e).stay (fun c v hc q => k c v ?_ q) (fun _ q => q) fun _ _ q => q
    rcases hc with z | z
    · rw [z]; exact nit b u e
    · exact nit c _ z
theorem Inv.tok (I : Inv X pins σ H s) (t : Nat) : Inv X pins σ H { s with toks := t } := I.un (h' := s.heap) (t' := t) Un.refl I.hok
/-- all objects kept -/
theorem Inv.kept {t' : Nat} (I : Inv X pins σ H s) (k : ∀ b u, s.heap.get? b = some u → h'.get? b = some u) : Inv X pins σ H { s with heap := h', toks := t' } := I.un (Un.kept k) (I.hok.kept k)
/-- a new object laid and tracked -/
theorem Inv.laid {a : Addr} {o : HO} {t' : Nat} (I : Inv X pins σ H s) (k : ∀ b u, s.heap.get? b = some u → h'.get? b = some u) (hp : s.heap.objs.size ≤ a) (new : ObjOk X.prog X.w (upd H a o) h' a o) :
    Inv X pins σ (upd H a o) { s with heap := h', toks := t' } := I.un (Un.laid k hp (I.hok.fresh hp)) (I.hok.laid k hp new)
/-- an object written -/
theorem Inv.write {x e : Addr} {o : HO} {t' : Nat} (I : Inv X pins σ H s) (mu : Mut (H x)) (he : e = x ∨ H e = some (.own x)) (k : ∀ b u, b ≠ e → s.heap.get? b = some u → h'.get? b = some u) (heo : ∃ u, h'.get? e = some u)
    (new : ObjOk X.prog X.w (upd H x o) h' x o) : Inv X pins σ (upd H x o) { s with heap := h', toks := t' } := I.un (Un.write mu he k heo) (I.hok.write mu he k heo new)
/-- forgetting slots, pins -/
theorem Inv.weak {σ' : List (Option V)} (I : Inv X pins σ H s) (hl : σ'.length = σ.length) (w : ∀ (i : Nat) v, σ'[i]? = some (some v) → σ[i]? = some (some v)) : Inv X pins σ' H s :=
  ⟨I.ok, I.os, I.bare, I.base, let ⟨m, hn, hl'⟩ := I.loc; ⟨m, hn, fun i x v e1 e2 e3 => hl' i x v e1 (w i v e2) e3⟩, I.cell, I.free, I.freeC, I.pin, I.hok, hl.trans I.len⟩
theorem Inv.pins_of {pins' : List (Addr × Obj)} (I : Inv X pins σ H s) (h : ∀ p ∈ pins', s.heap.get? p.1 = some p.2 ∧ H p.1 = none ∧ p.1 ≠ X.env.locals ∧ p.1 ∉ X.fs ∧ ∀ v, p.2.data ≠ .cell v) : Inv X pins' σ H s :=
  ⟨I.ok, I.os, I.bare, I.base, I.loc, I.cell, I.free, I.freeC, fun p hp => (List.mem_append.mp hp).elim (fun z => I.pin p (List.mem_append_left _ z)) (h p), I.hok, I.len⟩

theorem nodup_ix {N : List Str} (hN : N.Nodup) {i j : Nat} {x : Str} (a : N[i]? = some x) (b : N[j]? = some x) : i = j := by
  obtain ⟨h1, e1⟩ := List.getElem?_eq_some_iff.mp a
  obtain ⟨h2, e2⟩ := List.getElem?_eq_some_iff.mp b
  exact (List.getElem_inj hN).mp (e1.trans e2.symm)

/-- a name is stored; what changed -/
theorem store_ok2 {M : Model} {A : Around} {E : Value → Shared → Prop} {i : Nat} {x : Str} {v : V} {u : Value} {Q : Unit → Shared → Prop} (I : Inv X pins σ H s) (hN : X.N.Nodup) (hi : X.N[i]? = some x) (hx : Loc X.env.scope x) (r : RelV v u)
    (h : ∀ s', Inv X pins (σ.set i (some v)) H s' → (∃ a, Heap.SameBut a s.heap s'.heap ∧ (a = X.env.locals ∨ X.env.cells.lookup x = some a)) → Q () s') (hf : X.fn x = true ∨ X.env.scope.names.lookup x = some .local := by first | exact .inl rfl | exact .inr rfl | assumption) : wpAny M A (storeName X.env x u) Q E s := by
  obtain ⟨m, hn, hl⟩ := id I.loc
  have hcls : (X.env.scope.kind == .class || (X.env.scope.kind == .module && X.env.locals != X.env.globals)) = false := by rw [I.ok.kind]; rfl
  have hiσ : i < σ.length := by rw [I.len]; exact (List.getElem?_eq_some_iff.mp hi).1
  have cne := I.cne
  have tracked : ∀ {a : Addr} {h' : Heap}, (∃ o, s.heap.get? a = some o ∧ H a = none) → Heap.SameBut a s.heap h' → HOk X.prog X.w H h' := fun {a h'} ha hs b ob e => by
    obtain ⟨_, _, hfree⟩ := ha
    refine (I.hok b ob e).stay (fun c w' hc q => (hs.2 c ?_).trans q) (fun _ q => q) fun _ _ q => q
    rintro rfl
    rcases hc with rfl | hc
    · rw [hfree] at e; cases e
    · rw [hfree] at hc; cases hc
  rcases hx with hk | hk
  · refine wpAny_storeName_local hk hn (fun h' hn' hs => ?_) hcls
    obtain ⟨oL, _, _, hoL, _⟩ := id hn
    refine h _ ⟨I.ok, I.os, I.bare, ⟨fun b o e n hb hx => ?_, fun b o e n hb hx => ?_, I.base.free, fun b o e hx => ?_, I.base.tups, I.base.frzs, I.base.tbls⟩, ⟨_, hn', fun j y v' e1 e2 e3 => ?_⟩, fun y c e => ?_, I.free, I.freeC, fun p hp => ?_, tracked ⟨oL, hoL, I.free⟩ hs, by simpa using I.len⟩ ⟨_, hs, .inl rfl⟩
    · exact (hs.2 b (Nat.ne_of_lt (Nat.lt_of_lt_of_le (Heap.lt_size e) I.ok.above))).trans (I.base.keep b o e n hb hx)
    · obtain ⟨sl, e1⟩ := I.base.slot b o e n hb hx
      exact ⟨sl, (hs.2 b (Nat.ne_of_lt (Nat.lt_of_lt_of_le (Heap.lt_size e) I.ok.above))).trans e1⟩
    · obtain ⟨o', e1⟩ := I.base.there b o e hx
      exact ⟨o', (hs.2 b (Nat.ne_of_lt (Nat.lt_of_lt_of_le (Heap.lt_size e) I.ok.above))).trans e1⟩
    · by_cases hj : j = i
      · subst hj
        rw [hi] at e1; cases e1
        rw [List.getElem?_set_self hiσ] at e2
        cases e2
        exact ⟨u, r, .inl ⟨hk, by simp⟩⟩
      · rw [List.getElem?_set_ne (Ne.symm hj)] at e2
        obtain ⟨u', r', q⟩ := hl j y v' e1 e2 e3
        refine ⟨u', r', ?_⟩
        rcases q with ⟨k, e⟩ | ⟨k, c, e, z⟩
        · refine .inl ⟨k, ?_⟩
          have : y ≠ x := fun e => hj (nodup_ix hN e1 (e ▸ hi))
          simp [this, e]
        · exact .inr ⟨k, c, e, z.sameBut hs (cne y c e)⟩
    · obtain ⟨w', z⟩ := I.cell y c e
      exact ⟨w', z.sameBut hs (cne y c e)⟩
    · obtain ⟨e, n, ne, nf, d⟩ := I.pin p hp
      exact ⟨(hs.2 p.1 ne).trans e, n, ne, nf, d⟩
  · have hfn : X.fn x = true := by
      rcases hf with z | z
      · exact z
      · rw [z] at hk; cases hk
    obtain ⟨c, hc⟩ := I.ok.has x (.inl hk)
    obtain ⟨w', z⟩ := I.cell x c hc
    refine wpAny_storeName_cell I.ok.kind hk hc z (fun h' hc' hs => ?_)
    obtain ⟨oc, hoc, hocd⟩ := id z
    refine h { s with heap := h' } ⟨I.ok, I.os, I.bare, ⟨fun b o e n hb hx => ?_, fun b o e n hb hx => ?_, I.base.free, fun b o e hx => ?_, I.base.tups, I.base.frzs, I.base.tbls⟩, ⟨m, hn.sameBut hs (Ne.symm (cne x c hc)), fun j y v' e1 e2 e3 => ?_⟩, fun y c' e => ?_, I.free, I.freeC, fun p hp => ?_, tracked ⟨oc, hoc, I.freeC x c hc⟩ hs, by simpa using I.len⟩ ⟨c, hs, .inr hc⟩
    · exact (hs.2 b (Nat.ne_of_lt (Nat.lt_of_lt_of_le (Heap.lt_size e) (I.ok.cab x c hfn hc)))).trans (I.base.keep b o e n hb hx)
    · obtain ⟨sl, e1⟩ := I.base.slot b o e n hb hx
      exact ⟨sl, (hs.2 b (Nat.ne_of_lt (Nat.lt_of_lt_of_le (Heap.lt_size e) (I.ok.cab x c hfn hc)))).trans e1⟩
    · obtain ⟨o', e1⟩ := I.base.there b o e hx
      exact ⟨o', (hs.2 b (Nat.ne_of_lt (Nat.lt_of_lt_of_le (Heap.lt_size e) (I.ok.cab x c hfn hc)))).trans e1⟩
    · by_cases hj : j = i
      · subst hj
        rw [hi] at e1; cases e1
        rw [List.getElem?_set_self hiσ] at e2
        cases e2
        exact ⟨u, r, .inr ⟨.inl hk, c, hc, hc'⟩⟩
      · rw [List.getElem?_set_ne (Ne.symm hj)] at e2
        obtain ⟨u', r', q⟩ := hl j y v' e1 e2 e3
        refine ⟨u', r', ?_⟩
        rcases q with q | ⟨k, c', e, z'⟩
        · exact .inl q
        · refine .inr ⟨k, c', e, z'.sameBut hs ?_⟩
          rintro rfl
          exact hj (nodup_ix hN e1 (I.ok.inj _ _ _ e hc ▸ hi))
    · by_cases hcc : c' = c
      · subst hcc; exact ⟨_, hc'⟩
      · obtain ⟨w2, z2⟩ := I.cell y c' e
        exact ⟨w2, z2.sameBut hs hcc⟩
    · obtain ⟨e, n, ne, nf, d⟩ := I.pin p hp
      refine ⟨(hs.2 p.1 ?_).trans e, n, ne, nf, d⟩
      intro q
      rw [q, hoc] at e
      have q' : oc = p.2 := Option.some.inj e
      exact d w' (by rw [← q']; exact hocd)
theorem store_ok {M : Model} {A : Around} {E : Value → Shared → Prop} {i : Nat} {x : Str} {v : V} {u : Value} {Q : Unit → Shared → Prop} (I : Inv X pins σ H s) (hN : X.N.Nodup) (hi : X.N[i]? = some x) (hx : Loc X.env.scope x) (r : RelV v u)
    (h : ∀ s', Inv X pins (σ.set i (some v)) H s' → Q () s') (hf : X.fn x = true ∨ X.env.scope.names.lookup x = some .local := by first | exact .inl rfl | exact .inr rfl | assumption) : wpAny M A (storeName X.env x u) Q E s :=
  store_ok2 I hN hi hx r (fun s' I' _ => h s' I') hf
/-- behind a call or a block, the state as it is -/
theorem Inv.call' {s' : Shared} {ch : List Addr} (I : Inv X pins σ H s) (ho : s'.os = s.os) (u : Un (frs X.stack) ch H H' s.heap s'.heap) (hok : HOk X.prog X.w H' s'.heap) (hg : AllBare s'.gens)
    (hch : ∀ b ∈ ch, (b ∈ X.ex ∨ X.s₀.heap.objs.size ≤ b) ∧ b ≠ X.env.locals ∧ (∀ x c, X.env.cells.lookup x = some c → c ≠ b) ∧ ∀ p ∈ X.pn ++ pins, p.1 ≠ b) : Inv X pins σ H' s' := by
  obtain ⟨h', g', d', t', o'⟩ := s'
  have e : o' = s.os := ho
  subst e
  exact I.call (g' := g') (t' := t') (d' := d') u hok hg hch
end

/-! ### the judgements -/
/-- an exception: its class, its own dict's address (where it has one), the abstract heap behind it -/
abbrev XK := Value → Option Addr → Hp → Prop
abbrev St := List (Option V)
abbrev VK := V → Hp → Prop
/-- an expression's reading; a test's; an argument list's -/
abbrev TE := St → Hp → VK → Prop
abbrev TT := St → Hp → (Bool → Hp → Prop) → Prop
abbrev TA := St → Hp → (List V → Hp → Prop) → Prop
/-- what is wanted behind a statement -/
structure Ends where
  nx : St → Hp → Prop
  rt : VK
  bk : St → Hp → Prop := fun _ _ => False
  ct : St → Hp → Prop := fun _ _ => False
abbrev TS := Ends → St → Hp → Prop

def EP (X : Cx) (pins : List (Addr × Obj)) (σ : St) (Q : VK) (u : Value) (s' : Shared) : Prop := ∃ v H', Inv X pins σ H' s' ∧ RelV v u ∧ Q v H'
def TP (X : Cx) (pins : List (Addr × Obj)) (σ : St) (Q : Bool → Hp → Prop) (b : Bool) (s' : Shared) : Prop := ∃ H', Inv X pins σ H' s' ∧ Q b H'
def AP (X : Cx) (pins : List (Addr × Obj)) (σ : St) (Q : List V → Hp → Prop) (us : List Value) (s' : Shared) : Prop := ∃ vs H', Inv X pins σ H' s' ∧ Vals vs us ∧ Q vs H'
def SP (X : Cx) (pins : List (Addr × Obj)) (D : Ends) (f : Flow) (s' : Shared) : Prop :=
  match f with
  | .next => ∃ σ' H', Inv X pins σ' H' s' ∧ D.nx σ' H'
  | .brk => ∃ σ' H', Inv X pins σ' H' s' ∧ D.bk σ' H'
  | .cont => ∃ σ' H', Inv X pins σ' H' s' ∧ D.ct σ' H'
  | .ret u => ∃ v σ' H', Inv X pins σ' H' s' ∧ RelV v u ∧ D.rt v H'

def PE (X : Cx) (e : Expr) (t : TE) : Prop :=
  ∀ (pins : List (Addr × Obj)) (s : Shared) (σ : St) (H : Hp) (Q : VK), Inv X pins σ H s → t σ H Q → wpAny (model X.prog X.w) X.A (eval e X.env) (EP X pins σ Q) X.xe s
def PT (X : Cx) (e : Expr) (t : TT) : Prop :=
  ∀ (pins : List (Addr × Obj)) (s : Shared) (σ : St) (H : Hp) (Q : Bool → Hp → Prop), Inv X pins σ H s → t σ H Q → wpAny (model X.prog X.w) X.A (isTrue e X.env (eval e X.env)) (TP X pins σ Q) X.xe s
/-- a test whatever its 'whole' is (and, or) -/
def PW (X : Cx) (e : Expr) (t : TT) : Prop :=
  ∀ (whole : Sem Value) (pins : List (Addr × Obj)) (s : Shared) (σ : St) (H : Hp) (Q : Bool → Hp → Prop), Inv X pins σ H s → t σ H Q → wpAny (model X.prog X.w) X.A (isTrue e X.env whole) (TP X pins σ Q) X.xe s
theorem PW.pt {X : Cx} {e : Expr} {t : TT} (h : PW X e t) : PT X e t := h _
/-- an argument list (no star), from the left -/
def PA (X : Cx) (es : List Expr) (t : TA) : Prop :=
  ∀ (pos : Pos) (pins : List (Addr × Obj)) (s : Shared) (σ : St) (H : Hp) (Q : List V → Hp → Prop), Inv X pins σ H s → t σ H Q → wpAny (model X.prog X.w) X.A (spliced (backTo pos (starEach es X.env))) (AP X pins σ Q) X.xe s
def PS (X : Cx) (st : Stmt) (t : TS) : Prop :=
  ∀ (pins : List (Addr × Obj)) (s : Shared) (σ : St) (H : Hp) (D : Ends), Inv X pins σ H s → t D σ H → wpAny (model X.prog X.w) X.A (exec st X.env) (SP X pins D) X.xe s
def PSs (X : Cx) (st : List Stmt) (t : TS) : Prop :=
  ∀ (pins : List (Addr × Obj)) (s : Shared) (σ : St) (H : Hp) (D : Ends), Inv X pins σ H s → t D σ H → wpAny (model X.prog X.w) X.A (execs st X.env) (SP X pins D) X.xe s
/-- weaken the end -/
theorem thn {α : Type} {t : Sem α} {Q Q' : α → Shared → Prop} {M : Model} {A : Around} {E : Value → Shared → Prop} {s : Shared} (h : wpAny M A t Q E s) (hQ : ∀ a s, Q a s → Q' a s) : wpAny M A t Q' E s := wpAny_mono h hQ fun _ _ x => x
end L2

namespace L2
open PySem PySem.Spec PyProof.Rows
section
variable {X : Cx}

/-- two expressions in a row -/
theorem bin {a b : Expr} {ta tb : TE} (ha : PE X a ta) (hb : PE X b tb) {pins : List (Addr × Obj)} {s : Shared} {σ : St} {H : Hp} {R : V → V → Hp → Prop} (I : Inv X pins σ H s) (h : ta σ H fun x H1 => tb σ H1 fun y H2 => R x y H2)
    {α : Type} {Q : α → Shared → Prop} {f : Value → Value → Sem α}
    (hf : ∀ v u s2 x y H2, Inv X pins σ H2 s2 → RelV x v → RelV y u → R x y H2 → wpAny (model X.prog X.w) X.A (f v u) Q X.xe s2) :
    wpAny (model X.prog X.w) X.A (eval a X.env) (fun v s₁ => wpAny (model X.prog X.w) X.A (eval b X.env) (fun u s₂ => wpAny (model X.prog X.w) X.A (f v u) Q X.xe s₂) X.xe s₁) X.xe s := by
  refine thn (ha pins s σ H _ I h) fun v s1 ⟨x, H1, I1, r1, q1⟩ => ?_
  refine thn (hb pins s1 σ H1 _ I1 q1) fun u s2 ⟨y, H2, I2, r2, q2⟩ => ?_
  exact hf v u s2 x y H2 I2 r1 r2 q2

/-! ### names and constants -/
def tVar (i : Nat) : TE := fun σ H Q => ∃ v, σ[i]? = some (some v) ∧ Q v H
def tC (v : V) : TE := fun _ H Q => Q v H
theorem pe_var {i : Nat} {x : Str} {pos : Pos} (hN : X.N[i]? = some x) (hv : Vis X.env.scope x) (hd : (x == ("__debug__" : Str)) = false := by decide) (hcd : (x == ("__classdict__" : Str)) = false := by decide) : PE X (.Name x pos) (tVar i) := by
  intro pins s σ H Q I h
  obtain ⟨v, e, h⟩ := h
  obtain ⟨m, hn, hl⟩ := I.loc
  obtain ⟨u, r, l⟩ := hl i x v hN e hv
  have fin : EP X pins σ Q u s := ⟨v, H, I, r, h⟩
  rcases l with ⟨hk, hm⟩ | ⟨hk, c, hc, hcell⟩
  · exact wpAny_Name (wpAny_loadName_local I.ok.kind hk hn hm fin) hd
  · rcases hk with hk | hk
    · exact wpAny_Name (wpAny_loadName_cell I.ok.kind hk hc hcell fin) hd
    · exact wpAny_Name (wpAny_loadName_free I.ok.kind hk hc hcell fin hcd) hd
theorem pe_int {i j pos} : PE X (.Constant (.int i) j pos) (tC (.int i)) := fun _ _ _ H _ I h => wpAny_Constant_int ⟨.int i, H, I.tok _, ⟨_, rfl⟩, h⟩
theorem pe_bl {b j pos} : PE X (.Constant (.bool b) j pos) (tC (.bl b)) := fun _ _ _ H _ I h => Constant_bool ⟨.bl b, H, I, rfl, h⟩
theorem pe_non {j pos} : PE X (.Constant .none j pos) (tC .non) := fun _ _ _ H _ I h => Constant_none ⟨.non, H, I, rfl, h⟩
theorem pe_str {x j pos} : PE X (.Constant (.str x) j pos) (tC (.str x)) := fun _ _ _ H _ I h => Calls.Constant_str ⟨.str x, H, I.tok _, ⟨_, rfl⟩, h⟩

/-- a global name of the def -/
def Gl (X : Cx) (x : Str) : Prop := X.env.kindOf x = some .globalImplicit
theorem ld_glob {E : Value → Shared → Prop} {pins : List (Addr × Obj)} {s : Shared} {σ : St} {H : Hp} {x : Str} {u : Value} {pos : Pos} {Q : Value → Shared → Prop} (I : Inv X pins σ H s) (hg : Gl X x) (hm : X.mg x = some u) (h : Q u s)
    (hd : (x == ("__debug__" : Str)) = false := by decide) : wpAny (model X.prog X.w) X.A (eval (.Name x pos) X.env) Q E s :=
  Calls.Name_function_global I.ok.kind hg (Calls.loadGlobal_global (by rw [I.ok.glob]; exact I.mod.glob.keeps I.bk) hm h) hd
theorem ld_blt {E : Value → Shared → Prop} {pins : List (Addr × Obj)} {s : Shared} {σ : St} {H : Hp} {x : Str} {u : Value} {pos : Pos} {Q : Value → Shared → Prop} (I : Inv X pins σ H s) (hg : Gl X x) (hm : X.mg x = none) (hv : bootBuiltins x = some u) (h : Q u s)
    (hn : x ≠ "__name__" := by decide) (hd : (x == ("__debug__" : Str)) = false := by decide) : wpAny (model X.prog X.w) X.A (eval (.Name x pos) X.env) Q E s := by
  obtain ⟨mb, h1, h2⟩ := I.mod.blt
  exact Calls.Name_function_global I.ok.kind hg (Calls.loadGlobal_builtin (by rw [I.ok.glob]; exact I.mod.glob.keeps I.bk) hm (by rw [I.ok.blt]; exact h1.keeps I.bk) ((h2 x hn).trans hv) h) hd
/-- a module's constant, a class, a function, as a value -/
theorem pe_glob {x : Str} {v : V} {u : Value} {pos : Pos} (hg : Gl X x) (hm : X.mg x = some u) (r : RelV v u) (hd : (x == ("__debug__" : Str)) = false := by decide) : PE X (.Name x pos) (tC v) :=
  fun _ _ _ H _ I h => ld_glob I hg hm ⟨v, H, I, r, h⟩ hd
theorem pe_bltn {x : Str} {v : V} {u : Value} {pos : Pos} (hg : Gl X x) (hm : X.mg x = none) (hv : bootBuiltins x = some u) (r : RelV v u) (hn : x ≠ "__name__" := by decide) (hd : (x == ("__debug__" : Str)) = false := by decide) : PE X (.Name x pos) (tC v) :=
  fun _ _ _ H _ I h => ld_blt I hg hm hv ⟨v, H, I, r, h⟩ hn hd

/-! ### arithmetic -/
/-- two ints -/
def t2I (ta tb : TE) (k : Int → Int → Hp → Prop) : St → Hp → Prop := fun σ H => ta σ H fun x H1 => tb σ H1 fun y H2 => ∃ i j, x = .int i ∧ y = .int j ∧ k i j H2
def tAdd (ta tb : TE) : TE := fun σ H Q => t2I ta tb (fun i j H2 => Q (.int (i + j)) H2) σ H
def tSub (ta tb : TE) : TE := fun σ H Q => t2I ta tb (fun i j H2 => Q (.int (i - j)) H2) σ H
/-- the left factor below 2^64 -/
def tMul (ta tb : TE) : TE := fun σ H Q => t2I ta tb (fun i j H2 => (-(2 ^ 64) < i ∧ i < 2 ^ 64) ∧ Q (.int (i * j)) H2) σ H
variable {a b : Expr} {ta tb : TE} {pos : Pos}
theorem pe_add (ha : PE X a ta) (hb : PE X b tb) : PE X (.BinOp a .Add b pos) (tAdd ta tb) := by
  intro pins s σ H Q I h
  refine wpAny_BinOp (bin ha hb I h fun v u s2 x y H2 I2 rx ry q => ?_)
  obtain ⟨i, j, rfl, rfl, q⟩ := q
  obtain ⟨t, rfl⟩ := rx
  obtain ⟨t', rfl⟩ := ry
  exact add_int ⟨.int _, H2, I2.tok _, ⟨_, rfl⟩, q⟩
theorem pe_sub (ha : PE X a ta) (hb : PE X b tb) : PE X (.BinOp a .Sub b pos) (tSub ta tb) := by
  intro pins s σ H Q I h
  refine wpAny_BinOp (bin ha hb I h fun v u s2 x y H2 I2 rx ry q => ?_)
  obtain ⟨i, j, rfl, rfl, q⟩ := q
  obtain ⟨t, rfl⟩ := rx
  obtain ⟨t', rfl⟩ := ry
  exact sub_int ⟨.int _, H2, I2.tok _, ⟨_, rfl⟩, q⟩
theorem pe_mul (ha : PE X a ta) (hb : PE X b tb) : PE X (.BinOp a .Mult b pos) (tMul ta tb) := by
  intro pins s σ H Q I h
  refine wpAny_BinOp (bin ha hb I h fun v u s2 x y H2 I2 rx ry q => ?_)
  obtain ⟨i, j, rfl, rfl, ⟨q1, q2⟩, q⟩ := q
  obtain ⟨t, rfl⟩ := rx
  obtain ⟨t', rfl⟩ := ry
  exact mul_int ⟨.int _, H2, I2.tok _, ⟨_, rfl⟩, q⟩ (.of_left (intBits_le_64 q1 q2))

/-! ### comparisons -/
def PC (X : Cx) (op : CmpOp) (a b : Expr) (t : TE) : Prop :=
  ∀ (pins : List (Addr × Obj)) (s : Shared) (σ : St) (H : Hp) (Q : VK), Inv X pins σ H s → t σ H Q →
    wpAny (model X.prog X.w) X.A (eval a X.env) (fun v s₁ => wpAny (model X.prog X.w) X.A (eval b X.env) (fun u s₂ => wpAny (model X.prog X.w) X.A (compareOp op v u) (EP X pins σ Q) X.xe s₂) X.xe s₁) X.xe s
theorem nobehind (b : Expr) {op : CmpOp} (h : op ≠ .In) (h2 : op ≠ .NotIn) : behindInMarks op b = false := by
  have e1 : (op == CmpOp.In) = false := by cases op <;> first | rfl | exact absurd rfl h
  have e2 : (op == CmpOp.NotIn) = false := by cases op <;> first | rfl | exact absurd rfl h2
  cases b <;> simp [behindInMarks, e1, e2]
def tCmp (p : Int → Int → Bool) (ta tb : TE) : TE := fun σ H Q => t2I ta tb (fun i j H2 => Q (.bl (p i j)) H2) σ H
abbrev tLt : TE → TE → TE := tCmp fun i j => decide (i < j)
abbrev tLe : TE → TE → TE := tCmp fun i j => decide (i ≤ j)
abbrev tGt : TE → TE → TE := tCmp fun i j => decide (j < i)
abbrev tGe : TE → TE → TE := tCmp fun i j => decide (j ≤ i)
abbrev tEqI : TE → TE → TE := tCmp fun i j => decide (i = j)
abbrev tNeI : TE → TE → TE := tCmp fun i j => !decide (i = j)
/-- a comparison of two ints, by its rule -/
theorem pc_int {op : CmpOp} {p : Int → Int → Bool} (ha : PE X a ta) (hb : PE X b tb)
    (rule : ∀ (i j : Int) (t u : Tok) (Q : Value → Shared → Prop) (s : Shared), Q (.bool (p i j)) s → wpAny (model X.prog X.w) X.A (compareOp op (.int i t) (.int j u)) Q X.xe s) : PC X op a b (tCmp p ta tb) := by
  intro pins s σ H Q I h
  refine bin ha hb I h fun v u s2 x y H2 I2 rx ry q => ?_
  obtain ⟨i, j, rfl, rfl, q⟩ := q
  obtain ⟨t, rfl⟩ := rx
  obtain ⟨t', rfl⟩ := ry
  exact rule i j t t' _ s2 ⟨.bl _, H2, I2, rfl, q⟩
theorem pc_lt (ha : PE X a ta) (hb : PE X b tb) : PC X .Lt a b (tLt ta tb) := pc_int ha hb fun _ _ _ _ _ _ h => lt_int h
theorem pc_le (ha : PE X a ta) (hb : PE X b tb) : PC X .LtE a b (tLe ta tb) := pc_int ha hb fun _ _ _ _ _ _ h => le_int h
theorem pc_gt (ha : PE X a ta) (hb : PE X b tb) : PC X .Gt a b (tGt ta tb) := pc_int ha hb fun _ _ _ _ _ _ h => gt_int h
theorem pc_ge (ha : PE X a ta) (hb : PE X b tb) : PC X .GtE a b (tGe ta tb) := pc_int ha hb fun _ _ _ _ _ _ h => ge_int h
theorem pc_eqI (ha : PE X a ta) (hb : PE X b tb) : PC X .Eq a b (tEqI ta tb) := pc_int ha hb fun _ _ _ _ _ _ h => eq_int (by rw [Bool.beq_eq_decide_eq]; exact h)
theorem pc_neI (ha : PE X a ta) (hb : PE X b tb) : PC X .NotEq a b (tNeI ta tb) := pc_int ha hb fun _ _ _ _ _ _ h => ne_int (by rw [bne, Bool.beq_eq_decide_eq]; exact h)
/-- is None -/
def tIsN (ta : TE) : TE := fun σ H Q => ta σ H fun x H1 => Q (.bl (decide (x = .non))) H1
def tNotN (ta : TE) : TE := fun σ H Q => ta σ H fun x H1 => Q (.bl (!decide (x = .non))) H1
theorem RelV.none_iff {x : V} {v : Value} (r : RelV x v) : (v == Value.none) = decide (x = .non) := by
  cases x with
  | non => cases r; rfl
  | bl _ => cases r; rfl
  | int _ => obtain ⟨t, rfl⟩ := r; rfl
  | str _ => obtain ⟨t, rfl⟩ := r; rfl
  | byt _ => obtain ⟨t, rfl⟩ := r; rfl
  | flt _ => obtain ⟨t, rfl⟩ := r; rfl
  | ref _ => cases r; rfl
  | ty _ => cases r; rfl
theorem pc_isN {j pos'} (ha : PE X a ta) : PC X .Is a (.Constant .none j pos') (tIsN ta) := by
  intro pins s σ H Q I h
  refine thn (ha pins s σ H _ I h) fun v s1 ⟨x, H1, I1, r1, q1⟩ => ?_
  exact Constant_none (is_none_gen ⟨.bl _, H1, I1, by rw [r1.none_iff]; rfl, q1⟩)
theorem pc_notN {j pos'} (ha : PE X a ta) : PC X .IsNot a (.Constant .none j pos') (tNotN ta) := by
  intro pins s σ H Q I h
  refine thn (ha pins s σ H _ I h) fun v s1 ⟨x, H1, I1, r1, q1⟩ => ?_
  exact Constant_none (isnot_none_gen ⟨.bl _, H1, I1, by rw [r1.none_iff]; rfl, q1⟩)
/-- a comparison as a value, as a test -/
def tB (t : TE) : TT := fun σ H Q => t σ H fun x H1 => ∃ c, x = .bl c ∧ Q c H1
theorem pe_cmp {op : CmpOp} {t : TE} (h : PC X op a b t) (h1 : behindInMarks op b = false := by first | exact nobehind _ (by decide) (by decide) | rfl) : PE X (.Compare a [op] [b] pos) t := fun pins s σ H Q I hw => wpAny_Compare1 (h pins s σ H Q I hw) h1
theorem pt_cmp {op : CmpOp} {t : TE} (h : PC X op a b t) (h1 : behindInMarks op b = false := by first | exact nobehind _ (by decide) (by decide) | rfl) : PT X (.Compare a [op] [b] pos) (tB t) := by
  intro pins s σ H Q I hw
  refine wpAny_isTrue_Compare1 (thn (h pins s σ H _ I hw) fun v s1 h1 => thn h1 fun u s2 h2 => thn h2 fun c s3 ⟨x, H1, I1, r1, q1⟩ => ?_) h1
  obtain ⟨d, rfl, q⟩ := q1
  cases r1
  exact wpAny_truthy_bool ⟨H1, I1, q⟩
/-- an expression whose value is a bool, as a test -/
theorem pt_val {e : Expr} {t : TE} (h : PE X e t) (he : ∀ whole, isTrue e X.env whole = (do let v ← whole; standAt e.pos; holding [v] (truthy v)) := by intro _; rfl) : PT X e (tB t) := by
  intro pins s σ H Q I hw
  refine isTrue_plain (thn (h pins s σ H _ I hw) fun v s1 ⟨x, H1, I1, r1, q1⟩ => ?_) (he _)
  obtain ⟨d, rfl, q⟩ := q1
  cases r1
  exact wpAny_truthy_bool ⟨H1, I1, q⟩

/-! ### and, or, not -/
variable {tA tB' : TT} {rest : List Expr}
def tAnd (t u : TT) : TT := fun σ H Q => t σ H fun c H1 => if c = true then u σ H1 Q else Q false H1
def tOr (t u : TT) : TT := fun σ H Q => t σ H fun c H1 => if c = true then Q true H1 else u σ H1 Q
def tNot (t : TT) : TT := fun σ H Q => t σ H fun c H1 => Q (!c) H1
theorem pw_and1 (ha : PT X a tA) : PW X (.BoolOp .And [a] pos) tA := by
  intro wh pins s σ H Q I h
  refine isTrue_and (thn (ha pins s σ H Q I h) fun c s1 e => ?_)
  cases c with
  | true => exact isTrue_and_nil e
  | false => exact e
theorem pw_or1 (ha : PT X a tA) : PW X (.BoolOp .Or [a] pos) tA := by
  intro wh pins s σ H Q I h
  refine isTrue_or (thn (ha pins s σ H Q I h) fun c s1 e => ?_)
  cases c with
  | false => exact isTrue_or_nil e
  | true => exact e
theorem pw_and (ha : PT X a tA) (hb : PW X (.BoolOp .And (b :: rest) pos) tB') : PW X (.BoolOp .And (a :: b :: rest) pos) (tAnd tA tB') := by
  intro wh pins s σ H Q I h
  refine isTrue_and (thn (ha pins s σ H _ I h) fun c s1 ⟨H1, I1, q1⟩ => ?_)
  cases c with
  | true => exact hb wh pins s1 σ H1 Q I1 q1
  | false => exact ⟨H1, I1, q1⟩
theorem pw_or (ha : PT X a tA) (hb : PW X (.BoolOp .Or (b :: rest) pos) tB') : PW X (.BoolOp .Or (a :: b :: rest) pos) (tOr tA tB') := by
  intro wh pins s σ H Q I h
  refine isTrue_or (thn (ha pins s σ H _ I h) fun c s1 ⟨H1, I1, q1⟩ => ?_)
  cases c with
  | true => exact ⟨H1, I1, q1⟩
  | false => exact hb wh pins s1 σ H1 Q I1 q1
theorem pt_not (ha : PT X a tA) : PT X (.UnaryOp .Not a pos) (tNot tA) := by
  intro pins s σ H Q I h
  exact isTrue_not (ha pins s σ H (fun c H1 => Q (!c) H1) I h)
/-- .. as values (bools) -/
def tAndV (ta tb : TE) : TE := fun σ H Q => ta σ H fun x H1 => ∃ c, x = .bl c ∧ if c = true then tb σ H1 Q else Q (.bl false) H1
def tOrV (ta tb : TE) : TE := fun σ H Q => ta σ H fun x H1 => ∃ c, x = .bl c ∧ if c = true then Q (.bl true) H1 else tb σ H1 Q
def tNotV (ta : TE) : TE := fun σ H Q => ta σ H fun x H1 => ∃ c, x = .bl c ∧ Q (.bl (!c)) H1
theorem pe_one {op} {t : TE} (h : PE X a t) : PE X (.BoolOp op [a] pos) t := fun pins s σ H Q I hw => BoolOp_one (h pins s σ H Q I hw)
theorem pe_and (ha : PE X a ta) (hb : PE X (.BoolOp .And (b :: rest) pos) tb) : PE X (.BoolOp .And (a :: b :: rest) pos) (tAndV ta tb) := by
  intro pins s σ H Q I h
  refine BoolOp_and (thn (ha pins s σ H _ I h) fun v s1 ⟨x, H1, I1, r1, q1⟩ => ?_)
  obtain ⟨c, rfl, q1⟩ := q1
  cases r1
  refine wpAny_truthy_bool ?_
  cases c with
  | true => exact hb pins s1 σ H1 Q I1 q1
  | false => exact ⟨.bl false, H1, I1, rfl, q1⟩
theorem pe_or (ha : PE X a ta) (hb : PE X (.BoolOp .Or (b :: rest) pos) tb) : PE X (.BoolOp .Or (a :: b :: rest) pos) (tOrV ta tb) := by
  intro pins s σ H Q I h
  refine BoolOp_or (thn (ha pins s σ H _ I h) fun v s1 ⟨x, H1, I1, r1, q1⟩ => ?_)
  obtain ⟨c, rfl, q1⟩ := q1
  cases r1
  refine wpAny_truthy_bool ?_
  cases c with
  | false => exact hb pins s1 σ H1 Q I1 q1
  | true => exact ⟨.bl true, H1, I1, rfl, q1⟩
theorem pe_not (ha : PE X a ta) : PE X (.UnaryOp .Not a pos) (tNotV ta) := by
  intro pins s σ H Q I h
  refine UnaryOp_ (thn (ha pins s σ H _ I h) fun v s1 ⟨x, H1, I1, r1, q1⟩ => ?_)
  obtain ⟨c, rfl, q1⟩ := q1
  cases r1
  exact not_of (wpAny_truthy_bool ⟨.bl (!c), H1, I1, rfl, q1⟩)
/-- a if t else b -/
def tIf (t : TT) (ta tb : TE) : TE := fun σ H Q => t σ H fun c H1 => if c = true then ta σ H1 Q else tb σ H1 Q
theorem pe_ifExp {c : Expr} (hc : PT X c tA) (ha : PE X a ta) (hb : PE X b tb) : PE X (.IfExp c a b pos) (tIf tA ta tb) := by
  intro pins s σ H Q I h
  refine wpAny_IfExp (thn (hc pins s σ H _ I h) fun d s1 ⟨H1, I1, q1⟩ => ?_)
  cases d with
  | true => exact ha pins s1 σ H1 Q I1 q1
  | false => exact hb pins s1 σ H1 Q I1 q1
end
end L2

namespace L2
open PySem PySem.Spec PyProof.Rows

/-! ### a list, a tuple that is read: tracked, frozen, or an object of the module -/
def SqL (K : PySem.W.Frag) (H : Hp) (a : Addr) (xs : List V) : Prop :=
  Rd H a (.lst xs) ∨
    ∃ (o : Obj) (its : Array Value) (n : Nat), K.lookup a = some o ∧ o.cls = .type "list" ∧ o.dict = none ∧ o.data = .seq its n ∧ its.size ≤ sizeLine ∧ Vals xs its.toList
def SqT (K : PySem.W.Frag) (H : Hp) (a : Addr) (xs : List V) : Prop :=
  Rd H a (.tup xs) ∨
    ∃ (o : Obj) (its : Array Value) (n : Nat), K.lookup a = some o ∧ o.cls = .type "tuple" ∧ o.data = .seq its n ∧ its.size ≤ sizeLine ∧ Vals xs its.toList
def absV : Value → Option V
  | .none => some .non
  | .bool b => some (.bl b)
  | .int i _ => some (.int i)
  | .str x _ => some (.str x)
  | .bytes b _ => some (.byt b)
  | .float b _ => some (.flt b)
  | .ref a => some (.ref a)
  | .type n => some (.ty n)
  | _ => none
theorem RelV.abs {x : V} {u : Value} (r : RelV x u) : absV u = some x := by
  cases x with
  | non => cases r; rfl
  | bl _ => cases r; rfl
  | int _ => obtain ⟨t, rfl⟩ := r; rfl
  | str _ => obtain ⟨t, rfl⟩ := r; rfl
  | byt _ => obtain ⟨t, rfl⟩ := r; rfl
  | flt _ => obtain ⟨t, rfl⟩ := r; rfl
  | ref _ => cases r; rfl
  | ty _ => cases r; rfl
theorem RelV.inj {x y : V} {u : Value} (r : RelV x u) (q : RelV y u) : x = y := Option.some.inj (r.abs.symm.trans q.abs)
theorem Vals.inj : ∀ {xs ys : List V} {us : List Value}, Vals xs us → Vals ys us → xs = ys
  | _, _, _, .nil, .nil => rfl
  | _, _, _, .cons r t, .cons r' t' => by rw [r.inj r', Vals.inj t t']
section
variable {X : Cx} {pins : List (Addr × Obj)} {σ : St} {H : Hp} {s : Shared} {a : Addr} {xs ys : List V}
theorem SqL.of {K : PySem.W.Frag} (h : H a = some (.lst xs)) : SqL K H a xs := .inl (.inl h)
theorem SqT.of {K : PySem.W.Frag} (h : H a = some (.tup xs)) : SqT K H a xs := .inl (.inl h)
theorem Inv.list (I : Inv X pins σ H s) (h : SqL X.K H a xs) : ∃ its : List Value, Vals xs its ∧ PlainL s.heap a its.toArray ∧ xs.length ≤ sizeLine := by
  rcases h with h | ⟨o, its, n, hk, hc, hd, hs, hz, r⟩
  · obtain ⟨z, its, n, r, e⟩ := h.ok I.hok
    exact ⟨its, r, ⟨_, n, e, rfl, rfl, rfl⟩, z⟩
  · refine ⟨its.toList, r, ⟨o, n, I.kIn a o hk, hc, hd, by simpa using hs⟩, ?_⟩
    have e := r.length
    simp only [Array.length_toList] at e
    omega
theorem Inv.tuple (I : Inv X pins σ H s) (h : SqT X.K H a xs) : ∃ its : List Value, Vals xs its ∧ IsTup s.heap a its.toArray ∧ xs.length ≤ sizeLine := by
  rcases h with h | ⟨o, its, n, hk, hc, hs, hz, r⟩
  · obtain ⟨z, its, r, p⟩ := h.ok I.hok
    exact ⟨its, r, p, z⟩
  · refine ⟨its.toList, r, ⟨o, I.kIn a o hk, hc, n, by simpa using hs⟩, ?_⟩
    have e := r.length
    simp only [Array.length_toList] at e
    omega
theorem Inv.list_inj (I : Inv X pins σ H s) (h : SqL X.K H a xs) (h' : SqL X.K H a ys) : xs = ys := by
  obtain ⟨its, r, ⟨o, n, e, _, _, d⟩, _⟩ := I.list h
  obtain ⟨its', r', ⟨o', n', e', _, _, d'⟩, _⟩ := I.list h'
  rw [e] at e'; cases e'
  rw [d] at d'
  injection d' with d1 _
  have : its = its' := by simpa using congrArg Array.toList d1
  subst this
  exact r.inj r'
theorem Inv.tuple_inj (I : Inv X pins σ H s) (h : SqT X.K H a xs) (h' : SqT X.K H a ys) : xs = ys := by
  obtain ⟨its, r, ⟨o, e, _, n, d⟩, _⟩ := I.tuple h
  obtain ⟨its', r', ⟨o', e', _, n', d'⟩, _⟩ := I.tuple h'
  rw [e] at e'; cases e'
  rw [d] at d'
  injection d' with d1 _
  have : its = its' := by simpa using congrArg Array.toList d1
  subst this
  exact r.inj r'
end

/-! ### another wish about exceptions -/
abbrev Cx.wish (X : Cx) (E : Value → Shared → Prop) : Cx := { X with xe := E }
/-- no exception leaves -/
abbrev Cx.nox (X : Cx) : Cx := X.wish fun _ _ => False
theorem Cx.Ok.wish {X : Cx} (ok : X.Ok) (E : Value → Shared → Prop) : (X.wish E).Ok :=
  ⟨ok.mod, ok.kind, ok.glob, ok.blt, ok.above, ok.inj, ok.has, ok.cab, ok.hd, ok.frames, ok.stk, ok.exf, ok.bs, ok.bsz, ok.noex, ok.exfs, ok.funs, ok.frf⟩
theorem Cx.Ok.unwish {X : Cx} {E : Value → Shared → Prop} (ok : (X.wish E).Ok) : X.Ok :=
  ⟨ok.mod, ok.kind, ok.glob, ok.blt, ok.above, ok.inj, ok.has, ok.cab, ok.hd, ok.frames, ok.stk, ok.exf, ok.bs, ok.bsz, ok.noex, ok.exfs, ok.funs, ok.frf⟩
section
variable {X : Cx} {pins : List (Addr × Obj)} {σ : St} {H : Hp} {s : Shared} {E : Value → Shared → Prop}
theorem Inv.wish (I : Inv X pins σ H s) (E : Value → Shared → Prop) : Inv (X.wish E) pins σ H s := ⟨I.ok.wish E, I.os, I.bare, I.base, I.loc, I.cell, I.free, I.freeC, I.pin, I.hok, I.len⟩
theorem Inv.unwish (I : Inv (X.wish E) pins σ H s) : Inv X pins σ H s := ⟨I.ok.unwish, I.os, I.bare, I.base, I.loc, I.cell, I.free, I.freeC, I.pin, I.hok, I.len⟩
theorem SP.unwish {D : Ends} {f : Flow} {s' : Shared} (h : SP (X.wish E) pins D f s') : SP X pins D f s' := by
  cases f with
  | next => obtain ⟨σ', H', I, q⟩ := h; exact ⟨σ', H', I.unwish, q⟩
  | brk => obtain ⟨σ', H', I, q⟩ := h; exact ⟨σ', H', I.unwish, q⟩
  | cont => obtain ⟨σ', H', I, q⟩ := h; exact ⟨σ', H', I.unwish, q⟩
  | ret u => obtain ⟨v, σ', H', I, r, q⟩ := h; exact ⟨v, σ', H', I.unwish, r, q⟩
theorem PE.nox {e : Expr} {t : TE} (h : PE X.nox e t) : PE X e t := fun pins s σ H Q I hw =>
  wpAny_mono (h pins s σ H Q (I.wish _) hw) (fun _ _ ⟨v, H', I', r, q⟩ => ⟨v, H', I'.unwish, r, q⟩) fun _ _ z => False.elim z
theorem PT.nox {e : Expr} {t : TT} (h : PT X.nox e t) : PT X e t := fun pins s σ H Q I hw =>
  wpAny_mono (h pins s σ H Q (I.wish _) hw) (fun _ _ ⟨H', I', q⟩ => ⟨H', I'.unwish, q⟩) fun _ _ z => False.elim z
theorem PSs.nox {st : List Stmt} {t : TS} (h : PSs X.nox st t) : PSs X st t := fun pins s σ H D I hw =>
  wpAny_mono (h pins s σ H D (I.wish _) hw) (fun _ _ q => q.unwish) fun _ _ z => False.elim z
end

/-! ### blocks and small statements -/
section
variable {X : Cx} {st : Stmt} {rest : List Stmt} {t u : TS} {e : Expr} {te : TE} {pos : Pos}
def tNext : TS := fun D σ H => D.nx σ H
def tSeq (t u : TS) : TS := fun D σ H => t { D with nx := u D } σ H
theorem pss_nil : PSs X [] tNext := fun _ _ σ H _ I h => wpAny_execs_nil ⟨σ, H, I, h⟩
theorem pss_cons (h1 : PS X st t) (h2 : PSs X rest u) : PSs X (st :: rest) (tSeq t u) := by
  intro pins s σ H D I h
  refine wpAny_execs_cons (thn (h1 pins s σ H { D with nx := u D } I h) fun f s1 q => ?_)
  cases f with
  | next =>
    obtain ⟨σ', H', I', q⟩ := q
    exact h2 pins s1 σ' H' D I' q
  | ret v => exact q
  | brk => exact q
  | cont => exact q
theorem pss_one (h1 : PS X st t) : PSs X [st] t := by
  intro pins s σ H D I h
  refine wpAny_execs_cons (thn (h1 pins s σ H D I h) fun f s1 q => ?_)
  cases f with
  | next => exact wpAny_execs_nil q
  | ret v => exact q
  | brk => exact q
  | cont => exact q
def tBreak : TS := fun D σ H => D.bk σ H
def tCont : TS := fun D σ H => D.ct σ H
theorem ps_pass : PS X (.Pass pos) tNext := fun _ _ σ H _ I h => wpAny_Pass ⟨σ, H, I, h⟩
theorem ps_break : PS X (.Break pos) tBreak := fun _ _ σ H _ I h => wpAny_Break ⟨σ, H, I, h⟩
theorem ps_continue : PS X (.Continue pos) tCont := fun _ _ σ H _ I h => wpAny_Continue ⟨σ, H, I, h⟩
/-- in a def's body nothing is shown -/
theorem Inv.quiet {pins : List (Addr × Obj)} {σ : St} {H : Hp} {s : Shared} (I : Inv X pins σ H s) : interactive X.env = false := by simp [interactive, I.ok.kind]
/-- a docstring -/
theorem ps_doc {x j pos pos'} : PS X (.Expr (.Constant (.str x) j pos) pos') tNext := fun _ s σ H _ I h => wpAny_Expr (Calls.Constant_str (show SP X _ _ .next { s with toks := s.toks + 1 } from ⟨σ, H, I.tok _, h⟩)) I.quiet
/-- an expression whose value is dropped -/
def tDrop (te : TE) : TS := fun D σ H => te σ H fun _ H1 => D.nx σ H1
theorem ps_expr (he : PE X e te) (hs : swapsWith e none pos.line X.env = pure false := by rfl) : PS X (.Expr e pos) (tDrop te) := by
  intro pins s σ H D I h
  exact wpAny_Expr_any (thn (he pins s σ H _ I h) fun v s1 ⟨x, H1, I1, r1, q1⟩ => ⟨σ, H1, I1, q1⟩) I.quiet hs
def tRet (te : TE) : TS := fun D σ H => te σ H D.rt
theorem ps_ret (he : PE X e te) : PS X (.Return (some e) pos) (tRet te) := by
  intro pins s σ H D I h
  exact wpAny_Return_some (thn (he pins s σ H _ I h) fun v s1 ⟨x, H1, I1, r1, q1⟩ => ⟨x, σ, H1, I1, r1, q1⟩)
def tRetN : TS := fun D _ H => D.rt .non H
theorem ps_retN : PS X (.Return none pos) tRetN := fun _ _ σ H _ I h => wpAny_Return_none ⟨.non, σ, H, I, rfl, h⟩
def tIfS (c : TT) (t u : TS) : TS := fun D σ H => c σ H fun b H1 => if b = true then t D σ H1 else u D σ H1
theorem ps_if {c : Expr} {a b : List Stmt} {tc : TT} (hc : PT X c tc) (ha : PSs X a t) (hb : PSs X b u) : PS X (.If c a b pos) (tIfS tc t u) := by
  intro pins s σ H D I h
  refine wpAny_If (thn (hc pins s σ H _ I h) fun d s1 ⟨H1, I1, q1⟩ => ?_)
  cases d with
  | true => exact ha pins s1 σ H1 D I1 q1
  | false => exact hb pins s1 σ H1 D I1 q1
/-- code that the proof never comes to -/
def tNever : TS := fun _ _ _ => False
theorem ps_never : PS X st tNever := fun _ _ _ _ _ _ h => h.elim
theorem pss_never {sts : List Stmt} : PSs X sts tNever := fun _ _ _ _ _ _ h => h.elim
end

/-! ### targets -/
abbrev TG := V → St → Hp → (St → Hp → Prop) → Prop
abbrev TGs := List V → St → Hp → (St → Hp → Prop) → Prop
def PG (X : Cx) (target : Expr) (t : TG) : Prop :=
  ∀ (pins : List (Addr × Obj)) (s : Shared) (σ : St) (H : Hp) (v : V) (u : Value) (Q : St → Hp → Prop), Inv X pins σ H s → RelV v u → t v σ H Q →
    wpAny (model X.prog X.w) X.A (assign target X.env u) (fun _ s' => ∃ σ' H', Inv X pins σ' H' s' ∧ Q σ' H') X.xe s
/-- several targets, one after another -/
def PGs (X : Cx) (ts : List Expr) (t : TGs) : Prop :=
  ∀ (pins : List (Addr × Obj)) (s : Shared) (σ : St) (H : Hp) (vs : List V) (us : List Value) (Q : St → Hp → Prop), Inv X pins σ H s → Vals vs us → t vs σ H Q →
    wpAny (model X.prog X.w) X.A (assignInOrder ((assignEach ts X.env).map (·.2)) us) (fun _ s' => ∃ σ' H', Inv X pins σ' H' s' ∧ Q σ' H') X.xe s
/-- o[i] = v, by values -/
abbrev TSet := V → V → V → Hp → (Hp → Prop) → Prop
def PSet (X : Cx) (t : TSet) : Prop :=
  ∀ (pins : List (Addr × Obj)) (s : Shared) (σ : St) (H : Hp) (o i v : V) (ov iv u : Value) (Q : Hp → Prop), Inv X pins σ H s → RelV o ov → RelV i iv → RelV v u → t o i v H Q →
    wpAny (model X.prog X.w) X.A (setItem ov iv u) (fun _ s' => ∃ H', Inv X pins σ H' s' ∧ Q H') X.xe s
/-- a op= b, by values -/
abbrev TIp := V → V → Hp → VK → Prop
def PIp (X : Cx) (op : Operator) (t : TIp) : Prop :=
  ∀ (pins : List (Addr × Obj)) (s : Shared) (σ : St) (H : Hp) (x y : V) (v u : Value) (Q : VK), Inv X pins σ H s → RelV x v → RelV y u → t x y H Q →
    wpAny (model X.prog X.w) X.A (inplaceOp op v u) (EP X pins σ Q) X.xe s
section
variable {X : Cx} {pos : Pos}
def gName (i : Nat) : TG := fun v σ H Q => Q (σ.set i (some v)) H
theorem pg_name {i : Nat} {x : Str} (hN : X.N.Nodup) (hi : X.N[i]? = some x) (hx : Loc X.env.scope x) (hf : X.fn x = true ∨ X.env.scope.names.lookup x = some .local := by first | exact .inl rfl | exact .inr rfl | assumption) : PG X (.Name x pos) (gName i) := by
  intro pins s σ H v u Q I r h
  exact wpAny_assign_Name (store_ok I hN hi hx r (fun s' I' => ⟨_, H, I', h⟩) hf)
def gNil : TGs := fun vs σ H Q => vs = [] ∧ Q σ H
def gCons (t : TG) (u : TGs) : TGs := fun vs σ H Q => ∃ v r, vs = v :: r ∧ t v σ H fun σ' H' => u r σ' H' Q
theorem pgs_nil : PGs X [] gNil := by
  intro pins s σ H vs us Q I r h
  obtain ⟨e, h⟩ := h
  subst e
  cases r
  exact assignInOrder_nil ⟨σ, H, I, h⟩
theorem pgs_cons {e : Expr} {es : List Expr} {t : TG} {u : TGs} (h1 : PG X e t) (h2 : PGs X es u)
    (hs : (assignEach (e :: es) X.env).map (·.2) = assign e X.env :: (assignEach es X.env).map (·.2) := by rfl) : PGs X (e :: es) (gCons t u) := by
  intro pins s σ H vs us Q I r h
  obtain ⟨v, vr, e1, h⟩ := h
  subst e1
  cases r with
  | cons r rr =>
    rw [hs]
    refine assignInOrder_cons (thn (h1 pins s σ H _ _ _ I r h) fun _ s1 ⟨σ1, H1, I1, q1⟩ => ?_)
    exact h2 pins s1 σ1 H1 _ _ Q I1 rr q1
/-- (a, b, ..) = a tuple of that length -/
def gTup (K : PySem.W.Frag) (n : Nat) (t : TGs) : TG := fun v σ H Q => ∃ a xs, v = .ref a ∧ SqT K H a xs ∧ xs.length = n ∧ t xs σ H Q
theorem pg_tup {es : List Expr} {k : Nat} {t : TGs} {n : Nat} (hc : X.calm = true) (h : PGs X es t)
    (hn : (assignEach es X.env).length = n := by rfl) (hst : (assignEach es X.env).findIdx? (·.1) = none := by rfl) : PG X (.Tuple es k pos) (gTup X.K n t) := by
  intro pins s σ H v u Q I r hw
  obtain ⟨a, xs, e1, hq, hl, hw⟩ := hw
  subst e1
  cases r
  obtain ⟨its, rv, ht, hz⟩ := I.tuple hq
  refine assign_Tuple_tuple (I.ok.hd hc) ht (by simp [hn, ← hl, rv.length]) hst fun h' hx => ?_
  have I1 : Inv X pins σ H { s with heap := h' } := I.kept (t' := s.toks) fun b o e => hx b o (Nat.ne_of_lt (Heap.lt_size e)) e
  exact h pins _ σ H xs _ Q I1 (by simpa using rv) hw
/-- o[i] = .. -/
def gSub (to ti : TE) (t : TSet) : TG := fun v σ H Q => to σ H fun o H1 => ti σ H1 fun i H2 => t o i v H2 fun H3 => Q σ H3
theorem pg_sub {o i : Expr} {to ti : TE} {t : TSet} (ho : PE X o to) (hi : PE X i ti) (hs : PSet X t)
    (ha : ∀ v, assign (.Subscript o i pos) X.env v = (do
      let ov ← holding [v] (eval o X.env)
      let iv ← holding [v, ov] (eval i X.env)
      standAt pos
      holding [v, ov, iv] (setItem ov iv v)
      release [v, ov, iv] []) := by intro _; rfl) : PG X (.Subscript o i pos) (gSub to ti t) := by
  intro pins s σ H v u Q I r h
  rw [ha]
  refine wpAny_bind (wpAny_holding (thn (ho pins s σ H _ I h) fun ov s1 ⟨x, H1, I1, r1, q1⟩ => ?_))
  refine wpAny_bind (wpAny_holding (thn (hi pins s1 σ H1 _ I1 q1) fun iv s2 ⟨y, H2, I2, r2, q2⟩ => ?_))
  refine wpAny_bind (wpAny_standAt (wpAny_bind (wpAny_holding (thn (hs pins s2 σ H2 x y v ov iv u _ I2 r1 r2 r q2) fun _ s3 ⟨H3, I3, q3⟩ => ?_))))
  exact wpAny_release ⟨σ, H3, I3, q3⟩
/-- target = value -/
def tAsg (te : TE) (g : TG) : TS := fun D σ H => te σ H fun x H1 => g x σ H1 D.nx
theorem ps_asg {tg e : Expr} {te : TE} {g : TG} (he : PE X e te) (hg : PG X tg g) (hs : swapsWithSole [tg] e pos.line X.env = pure false := by rfl) (hw : swappedStores [tg] e X.env = pure none := by rfl)
    (h1 : (assignEach [tg] X.env).map (·.2) = [assign tg X.env] := by rfl) : PS X (.Assign [tg] e pos) (tAsg te g) := by
  intro pins s σ H D I h
  refine wpAny_Assign_stores (thn (he pins s σ H _ I h) fun v s1 ⟨x, H1, I1, r1, q1⟩ => ?_) hs hw
  rw [h1]
  exact thn (hg pins s1 σ H1 x v _ I1 r1 q1) fun _ s2 q => q
/-- name = value -/
theorem ps_set {i : Nat} {x : Str} {e : Expr} {te : TE} {pos' : Pos} (hN : X.N.Nodup) (hi : X.N[i]? = some x) (hx : Loc X.env.scope x) (he : PE X e te) (hs : swapsWith e (some (.Name x pos')) pos.line X.env = pure false := by rfl) (hf : X.fn x = true ∨ X.env.scope.names.lookup x = some .local := by first | exact .inl rfl | exact .inr rfl | assumption) :
    PS X (.Assign [.Name x pos'] e pos) (tAsg te (gName i)) := by
  intro pins s σ H D I h
  refine wpAny_Assign_Name (thn (he pins s σ H _ I h) fun v s1 ⟨y, H1, I1, r1, q1⟩ => ?_) hs
  exact store_ok I1 hN hi hx r1 (fun s2 I2 => ⟨_, H1, I2, q1⟩) hf
/-- a, b = x, y with plain local names: stored from the right; the pair itself is not tracked (the opening rows as in PyProof/Rows/TupAssign.lean:23) -/
def tPar (i j : Nat) (ta : TA) : TS := fun D σ H => ta σ H fun vs H1 => ∃ v w, vs = [v, w] ∧ D.nx ((σ.set i (some v)).set j (some w)) H1
theorem ps_par {i j : Nat} {x y : Str} {a b : Expr} {ta : TA} {px py pt : Pos} {kt k2 pt2} (hc : X.calm = true) (hN : X.N.Nodup) (hi : X.N[i]? = some x) (hj : X.N[j]? = some y) (hij : i ≠ j)
    (hx : X.env.scope.names.lookup x = some .local) (hy : X.env.scope.names.lookup y = some .local) (ha : PA X [a, b] ta)
    (hw : swappedStores [.Tuple [.Name x px, .Name y py] kt pt] (.Tuple [a, b] k2 pt2) X.env = pure (some [x, y]))
    (hs : swapsWithSole [.Tuple [.Name x px, .Name y py] kt pt] (.Tuple [a, b] k2 pt2) pos.line X.env = pure false := by rfl) :
    PS X (.Assign [.Tuple [.Name x px, .Name y py] kt pt] (.Tuple [a, b] k2 pt2) pos) (tPar i j ta) := by
  intro pins s σ H D I h
  rw [exec_Assign_arm]
  refine wpAny_bind (wpAny_standAt ?_)
  rw [hs]
  refine wpAny_bind (wpAny_pure ?_)
  rw [if_neg (by decide)]
  refine wpAny_bind (Tuple_ (thn (ha _ pins s σ H _ I h) fun us s1 ⟨vs, H1, I1, r1, q1⟩ => ?_))
  obtain ⟨v, w, e1, q1⟩ := q1
  subst e1
  obtain ⟨u1, u2, rfl, rv, rw'⟩ : ∃ u1 u2, us = [u1, u2] ∧ RelV v u1 ∧ RelV w u2 := by
    cases r1 with
    | cons p q =>
      cases q with
      | cons p' q' =>
        cases q'
        exact ⟨_, _, rfl, p, p'⟩
  refine wpAny_newObj_type ?_ (by show 2 ≤ sizeLine; decide)
  have I2 : Inv X pins σ H1 { s1 with heap := s1.heap.push { cls := .type "tuple", data := .seq [u1, u2].toArray } } := I1.kept (t' := s1.toks) fun b o e => Heap.get?_push_of_some _ e
  rw [hw]
  refine wpAny_bind (wpAny_pure ?_)
  show wpAny (model X.prog X.w) X.A (do rule "assign.swapped-stores"; let items ← unpackItems (.ref s1.heap.objs.size) 2 none; assignInOrder [fun v => bindName X.env y v, fun v => bindName X.env x v] items.reverse; pure Flow.next) _ _ _
  refine wpAny_bind (wpAny_rule (wpAny_bind (unpackItems_tuple (items := #[u1, u2]) (I.ok.hd hc) (IsTup.new s1.heap _) fun h' hx' => ?_)))
  have I3 := I2.kept (h' := h') (t' := s1.toks) fun b o e => hx' b o (Nat.ne_of_lt (Heap.lt_size e)) e
  show wpAny _ _ (assignInOrder [fun v => bindName X.env y v, fun v => bindName X.env x v] [u2, u1] >>= fun _ => pure Flow.next) _ _ _
  refine wpAny_bind (assignInOrder_cons (wpAny_bindName (store_ok I3 hN hj (.inl hy) rw' (fun s2 I4 => ?_) (.inr hy))))
  refine assignInOrder_cons (wpAny_bindName (store_ok I4 hN hi (.inl hx) rv (fun s3 I5 => assignInOrder_nil (wpAny_pure ?_)) (.inr hx)))
  rw [List.set_comm _ _ (Ne.symm hij)] at I5
  exact ⟨_, H1, I5, q1⟩
/-- name op= e -/
def tAug (i : Nat) (te : TE) (ti : TIp) : TS := fun D σ H => ∃ x, σ[i]? = some (some x) ∧ te σ H fun y H1 => ti x y H1 fun z H2 => D.nx (σ.set i (some z)) H2
theorem ps_aug {i : Nat} {x : Str} {e : Expr} {te : TE} {op : Operator} {ti : TIp} {pos' : Pos} (hN : X.N.Nodup) (hi : X.N[i]? = some x) (hx : Loc X.env.scope x) (he : PE X e te) (ho : PIp X op ti) (hf : X.fn x = true ∨ X.env.scope.names.lookup x = some .local := by first | exact .inl rfl | exact .inr rfl | assumption) :
    PS X (.AugAssign (.Name x pos') op e pos) (tAug i te ti) := by
  intro pins s σ H D I h
  obtain ⟨v, e1, h⟩ := h
  obtain ⟨m, hn, hl⟩ := I.loc
  have vis : Vis X.env.scope x := by rcases hx with k | k; exact .inl k; exact .inr (.inl k)
  obtain ⟨u, r, l⟩ := hl i x v hi e1 vis
  refine wpAny_AugAssign_Name ?_
  have go : wpAny (model X.prog X.w) X.A (eval e X.env) (fun w s₂ => wpAny (model X.prog X.w) X.A (inplaceOp op u w) (fun r s₃ => wpAny (model X.prog X.w) X.A (storeName X.env x r) (fun _ => SP X pins D .next) X.xe s₃) X.xe s₂) X.xe s := by
    refine thn (he pins s σ H _ I h) fun w s1 ⟨y, H1, I1, r1, q1⟩ => ?_
    refine thn (ho pins s1 σ H1 v y u w _ I1 r r1 q1) fun z s2 ⟨zv, H2, I2, r2, q2⟩ => ?_
    exact store_ok I2 hN hi hx r2 (fun s3 I3 => ⟨_, H2, I3, q2⟩) hf
  rcases l with ⟨hk, hm⟩ | ⟨hk, c, hc, hcell⟩
  · exact wpAny_loadName_local I.ok.kind hk hn hm go
  · rcases hk with hk | hk
    · exact wpAny_loadName_cell I.ok.kind hk hc hcell go
    · rcases hx with k | k
      · have : X.env.scope.names.lookup x = some .free := hk
        rw [k] at this; cases this
      · have : X.env.scope.names.lookup x = some .free := hk
        rw [k] at this; cases this
/-- o[i] op= e -/
def tAugS (to ti te : TE) (tget : V → V → Hp → VK → Prop) (tip : TIp) (tset : TSet) : TS := fun D σ H => to σ H fun o H1 => ti σ H1 fun i H2 => tget o i H2 fun x H3 => te σ H3 fun y H4 => tip x y H4 fun z H5 => tset o i z H5 fun H6 => D.nx σ H6
/-- o[i], by values -/
def PGet (X : Cx) (t : V → V → Hp → VK → Prop) : Prop :=
  ∀ (pins : List (Addr × Obj)) (s : Shared) (σ : St) (H : Hp) (o i : V) (ov iv : Value) (Q : VK), Inv X pins σ H s → RelV o ov → RelV i iv → t o i H Q →
    wpAny (model X.prog X.w) X.A (getItem ov iv) (EP X pins σ Q) X.xe s
theorem ps_augS {o i e : Expr} {to ti te : TE} {tget : V → V → Hp → VK → Prop} {tip : TIp} {tset : TSet} {op : Operator} {tpos : Pos} (ho : PE X o to) (hi : PE X i ti) (hg : PGet X tget) (he : PE X e te) (hp : PIp X op tip) (hs : PSet X tset)
    (ha : ∀ ov iv new, augStore i ov iv new = (do holding [new, ov, iv] (setItem ov iv new); release [new, ov, iv] []; pure .next) := by intros; rfl) : PS X (.AugAssign (.Subscript o i tpos) op e pos) (tAugS to ti te tget tip tset) := by
  intro pins s σ H D I h
  refine wpAny_AugAssign_SubscriptAny (thn (ho pins s σ H _ I h) fun ov s1 ⟨x1, H1, I1, r1, q1⟩ => ?_) ha
  refine thn (hi pins s1 σ H1 _ I1 q1) fun iv s2 ⟨x2, H2, I2, r2, q2⟩ => ?_
  refine thn (hg pins s2 σ H2 x1 x2 ov iv _ I2 r1 r2 q2) fun old s3 ⟨x3, H3, I3, r3, q3⟩ => ?_
  refine thn (he pins s3 σ H3 _ I3 q3) fun v s4 ⟨x4, H4, I4, r4, q4⟩ => ?_
  refine thn (hp pins s4 σ H4 x3 x4 old v _ I4 r3 r4 q4) fun new s5 ⟨x5, H5, I5, r5, q5⟩ => ?_
  exact thn (hs pins s5 σ H5 x1 x2 x5 ov iv new _ I5 r1 r2 r5 q5) fun _ s6 ⟨H6, I6, q6⟩ => ⟨σ, H6, I6, q6⟩
/-- ints -/
def ipI (f : Int → Int → Int) : TIp := fun x y H Q => ∃ i j, x = .int i ∧ y = .int j ∧ Q (.int (f i j)) H
theorem ip_add : PIp X .Add (ipI fun i j => i + j) := by
  intro pins s σ H x y v u Q I r1 r2 h
  obtain ⟨i, j, e1, e2, q⟩ := h
  subst e1; subst e2
  obtain ⟨t, rfl⟩ := r1
  obtain ⟨t', rfl⟩ := r2
  exact iadd_int ⟨.int _, H, I.tok _, ⟨_, rfl⟩, q⟩
theorem ip_sub : PIp X .Sub (ipI fun i j => i - j) := by
  intro pins s σ H x y v u Q I r1 r2 h
  obtain ⟨i, j, e1, e2, q⟩ := h
  subst e1; subst e2
  obtain ⟨t, rfl⟩ := r1
  obtain ⟨t', rfl⟩ := r2
  exact isub_int ⟨.int _, H, I.tok _, ⟨_, rfl⟩, q⟩
end

/-! ### while -/
section
variable {X : Cx} {pos : Pos}
/-- the invariant W with its measure -/
def tWhile (c : TT) (tb : TS) : TS := fun D σ H => ∃ W : Nat → St → Hp → Prop, (∃ m, W m σ H) ∧ ∀ m σ H, W m σ H →
  c σ H fun b H1 => if b = true then ∃ N : St → Hp → Prop, (∀ σ' H', N σ' H' → ∃ m', m' < m ∧ W m' σ' H') ∧ tb { D with nx := N, ct := N, bk := D.nx } σ H1 else D.nx σ H1
theorem ps_while {c : Expr} {body : List Stmt} {tc : TT} {tb : TS} (hp : PassesOwn (model X.prog X.w) X.A X.env X.xe) (hc : PT X c tc) (hb : PSs X body tb) : PS X (.While c body [] pos) (tWhile tc tb) := by
  intro pins s σ H D I h
  obtain ⟨W, ⟨m0, w0⟩, turn⟩ := h
  refine wpAny_While (codeAny_whileLoop (fun n s' => ∃ σ' H', Inv X pins σ' H' s' ∧ W n σ' H') ?_ m0 ⟨σ, H, I, w0⟩)
  rintro n s1 ⟨σ1, H1, I1, w1⟩
  refine wpAny_passesOwn hp (thn (hc pins s1 σ1 H1 _ I1 (turn n σ1 H1 w1)) fun b s2 ⟨H2, I2, q2⟩ => ?_)
  cases b with
  | true =>
    obtain ⟨N, hN, q2⟩ := q2
    rw [if_pos rfl]
    refine wpAny_passesOwn hp (thn (hb pins s2 σ1 H2 _ I2 q2) fun f s3 q3 => ?_)
    cases f with
    | next =>
      obtain ⟨σ3, H3, I3, n3⟩ := q3
      obtain ⟨m', hm, w3⟩ := hN σ3 H3 n3
      exact ⟨m', hm, σ3, H3, I3, w3⟩
    | cont =>
      obtain ⟨σ3, H3, I3, n3⟩ := q3
      obtain ⟨m', hm, w3⟩ := hN σ3 H3 n3
      exact ⟨m', hm, σ3, H3, I3, w3⟩
    | brk => exact q3
    | ret v => exact q3
  | false =>
    rw [if_neg Bool.false_ne_true]
    exact wpAny_execs_nil ⟨σ1, H2, I2, q2⟩
end

/-! ### what a loop or a comprehension walks -/
/-- at turn i: it yields x (the heap may grow), or it stops -/
structure It where
  go : Nat → Hp → Prop
  yld : Nat → Hp → V → Hp → Prop
  stop : Nat → Hp → Prop
/-- the iterator's own objects may turn: they are not the frame's, not pinned, younger than the entry (or a comprehension's own) -/
def FpOk (X : Cx) (pins : List (Addr × Obj)) (H : Hp) (b : Addr) : Prop :=
  H b = none ∧ b ≠ X.env.locals ∧ b ∉ X.fs ∧ (b ∈ X.ex ∨ X.s₀.heap.objs.size ≤ b) ∧ (∀ x c, X.env.cells.lookup x = some c → c ≠ b) ∧ ∀ p ∈ X.pn ++ pins, p.1 ≠ b
theorem Inv.fpOk {X : Cx} {pins : List (Addr × Obj)} {σ : St} {H H' : Hp} {s : Shared} {b : Addr} (I : Inv X pins σ H s) (hb : s.heap.objs.size ≤ b) (hn : H' b = none) : FpOk X pins H' b := by
  refine ⟨hn, Nat.ne_of_gt (Nat.lt_of_lt_of_le I.lt hb), I.nofs hb, .inr (Nat.le_trans I.sz hb), fun x c e z => ?_, fun p hp z => ?_⟩
  · obtain ⟨v, q⟩ := I.cell x c e
    exact absurd (Nat.lt_of_lt_of_le q.lt (by rw [z]; exact hb)) (Nat.lt_irrefl _)
  · exact absurd (Nat.lt_of_lt_of_le (Heap.lt_size (I.pin p hp).1) (by rw [z]; exact hb)) (Nat.lt_irrefl _)
structure Turn (P : Program) (w : World) (K : PySem.W.Frag) (tg : Expr) (J : It) (fp : List Addr) (it : Addr) (tn : Nat → Heap → Prop) : Prop where
  mem : it ∈ fp
  obj : ∀ i h, tn i h → ∀ b ∈ fp, ∃ o, h.get? b = some o ∧ ∀ v, o.data ≠ .cell v
  keep : ∀ i h h', tn i h → (∀ b ∈ fp, ∀ o, h.get? b = some o → h'.get? b = some o) → tn i h'
  item : ∀ (X : Cx), X.prog = P → X.w = w → X.K = K → X.calm = true → ∀ (i : Nat) (pins : List (Addr × Obj)) (s : Shared) (σ : St) (H : Hp) (E : Value → Shared → Prop), Inv X pins σ H s → (∀ b ∈ fp, FpOk X pins H b) → tn i s.heap → J.go i H →
    wpAny (model P w) X.A (pyNext (.ref it)) (fun r s1 => ∃ u, r = some u ∧
      wpAny (model P w) X.A (letOwnedTupleGo tg (.ref it) u) (fun _ s2 => ∃ x H', Inv X pins σ H' s2 ∧ RelV x u ∧ J.yld i H x H' ∧ tn (i + 1) s2.heap ∧ ∀ b ∈ fp, H' b = none) E s1) E s
  done : ∀ (X : Cx), X.prog = P → X.w = w → X.K = K → X.calm = true → ∀ (i : Nat) (pins : List (Addr × Obj)) (s : Shared) (σ : St) (H : Hp) (E : Value → Shared → Prop), Inv X pins σ H s → (∀ b ∈ fp, FpOk X pins H b) → tn i s.heap → J.stop i H →
    wpAny (model P w) X.A (pyNext (.ref it)) (fun r s1 => r = none ∧ Inv X pins σ H s1) E s
  self : ∀ (A : Around) (i : Nat) (s : Shared) (Q : Value → Shared → Prop) (E : Value → Shared → Prop), tn i s.heap → Q (.ref it) s → wpAny (model P w) A (pyIter (.ref it)) Q E s
abbrev TI := St → Hp → (It → Hp → Prop) → Prop
/-- an iterator has come -/
def PIE (X : Cx) (pins : List (Addr × Obj)) (σ : St) (tg : Expr) (R : It → Hp → Prop) (itv : Value) (s2 : Shared) : Prop :=
  ∃ (it : Addr) (fp : List Addr) (tn : Nat → Heap → Prop) (J : It) (H' : Hp), itv = .ref it ∧ Inv X pins σ H' s2 ∧ Turn X.prog X.w X.K tg J fp it tn ∧ tn 0 s2.heap ∧ (∀ b ∈ fp, FpOk X pins H' b) ∧ R J H'
def PI (X : Cx) (tg iter : Expr) (wi : TI) : Prop :=
  ∀ (pins : List (Addr × Obj)) (s : Shared) (σ : St) (H : Hp) (R : It → Hp → Prop), Inv X pins σ H s → wi σ H R →
    wpAny (model X.prog X.w) X.A (eval iter X.env) (fun v s1 => wpAny (model X.prog X.w) X.A (pyIter v) (PIE X pins σ tg R) X.xe s1) X.xe s

/-- the step ahead of the store is nothing for an iterator that keeps no tuple -/
theorem go_of {M : Model} {A : Around} {E : Value → Shared → Prop} {s : Shared} {tg : Expr} {it : Addr} {u : Value} {o : Obj} {n : String} {vs : Array Value} {Q : Unit → Shared → Prop} (ho : s.heap.get? it = some o) (hc : o.cls = .type n) (hd : o.data = .fields vs)
    (hn : ["enumerate", "zip", "dict_itemiterator", "dict_reverseitemiterator", "odict_iterator", "itertools.zip_longest", "itertools.pairwise"].contains n = false) (hQ : Q () s) : wpAny M A (letOwnedTupleGo tg (.ref it) u) Q E s := by
  unfold letOwnedTupleGo
  cases tg <;> first
    | exact wpAny_pure hQ
    | (cases u <;> first
        | exact wpAny_pure hQ
        | (refine wpAny_bind (wpAny_load ho ?_)
           rw [hc, hd]
           show wpAny M A (if (["enumerate", "zip", "dict_itemiterator", "dict_reverseitemiterator", "odict_iterator", "itertools.zip_longest", "itertools.pairwise"].contains n && vs[0]? == some (rawInt _)) = true then _ else _) Q E s
           rw [if_neg (by intro h; rw [hn, Bool.false_and] at h; cases h)]
           exact wpAny_pure hQ))

/-- the list at a, as it stands at each turn (a loop may append to it) -/
def Itl (K : PySem.W.Frag) (a : Addr) : It :=
  ⟨fun i H => ∃ xs x, SqL K H a xs ∧ xs[i]? = some x, fun i H x H' => H' = H ∧ ∀ xs, SqL K H a xs → xs[i]? = some x, fun i H => ∃ xs, SqL K H a xs ∧ xs.length ≤ i⟩
def Itt (K : PySem.W.Frag) (a : Addr) : It :=
  ⟨fun i H => ∃ xs x, SqT K H a xs ∧ xs[i]? = some x, fun i H x H' => H' = H ∧ ∀ xs, SqT K H a xs → xs[i]? = some x, fun i H => ∃ xs, SqT K H a xs ∧ xs.length ≤ i⟩
/-- lo, lo + 1, .. (n of them) -/
def Itr (lo : Int) (n : Nat) : It := ⟨fun i _ => i < n, fun i H x H' => H' = H ∧ x = .int (lo + i), fun i _ => n ≤ i⟩
theorem turn_list {P : Program} {w : World} {K : PySem.W.Frag} {tg : Expr} (a it : Addr) : Turn P w K tg (Itl K a) [it] it (fun i h => h.IsListIter it a i) where
  mem := by simp
  obj := fun i h st b hb => by
    have e : b = it := by simpa using hb
    subst e
    obtain ⟨o, e, c, d⟩ := st
    exact ⟨o, e, fun v z => by rw [d] at z; cases z⟩
  keep := fun i h h' st k => st.at fun o e => k it (by simp) o e
  item := by
    intro X hP hw hK hc i pins s σ H E I hf st hg
    subst hP hw hK
    obtain ⟨xs, x, hq, hx⟩ := hg
    obtain ⟨its, rv, p, hz⟩ := I.list hq
    obtain ⟨u, hu, ru⟩ := rv.get hx
    obtain ⟨f0, f1, f2, f3, f4, f5⟩ := hf it (by simp)
    refine wpAny_pyNext_list_item st p.isList (x := u) (by simpa using hu) fun h' st' sb => ?_
    have I1 : Inv X pins σ H { s with heap := h' } := I.turned (t' := s.toks) (fun b o hb e => (sb.2 b hb).trans e) f0 f1 f3 f4 f5
    obtain ⟨o, e, c, d⟩ := id st'
    exact ⟨u, rfl, go_of (s := { s with heap := h' }) e c d (by decide) ⟨x, H, I1, ru, ⟨rfl, fun ys hy => by rw [I.list_inj hy hq]; exact hx⟩, st', fun b hb => (hf b hb).1⟩⟩
  done := by
    intro X hP hw hK hc i pins s σ H E I hf st hg
    subst hP hw hK
    obtain ⟨xs, hq, hx⟩ := hg
    obtain ⟨its, rv, p, hz⟩ := I.list hq
    obtain ⟨f0, f1, f2, f3, f4, f5⟩ := hf it (by simp)
    have hl := rv.length
    exact wpAny_pyNext_list_end (I.ok.hd hc) st p.isList (by simp; omega) fun h' eb => ⟨rfl, I.turned (t' := s.toks) (fun b o hb e => eb b o hb e) f0 f1 f3 f4 f5⟩
  self := fun _ _ _ _ _ st h => wpAny_pyIter_listiter st h
theorem turn_tuple {P : Program} {w : World} {K : PySem.W.Frag} {tg : Expr} (a it : Addr) : Turn P w K tg (Itt K a) [it] it (fun i h => h.IsTupleIter it a i) where
  mem := by simp
  obj := fun i h st b hb => by
    have e : b = it := by simpa using hb
    subst e
    obtain ⟨o, e, c, d⟩ := st
    exact ⟨o, e, fun v z => by rw [d] at z; cases z⟩
  keep := fun i h h' st k => st.at fun o e => k it (by simp) o e
  item := by
    intro X hP hw hK hc i pins s σ H E I hf st hg
    subst hP hw hK
    obtain ⟨xs, x, hq, hx⟩ := hg
    obtain ⟨its, rv, p, hz⟩ := I.tuple hq
    obtain ⟨u, hu, ru⟩ := rv.get hx
    obtain ⟨f0, f1, f2, f3, f4, f5⟩ := hf it (by simp)
    refine wpAny_pyNext_tuple_item st (show s.heap.IsTuple a its.toArray from p) (x := u) (by simpa using hu) fun h' st' sb => ?_
    have I1 : Inv X pins σ H { s with heap := h' } := I.turned (t' := s.toks) (fun b o hb e => (sb.2 b hb).trans e) f0 f1 f3 f4 f5
    obtain ⟨o, e, c, d⟩ := id st'
    exact ⟨u, rfl, go_of (s := { s with heap := h' }) e c d (by decide) ⟨x, H, I1, ru, ⟨rfl, fun ys hy => by rw [I.tuple_inj hy hq]; exact hx⟩, st', fun b hb => (hf b hb).1⟩⟩
  done := by
    intro X hP hw hK hc i pins s σ H E I hf st hg
    subst hP hw hK
    obtain ⟨xs, hq, hx⟩ := hg
    obtain ⟨its, rv, p, hz⟩ := I.tuple hq
    obtain ⟨f0, f1, f2, f3, f4, f5⟩ := hf it (by simp)
    have hl := rv.length
    exact wpAny_pyNext_tuple_end (I.ok.hd hc) st (show s.heap.IsTuple a its.toArray from p) (by simp; omega) fun h' eb => ⟨rfl, I.turned (t' := s.toks) (fun b o hb e => eb b o hb e) f0 f1 f3 f4 f5⟩
  self := fun _ _ _ _ _ st h => wpAny_pyIter_tupleiter st h
theorem turn_range {P : Program} {w : World} {K : PySem.W.Frag} {tg : Expr} (it : Addr) (lo : Int) (n : Nat) : Turn P w K tg (Itr lo n) [it] it (fun i h => IsRangeIter h it (lo + (i : Nat) * 1) ((n : Int) - (i : Nat)) 1) where
  mem := by simp
  obj := fun i h st b hb => by
    have e : b = it := by simpa using hb
    subst e
    exact ⟨_, st, fun v z => by
      have z' : Data.fields _ = Data.cell v := z
      cases z'⟩
  keep := fun i h h' st k => k it (by simp) _ st
  item := by
    intro X hP hw hK hc i pins s σ H E I hf st hg
    subst hP hw hK
    obtain ⟨f0, f1, f2, f3, f4, f5⟩ := hf it (by simp)
    have W := Walks.range (prog := X.prog) (w := X.w) (I.ok.hd hc) it lo 1 n
    refine W.item i s _ _ hg st fun v h' tk hv st' kk => ?_
    obtain ⟨t, rfl⟩ := hv
    have I1 : Inv X pins σ H { s with heap := h', toks := tk } := I.turned (fun b o hb e => kk b o (by simpa using hb) e) f0 f1 f3 f4 f5
    refine ⟨_, rfl, go_of (s := { s with heap := h', toks := tk }) (n := "range_iterator") st' rfl rfl (by decide) ⟨.int (lo + i), H, I1, ⟨t, ?_⟩, ⟨rfl, rfl⟩, st', fun b hb => (hf b hb).1⟩⟩
    rw [Int.mul_one]
  done := by
    intro X hP hw hK hc i pins s σ H E I hf st hg
    subst hP hw hK
    obtain ⟨f0, f1, f2, f3, f4, f5⟩ := hf it (by simp)
    exact wpAny_pyNext_range_end (I.ok.hd hc) st (by have : n ≤ i := hg; omega) fun h' eb => ⟨rfl, I.turned (t' := s.toks) (fun b o hb e => eb b o hb e) f0 f1 f3 f4 f5⟩
  self := fun _ _ _ _ _ st h => wpAny_pyIter_rangeiter st h
end L2

namespace L2
open PySem PySem.Spec PyProof.Rows
section
variable {X : Cx} {tg : Expr}
def iList (K : PySem.W.Frag) (tl : TE) : TI := fun σ H R => tl σ H fun x H1 => ∃ a, x = .ref a ∧ (∃ xs, SqL K H1 a xs) ∧ R (Itl K a) H1
def iTup (K : PySem.W.Frag) (tl : TE) : TI := fun σ H R => tl σ H fun x H1 => ∃ a, x = .ref a ∧ (∃ xs, SqT K H1 a xs) ∧ R (Itt K a) H1
theorem pi_list {l : Expr} {tl : TE} (hl : PE X l tl) : PI X tg l (iList X.K tl) := by
  intro pins s σ H R I h
  refine thn (hl pins s σ H _ I h) fun v s1 ⟨x, H1, I1, r1, q1⟩ => ?_
  obtain ⟨a, e, ⟨xs, hq⟩, q⟩ := q1
  subst e
  cases r1
  obtain ⟨its, rv, p, hz⟩ := I1.list hq
  refine wpAny_pyIter_list p.isList ?_
  refine ⟨s1.heap.objs.size, [s1.heap.objs.size], _, _, H1, rfl, I1.kept (t' := s1.toks) fun b o e => Heap.get?_push_of_some _ e, turn_list a _, ⟨_, Heap.get?_push_size _ rfl, rfl, rfl⟩, fun b hb => ?_, q⟩
  have e : b = s1.heap.objs.size := by simpa using hb
  subst e
  exact I1.fpOk (Nat.le_refl _) (I1.hok.fresh (Nat.le_refl _))
theorem pi_tup {l : Expr} {tl : TE} (hl : PE X l tl) : PI X tg l (iTup X.K tl) := by
  intro pins s σ H R I h
  refine thn (hl pins s σ H _ I h) fun v s1 ⟨x, H1, I1, r1, q1⟩ => ?_
  obtain ⟨a, e, ⟨xs, hq⟩, q⟩ := q1
  subst e
  cases r1
  obtain ⟨its, rv, p, hz⟩ := I1.tuple hq
  refine wpAny_pyIter_tuple (show s1.heap.IsTuple a its.toArray from p) ?_
  refine ⟨s1.heap.objs.size, [s1.heap.objs.size], _, _, H1, rfl, I1.kept (t' := s1.toks) fun b o e => Heap.get?_push_of_some _ e, turn_tuple a _, ⟨_, Heap.get?_push_size _ rfl, rfl, rfl⟩, fun b hb => ?_, q⟩
  have e : b = s1.heap.objs.size := by simpa using hb
  subst e
  exact I1.fpOk (Nat.le_refl _) (I1.hok.fresh (Nat.le_refl _))
/-- a range object just made, walked -/
theorem range_it {pins : List (Addr × Obj)} {σ : St} {H : Hp} {s : Shared} {R : It → Hp → Prop} {E : Value → Shared → Prop} {lo hi : Int} {t u v : Tok} {tk : Nat} (I : Inv X pins σ H s) (h1 : -(2 ^ 62) ≤ lo) (h2 : lo < 2 ^ 62) (h3 : -(2 ^ 62) ≤ hi) (h4 : hi < 2 ^ 62)
    (q : R (Itr lo (hi - lo).toNat) H) : wpAny (model X.prog X.w) X.A (pyIter (.ref s.heap.objs.size)) (PIE X pins σ tg R) E { s with heap := s.heap.push { cls := .type "range", data := .fields #[.int lo t, .int hi u, .int 1 v] }, toks := tk } := by
  refine wpAny_pyIter_range (IsRange.new ..) (small_one h1 h2 h3 h4) ?_
  have I1 : Inv X pins σ H { s with heap := s.heap.push { cls := .type "range", data := .fields #[.int lo t, .int hi u, .int 1 v] }, toks := tk } := I.kept fun b o e => Heap.get?_push_of_some _ e
  refine ⟨(s.heap.push { cls := .type "range", data := .fields #[.int lo t, .int hi u, .int 1 v] }).objs.size, [(s.heap.push { cls := .type "range", data := .fields #[.int lo t, .int hi u, .int 1 v] }).objs.size], _, _, H, rfl,
    I1.kept (t' := tk) fun b o e => Heap.get?_push_of_some _ e, turn_range _ lo (hi - lo).toNat, ?_, fun b hb => ?_, q⟩
  · have e1 : lo + ((0 : Nat) : Int) * 1 = lo := by simp
    have e2 : (((hi - lo).toNat : Nat) : Int) - ((0 : Nat) : Int) = Builtin.Range.rangeSize lo hi 1 := by rw [rangeSize_one]; split <;> omega
    show IsRangeIter _ _ (lo + ((0 : Nat) : Int) * 1) ((((hi - lo).toNat : Nat) : Int) - ((0 : Nat) : Int)) 1
    rw [e1, e2]
    exact Heap.get?_push_size _ rfl
  · have e : b = (s.heap.push { cls := .type "range", data := .fields #[.int lo t, .int hi u, .int 1 v] }).objs.size := by simpa using hb
    subst e
    exact I1.fpOk (Nat.le_refl _) (I1.hok.fresh (Nat.le_refl _))
def iRng1 (ta : TA) : TI := fun σ H R => ta σ H fun vs H1 => ∃ j : Int, vs = [.int j] ∧ -(2 ^ 62) ≤ j ∧ j < 2 ^ 62 ∧ R (Itr 0 j.toNat) H1
def iRng2 (ta : TA) : TI := fun σ H R => ta σ H fun vs H1 => ∃ i j : Int, vs = [.int i, .int j] ∧ (-(2 ^ 62) ≤ i ∧ i < 2 ^ 62 ∧ -(2 ^ 62) ≤ j ∧ j < 2 ^ 62) ∧ R (Itr i (j - i).toNat) H1
theorem pi_range1 {a : Expr} {ta : TA} {p pos : Pos} (hg : Gl X "range") (hm : X.mg "range" = none) (ha : PA X [a] ta) (hs : starEach [a] X.env = [(false, eval a X.env)] := by rfl) : PI X tg (.Call (.Name "range" p) [a] [] pos) (iRng1 ta) := by
  intro pins s σ H R I h
  refine Call_ (ld_blt I hg hm boot_range (PyProof.Rows.callWith_type1 (thn (ha pos pins s σ H _ I h) fun us s1 ⟨vs, H1, I1, r1, q1⟩ => ?_) hs rfl))
  obtain ⟨j, e, q1, q2, q⟩ := q1
  subst e
  cases r1 with
  | cons r rr =>
    cases rr
    obtain ⟨t, rfl⟩ := r
    exact call_range_1 (range_it I1 (by omega) (by omega) q1 q2 (by simpa using q))
theorem pi_range2 {a b : Expr} {ta : TA} {p pos : Pos} (hg : Gl X "range") (hm : X.mg "range" = none) (ha : PA X [a, b] ta) (hs : starEach [a, b] X.env = [(false, eval a X.env), (false, eval b X.env)] := by rfl) (hs2 : starEach [b] X.env = [(false, eval b X.env)] := by rfl) :
    PI X tg (.Call (.Name "range" p) [a, b] [] pos) (iRng2 ta) := by
  intro pins s σ H R I h
  refine Call_ (ld_blt I hg hm boot_range (PyProof.Rows.callWith_type1 (thn (ha pos pins s σ H _ I h) fun us s1 ⟨vs, H1, I1, r1, q1⟩ => ?_) (by rw [hs, hs2]) (by rw [hs2]; rfl)))
  obtain ⟨i, j, e, ⟨q1, q2, q3, q4⟩, q⟩ := q1
  subst e
  cases r1 with
  | cons r rr =>
    cases rr with
    | cons r' rr =>
      cases rr
      obtain ⟨t, rfl⟩ := r
      obtain ⟨t', rfl⟩ := r'
      exact call_range_2 (range_it I1 q1 q2 q3 q4 q)

/-! ### for -/
/-- W: the invariant by the turn and a measure; N: what the body is to reach -/
def tFor (wi : TI) (g : TG) (tb : TS) : TS := fun D σ H => wi σ H fun J H1 => ∃ W : Nat → Nat → St → Hp → Prop, (∃ m, W 0 m σ H1) ∧ ∀ i m σ H, W i m σ H →
  (J.stop i H ∧ D.nx σ H) ∨ (J.go i H ∧ ∃ N : St → Hp → Prop, (∀ σ' H', N σ' H' → ∃ m', m' < m ∧ W (i + 1) m' σ' H') ∧ ∀ x H', J.yld i H x H' → g x σ H' fun σ2 H2 => tb { D with nx := N, ct := N, bk := D.nx } σ2 H2)
/-- the records at fp as they stand -/
def pinsAt (fp : List Addr) (h : Heap) : List (Addr × Obj) := fp.filterMap fun b => (h.get? b).map fun o => (b, o)
theorem mem_pinsAt {fp : List Addr} {h : Heap} {b : Addr} {o : Obj} (hb : b ∈ fp) (e : h.get? b = some o) : (b, o) ∈ pinsAt fp h := List.mem_filterMap.mpr ⟨b, hb, by rw [e]; rfl⟩
theorem of_pinsAt {fp : List Addr} {h : Heap} {p : Addr × Obj} (hp : p ∈ pinsAt fp h) : p.1 ∈ fp ∧ h.get? p.1 = some p.2 := by
  obtain ⟨b, hb, e⟩ := List.mem_filterMap.mp hp
  cases q : h.get? b with
  | none => rw [q] at e; cases e
  | some o =>
    rw [q] at e
    have e' : (b, o) = p := Option.some.inj e
    subst e'
    exact ⟨hb, q⟩
theorem Inv.pinned {pins : List (Addr × Obj)} {σ : St} {H : Hp} {s : Shared} {fp : List Addr} (I : Inv X pins σ H s) (hf : ∀ b ∈ fp, FpOk X pins H b) (ho : ∀ b ∈ fp, ∃ o, s.heap.get? b = some o ∧ ∀ v, o.data ≠ .cell v) : Inv X (pins ++ pinsAt fp s.heap) σ H s :=
  I.pins_of fun p hp => (List.mem_append.mp hp).elim (fun z => I.pin p (List.mem_append_right _ z)) fun z => by
    obtain ⟨hb, e⟩ := of_pinsAt z
    obtain ⟨f0, f1, f2, _⟩ := hf p.1 hb
    obtain ⟨o, e', d⟩ := ho p.1 hb
    rw [e] at e'; cases e'
    exact ⟨e, f0, f1, f2, d⟩
theorem Inv.unpinned {pins pl : List (Addr × Obj)} {σ : St} {H : Hp} {s : Shared} (I : Inv X (pins ++ pl) σ H s) : Inv X pins σ H s := I.pins_of fun p hp => I.pin p (List.mem_append_right _ (List.mem_append_left _ hp))
theorem ps_for {iter : Expr} {body : List Stmt} {wi : TI} {g : TG} {tb : TS} {pos : Pos} (hp : PassesOwn (model X.prog X.w) X.A X.env X.xe) (hc : X.calm = true) (hi : PI X tg iter wi) (hg : PG X tg g) (hb : PSs X body tb)
    (hs : ∀ x, foldedSetIterable iter X.env x = pure x := by intro _; rfl) : PS X (.For tg iter body [] pos) (tFor wi g tb) := by
  intro pins s σ H D I h
  refine wpAny_For (thn (hi pins s σ H _ I h) fun v s1 h1 => thn h1 fun itv s2 h2 => ?_) hs
  obtain ⟨it, fp, tn, J, H2, e, I2, T, st2, f2, W, ⟨m0, w0⟩, turn⟩ := h2
  subst e
  -- what stays true of the iterator's objects through the loop
  have stat : ∀ {H' : Hp}, (∀ b ∈ fp, H' b = none) → ∀ b ∈ fp, FpOk X pins H' b := fun hn b hb => ⟨hn b hb, (f2 b hb).2⟩
  refine codeAny_forLoop_any (fun n s' => ∃ i σ' H', Inv X pins σ' H' s' ∧ tn i s'.heap ∧ (∀ b ∈ fp, H' b = none) ∧ W i n σ' H') ?_ m0 ⟨0, σ, H2, I2, st2, fun b hb => (f2 b hb).1, w0⟩
  rintro n s3 ⟨i, σ3, H3, I3, st3, fr3, w3⟩
  rcases turn i n σ3 H3 w3 with ⟨stop, qn⟩ | ⟨go, N, hN, step⟩
  · refine wpAny_passesOwn hp (thn (T.done X rfl rfl rfl hc i pins s3 σ3 H3 X.xe I3 (stat fr3) st3 stop) fun r s4 ⟨hr, I4⟩ => ?_)
    subst hr
    exact wpAny_execs_nil ⟨σ3, H3, I4, qn⟩
  · refine wpAny_passesOwn hp (thn (T.item X rfl rfl rfl hc i pins s3 σ3 H3 X.xe I3 (stat fr3) st3 go) fun r s4 ⟨u, hr, h4⟩ => ?_)
    subst hr
    refine wpAny_passesOwn hp (thn h4 fun _ s5 ⟨x, H5, I5, r5, y5, st5, fr5⟩ => ?_)
    have I5' := I5.pinned (stat fr5) (T.obj _ _ st5)
    refine wpAny_passesOwn hp (thn (hg _ s5 σ3 H5 x u _ I5' r5 (step x H5 y5)) fun _ s6 ⟨σ6, H6, I6, q6⟩ => ?_)
    refine wpAny_passesOwn hp (thn (hb _ s6 σ6 H6 _ I6 q6) fun f s7 q7 => ?_)
    have again : ∀ {σ7 : St} {H7 : Hp}, Inv X (pins ++ pinsAt fp s5.heap) σ7 H7 s7 → N σ7 H7 → ∃ m, m < n ∧ ∃ i σ' H', Inv X pins σ' H' s7 ∧ tn i s7.heap ∧ (∀ b ∈ fp, H' b = none) ∧ W i m σ' H' := fun {σ7 H7} I7 n7 => by
      obtain ⟨m', hm, w7⟩ := hN σ7 H7 n7
      refine ⟨m', hm, i + 1, σ7, H7, I7.unpinned, T.keep _ _ _ st5 fun b hb o e => (I7.pin (b, o) (List.mem_append_right _ (List.mem_append_right _ (mem_pinsAt hb e)))).1, fun b hb => ?_, w7⟩
      obtain ⟨o, e, d⟩ := T.obj _ _ st5 b hb
      exact (I7.pin (b, o) (List.mem_append_right _ (List.mem_append_right _ (mem_pinsAt hb e)))).2.1
    cases f with
    | next => obtain ⟨σ7, H7, I7, n7⟩ := q7; exact again I7 n7
    | cont => obtain ⟨σ7, H7, I7, n7⟩ := q7; exact again I7 n7
    | brk => obtain ⟨σ7, H7, I7, q7⟩ := q7; exact ⟨σ7, H7, I7.unpinned, q7⟩
    | ret v => obtain ⟨x7, σ7, H7, I7, r7, q7⟩ := q7; exact ⟨x7, σ7, H7, I7.unpinned, r7, q7⟩
end

/-! ### the forms one uses -/
/-- over a list that the body leaves as it is -/
theorem for_list {K : PySem.W.Frag} {a : Addr} {xs : List V} {g : TG} {tb : TS} {D : Ends} {σ : St} {H : Hp} (Pv : Nat → St → Hp → Prop) (h0 : Pv 0 σ H) (hl : ∀ i σ H, i ≤ xs.length → Pv i σ H → SqL K H a xs)
    (hs : ∀ i x σ H, xs[i]? = some x → Pv i σ H → g x σ H fun σ2 H2 => tb { D with nx := Pv (i + 1), ct := Pv (i + 1), bk := D.nx } σ2 H2) (hd : ∀ σ H, Pv xs.length σ H → D.nx σ H) :
    ∃ W : Nat → Nat → St → Hp → Prop, (∃ m, W 0 m σ H) ∧ ∀ i m σ H, W i m σ H →
      ((Itl K a).stop i H ∧ D.nx σ H) ∨ ((Itl K a).go i H ∧ ∃ N : St → Hp → Prop, (∀ σ' H', N σ' H' → ∃ m', m' < m ∧ W (i + 1) m' σ' H') ∧ ∀ x H', (Itl K a).yld i H x H' → g x σ H' fun σ2 H2 => tb { D with nx := N, ct := N, bk := D.nx } σ2 H2) := by
  refine ⟨fun i m σ H => m = xs.length - i ∧ i ≤ xs.length ∧ Pv i σ H, ⟨xs.length, by simp, Nat.zero_le _, h0⟩, ?_⟩
  rintro i m σ H ⟨rfl, hi, p⟩
  have q := hl i σ H hi p
  by_cases hlt : i < xs.length
  · refine .inr ⟨⟨xs, xs[i], q, by simp [hlt]⟩, Pv (i + 1), fun σ' H' p' => ⟨xs.length - (i + 1), by omega, rfl, hlt, p'⟩, fun x H' y => ?_⟩
    obtain ⟨e, y⟩ := y
    subst e
    exact hs i x σ _ (y xs q) p
  · have e : i = xs.length := by omega
    subst e
    exact .inl ⟨⟨xs, q, Nat.le_refl _⟩, hd σ H p⟩
theorem for_tup {K : PySem.W.Frag} {a : Addr} {xs : List V} {g : TG} {tb : TS} {D : Ends} {σ : St} {H : Hp} (Pv : Nat → St → Hp → Prop) (h0 : Pv 0 σ H) (hl : ∀ i σ H, i ≤ xs.length → Pv i σ H → SqT K H a xs)
    (hs : ∀ i x σ H, xs[i]? = some x → Pv i σ H → g x σ H fun σ2 H2 => tb { D with nx := Pv (i + 1), ct := Pv (i + 1), bk := D.nx } σ2 H2) (hd : ∀ σ H, Pv xs.length σ H → D.nx σ H) :
    ∃ W : Nat → Nat → St → Hp → Prop, (∃ m, W 0 m σ H) ∧ ∀ i m σ H, W i m σ H →
      ((Itt K a).stop i H ∧ D.nx σ H) ∨ ((Itt K a).go i H ∧ ∃ N : St → Hp → Prop, (∀ σ' H', N σ' H' → ∃ m', m' < m ∧ W (i + 1) m' σ' H') ∧ ∀ x H', (Itt K a).yld i H x H' → g x σ H' fun σ2 H2 => tb { D with nx := N, ct := N, bk := D.nx } σ2 H2) := by
  refine ⟨fun i m σ H => m = xs.length - i ∧ i ≤ xs.length ∧ Pv i σ H, ⟨xs.length, by simp, Nat.zero_le _, h0⟩, ?_⟩
  rintro i m σ H ⟨rfl, hi, p⟩
  have q := hl i σ H hi p
  by_cases hlt : i < xs.length
  · refine .inr ⟨⟨xs, xs[i], q, by simp [hlt]⟩, Pv (i + 1), fun σ' H' p' => ⟨xs.length - (i + 1), by omega, rfl, hlt, p'⟩, fun x H' y => ?_⟩
    obtain ⟨e, y⟩ := y
    subst e
    exact hs i x σ _ (y xs q) p
  · have e : i = xs.length := by omega
    subst e
    exact .inl ⟨⟨xs, q, Nat.le_refl _⟩, hd σ H p⟩
theorem for_range {lo : Int} {n : Nat} {g : TG} {tb : TS} {D : Ends} {σ : St} {H : Hp} (Pv : Nat → St → Hp → Prop) (h0 : Pv 0 σ H)
    (hs : ∀ i σ H, i < n → Pv i σ H → g (.int (lo + i)) σ H fun σ2 H2 => tb { D with nx := Pv (i + 1), ct := Pv (i + 1), bk := D.nx } σ2 H2) (hd : ∀ σ H, Pv n σ H → D.nx σ H) :
    ∃ W : Nat → Nat → St → Hp → Prop, (∃ m, W 0 m σ H) ∧ ∀ i m σ H, W i m σ H →
      ((Itr lo n).stop i H ∧ D.nx σ H) ∨ ((Itr lo n).go i H ∧ ∃ N : St → Hp → Prop, (∀ σ' H', N σ' H' → ∃ m', m' < m ∧ W (i + 1) m' σ' H') ∧ ∀ x H', (Itr lo n).yld i H x H' → g x σ H' fun σ2 H2 => tb { D with nx := N, ct := N, bk := D.nx } σ2 H2) := by
  refine ⟨fun i m σ H => m = n - i ∧ i ≤ n ∧ Pv i σ H, ⟨n, by simp, Nat.zero_le _, h0⟩, ?_⟩
  rintro i m σ H ⟨rfl, hi, p⟩
  by_cases hlt : i < n
  · refine .inr ⟨hlt, Pv (i + 1), fun σ' H' p' => ⟨n - (i + 1), by omega, rfl, hlt, p'⟩, fun x H' y => ?_⟩
    obtain ⟨e, y⟩ := y
    subst e y
    exact hs i σ _ hlt p
  · have e : i = n := by omega
    subst e
    exact .inl ⟨Nat.le_refl _, hd σ H p⟩
/-- while, by a word and a measure of the state -/
theorem while_by {c : TT} {tb : TS} {D : Ends} {σ : St} {H : Hp} (Pv : St → Hp → Prop) (μ : St → Hp → Nat) (h0 : Pv σ H)
    (hs : ∀ σ H, Pv σ H → c σ H fun b H1 => if b = true then tb { D with nx := fun σ' H' => Pv σ' H' ∧ μ σ' H' < μ σ H, ct := fun σ' H' => Pv σ' H' ∧ μ σ' H' < μ σ H, bk := D.nx } σ H1 else D.nx σ H1)
    (mono : ∀ σ H Q Q', (∀ b H1, Q b H1 → Q' b H1) → c σ H Q → c σ H Q') : tWhile c tb D σ H := by
  refine ⟨fun m σ H => m = μ σ H ∧ Pv σ H, ⟨_, rfl, h0⟩, ?_⟩
  rintro m σ H ⟨rfl, p⟩
  refine mono σ H _ _ (fun b H1 q => ?_) (hs σ H p)
  cases b with
  | true => exact ⟨_, fun σ' H' ⟨p', l⟩ => ⟨_, l, rfl, p'⟩, q⟩
  | false => exact q
end L2

namespace L2
open PySem PySem.Spec PyProof.Rows

abbrev R2 := V → V → Hp → VK → Prop
/-- a two-place operation on values: f is binaryOp op, inplaceOp op or compareOp op -/
def OpR (X : Cx) (f : Value → Value → Sem Value) (r : R2) : Prop :=
  ∀ (pins : List (Addr × Obj)) (s : Shared) (σ : St) (H : Hp) (x y : V) (v u : Value) (Q : VK), Inv X pins σ H s → RelV x v → RelV y u → r x y H Q →
    wpAny (model X.prog X.w) X.A (f v u) (EP X pins σ Q) X.xe s
/-- a one-place operation -/
def UnR (X : Cx) (f : Value → Sem Value) (r : V → Hp → VK → Prop) : Prop :=
  ∀ (pins : List (Addr × Obj)) (s : Shared) (σ : St) (H : Hp) (x : V) (v : Value) (Q : VK), Inv X pins σ H s → RelV x v → r x H Q →
    wpAny (model X.prog X.w) X.A (f v) (EP X pins σ Q) X.xe s
/-- a call of a value that is known (a builtin, a type) with values -/
def CallR (X : Cx) (f : Value) (r : List V → Hp → VK → Prop) : Prop :=
  ∀ (pins : List (Addr × Obj)) (s : Shared) (σ : St) (H : Hp) (xs : List V) (us : List Value) (Q : VK), Inv X pins σ H s → Vals xs us → r xs H Q →
    wpAny (model X.prog X.w) X.A (call f us) (EP X pins σ Q) X.xe s
/-- a value's truth -/
def TruR (X : Cx) (r : V → Hp → (Bool → Hp → Prop) → Prop) : Prop :=
  ∀ (pins : List (Addr × Obj)) (s : Shared) (σ : St) (H : Hp) (x : V) (v : Value) (Q : Bool → Hp → Prop), Inv X pins σ H s → RelV x v → r x H Q →
    wpAny (model X.prog X.w) X.A (truthy v) (TP X pins σ Q) X.xe s

def tOp (r : R2) (ta tb : TE) : TE := fun σ H Q => ta σ H fun x H1 => tb σ H1 fun y H2 => r x y H2 Q
def tUn (r : V → Hp → VK → Prop) (ta : TE) : TE := fun σ H Q => ta σ H fun x H1 => r x H1 Q
/-- ints in, under C, and a value out -/
def rI (C : Int → Int → Prop) (g : Int → Int → V) : R2 := fun x y H Q => ∃ i j, x = .int i ∧ y = .int j ∧ C i j ∧ Q (g i j) H
def rI0 (g : Int → Int → V) : R2 := fun x y H Q => ∃ i j, x = .int i ∧ y = .int j ∧ Q (g i j) H
def rU (g : Int → V) : V → Hp → VK → Prop := fun x H Q => ∃ i, x = .int i ∧ Q (g i) H

section
variable {X : Cx} {a b c : Expr} {ta tb tc : TE} {pos : Pos}

theorem binT (ha : PE X a ta) (hb : PE X b tb) {pins : List (Addr × Obj)} {s : Shared} {σ : St} {H : Hp} {R : V → V → Hp → Prop} (I : Inv X pins σ H s)
    (h : ta σ H fun x H1 => tb σ H1 fun y H2 => R x y H2) {Q : Value → Shared → Prop} {f : Value → Value → Sem Value}
    (hf : ∀ v u s2 x y H2, Inv X pins σ H2 s2 → RelV x v → RelV y u → R x y H2 → wpAny (model X.prog X.w) X.A (f v u) Q X.xe s2) :
    wpAny (model X.prog X.w) X.A (eval a X.env) (fun v s₁ => wpAny (model X.prog X.w) X.A (eval b X.env) (fun u s₂ => wpAny (model X.prog X.w) X.A (f v u) Q X.xe s₂) X.xe s₁) X.xe s := by
  refine thn (ha pins s σ H _ I h) fun v s1 ⟨x, H1, I1, r1, q1⟩ => ?_
  refine thn (hb pins s1 σ H1 _ I1 q1) fun u s2 ⟨y, H2, I2, r2, q2⟩ => ?_
  exact hf v u s2 x y H2 I2 r1 r2 q2

theorem pe_op {op : Operator} {r : R2} (ho : OpR X (binaryOp op) r) (ha : PE X a ta) (hb : PE X b tb) : PE X (.BinOp a op b pos) (tOp r ta tb) := by
  intro pins s σ H Q I h
  exact wpAny_BinOp (binT ha hb I h fun v u s2 x y H2 I2 rx ry q => ho pins s2 σ H2 x y v u Q I2 rx ry q)
theorem pe_un {op : UnaryOp} {r : V → Hp → VK → Prop} (ho : UnR X (unaryOp op) r) (ha : PE X a ta) : PE X (.UnaryOp op a pos) (tUn r ta) := by
  intro pins s σ H Q I h
  exact UnaryOp_ (thn (ha pins s σ H _ I h) fun v s1 ⟨x, H1, I1, r1, q1⟩ => ho pins s1 σ H1 x v Q I1 r1 q1)
/-- a op= e at a name: the name's slot i -/
theorem augR {op : Operator} {r : R2} (ho : OpR X (inplaceOp op) r) {pins : List (Addr × Obj)} {s : Shared} {σ : St} {H : Hp} {x y : V} {v u : Value} {Q : VK} (I : Inv X pins σ H s)
    (rx : RelV x v) (ry : RelV y u) (q : r x y H Q) : wpAny (model X.prog X.w) X.A (inplaceOp op v u) (EP X pins σ Q) X.xe s := ho pins s σ H x y v u Q I rx ry q

/-! ### ints -/
theorem opI {f : Value → Value → Sem Value} {C : Int → Int → Prop} {g : Int → Int → Int}
    (rule : ∀ (i j : Int) (t u : Tok) (s : Shared) (Q : Value → Shared → Prop) (E : Value → Shared → Prop), C i j → Q (.int (g i j) s.toks) { s with toks := s.toks + 1 } → wpAny (model X.prog X.w) X.A (f (.int i t) (.int j u)) Q E s) :
    OpR X f (rI C fun i j => .int (g i j)) := by
  intro pins s σ H x y v u Q I rx ry h
  obtain ⟨i, j, rfl, rfl, hc, q⟩ := h
  obtain ⟨t, rfl⟩ := rx
  obtain ⟨t', rfl⟩ := ry
  exact rule i j t t' s _ _ hc ⟨.int (g i j), H, I.tok _, ⟨_, rfl⟩, q⟩
theorem opI0 {f : Value → Value → Sem Value} {g : Int → Int → Int}
    (rule : ∀ (i j : Int) (t u : Tok) (s : Shared) (Q : Value → Shared → Prop) (E : Value → Shared → Prop), Q (.int (g i j) s.toks) { s with toks := s.toks + 1 } → wpAny (model X.prog X.w) X.A (f (.int i t) (.int j u)) Q E s) :
    OpR X f (rI0 fun i j => .int (g i j)) := by
  intro pins s σ H x y v u Q I rx ry h
  obtain ⟨i, j, rfl, rfl, q⟩ := h
  obtain ⟨t, rfl⟩ := rx
  obtain ⟨t', rfl⟩ := ry
  exact rule i j t t' s _ _ ⟨.int (g i j), H, I.tok _, ⟨_, rfl⟩, q⟩
theorem opB0 {f : Value → Value → Sem Value} {g : Int → Int → Bool}
    (rule : ∀ (i j : Int) (t u : Tok) (s : Shared) (Q : Value → Shared → Prop) (E : Value → Shared → Prop), Q (.bool (g i j)) s → wpAny (model X.prog X.w) X.A (f (.int i t) (.int j u)) Q E s) :
    OpR X f (rI0 fun i j => .bl (g i j)) := by
  intro pins s σ H x y v u Q I rx ry h
  obtain ⟨i, j, rfl, rfl, q⟩ := h
  obtain ⟨t, rfl⟩ := rx
  obtain ⟨t', rfl⟩ := ry
  exact rule i j t t' s _ _ ⟨.bl (g i j), H, I, rfl, q⟩

def CDiv (i j : Int) : Prop := 0 < j ∧ j < 1073741824
def CDivN (i j : Int) : Prop := j ≠ 0 ∧ j.natAbs < 1073741824
def CPow (i j : Int) : Prop := 0 ≤ j ∧ j ≤ 1000000 ∧ i.natAbs < 2 ^ 64
def CMul (i j : Int) : Prop := (-(2 ^ 64) < i ∧ i < 2 ^ 64) ∨ (-(2 ^ 64) < j ∧ j < 2 ^ 64)
theorem CMul.ok {i j : Int} (h : CMul i j) : IntMulOk i j := by
  rcases h with ⟨h1, h2⟩ | ⟨h1, h2⟩
  · exact .of_left (intBits_le_64 h1 h2)
  · exact .of_right (intBits_le_64 h1 h2)
theorem two_pow_nn (k : Nat) : (0 : Int) ≤ 2 ^ k := by
  rw [two_pow_cast]
  exact Int.natCast_nonneg _

theorem op_add : OpR X (binaryOp .Add) (rI0 fun i j => .int (i + j)) := opI0 fun _ _ _ _ _ _ _ q => add_int q
theorem op_sub : OpR X (binaryOp .Sub) (rI0 fun i j => .int (i - j)) := opI0 fun _ _ _ _ _ _ _ q => sub_int q
theorem op_mul : OpR X (binaryOp .Mult) (rI CMul fun i j => .int (i * j)) := opI fun _ _ _ _ _ _ _ hc q => mul_int q hc.ok
/-- // by a positive divisor -/
theorem op_fdiv : OpR X (binaryOp .FloorDiv) (rI CDiv fun i j => .int (i / j)) := opI fun i j _ _ _ _ _ hc q => by
  have h1 : (0 : Int) < j := hc.1
  have h2 : j < 1073741824 := hc.2
  exact floordiv_int (by omega) (by rw [Int.fdiv_eq_ediv_of_nonneg i (by omega)]; exact q) (.inl (PyProof.noPylong_small (by omega)))
theorem op_fdivN : OpR X (binaryOp .FloorDiv) (rI CDivN fun i j => .int (i.fdiv j)) := opI fun _ _ _ _ _ _ _ hc q => floordiv_int hc.1 q (.inl (PyProof.noPylong_small hc.2))
/-- % by a positive divisor of any size -/
theorem op_mod : OpR X (binaryOp .Mod) (rI (fun _ j => 0 < j) fun i j => .int (i % j)) := opI fun i j _ _ _ _ _ hc q => by
  have h1 : (0 : Int) < j := hc
  exact mod_int' (by omega) (by rw [Int.fmod_eq_emod_of_nonneg i (by omega)]; exact q)
theorem op_modN : OpR X (binaryOp .Mod) (rI (fun _ j => j ≠ 0) fun i j => .int (i.fmod j)) := opI fun _ _ _ _ _ _ _ hc q => mod_int' hc q
theorem op_pow : OpR X (binaryOp .Pow) (rI CPow fun i j => .int (i ^ j.toNat)) := opI fun _ _ _ _ _ _ _ hc q => pow_int_small hc.1 hc.2.1 hc.2.2 q
theorem op_shl : OpR X (binaryOp .LShift) (rI CPow fun i j => .int (i * 2 ^ j.toNat)) := opI fun _ _ _ _ _ _ _ hc q => lshift_int_small hc.1 hc.2.1 hc.2.2 q
theorem op_shr : OpR X (binaryOp .RShift) (rI (fun _ j => 0 ≤ j) fun i j => .int (i / 2 ^ j.toNat)) := opI fun i j _ _ _ _ _ hc q =>
  rshift_int hc (by rw [Int.fdiv_eq_ediv_of_nonneg i (two_pow_nn _)]; exact q)
theorem op_and : OpR X (binaryOp .BitAnd) (rI0 fun i j => .int (Builtin.bitAnd i j)) := opI0 fun _ _ _ _ _ _ _ q => and_int q
theorem op_or : OpR X (binaryOp .BitOr) (rI0 fun i j => .int (Builtin.bitOr i j)) := opI0 fun _ _ _ _ _ _ _ q => or_int q
theorem op_xor : OpR X (binaryOp .BitXor) (rI0 fun i j => .int (Builtin.bitXor i j)) := opI0 fun _ _ _ _ _ _ _ q => xor_int q

theorem iop_add : OpR X (inplaceOp .Add) (rI0 fun i j => .int (i + j)) := opI0 fun _ _ _ _ _ _ _ q => iadd_int q
theorem iop_sub : OpR X (inplaceOp .Sub) (rI0 fun i j => .int (i - j)) := opI0 fun _ _ _ _ _ _ _ q => isub_int q
theorem iop_mul : OpR X (inplaceOp .Mult) (rI CMul fun i j => .int (i * j)) := opI fun _ _ _ _ _ _ _ hc q => imul_int q hc.ok
theorem iop_fdiv : OpR X (inplaceOp .FloorDiv) (rI CDiv fun i j => .int (i / j)) := opI fun i j _ _ _ _ _ hc q => by
  have h1 : (0 : Int) < j := hc.1
  have h2 : j < 1073741824 := hc.2
  exact ifloordiv_int (by omega) (by rw [Int.fdiv_eq_ediv_of_nonneg i (by omega)]; exact q) (.inl (PyProof.noPylong_small (by omega)))
theorem iop_mod : OpR X (inplaceOp .Mod) (rI (fun _ j => 0 < j) fun i j => .int (i % j)) := opI fun i j _ _ _ _ _ hc q => by
  have h1 : (0 : Int) < j := hc
  exact imod_int (by omega) (by rw [Int.fmod_eq_emod_of_nonneg i (by omega)]; exact q)
theorem iop_shl : OpR X (inplaceOp .LShift) (rI CPow fun i j => .int (i * 2 ^ j.toNat)) := opI fun _ _ _ _ _ _ _ hc q => ilshift_int_small hc.1 hc.2.1 hc.2.2 q
theorem iop_shr : OpR X (inplaceOp .RShift) (rI (fun _ j => 0 ≤ j) fun i j => .int (i / 2 ^ j.toNat)) := opI fun i j _ _ _ _ _ hc q =>
  irshift_int hc (by rw [Int.fdiv_eq_ediv_of_nonneg i (two_pow_nn _)]; exact q)
theorem iop_and : OpR X (inplaceOp .BitAnd) (rI0 fun i j => .int (Builtin.bitAnd i j)) := opI0 fun _ _ _ _ _ _ _ q => iand_int q
theorem iop_or : OpR X (inplaceOp .BitOr) (rI0 fun i j => .int (Builtin.bitOr i j)) := opI0 fun _ _ _ _ _ _ _ q => ior_int q
theorem iop_xor : OpR X (inplaceOp .BitXor) (rI0 fun i j => .int (Builtin.bitXor i j)) := opI0 fun _ _ _ _ _ _ _ q => ixor_int q

theorem unI {f : Value → Sem Value} {g : Int → Int}
    (rule : ∀ (i : Int) (t : Tok) (s : Shared) (Q : Value → Shared → Prop) (E : Value → Shared → Prop), Q (.int (g i) s.toks) { s with toks := s.toks + 1 } → wpAny (model X.prog X.w) X.A (f (.int i t)) Q E s) :
    UnR X f (rU fun i => .int (g i)) := by
  intro pins s σ H x v Q I rx h
  obtain ⟨i, rfl, q⟩ := h
  obtain ⟨t, rfl⟩ := rx
  exact rule i t s _ _ ⟨.int (g i), H, I.tok _, ⟨_, rfl⟩, q⟩
theorem un_neg : UnR X (unaryOp .USub) (rU fun i => .int (-i)) := unI fun _ _ _ _ _ q => neg_int q
theorem un_inv : UnR X (unaryOp .Invert) (rU fun i => .int (Builtin.bitNot i)) := unI fun _ _ _ _ _ q => invert_int q

/-! ### bools among ints: n += (a < b) -/
theorem op_add_ib : OpR X (binaryOp .Add) (fun x y H Q => ∃ i k, x = .int i ∧ y = .bl k ∧ Q (.int (i + b2i k)) H) := by
  intro pins s σ H x y v u Q I rx ry h
  obtain ⟨i, k, rfl, rfl, q⟩ := h
  obtain ⟨t, rfl⟩ := rx
  cases ry
  exact add_int_bool ⟨.int (i + b2i k), H, I.tok _, ⟨_, rfl⟩, q⟩
end

/-! ### comparisons -/
/-- the scalars that == tells apart as data does -/
def scal : V → V → Bool
  | .non, .non => true | .non, .int _ => true | .int _, .non => true | .non, .bl _ => true | .bl _, .non => true | .non, .str _ => true | .str _, .non => true
  | .int _, .int _ => true | .bl _, .bl _ => true | .str _, .str _ => true | .byt _, .byt _ => true
  | .int _, .str _ => true | .str _, .int _ => true | .bl _, .str _ => true | .str _, .bl _ => true
  | _, _ => false
def rEq : R2 := fun x y H Q => scal x y = true ∧ Q (.bl (decide (x = y))) H
def rNe : R2 := fun x y H Q => scal x y = true ∧ Q (.bl (!decide (x = y))) H

theorem dec_int {i j : Int} : decide (V.int i = V.int j) = (i == j) := by
  rw [Bool.eq_iff_iff]
  simp
theorem dec_bl {i j : Bool} : decide (V.bl i = V.bl j) = (i == j) := by
  rw [Bool.eq_iff_iff]
  simp
theorem dec_str {i j : Str} : decide (V.str i = V.str j) = (i == j) := by
  rw [Bool.eq_iff_iff]
  simp
theorem dec_byt {i j : Array UInt8} : decide (V.byt i = V.byt j) = (i.toList == j.toList) := by
  rw [Bool.eq_iff_iff]
  cases i
  cases j
  simp

section
variable {X : Cx} {a b c : Expr} {ta tb tc : TE} {pos : Pos}
theorem fin_bl {pins : List (Addr × Obj)} {σ : St} {H : Hp} {s : Shared} {Q : VK} {k k' : Bool} (I : Inv X pins σ H s) (q : Q (.bl k) H) (e : k = k') : EP X pins σ Q (.bool k') s := by
  subst e
  exact ⟨.bl k, H, I, rfl, q⟩
theorem op_eq : OpR X (compareOp .Eq) rEq := by
  intro pins s σ H x y v u Q I rx ry h
  obtain ⟨hs, q⟩ := h
  cases x with
  | non =>
    cases rx
    cases y with
    | non => cases ry; exact PySem.EqNone.eq_none_none (fin_bl I q (by simp))
    | bl j => cases ry; exact PySem.EqNone.eq_none_bool (fin_bl I q (by simp))
    | int j => obtain ⟨t', rfl⟩ := ry; exact PySem.EqNone.eq_none_int (fin_bl I q (by simp))
    | str j => obtain ⟨t', rfl⟩ := ry; exact PySem.EqNone.eq_none_str (fin_bl I q (by simp))
    | _ => exact absurd (show false = true from hs) Bool.false_ne_true
  | bl i =>
    cases rx
    cases y with
    | non => cases ry; exact PySem.EqNone.eq_bool_none (fin_bl I q (by simp))
    | bl j => cases ry; exact eq_bool (fin_bl I q dec_bl)
    | str j => obtain ⟨t', rfl⟩ := ry; exact PySem.EqMixed.eq_bool_str (fin_bl I q (by simp))
    | _ => exact absurd (show false = true from hs) Bool.false_ne_true
  | int i =>
    obtain ⟨t, rfl⟩ := rx
    cases y with
    | non => cases ry; exact PySem.EqNone.eq_int_none (fin_bl I q (by simp))
    | int j => obtain ⟨t', rfl⟩ := ry; exact eq_int (fin_bl I q dec_int)
    | str j => obtain ⟨t', rfl⟩ := ry; exact PySem.EqMixed.eq_int_str (fin_bl I q (by simp))
    | _ => exact absurd (show false = true from hs) Bool.false_ne_true
  | str i =>
    obtain ⟨t, rfl⟩ := rx
    cases y with
    | non => cases ry; exact PySem.EqNone.eq_str_none (fin_bl I q (by simp))
    | bl j => cases ry; exact PySem.EqMixed.eq_str_bool (fin_bl I q (by simp))
    | int j => obtain ⟨t', rfl⟩ := ry; exact PySem.EqMixed.eq_str_int (fin_bl I q (by simp))
    | str j => obtain ⟨t', rfl⟩ := ry; exact eq_str (fin_bl I q dec_str)
    | _ => exact absurd (show false = true from hs) Bool.false_ne_true
  | byt i =>
    obtain ⟨t, rfl⟩ := rx
    cases y with
    | byt j => obtain ⟨t', rfl⟩ := ry; exact PySem.W.eq_bytes (fin_bl I q dec_byt)
    | _ => exact absurd (show false = true from hs) Bool.false_ne_true
  | _ => cases y <;> exact absurd (show false = true from hs) Bool.false_ne_true
theorem op_ne : OpR X (compareOp .NotEq) rNe := by
  intro pins s σ H x y v u Q I rx ry h
  obtain ⟨hs, q⟩ := h
  cases x with
  | non =>
    cases rx
    cases y with
    | non => cases ry; exact PySem.EqNone.ne_none_none (fin_bl I q (by simp))
    | bl j => cases ry; exact PySem.EqNone.ne_none_bool (fin_bl I q (by simp))
    | int j => obtain ⟨t', rfl⟩ := ry; exact PySem.EqNone.ne_none_int (fin_bl I q (by simp))
    | str j => obtain ⟨t', rfl⟩ := ry; exact PySem.EqNone.ne_none_str (fin_bl I q (by simp))
    | _ => exact absurd (show false = true from hs) Bool.false_ne_true
  | bl i =>
    cases rx
    cases y with
    | non => cases ry; exact PySem.EqNone.ne_bool_none (fin_bl I q (by simp))
    | bl j => cases ry; exact ne_bool (fin_bl I q (congrArg not dec_bl))
    | str j => obtain ⟨t', rfl⟩ := ry; exact PySem.EqMixed.ne_bool_str (fin_bl I q (by simp))
    | _ => exact absurd (show false = true from hs) Bool.false_ne_true
  | int i =>
    obtain ⟨t, rfl⟩ := rx
    cases y with
    | non => cases ry; exact PySem.EqNone.ne_int_none (fin_bl I q (by simp))
    | int j => obtain ⟨t', rfl⟩ := ry; exact ne_int (fin_bl I q (congrArg not dec_int))
    | str j => obtain ⟨t', rfl⟩ := ry; exact PySem.EqMixed.ne_int_str (fin_bl I q (by simp))
    | _ => exact absurd (show false = true from hs) Bool.false_ne_true
  | str i =>
    obtain ⟨t, rfl⟩ := rx
    cases y with
    | non => cases ry; exact PySem.EqNone.ne_str_none (fin_bl I q (by simp))
    | bl j => cases ry; exact PySem.EqMixed.ne_str_bool (fin_bl I q (by simp))
    | int j => obtain ⟨t', rfl⟩ := ry; exact PySem.EqMixed.ne_str_int (fin_bl I q (by simp))
    | str j => obtain ⟨t', rfl⟩ := ry; exact ne_str (fin_bl I q (congrArg not dec_str))
    | _ => exact absurd (show false = true from hs) Bool.false_ne_true
  | byt i =>
    obtain ⟨t, rfl⟩ := rx
    cases y with
    | byt j => obtain ⟨t', rfl⟩ := ry; exact PySem.W.ne_bytes (fin_bl I q (congrArg not dec_byt))
    | _ => exact absurd (show false = true from hs) Bool.false_ne_true
  | _ => cases y <;> exact absurd (show false = true from hs) Bool.false_ne_true

theorem op_lt : OpR X (compareOp .Lt) (rI0 fun i j => .bl (decide (i < j))) := opB0 fun _ _ _ _ _ _ _ q => lt_int q
theorem op_le : OpR X (compareOp .LtE) (rI0 fun i j => .bl (decide (i ≤ j))) := opB0 fun _ _ _ _ _ _ _ q => le_int q
theorem op_gt : OpR X (compareOp .Gt) (rI0 fun i j => .bl (decide (j < i))) := opB0 fun _ _ _ _ _ _ _ q => gt_int q
theorem op_ge : OpR X (compareOp .GtE) (rI0 fun i j => .bl (decide (j ≤ i))) := opB0 fun _ _ _ _ _ _ _ q => ge_int q
theorem op_lt_str : OpR X (compareOp .Lt) (fun x y H Q => ∃ i j, x = .str i ∧ y = .str j ∧ Q (.bl (decide (i.cps.toList < j.cps.toList))) H) := by
  intro pins s σ H x y v u Q I rx ry h
  obtain ⟨i, j, rfl, rfl, q⟩ := h
  obtain ⟨t, rfl⟩ := rx
  obtain ⟨t', rfl⟩ := ry
  exact lt_str (fin_bl I q rfl)
/-- the one string within the other -/
theorem op_in_str : OpR X (compareOp .In) (fun x y H Q => ∃ i j, x = .str i ∧ y = .str j ∧ Q (.bl (!(Builtin.Str.occurrences j i 0 j.length 1).isEmpty)) H) := by
  intro pins s σ H x y v u Q I rx ry h
  obtain ⟨i, j, rfl, rfl, q⟩ := h
  obtain ⟨t, rfl⟩ := rx
  obtain ⟨t', rfl⟩ := ry
  exact in_str (fin_bl I q rfl)

/-- is None, is not None: the right side a value none -/
theorem op_isN : OpR X (compareOp .Is) (fun x y H Q => y = .non ∧ Q (.bl (decide (x = .non))) H) := by
  intro pins s σ H x y v u Q I rx ry h
  obtain ⟨rfl, q⟩ := h
  cases ry
  refine is_none_gen (fin_bl I q ?_)
  cases x <;> first
    | (cases rx; rfl)
    | (obtain ⟨t, rfl⟩ := rx; rfl)
theorem op_notN : OpR X (compareOp .IsNot) (fun x y H Q => y = .non ∧ Q (.bl (!decide (x = .non))) H) := by
  intro pins s σ H x y v u Q I rx ry h
  obtain ⟨rfl, q⟩ := h
  cases ry
  refine isnot_none_gen (fin_bl I q ?_)
  cases x <;> first
    | (cases rx; rfl)
    | (obtain ⟨t, rfl⟩ := rx; rfl)

theorem op_notin_str : OpR X (compareOp .NotIn) (fun x y H Q => ∃ i j, x = .str i ∧ y = .str j ∧ Q (.bl (!(!(Builtin.Str.occurrences j i 0 j.length 1).isEmpty))) H) := by
  intro pins s σ H x y v u Q I rx ry h
  obtain ⟨i, j, rfl, rfl, q⟩ := h
  obtain ⟨t, rfl⟩ := rx
  obtain ⟨t', rfl⟩ := ry
  exact notIn_str (fin_bl I q rfl)
/-- is, is not of two objects that are tracked lists or instances -/
def isObj : HO → Bool
  | .lst _ => true
  | .ins _ _ _ => true
  | _ => false
theorem obj_there {pins : List (Addr × Obj)} {s : Shared} {σ : St} {H : Hp} {a : Addr} {o : HO} (I : Inv X pins σ H s) (h : H a = some o) (p : isObj o = true) : ∃ ob, s.heap.get? a = some ob ∧ ob.cls ≠ .type "tuple" := by
  cases o with
  | lst xs =>
    obtain ⟨_, its, n, _, e⟩ : xs.length ≤ sizeLine ∧ ∃ (its : List Value) (n : Nat), Vals xs its ∧ s.heap.get? a = some { cls := .type "list", data := .seq its.toArray n } := I.hok a _ h
    exact ⟨_, e, (by show Value.type "list" ≠ .type "tuple"; decide +kernel)⟩
  | ins C dx fs =>
    have x := I.hok a _ h
    obtain ⟨_, _, _, e, _⟩ := x
    exact ⟨_, e, (by show Value.ref C ≠ .type "tuple"; exact fun z => by cases z)⟩
  | _ => exact absurd (show false = true from p) Bool.false_ne_true
theorem op_is_ref : OpR X (compareOp .Is) (fun x y H Q => ∃ a b oa ob, x = .ref a ∧ y = .ref b ∧ H a = some oa ∧ isObj oa = true ∧ H b = some ob ∧ isObj ob = true ∧ Q (.bl (decide (a = b))) H) := by
  intro pins s σ H x y v u Q I rx ry h
  obtain ⟨a, b, oa, ob, rfl, rfl, ha, pa, hb, pb, q⟩ := h
  cases rx
  cases ry
  obtain ⟨o1, e1, n1⟩ := obj_there I ha pa
  obtain ⟨o2, e2, _⟩ := obj_there I hb pb
  by_cases z : a = b
  · subst z
    exact wpAny_is_ref_self (fin_bl I q (by simp))
  · exact wpAny_is_ref_other z e1 e2 n1 (fin_bl I q (by simp [z]))
theorem op_isnot_ref : OpR X (compareOp .IsNot) (fun x y H Q => ∃ a b oa ob, x = .ref a ∧ y = .ref b ∧ H a = some oa ∧ isObj oa = true ∧ H b = some ob ∧ isObj ob = true ∧ Q (.bl (!decide (a = b))) H) := by
  intro pins s σ H x y v u Q I rx ry h
  obtain ⟨a, b, oa, ob, rfl, rfl, ha, pa, hb, pb, q⟩ := h
  cases rx
  cases ry
  obtain ⟨o1, e1, n1⟩ := obj_there I ha pa
  obtain ⟨o2, e2, _⟩ := obj_there I hb pb
  by_cases z : a = b
  · subst z
    exact wpAny_isNot_ref_self (fin_bl I q (by simp))
  · exact wpAny_isNot_ref_other z e1 e2 n1 (fin_bl I q (by simp [z]))

/-- two rules for one operation: by cases -/
theorem OpR.or {f : Value → Value → Sem Value} {r r' : R2} (h : OpR X f r) (h' : OpR X f r') : OpR X f (fun x y H Q => r x y H Q ∨ r' x y H Q) := by
  intro pins s σ H x y v u Q I rx ry q
  rcases q with q | q
  · exact h pins s σ H x y v u Q I rx ry q
  · exact h' pins s σ H x y v u Q I rx ry q

theorem nomark (b : Expr) {op : CmpOp} (h : op ≠ .In := by decide) (h2 : op ≠ .NotIn := by decide) : behindInMarks op b = false := by
  have e1 : (op == CmpOp.In) = false := by cases op <;> first | rfl | exact absurd rfl h
  have e2 : (op == CmpOp.NotIn) = false := by cases op <;> first | rfl | exact absurd rfl h2
  cases b <;> simp [behindInMarks, e1, e2]
/-- a comparison as a value; hm: nomark b, or (for in, not in) by with_unfolding_all rfl -/
theorem pe_cmpR {op : CmpOp} {r : R2} (ho : OpR X (compareOp op) r) (ha : PE X a ta) (hb : PE X b tb) (hm : behindInMarks op b = false) : PE X (.Compare a [op] [b] pos) (tOp r ta tb) := by
  intro pins s σ H Q I h
  exact wpAny_Compare1 (binT ha hb I h fun v u s2 x y H2 I2 rx ry q => ho pins s2 σ H2 x y v u Q I2 rx ry q) hm
/-- a reading of a value as a test -/
def tTest (t : TE) : TT := fun σ H Q => t σ H fun x H' => ∃ k, x = .bl k ∧ Q k H'
theorem pt_cmpR {op : CmpOp} {r : R2} (ho : OpR X (compareOp op) r) (ha : PE X a ta) (hb : PE X b tb) (hm : behindInMarks op b = false) : PT X (.Compare a [op] [b] pos) (tTest (tOp r ta tb)) := by
  intro pins s σ H Q I h
  refine wpAny_isTrue_Compare1 (thn (ha pins s σ H _ I h) fun v s1 ⟨x, H1, I1, r1, q1⟩ => thn (hb pins s1 σ H1 _ I1 q1) fun u s2 ⟨y, H2, I2, r2, q2⟩ =>
    thn (ho pins s2 σ H2 x y v u _ I2 r1 r2 q2) fun c s3 ⟨z, H3, I3, r3, k, e, q3⟩ => ?_) hm
  subst e
  cases r3
  exact wpAny_truthy_bool ⟨H3, I3, q3⟩
/-- a op1 b op2 c -/
def tChain (r r' : R2) (ta tb tc : TE) : TE := fun σ H Q => ta σ H fun x H1 => tb σ H1 fun y H2 => r x y H2 fun z H3 => ∃ k, z = .bl k ∧
  (if k = true then tc σ H3 fun w' H4 => r' y w' H4 Q else Q (.bl false) H3)
theorem pe_chain {op op' : CmpOp} {r r' : R2} (ho : OpR X (compareOp op) r) (ho' : OpR X (compareOp op') r') (ha : PE X a ta) (hb : PE X b tb) (hc : PE X c tc)
    (hm : lastMarks [op, op'] [b, c] = false := by with_unfolding_all rfl) : PE X (.Compare a [op, op'] [b, c] pos) (tChain r r' ta tb tc) := by
  intro pins s σ H Q I h
  refine Compare_chain (thn (ha pins s σ H _ I h) fun v s1 ⟨x, H1, I1, r1, q1⟩ => chain_link (thn (hb pins s1 σ H1 _ I1 q1) fun u s2 ⟨y, H2, I2, r2, q2⟩ =>
    thn (ho pins s2 σ H2 x y v u _ I2 r1 r2 q2) fun d s3 ⟨z, H3, I3, r3, k, e, q3⟩ => ?_)) hm
  subst e
  cases r3
  refine wpAny_truthy_bool ?_
  cases k with
  | false => exact ite_ff ⟨.bl false, H3, I3, rfl, q3⟩
  | true => exact ite_tt (chain_last (thn (hc pins s3 σ H3 _ I3 q3) fun w' s4 ⟨z', H4, I4, r4, q4⟩ => ho' pins s4 σ H4 y z' u w' Q I4 r2 r4 q4))
theorem pt_chain {op op' : CmpOp} {r r' : R2} (ho : OpR X (compareOp op) r) (ho' : OpR X (compareOp op') r') (ha : PE X a ta) (hb : PE X b tb) (hc : PE X c tc)
    (hm : lastMarks [op, op'] [b, c] = false := by with_unfolding_all rfl) : PT X (.Compare a [op, op'] [b, c] pos) (tTest (tChain r r' ta tb tc)) := by
  intro pins s σ H Q I h
  refine isTrue_chain (thn (ha pins s σ H _ I h) fun v s1 ⟨x, H1, I1, r1, q1⟩ => test_link (thn (hb pins s1 σ H1 _ I1 q1) fun u s2 ⟨y, H2, I2, r2, q2⟩ =>
    thn (ho pins s2 σ H2 x y v u _ I2 r1 r2 q2) fun d s3 ⟨z, H3, I3, r3, k, e, q3⟩ => ?_)) hm
  subst e
  cases r3
  refine wpAny_truthy_bool ?_
  cases k with
  | false =>
    obtain ⟨k', e', q'⟩ := q3
    cases e'
    exact ite_ff ⟨H3, I3, q'⟩
  | true =>
    refine ite_tt (test_last (thn (hc pins s3 σ H3 _ I3 q3) fun w' s4 ⟨z', H4, I4, r4, q4⟩ => thn (ho' pins s4 σ H4 y z' u w' _ I4 r2 r4 q4) fun d' s5 ⟨z2, H5, I5, r5, k2, e2, q5⟩ => ?_))
    subst e2
    cases r5
    exact wpAny_truthy_bool ⟨H5, I5, q5⟩

/-! ### truth -/
/-- a value's truth by the abstract heap -/
def TruV (K : PySem.W.Frag) (x : V) (H : Hp) (k : Bool) : Prop :=
  match x with
  | .non => k = false
  | .bl b => k = b
  | .int i => k = (i != 0)
  | .str y => y.length ≤ sizeLine ∧ k = ((y.length : Int) != 0)
  | .byt y => y.size ≤ sizeLine ∧ k = ((y.size : Int) != 0)
  | .ref p => (∃ xs, SqL K H p xs ∧ k = !xs.isEmpty) ∨ (∃ xs, SqT K H p xs ∧ k = !xs.isEmpty) ∨ ∃ kvs, H p = some (.dK kvs) ∧ k = !kvs.isEmpty
  | _ => False
theorem isEmpty_kv {κ : Type} {kvs : List (κ × V)} {vs : List (κ × Value)} (r : KV kvs vs) : (!vs.isEmpty) = !kvs.isEmpty := by
  cases r <;> rfl
theorem isEmpty_of {xs : List V} {its : List Value} (r : Vals xs its) : (!its.toArray.isEmpty) = !xs.isEmpty := by
  cases r <;> simp
theorem line63 : (sizeLine : Nat) < 2 ^ 63 := by rw [sizeLine_eq]; decide
theorem tru_ok : TruR X (fun x H Q => ∃ k, TruV X.K x H k ∧ Q k H) := by
  intro pins s σ H x v Q I rx h
  obtain ⟨k, e, q⟩ := h
  have hl := line63
  have hs : sizeLine = 16777216 := sizeLine_eq
  cases x with
  | non =>
    cases rx
    have e' : k = false := e
    subst e'
    exact truthy_none ⟨H, I, q⟩
  | bl b =>
    cases rx
    have e' : k = b := e
    subst e'
    exact wpAny_truthy_bool ⟨H, I, q⟩
  | int i =>
    obtain ⟨t, rfl⟩ := rx
    have e' : k = (i != 0) := e
    subst e'
    exact PySem.P.truthy_int ⟨H, I, q⟩
  | str y =>
    obtain ⟨t, rfl⟩ := rx
    obtain ⟨hy, e'⟩ : y.length ≤ sizeLine ∧ k = ((y.length : Int) != 0) := e
    subst e'
    exact PySem.P.truthy_str (by omega) ⟨H, I.tok _, q⟩
  | byt y =>
    obtain ⟨t, rfl⟩ := rx
    obtain ⟨hy, e'⟩ : y.size ≤ sizeLine ∧ k = ((y.size : Int) != 0) := e
    subst e'
    exact PySem.W.truthy_bytes (by omega) ⟨H, I.tok _, q⟩
  | ref p =>
    cases rx
    have e' : (∃ xs, SqL X.K H p xs ∧ k = !xs.isEmpty) ∨ (∃ xs, SqT X.K H p xs ∧ k = !xs.isEmpty) ∨ ∃ kvs, H p = some (.dK kvs) ∧ k = !kvs.isEmpty := e
    rcases e' with ⟨xs, hx, e'⟩ | ⟨xs, hx, e'⟩ | ⟨kvs, hx, e'⟩
    · subst e'
      obtain ⟨its, r, pl, hz⟩ := I.list hx
      have hlen := r.length
      exact wpAny_truthy_list pl.isList (by simp only [List.size_toArray]; omega) ⟨H, I.tok _, by rw [isEmpty_of r]; exact q⟩
    · subst e'
      obtain ⟨its, r, pl, hz⟩ := I.tuple hx
      have hlen := r.length
      exact truthy_tuple pl (by simp only [List.size_toArray]; omega) ⟨H, I.tok _, by rw [isEmpty_of r]; exact q⟩
    · subst e'
      obtain ⟨hz, hS, vs, r, m⟩ : kvs.length ≤ sizeLine ∧ (p == sysModules) = false ∧ ∃ vs, KV kvs vs ∧ s.heap.DictOf (mixKind X.prog X.w) p vs := I.hok p _ hx
      have hlen : kvs.length = vs.length := Paired.length r
      exact wpAny_truthy_dict hS m (by omega) ⟨H, I.tok _, by rw [isEmpty_kv r]; exact q⟩
  | _ => exact (show False from e).elim
/-- any expression whose test is its value's truth (a name, a call, a subscript, a field ..: he by fun _ => rfl) -/
theorem pt_truth (ha : PE X a ta) (he : ∀ whole, isTrue a X.env whole = (do let v ← whole; standAt a.pos; holding [v] (truthy v))) :
    PT X a (fun σ H Q => ta σ H fun x H' => ∃ k, TruV X.K x H' k ∧ Q k H') := by
  intro pins s σ H Q I h
  exact isTrue_plain (thn (ha pins s σ H _ I h) fun v s1 ⟨x, H1, I1, r1, q1⟩ => tru_ok pins s1 σ H1 x v Q I1 r1 q1) (he _)

/-! ### strs and bytes -/
theorem pe_byt {x : List UInt8} {k : Nat} : PE X (.Constant (.bytes x) k pos) (fun _ H Q => Q (.byt x.toArray) H) := fun _ _ _ H _ I h => PySem.W.Constant_bytes ⟨.byt x.toArray, H, I.tok _, ⟨_, rfl⟩, h⟩
theorem op_add_str : OpR X (binaryOp .Add) (fun x y H Q => ∃ i j, x = .str i ∧ y = .str j ∧ i.length + j.length ≤ sizeLine ∧ Q (.str (i ++ j)) H) := by
  intro pins s σ H x y v u Q I rx ry h
  obtain ⟨i, j, rfl, rfl, hz, q⟩ := h
  obtain ⟨t, rfl⟩ := rx
  obtain ⟨t', rfl⟩ := ry
  exact add_str (fun t' tk => ⟨.str (i ++ j), H, I.tok _, ⟨_, rfl⟩, q⟩) hz
theorem iop_add_str : OpR X (inplaceOp .Add) (fun x y H Q => ∃ i j, x = .str i ∧ y = .str j ∧ i.length + j.length ≤ sizeLine ∧ Q (.str (i ++ j)) H) := by
  intro pins s σ H x y v u Q I rx ry h
  obtain ⟨i, j, rfl, rfl, hz, q⟩ := h
  obtain ⟨t, rfl⟩ := rx
  obtain ⟨t', rfl⟩ := ry
  exact iadd_str (fun t' tk => ⟨.str (i ++ j), H, I.tok _, ⟨_, rfl⟩, q⟩) hz
theorem op_add_byt : OpR X (binaryOp .Add) (fun x y H Q => ∃ i j, x = .byt i ∧ y = .byt j ∧ i.size + j.size ≤ 16777216 ∧ Q (.byt (i ++ j)) H) := by
  intro pins s σ H x y v u Q I rx ry h
  obtain ⟨i, j, rfl, rfl, hz, q⟩ := h
  obtain ⟨t, rfl⟩ := rx
  obtain ⟨t', rfl⟩ := ry
  exact PySem.W.KBy.add_bytes hz (fun t' tk => ⟨.byt (i ++ j), H, I.tok _, ⟨_, rfl⟩, q⟩)

def PlainIxT (b : Expr) : Prop := ∀ o i, subscripted b false o i = operate [o, i] (getItem o i)
/-- s[i], 0 ≤ i < len -/
theorem pe_item_str (ha : PE X a ta) (hb : PE X b tb) (hs : PlainIxT b) :
    PE X (.Subscript a b pos) (tOp (fun x y H Q => ∃ z i c, x = .str z ∧ y = .int i ∧ 0 ≤ i ∧ i < 2 ^ 63 ∧ i < z.length ∧ z.cps[i.toNat]? = some c ∧ Q (.str ⟨#[c]⟩) H) ta tb) := by
  intro pins s σ H Q I h
  refine Subscript_ (binT ha hb I h fun v u s2 x y H2 I2 rx ry q => ?_)
  obtain ⟨z, i, c, rfl, rfl, h0, h63, h1, hc, q⟩ := q
  obtain ⟨t, rfl⟩ := rx
  obtain ⟨t', rfl⟩ := ry
  have e : seqIndex? i z.length = some i.toNat := PySem.StrLaws.seqIndex_nonneg h0 h1
  exact tail_any (typeIs_str s2 z t) slot_str_getitem.lookup (getItem_str (c := c) (by
    have e1 : decide (i < -(2 ^ 63 : Int)) = false := decide_eq_false (by omega)
    have e2 : decide (i ≥ 2 ^ 63) = false := decide_eq_false (by omega)
    rw [e1, e2] <;> rfl) (by rw [e]; exact hc) ⟨.str ⟨#[c]⟩, H2, I2.tok _, ⟨_, rfl⟩, q⟩) (hs _ _)
/-- b[i], 0 ≤ i < len -/
theorem pe_item_byt (ha : PE X a ta) (hb : PE X b tb) (hs : PlainIxT b) :
    PE X (.Subscript a b pos) (tOp (fun x y H Q => ∃ (z : List UInt8) (i : Int), x = .byt z.toArray ∧ y = .int i ∧ z.length ≤ sizeLine ∧ 0 ≤ i ∧ i < z.length ∧ Q (.int ((z.getD i.toNat 0).toNat : Nat)) H) ta tb) := by
  intro pins s σ H Q I h
  refine Subscript_ (binT ha hb I h fun v u s2 x y H2 I2 rx ry q => ?_)
  obtain ⟨z, i, rfl, rfl, hz, h0, h1, q⟩ := q
  obtain ⟨t, rfl⟩ := rx
  obtain ⟨t', rfl⟩ := ry
  have hl : sizeLine = 16777216 := sizeLine_eq
  exact tail_any (PySem.W.typeIs_bytes s2 z.toArray t) PySem.W.FB.slot_bytes_getitem.lookup (PySem.W.getItem_bytes (by omega) h0 h1 ⟨.int ((z.getD i.toNat 0).toNat : Nat), H2, I2.tok _, ⟨_, rfl⟩, q⟩) (hs _ _)

/-! ### scalar builtins, by CallR -/
theorem vals1 {x : V} {us : List Value} (r : Vals [x] us) : ∃ u, us = [u] ∧ RelV x u := by
  cases r with
  | cons r1 r2 => cases r2; exact ⟨_, rfl, r1⟩
theorem vals2 {x y : V} {us : List Value} (r : Vals [x, y] us) : ∃ u w', us = [u, w'] ∧ RelV x u ∧ RelV y w' := by
  cases r with
  | cons r1 r2 =>
    cases r2 with
    | cons r3 r4 => cases r4; exact ⟨_, _, rfl, r1, r3⟩
theorem call_abs : CallR X (.builtin "abs") (fun xs H Q => ∃ i, xs = [.int i] ∧ Q (.int (if i < 0 then -i else i)) H) := by
  intro pins s σ H xs us Q I r h
  obtain ⟨i, rfl, q⟩ := h
  obtain ⟨u, rfl, t, rfl⟩ := vals1 r
  exact call_abs_int fun u tk => ⟨.int (if i < 0 then -i else i), H, I.tok _, ⟨_, rfl⟩, q⟩
theorem call_max2 (hc : X.calm = true) : CallR X (.builtin "max") (fun xs H Q => ∃ i j, xs = [.int i, .int j] ∧ Q (.int (if j > i then j else i)) H) := by
  intro pins s σ H xs us Q I r h
  obtain ⟨i, j, rfl, q⟩ := h
  obtain ⟨u, w', rfl, ⟨t, rfl⟩, ⟨t', rfl⟩⟩ := vals2 r
  refine max_two_ints (I.ok.hd hc) fun h' tk k => ⟨_, H, I.kept k, ?_, q⟩
  by_cases hj : j > i
  · rw [if_pos hj, if_pos hj]; exact ⟨_, rfl⟩
  · rw [if_neg hj, if_neg hj]; exact ⟨_, rfl⟩
theorem call_min2 (hc : X.calm = true) : CallR X (.builtin "min") (fun xs H Q => ∃ i j, xs = [.int i, .int j] ∧ Q (.int (if j < i then j else i)) H) := by
  intro pins s σ H xs us Q I r h
  obtain ⟨i, j, rfl, q⟩ := h
  obtain ⟨u, w', rfl, ⟨t, rfl⟩, ⟨t', rfl⟩⟩ := vals2 r
  refine min_two_ints (I.ok.hd hc) fun h' tk k => ⟨_, H, I.kept k, ?_, q⟩
  by_cases hj : j < i
  · rw [if_pos hj, if_pos hj]; exact ⟨_, rfl⟩
  · rw [if_neg hj, if_neg hj]; exact ⟨_, rfl⟩
theorem call_int1 : CallR X (.type "int") (fun xs H Q => (∃ i, xs = [.int i] ∧ Q (.int i) H) ∨ ∃ k, xs = [.bl k] ∧ Q (.int (if k then 1 else 0)) H) := by
  intro pins s σ H xs us Q I r h
  rcases h with ⟨i, rfl, q⟩ | ⟨k, rfl, q⟩
  · obtain ⟨u, rfl, t, rfl⟩ := vals1 r
    exact call_int_int ⟨.int i, H, I, ⟨_, rfl⟩, q⟩
  · obtain ⟨u, rfl, r1⟩ := vals1 r
    cases r1
    exact call_int_bool ⟨.int (if k then 1 else 0), H, I.tok _, ⟨_, rfl⟩, q⟩
theorem call_bool1 : CallR X (.type "bool") (fun xs H Q => (∃ i, xs = [.int i] ∧ Q (.bl (i != 0)) H) ∨ ∃ k, xs = [.bl k] ∧ Q (.bl k) H) := by
  intro pins s σ H xs us Q I r h
  rcases h with ⟨i, rfl, q⟩ | ⟨k, rfl, q⟩
  · obtain ⟨u, rfl, t, rfl⟩ := vals1 r
    exact call_bool_int ⟨.bl (i != 0), H, I, rfl, q⟩
  · obtain ⟨u, rfl, r1⟩ := vals1 r
    cases r1
    exact call_bool_bool ⟨.bl k, H, I, rfl, q⟩
theorem call_str_int : CallR X (.type "str") (fun xs H Q => ∃ i, xs = [.int i] ∧ i.natAbs.log2 < 1920 ∧ Q (.str (toString i)) H) := by
  intro pins s σ H xs us Q I r h
  obtain ⟨i, rfl, hz, q⟩ := h
  obtain ⟨u, rfl, t, rfl⟩ := vals1 r
  exact PySem.P.str_of_int hz ⟨.str _, H, I.tok _, ⟨_, rfl⟩, q⟩
theorem call_ord : CallR X (.builtin "ord") (fun xs H Q => ∃ x, xs = [.str x] ∧ x.length = 1 ∧ Q (.int (x.cps.getD 0 0 : Nat)) H) := by
  intro pins s σ H xs us Q I r h
  obtain ⟨x, rfl, hz, q⟩ := h
  obtain ⟨u, rfl, t, rfl⟩ := vals1 r
  exact ord_of_one hz ⟨.int _, H, I.tok _, ⟨_, rfl⟩, q⟩
theorem call_chr : CallR X (.builtin "chr") (fun xs H Q => ∃ i, xs = [.int i] ∧ 0 ≤ i ∧ i ≤ 1114111 ∧ Q (.str ⟨#[i.toNat]⟩) H) := by
  intro pins s σ H xs us Q I r h
  obtain ⟨i, rfl, h0, h1, q⟩ := h
  obtain ⟨u, rfl, t, rfl⟩ := vals1 r
  exact chr_of_range h0 h1 ⟨.str _, H, I.tok _, ⟨_, rfl⟩, q⟩
/-- len of a str, a bytes, a list, a tuple -/
def LenV (K : PySem.W.Frag) (x : V) (H : Hp) (n : Nat) : Prop :=
  match x with
  | .str y => y.length ≤ sizeLine ∧ n = y.length
  | .byt y => y.size ≤ sizeLine ∧ n = y.size
  | .ref p => (∃ xs, SqL K H p xs ∧ n = xs.length) ∨ ∃ xs, SqT K H p xs ∧ n = xs.length
  | _ => False
theorem call_len : CallR X (.builtin "len") (fun xs H Q => ∃ x n, xs = [x] ∧ LenV X.K x H n ∧ Q (.int n) H) := by
  intro pins s σ H xs us Q I r h
  obtain ⟨x, n, rfl, e, q⟩ := h
  obtain ⟨u, rfl, rx⟩ := vals1 r
  have hl := line63
  have hs : sizeLine = 16777216 := sizeLine_eq
  cases x with
  | str y =>
    obtain ⟨t, rfl⟩ := rx
    obtain ⟨hy, e'⟩ : y.length ≤ sizeLine ∧ n = y.length := e
    subst e'
    exact len_str (by omega) ⟨.int _, H, I.tok _, ⟨_, rfl⟩, q⟩
  | byt y =>
    obtain ⟨t, rfl⟩ := rx
    obtain ⟨hy, e'⟩ : y.size ≤ sizeLine ∧ n = y.size := e
    subst e'
    exact PySem.W.len_bytes (by omega) ⟨.int _, H, I.tok _, ⟨_, rfl⟩, q⟩
  | ref p =>
    cases rx
    have e' : (∃ xs, SqL X.K H p xs ∧ n = xs.length) ∨ ∃ xs, SqT X.K H p xs ∧ n = xs.length := e
    rcases e' with ⟨xs, hx, e'⟩ | ⟨xs, hx, e'⟩
    · subst e'
      obtain ⟨its, r', pl, hz⟩ := I.list hx
      have hlen := r'.length
      exact Calls.call_len_list pl.isList (by simp only [List.size_toArray]; omega) ⟨.int xs.length, H, I.tok _, ⟨_, by simp only [List.size_toArray]; rw [hlen]⟩, q⟩
    · subst e'
      obtain ⟨its, r', pl, hz⟩ := I.tuple hx
      have hlen := r'.length
      exact len_tuple pl (by simp only [List.size_toArray]; omega) ⟨.int xs.length, H, I.tok _, ⟨_, by simp only [List.size_toArray]; rw [hlen]⟩, q⟩
  | _ => exact (show False from e).elim
/-- divmod: a new tuple -/
theorem call_divmod : CallR X (.builtin "divmod") (fun xs H Q => ∃ i j, xs = [.int i, .int j] ∧ CDiv i j ∧ ∀ p, H p = none → Q (.ref p) (upd H p (.tup [.int (i / j), .int (i % j)]))) := by
  intro pins s σ H xs us Q I r h
  obtain ⟨i, j, rfl, ⟨h1, h2⟩, q⟩ := h
  obtain ⟨u, w', rfl, ⟨t, rfl⟩, ⟨t', rfl⟩⟩ := vals2 r
  refine divmod_int (by omega) ?_ (.inl (PyProof.noPylong_small (by omega)))
  rw [Int.fdiv_eq_ediv_of_nonneg i (by omega), Int.fmod_eq_emod_of_nonneg i (by omega)]
  have hn : H s.heap.objs.size = none := I.hok.fresh (Nat.le_refl _)
  refine ⟨.ref s.heap.objs.size, _, ?_, rfl, q _ hn⟩
  refine I.laid (fun b o e => Heap.get?_push_of_some _ e) (Nat.le_refl _) ⟨by simp only [List.length_cons, List.length_nil]; rw [sizeLine_eq]; decide, [.int (i / j) s.toks, .int (i % j) (s.toks + 1)], .cons ⟨_, rfl⟩ (.cons ⟨_, rfl⟩ .nil), ?_⟩
  exact ⟨_, Heap.get?_push_size s.heap rfl, rfl, 0, rfl⟩
end
end L2

namespace L2
open PySem PySem.Spec PyProof.Rows

/-! ### an instance, its attributes a map -/
structure ObjM (h : Heap) (x dx C : Addr) (mA : Str → Option Value) : Prop where
  obj : h.get? x = some (PySem.W.instObj C dx)
  ns : h.Ns1 dx mA
  ne : dx ≠ x

theorem lookIn_ns {h : Heap} {dx : Addr} {mA : Str → Option Value} (n : h.Ns1 dx mA) : ∃ od, h.get? dx = some od ∧ ∀ name, PySem.W.lookIn name od = some (mA name) := by
  obtain ⟨o, es, ep, ho, hd, hk, _, hm⟩ := n
  refine ⟨o, ho, fun name => ?_⟩
  have e := hm name
  unfold nsFind findBy at e
  rw [← Array.find?_toList] at e
  unfold PySem.W.lookIn
  rw [hd]
  dsimp only
  split
  · rename_i y q
    rw [q] at e
    exact congrArg some e
  · rename_i q
    rw [q] at e
    have a : es.toList.any (·.refKey) = false := by
      rw [List.any_eq_false]
      intro y hy
      obtain ⟨z, t, hkey⟩ := hk y (Array.mem_toList_iff.mp hy)
      simp [DictEntry.refKey, hkey]
    have a' : ¬ es.toList.any (·.refKey) = true := by rw [a]; exact Bool.false_ne_true
    rw [if_neg a']
    exact congrArg some e

theorem ObjM.look {h : Heap} {x dx C : Addr} {mA : Str → Option Value} (I : ObjM h x dx C mA) : ∃ od, PySem.W.InstAt h x (PySem.W.instObj C dx) C (some od) ∧ ∀ name, PySem.W.lookIn name od = some (mA name) :=
  let ⟨od, ho, hl⟩ := lookIn_ns I.ns
  ⟨od, ⟨I.obj, rfl, rfl, ho⟩, hl⟩

section
variable {prog : Program} {w : World} {A : Around} {E : Value → Shared → Prop} {s : Shared} {K : PySem.W.Frag} {x dx C f : Addr} {mA : Str → Option Value} {name : Str} {v : Value}

theorem get_map {expr : Bool} {Q : Value → Shared → Prop} (X : K.In s.heap) (I : ObjM s.heap x dx C mA) (hg : PySem.W.plainGet K C name = true) (hh : PySem.W.hasDictIn K C = true)
    (ha : PySem.W.findIn K (.ref C) name = some none) (hv : mA name = some v) (hv' : PySem.W.handedIn v = true) (h : Q v { s with toks := s.toks + 1 }) :
    wpAny (model prog w) A (getAttr (.ref x) name expr) Q E s := by
  obtain ⟨od, J, hl⟩ := I.look
  exact PySem.W.get_value X J (PySem.W.plainGet_of hg).1 (PySem.W.findObj_own hh ha rfl (by rw [hl, hv])) hv' h

theorem get_const {expr : Bool} {a : Value} {Q : Value → Shared → Prop} (X : K.In s.heap) (I : ObjM s.heap x dx C mA) (hg : PySem.W.plainGet K C name = true) (hh : PySem.W.hasDictIn K C = true)
    (ha : PySem.W.findIn K (.ref C) name = some (some a)) (hn : PySem.W.specialIn K a "__get__" = some none) (hc : PySem.W.copiedNames.contains name = false) (hv : mA name = none) (hv' : PySem.W.handedIn a = true)
    (h : Q a { s with toks := s.toks + 1 }) : wpAny (model prog w) A (getAttr (.ref x) name expr) Q E s := by
  obtain ⟨od, J, hl⟩ := I.look
  exact PySem.W.get_value X J (PySem.W.plainGet_of hg).1 (PySem.W.findObj_cls hh ha hn hv' hc (by rw [hl, hv])) hv' h

theorem get_meth {pl : Sem Bool} {Q : Value × List Value → Shared → Prop} (X : K.In s.heap) (I : ObjM s.heap x dx C mA) (hg : PySem.W.plainGet K C name = true)
    (hf : PySem.W.findIn K (.ref C) name = some (some (.ref f))) (ht : PySem.W.isFn K (.ref f) = true) (hv : mA name = none) (h : Q (.ref f, [.ref x]) s) :
    wpAny (model prog w) A (getMethod (.ref x) name pl) Q E s := by
  obtain ⟨od, J, hl⟩ := I.look
  exact PySem.W.method_fn X J (PySem.W.plainGet_of hg).1 (PySem.W.plainGet_of hg).2 hf (beq_iff_eq.mp ht) (by show (PySem.W.lookIn name od).map (·.isSome) = some false; rw [hl, hv]; rfl) h

theorem set_map {ns : List Str} {Q : Unit → Shared → Prop} (X : K.In s.heap) (I : ObjM s.heap x dx C mA)
    (hs : PySem.W.findIn K (.ref C) "__setattr__" = some (some (.builtin "object.__setattr__"))) (hp : PySem.W.plainOver K C = true) (ht : PySem.W.takerIn K C name = some none) (hh : PySem.W.hasDictIn K C = true)
    (hw : PySem.Within mA ns) (hsz : ns.length ≤ sizeLine)
    (h : ∀ h', ObjM h' x dx C (fun y => if y = name then some v else mA y) → Heap.SameBut dx s.heap h' → Q () { s with heap := h', toks := s.toks + 2 }) :
    wpAny (model prog w) A (setAttr (.ref x) name v) Q E s := by
  obtain ⟨od, J, hl⟩ := I.look
  refine PySem.W.set_plain X J hs (PySem.W.osa_open (s := { s with toks := s.toks + 1 }) (r := none) X J hp ht fun b => ?_)
  obtain ⟨cd, hc, hd'⟩ := PySem.W.any_some hh
  have hx : s.heap.get? x = some ⟨.ref C, some dx, .plain, #[]⟩ := I.obj
  refine wpAny_bind (wpAny_pure (wpAny_bind (wpAny_bind (wpAny_loadPart hx (wpAny_bind (PySem.W.Looks.here (s := { s with toks := s.toks + 1 }) (PySem.W.looks_clsIn X hc) ?_))))))
  rw [hd']
  refine wpAny_pure (a := some dx) (wpAny_bind (wpAny_pure (wpAny_bind ?_)))
  refine wpAny_nsSet1 (s := { s with toks := s.toks + 1 }) I.ns fun h' hn2 hs2 => ?_
  obtain ⟨oD, esD, epD, hoD, hdD, hcD⟩ := hn2.count (PySem.Within.cons name v hw)
  refine wpAny_bind (wpAny_lookBehind hoD (by rw [hdD]; exact pastItsLine_dict (Nat.le_trans hcD (by rw [List.length_cons]; omega))) ?_)
  exact wpAny_pure (h _ ⟨(hs2.2 _ (Ne.symm I.ne)).trans I.obj, hn2, I.ne⟩ hs2)

/-- C(..): the dict at the heap's end, the instance behind it; then its __init__ -/
theorem make_map {R : Result → Shared → Prop} {vs : List Value} {kw : List (Str × Value)} (X : K.In s.heap) (hm : PySem.W.makesIn K C = true)
    (hi : PySem.W.findIn K (.ref C) "__init__" = some (some (.ref f))) (hf : PySem.W.typeIn K (.ref f) = some (.type "function"))
    (h : codeAny (model prog w) (A.under (.builtin "type.__call__" ⟨.ref C :: vs, kw⟩)) (.call (.ref f) ⟨.ref (s.heap.objs.size + 1) :: vs, kw⟩) (PySem.W.InitBack (s.heap.objs.size + 1) R)
      { s with heap := (s.heap.push PySem.W.emptyDict).push (PySem.W.instObj C s.heap.objs.size) }) :
    codeAny (model prog w) A (.call (.ref C) ⟨vs, kw⟩) R s := by
  obtain ⟨hh, g, d, t, os⟩ := s
  exact PySem.W.make_core (PySem.W.makes_of X hm) (PySem.W.looks_findIn X hi) (fun self => PySem.W.bind_fn X self hf) (.inl rfl) h
/-- C() where there is no __init__ but object's -/
theorem make_map0 {R : Result → Shared → Prop} (X : K.In s.heap) (hm : PySem.W.makesIn K C = true)
    (hi : PySem.W.findIn K (.ref C) "__init__" = some (some (.builtin "object.__init__")))
    (hb : ∀ self, PySem.W.Looks (model prog w) s.heap (bindSpecial (.builtin "object.__init__") self) (.builtin "object.__init__", [self]))
    (h : codeAny (model prog w) (A.under (.builtin "type.__call__" ⟨[.ref C], []⟩)) (.call (.builtin "object.__init__") ⟨[.ref (s.heap.objs.size + 1)], []⟩) (PySem.W.InitBack (s.heap.objs.size + 1) R)
      { s with heap := (s.heap.push PySem.W.emptyDict).push (PySem.W.instObj C s.heap.objs.size) }) :
    codeAny (model prog w) A (.call (.ref C) ⟨[], []⟩) R s := by
  obtain ⟨hh, g, d, t, os⟩ := s
  exact PySem.W.make_core (PySem.W.makes_of X hm) (PySem.W.looks_findIn X hi) hb (.inr ⟨rfl, rfl⟩) h
end

/-! ### the attributes as a list of pairs -/
def putF (f : Str) (v : V) : List (Str × V) → List (Str × V)
  | [] => [(f, v)]
  | (g, x) :: r => if g = f then (g, v) :: r else (g, x) :: putF f v r
theorem lookup_putF (f g : Str) (v : V) : ∀ fs : List (Str × V), (putF f v fs).lookup g = if g = f then some v else fs.lookup g
  | [] => by
    show List.lookup g [(f, v)] = _
    by_cases h : g = f
    · have hb : (g == f) = true := beq_iff_eq.mpr h
      simp only [List.lookup, hb, if_pos h]
    · have hb : (g == f) = false := beq_eq_false_iff_ne.mpr h
      simp only [List.lookup, hb, if_neg h]
  | (k, x) :: r => by
    have ih := lookup_putF f g v r
    rw [show putF f v ((k, x) :: r) = (if k = f then (k, v) :: r else (k, x) :: putF f v r) from rfl]
    by_cases hk : k = f
    · rw [if_pos hk]
      by_cases h : g = k
      · have hb : (g == k) = true := beq_iff_eq.mpr h
        simp only [List.lookup, hb, if_pos (h.trans hk)]
      · have hb : (g == k) = false := beq_eq_false_iff_ne.mpr h
        simp only [List.lookup, hb, if_neg (fun e : g = f => h (e.trans hk.symm))]
    · rw [if_neg hk]
      by_cases h : g = k
      · have hb : (g == k) = true := beq_iff_eq.mpr h
        simp only [List.lookup, hb, if_neg (fun e : g = f => hk (h.symm.trans e))]
      · have hb : (g == k) = false := beq_eq_false_iff_ne.mpr h
        simp only [List.lookup, hb]
        exact ih
theorem keys_putF (f : Str) (v : V) : ∀ fs : List (Str × V), f ∈ (putF f v fs).map (·.1) ∧ ∀ g, g ∈ fs.map (·.1) → g ∈ (putF f v fs).map (·.1)
  | [] => ⟨by simp [putF], fun g h => by simp at h⟩
  | (k, x) :: r => by
    obtain ⟨i1, i2⟩ := keys_putF f v r
    rw [show putF f v ((k, x) :: r) = (if k = f then (k, v) :: r else (k, x) :: putF f v r) from rfl]
    by_cases hk : k = f
    · rw [if_pos hk]
      subst hk
      exact ⟨by simp, fun g h => by simpa using h⟩
    · rw [if_neg hk]
      refine ⟨?_, fun g h => ?_⟩
      · rw [List.map_cons]
        exact List.mem_cons_of_mem _ i1
      · rw [List.map_cons] at h ⊢
        rcases List.mem_cons.mp h with e | e
        · exact List.mem_cons.mpr (.inl e)
        · exact List.mem_cons_of_mem _ (i2 g e)
theorem length_putF (f : Str) (v : V) : ∀ fs : List (Str × V), (putF f v fs).length ≤ fs.length + 1
  | [] => by simp [putF]
  | (k, x) :: r => by
    have ih := length_putF f v r
    rw [show putF f v ((k, x) :: r) = (if k = f then (k, v) :: r else (k, x) :: putF f v r) from rfl]
    by_cases hk : k = f
    · rw [if_pos hk, List.length_cons, List.length_cons]; omega
    · rw [if_neg hk, List.length_cons, List.length_cons]; omega

theorem RelO.some_of {v : V} {o : Option Value} (r : RelO (some v) o) : ∃ u, o = some u ∧ RelV v u := by
  cases o with
  | none => exact (show False from r).elim
  | some u => exact ⟨u, rfl, r⟩
theorem RelO.none_of {o : Option Value} (r : RelO none o) : o = none := by
  cases o with
  | none => rfl
  | some u => exact (show False from r).elim
theorem handed_of {v : V} {u : Value} (r : RelV v u) : PySem.W.handedIn u = true := by
  cases v with
  | non => cases (show u = Value.none from r); rfl
  | bl b => cases (show u = Value.bool b from r); rfl
  | int i => obtain ⟨t, e⟩ := (show ∃ t, u = Value.int i t from r); cases e; rfl
  | str x => obtain ⟨t, e⟩ := (show ∃ t, u = Value.str x t from r); cases e; rfl
  | byt b => obtain ⟨t, e⟩ := (show ∃ t, u = Value.bytes b t from r); cases e; rfl
  | flt b => obtain ⟨t, e⟩ := (show ∃ t, u = Value.float b t from r); cases e; rfl
  | ref a => cases (show u = Value.ref a from r); rfl
  | ty n => cases (show u = Value.type n from r); rfl

section
variable {P : Program} {w : World} {H H' : Hp} {h h' : Heap} {a C dx : Addr} {fs fs' : List (Str × V)}
theorem ins_get (hok : HOk P w H h) (e : H a = some (.ins C dx fs)) : ∃ mA, ObjM h a dx C mA ∧ (∀ f, RelO (fs.lookup f) (mA f)) ∧ PySem.Within mA (fs.map (·.1)) ∧ fs.length ≤ 1000 ∧ H dx = some (.own a) := by
  obtain ⟨d, z, ne, ob, mA, n, r, q⟩ := (show ObjOk P w H h a (.ins C dx fs) from hok a _ e)
  exact ⟨mA, ⟨ob, n, ne⟩, r, q, z, d⟩
end

/-! ### what of the text a class must have -/
structure Cls (K : PySem.W.Frag) (C : Addr) : Prop where
  pg : PySem.W.plainGet K C Str.empty = true
  hd : PySem.W.hasDictIn K C = true
  po : PySem.W.plainOver K C = true
  sa : PySem.W.findIn K (.ref C) "__setattr__" = some (some (.builtin "object.__setattr__"))
theorem Cls.get {K : PySem.W.Frag} {C : Addr} (c : Cls K C) (f : Str) : PySem.W.plainGet K C f = true := c.pg
/-- no class of it has the name -/
def NoAttr (K : PySem.W.Frag) (C : Addr) (f : Str) : Prop := PySem.W.findIn K (.ref C) f = some none
theorem NoAttr.taker {K : PySem.W.Frag} {C : Addr} {f : Str} (n : NoAttr K C f) : PySem.W.takerIn K C f = some none := by
  unfold PySem.W.takerIn
  rw [show PySem.W.findIn K (.ref C) f = some none from n]
  rfl
/-- a constant of the class -/
structure Con (K : PySem.W.Frag) (C : Addr) (f : Str) (v : V) (u : Value) : Prop where
  at_ : PySem.W.findIn K (.ref C) f = some (some u)
  rel : RelV v u
  get : PySem.W.specialIn K u "__get__" = some none
  cp : PySem.W.copiedNames.contains f = false
/-- a method: a plain def of the class or of one above it -/
structure Meth (K : PySem.W.Frag) (C : Addr) (m : Str) (f : Addr) : Prop where
  at_ : PySem.W.findIn K (.ref C) m = some (some (.ref f))
  fn : PySem.W.isFn K (.ref f) = true
  kp : PySem.W.keepIn K (.ref f) = true

section
variable {X : Cx} {pins : List (Addr × Obj)} {σ : St} {H : Hp} {s : Shared} {a C dx : Addr} {fs : List (Str × V)} {f : Str} {v : V} {A : Around} {E : Value → Shared → Prop}

theorem getattr_ok {b : Bool} {Q : Value → Shared → Prop} (I : Inv X pins σ H s) (e : H a = some (.ins C dx fs)) (c : Cls X.K C) (n : NoAttr X.K C f) (l : fs.lookup f = some v)
    (h : ∀ u s', Inv X pins σ H s' → RelV v u → Q u s') : wpAny (model X.prog X.w) A (getAttr (.ref a) f b) Q E s := by
  obtain ⟨mA, O, r, _, _, _⟩ := ins_get I.hok e
  obtain ⟨u, hu, ru⟩ := RelO.some_of (v := v) (o := mA f) (by rw [← l]; exact r f)
  exact get_map I.kIn O (c.get f) c.hd n hu (handed_of ru) (h u _ (I.tok _) ru)

theorem getcon_ok {b : Bool} {u : Value} {Q : Value → Shared → Prop} (I : Inv X pins σ H s) (e : H a = some (.ins C dx fs)) (c : Cls X.K C) (k : Con X.K C f v u) (l : fs.lookup f = none)
    (h : ∀ s', Inv X pins σ H s' → Q u s') : wpAny (model X.prog X.w) A (getAttr (.ref a) f b) Q E s := by
  obtain ⟨mA, O, r, _, _, _⟩ := ins_get I.hok e
  have hn : mA f = none := RelO.none_of (by rw [← l]; exact r f)
  exact get_const I.kIn O (c.get f) c.hd k.at_ k.get k.cp hn (handed_of k.rel) (h _ (I.tok _))

theorem getmeth_ok {m : Str} {g : Addr} {pl : Sem Bool} {Q : Value × List Value → Shared → Prop} (I : Inv X pins σ H s) (e : H a = some (.ins C dx fs)) (c : Cls X.K C) (k : Meth X.K C m g) (l : fs.lookup m = none)
    (h : Q (.ref g, [.ref a]) s) : wpAny (model X.prog X.w) A (getMethod (.ref a) m pl) Q E s := by
  obtain ⟨mA, O, r, _, _, _⟩ := ins_get I.hok e
  have hn : mA m = none := RelO.none_of (by rw [← l]; exact r m)
  exact get_meth I.kIn O (c.get m) k.at_ k.fn hn h

theorem setattr_ok {y : V} {u : Value} {Q : Unit → Shared → Prop} (I : Inv X pins σ H s) (e : H a = some (.ins C dx fs)) (c : Cls X.K C) (n : NoAttr X.K C f) (hl : fs.length < 1000) (ry : RelV y u)
    (h : ∀ s', Inv X pins σ (upd H a (.ins C dx (putF f y fs))) s' → Q () s') : wpAny (model X.prog X.w) A (setAttr (.ref a) f u) Q E s := by
  obtain ⟨mA, O, r, wi, _, ho⟩ := ins_get I.hok e
  have hz : (fs.map (·.1)).length ≤ sizeLine := by rw [List.length_map, sizeLine_eq]; omega
  refine set_map I.kIn O c.sa c.po n.taker c.hd wi hz fun h' O' sb => h _ ?_
  have hd : ∃ o, h'.get? dx = some o := let ⟨o, _, _, e', _⟩ := O'.ns; ⟨o, e'⟩
  refine I.write (x := a) (e := dx) (by rw [e]; exact True.intro) (.inr ho) (fun b q hb z => (sb.2 b hb).trans z) hd ?_
  refine ⟨by rw [upd_ne O.ne]; exact ho, ?_, O.ne, O'.obj, _, O'.ns, fun g => ?_, fun g hg => ?_⟩
  · have := length_putF f y fs; omega
  · show RelO ((putF f y fs).lookup g) (if g = f then some u else mA g)
    rw [lookup_putF]
    by_cases q : g = f
    · rw [if_pos q, if_pos q]; exact ry
    · rw [if_neg q, if_neg q]; exact r g
  · by_cases q : g = f
    · rw [q]; exact (keys_putF f y fs).1
    · refine (keys_putF f y fs).2 g (wi g fun z => hg ?_)
      show (if g = f then some u else mA g) = none
      rw [if_neg q]; exact z

/-- a new instance, tracked, without attributes -/
theorem Inv.made (I : Inv X pins σ H s) : Inv X pins σ (upd (upd H s.heap.objs.size (.own (s.heap.objs.size + 1))) (s.heap.objs.size + 1) (.ins C s.heap.objs.size []))
    { s with heap := (s.heap.push PySem.W.emptyDict).push (PySem.W.instObj C s.heap.objs.size) } := by
  have e1 : (s.heap.push PySem.W.emptyDict).get? s.heap.objs.size = some PySem.W.emptyDict := Heap.get?_push_size s.heap rfl
  have e2 : ((s.heap.push PySem.W.emptyDict).push (PySem.W.instObj C s.heap.objs.size)).get? (s.heap.objs.size + 1) = some (PySem.W.instObj C s.heap.objs.size) := by
    have := Heap.get?_push_size (s.heap.push PySem.W.emptyDict) (o := PySem.W.instObj C s.heap.objs.size) rfl
    rwa [Heap.size_push] at this
  have e3 : (s.heap.push PySem.W.emptyDict).Ns s.heap.objs.size (fun _ => none) := ⟨PySem.W.emptyDict, #[], _, e1, rfl, (fun e he => absurd he (by simp)), fun _ => rfl⟩
  have I1 := I.laid (a := s.heap.objs.size) (o := .own (s.heap.objs.size + 1)) (h' := s.heap.push PySem.W.emptyDict) (t' := s.toks) (fun b u q => Heap.get?_push_of_some _ q) (Nat.le_refl _) ⟨_, e1⟩
  refine I1.laid (a := s.heap.objs.size + 1) (o := .ins C s.heap.objs.size []) (t' := s.toks) (fun b u q => Heap.get?_push_of_some _ q) (Nat.le_of_eq (Heap.size_push _ _)) ?_
  have ne : s.heap.objs.size ≠ s.heap.objs.size + 1 := Nat.ne_of_lt (Nat.lt_succ_self _)
  refine ⟨by rw [upd_ne ne, upd_same], Nat.zero_le _, ne, e2, fun _ => none, (Heap.Ns1.of_empty e3).at fun o q => Heap.get?_push_of_some _ q, fun _ => True.intro, fun y hy => absurd rfl hy⟩

/-- e.f where nothing but the object is asked: through attributeBase (super) and the last hold -/
theorem attr_of {prog : Program} {w : World} {env : Env} {e : Expr} {f : Str} {pos : Pos} {s : Shared} {Q : Value → Shared → Prop} (hb : attributeBase e f env (eval e env) = eval e env)
    (h : wpAny (model prog w) A (eval e env) (fun o s₁ => wpAny (model prog w) A (getAttr o f true) Q E s₁) E s) : wpAny (model prog w) A (eval (.Attribute e f pos) env) Q E s :=
  Attribute_any_ h (by rw [arm_eval_Attribute, hb])
end

/-! ### readings and rules -/
/-- e.f, an attribute of the instance -/
def tFld (K : PySem.W.Frag) (ta : TE) (f : Str) : TE := fun σ H Q => ta σ H fun x H1 => ∃ a C dx fs v, x = .ref a ∧ H1 a = some (.ins C dx fs) ∧ Cls K C ∧ NoAttr K C f ∧ fs.lookup f = some v ∧ Q v H1
/-- e.f, a constant of the class -/
def tCon (K : PySem.W.Frag) (ta : TE) (f : Str) : TE := fun σ H Q => ta σ H fun x H1 => ∃ a C dx fs v u, x = .ref a ∧ H1 a = some (.ins C dx fs) ∧ Cls K C ∧ Con K C f v u ∧ fs.lookup f = none ∧ Q v H1
/-- e.f = value -/
def sFld (K : PySem.W.Frag) (ta tv : TE) (f : Str) : TS := fun D σ H => tv σ H fun y H1 => ta σ H1 fun x H2 => ∃ a C dx fs, x = .ref a ∧ H2 a = some (.ins C dx fs) ∧ Cls K C ∧ NoAttr K C f ∧ fs.length < 1000 ∧
  D.nx σ (upd H2 a (.ins C dx (putF f y fs)))
/-- an augmented operator on two values -/
def InOp (X : Cx) (op : Operator) (rd : V → V → Hp → VK → Prop) : Prop :=
  ∀ (pins : List (Addr × Obj)) (s : Shared) (σ : St) (H : Hp) (x y : V) (u v : Value) (Q : VK), Inv X pins σ H s → RelV x u → RelV y v → rd x y H Q → wpAny (model X.prog X.w) X.A (inplaceOp op u v) (EP X pins σ Q) X.xe s
/-- e.f op= value -/
def sFldAug (K : PySem.W.Frag) (ta tv : TE) (rd : V → V → Hp → VK → Prop) (f : Str) : TS := fun D σ H => ta σ H fun x H1 => ∃ a C dx fs v, x = .ref a ∧ H1 a = some (.ins C dx fs) ∧ Cls K C ∧ NoAttr K C f ∧ fs.lookup f = some v ∧
  tv σ H1 fun y H2 => rd v y H2 fun z H3 => ∃ dx' fs', H3 a = some (.ins C dx' fs') ∧ fs'.length < 1000 ∧ D.nx σ (upd H3 a (.ins C dx' (putF f z fs')))

section
variable {X : Cx} {o e value : Expr} {f : Str} {pos pos' tpos : Pos} {ta tv : TE}
theorem pe_fld (he : PE X e ta) (hb : attributeBase e f X.env (eval e X.env) = eval e X.env) : PE X (.Attribute e f pos) (tFld X.K ta f) := by
  intro pins s σ H Q I h
  refine attr_of hb (thn (he pins s σ H _ I h) fun u s1 ⟨x, H1, I1, rx, a, C, dx, fs, v, ex, ea, c, n, l, q⟩ => ?_)
  subst ex
  obtain rfl : u = Value.ref a := rx
  exact getattr_ok I1 ea c n l fun u' s2 I2 ru => ⟨v, H1, I2, ru, q⟩
theorem pe_con (he : PE X e ta) (hb : attributeBase e f X.env (eval e X.env) = eval e X.env) : PE X (.Attribute e f pos) (tCon X.K ta f) := by
  intro pins s σ H Q I h
  refine attr_of hb (thn (he pins s σ H _ I h) fun u s1 ⟨x, H1, I1, rx, a, C, dx, fs, v, u0, ex, ea, c, k, l, q⟩ => ?_)
  subst ex
  obtain rfl : u = Value.ref a := rx
  exact getcon_ok I1 ea c k l fun s2 I2 => ⟨v, H1, I2, k.rel, q⟩
theorem ps_fld (ha : PE X o ta) (hv : PE X value tv) (hs : swapsWith value (some (.Attribute o f pos')) pos.line X.env = pure false) : PS X (.Assign [.Attribute o f pos'] value pos) (sFld X.K ta tv f) := by
  intro pins s σ H D I h
  refine plainObj_wpAny_Assign_Attribute (thn (hv pins s σ H _ I h) fun u s1 ⟨y, H1, I1, ry, q⟩ => thn (ha pins s1 σ H1 _ I1 q) fun ov s2 ⟨x, H2, I2, rx, a, C, dx, fs, ex, ea, c, n, l, q2⟩ => ?_) hs
  subst ex
  obtain rfl : ov = Value.ref a := rx
  exact setattr_ok I2 ea c n l ry fun s3 I3 => ⟨σ, _, I3, q2⟩
theorem ps_fldaug {op : Operator} {rd : V → V → Hp → VK → Prop} (ha : PE X o ta) (hv : PE X value tv) (hop : InOp X op rd) : PS X (.AugAssign (.Attribute o f tpos) op value pos) (sFldAug X.K ta tv rd f) := by
  intro pins s σ H D I h
  refine wpAny_AugAssign_AttributeAny (thn (ha pins s σ H _ I h) fun ov s1 ⟨x, H1, I1, rx, a, C, dx, fs, v, ex, ea, c, n, l, q⟩ => ?_)
  subst ex
  obtain rfl : ov = Value.ref a := rx
  refine getattr_ok I1 ea c n l fun u s2 I2 ru => thn (hv pins s2 σ H1 _ I2 q) fun w3 s3 ⟨y, H2, I3, ry, q3⟩ => thn (hop pins s3 σ H2 v y u w3 _ I3 ru ry q3) fun w4 s4 ⟨z, H3, I4, rz, dx', fs', ea', l', q4⟩ => ?_
  exact setattr_ok I4 ea' c n l' rz fun s5 I5 => ⟨σ, _, I5, q4⟩
def rAdd : V → V → Hp → VK → Prop := fun x y H Q => ∃ i j, x = .int i ∧ y = .int j ∧ Q (.int (i + j)) H
def rSub : V → V → Hp → VK → Prop := fun x y H Q => ∃ i j, x = .int i ∧ y = .int j ∧ Q (.int (i - j)) H
theorem in_add : InOp X .Add rAdd := by
  rintro pins s σ H x y u v Q I rx ry ⟨i, j, rfl, rfl, q⟩
  obtain ⟨t, rfl⟩ := (show ∃ t, u = Value.int i t from rx)
  obtain ⟨t', rfl⟩ := (show ∃ t', v = Value.int j t' from ry)
  exact PyProof.Rows.iadd_int ⟨.int (i + j), H, I.tok _, ⟨_, rfl⟩, q⟩
theorem in_sub : InOp X .Sub rSub := by
  rintro pins s σ H x y u v Q I rx ry ⟨i, j, rfl, rfl, q⟩
  obtain ⟨t, rfl⟩ := (show ∃ t, u = Value.int i t from rx)
  obtain ⟨t', rfl⟩ := (show ∃ t', v = Value.int j t' from ry)
  exact PyProof.Rows.isub_int ⟨.int (i - j), H, I.tok _, ⟨_, rfl⟩, q⟩

/-- what is between an instance and its method: the tree of a method call -/
theorem methcall_of {pl : Sem Bool} {m : Str} {apos : Pos} {args : List Expr} {pins : List (Addr × Obj)} {s : Shared} {σ : St} {H : Hp} {Q : Value → Shared → Prop} {te : TE} (he : PE X e te) (I : Inv X pins σ H s)
    (h : te σ H fun x H1 => ∃ a C dx fs g, x = .ref a ∧ H1 a = some (.ins C dx fs) ∧ Cls X.K C ∧ Meth X.K C m g ∧ fs.lookup m = none ∧
      ∀ s1, Inv X pins σ H1 s1 → wpAny (model X.prog X.w) X.A (callWith pos (.ref g) [.ref a] (backTo pos (starEach args X.env)) (backToKw pos (keywordEach [] X.env))) Q X.xe s1)
    (ht : eval (.Call (.Attribute e m apos) args [] pos) X.env = (do
      let ov ← eval e X.env
      standAt apos.atName
      let (f, first) ← holding [ov] (getMethod ov m pl)
      callWith pos f first (backTo pos (starEach args X.env)) (backToKw pos (keywordEach [] X.env)))) :
    wpAny (model X.prog X.w) X.A (eval (.Call (.Attribute e m apos) args [] pos) X.env) Q X.xe s := by
  refine PySem.W.methodCall_KW (pl := pl) (thn (he pins s σ H _ I h) fun u s1 ⟨x, H1, I1, rx, a, C, dx, fs, g, ex, ea, c, k, l, q⟩ => ?_) ht
  subst ex
  obtain rfl : u = Value.ref a := rx
  exact getmeth_ok I1 ea c k l (q s1 I1)
end

/-! ### isinstance -/
section
variable {X : Cx} {pins : List (Addr × Obj)} {σ : St} {H : Hp} {s : Shared} {A : Around} {E : Value → Shared → Prop} {Q : Value → Shared → Prop} {c : Value} {b : Bool}
/-- the type of a value, as the fragment's deciders take it; for an instance its class -/
inductive TyOf (K : PySem.W.Frag) (H : Hp) : V → Value → Prop where
  | non : TyOf K H .non (.type "NoneType")
  | bl (x : Bool) : TyOf K H (.bl x) (.type "bool")
  | int (i : Int) : TyOf K H (.int i) (.type "int")
  | str (x : Str) : TyOf K H (.str x) (.type "str")
  | flt (x : UInt64) : TyOf K H (.flt x) (.type "float")
  | lst {a : Addr} {xs : List V} (e : H a = some (.lst xs)) : TyOf K H (.ref a) (.type "list")
  | frz {a : Addr} {o : Obj} {xs : List V} (e : H a = some (.frz o (.lst xs))) : TyOf K H (.ref a) (.type "list")
  | tup {a : Addr} {xs : List V} (e : H a = some (.tup xs)) : TyOf K H (.ref a) (.type "tuple")
  | dK {a : Addr} {kvs : List (Key × V)} (e : H a = some (.dK kvs)) : TyOf K H (.ref a) (.type "dict")
  | dT {a : Addr} {kvs : List (List Key × V)} (e : H a = some (.dT kvs)) : TyOf K H (.ref a) (.type "dict")
  | ins {a C dx : Addr} {fs : List (Str × V)} (e : H a = some (.ins C dx fs)) (cl : Cls K C) (ha : PySem.W.findIn K (.ref C) "__class__" = some (some (.builtin "object.__class__")))
      (hn : PySem.W.specialIn K (.builtin "object.__class__") "__get__" = some (some (.builtin "getset_descriptor.__get__"))) (htk : PySem.W.takesIn K (.builtin "object.__class__") = some true)
      (hm : PySem.W.mroIn K C (.type "object") = some true) : TyOf K H (.ref a) (.ref C)
/-- isinstance(x, c) for one class c, a built-in or an own one: kitOne's answer -/
theorem isinst_ok {x : V} {u t : Value} (I : Inv X pins σ H s) (rx : RelV x u) (ty : TyOf X.K H x t) (e : PySem.W.kitOne X.K t c = some b) (h : ∀ tk, Q (.bool b) { s with toks := tk }) :
    wpAny (model X.prog X.w) A (call (.builtin "isinstance") [u, c]) Q E s := by
  cases ty with
  | non => cases (show u = Value.none from rx); exact PySem.W.kia_one PySem.W.kitx_none I.kIn True.intro e (fun z => nomatch z) h
  | bl y => cases (show u = Value.bool y from rx); exact PySem.W.kia_one PySem.W.kitx_bool I.kIn True.intro e (fun z => nomatch z) h
  | int i => obtain ⟨t, q⟩ := (show ∃ t, u = Value.int i t from rx); cases q; exact PySem.W.kia_one PySem.W.kitx_int I.kIn True.intro e (fun z => nomatch z) h
  | str y => obtain ⟨t, q⟩ := (show ∃ t, u = Value.str y t from rx); cases q; exact PySem.W.kia_one PySem.W.kitx_str I.kIn True.intro e (fun z => nomatch z) h
  | flt y => obtain ⟨t, q⟩ := (show ∃ t, u = Value.float y t from rx); cases q; exact PySem.W.kia_one PySem.W.kitx_float I.kIn True.intro e (fun z => nomatch z) h
  | @lst a xs ea =>
    cases (show u = Value.ref a from rx)
    obtain ⟨_, _, n, _, h1⟩ := (show ObjOk X.prog X.w H s.heap a (.lst xs) from I.hok a _ ea)
    exact PySem.W.kia_one PySem.W.kitx_list I.kIn ⟨_, h1, rfl⟩ e (fun z => nomatch z) h
  | @frz a ob xs ea =>
    cases (show u = Value.ref a from rx)
    obtain ⟨_, _, _, n, _, h1⟩ := (show ObjOk X.prog X.w H s.heap a (.frz ob (.lst xs)) from I.hok a _ ea)
    exact PySem.W.kia_one PySem.W.kitx_list I.kIn ⟨_, h1, rfl⟩ e (fun z => nomatch z) h
  | @tup a xs ea =>
    cases (show u = Value.ref a from rx)
    obtain ⟨_, _, _, p⟩ := (show ObjOk X.prog X.w H s.heap a (.tup xs) from I.hok a _ ea)
    obtain ⟨o, h1, h2, _⟩ := p
    exact PySem.W.kia_one PySem.W.kitx_tuple I.kIn ⟨o, h1, h2⟩ e (fun z => nomatch z) h
  | @dK a kvs ea =>
    cases (show u = Value.ref a from rx)
    obtain ⟨_, _, vs, _, p⟩ := (show ObjOk X.prog X.w H s.heap a (.dK kvs) from I.hok a _ ea)
    obtain ⟨o, es, ep, h1, h2, _⟩ := p
    exact PySem.W.kia_one PySem.W.kitx_dict I.kIn ⟨o, h1, h2.1⟩ e (fun z => nomatch z) h
  | @dT a kvs ea =>
    cases (show u = Value.ref a from rx)
    obtain ⟨_, _, xs, _, o, es, ep, h1, h2, _⟩ := (show ObjOk X.prog X.w H s.heap a (.dT kvs) from I.hok a _ ea)
    exact PySem.W.kia_one PySem.W.kitx_dict I.kIn ⟨o, h1, h2.1⟩ e (fun z => nomatch z) h
  | @ins a C dx fs ea cl ha hn htk hm =>
    cases (show u = Value.ref a from rx)
    obtain ⟨mA, O, _⟩ := ins_get I.hok ea
    obtain ⟨od, J, _⟩ := O.look
    exact PySem.W.kia_one (PySem.W.kitx_own (cl.get _) cl.hd ha hn htk hm) I.kIn J e (fun z => nomatch z) h
end
end L2

namespace L2
open PySem PySem.Spec PyProof.Rows

/-! ### room -/
structure Room (k : Nat) (A : Around) : Prop where
  hd : A.handled = none
  dp : A.depth + 3 * k + 5 < recursionLimit
  un : A.units + 16 * k + 200 < cLine
theorem Room.mono {j k : Nat} {A : Around} (r : Room k A) (h : j ≤ k) : Room j A := ⟨r.hd, by have := r.dp; omega, by have := r.un; omega⟩
theorem Room.deeper {k : Nat} {A : Around} (r : Room (k + 1) A) (env : Env) : Room k (A.deeper env) :=
  ⟨r.hd, by have := r.dp; show A.depth + 1 + 3 * k + 5 < _; omega, by have := r.un; show A.units + 3 + 16 * k + 200 < _; omega⟩
theorem Room.in1 {k : Nat} {A : Around} (r : Room (k + 1) A) : Room k A.in1 :=
  ⟨r.hd, by have := r.dp; show A.depth + 3 * k + 5 < _; omega, by have := r.un; show A.units + 1 + 16 * k + 200 < _; omega⟩
theorem make_depth {A : Around} {C : Addr} {us : List Value} {kw : List (Str × Value)} : (A.under (.builtin "type.__call__" ⟨.ref C :: us, kw⟩)).depth = A.depth + 1 := by
  first | rfl | simp [Around.under, Code.weight, Code.isCreation, Code.isGuard, Code.isCaller, Code.frames, Code.isFrame, guardIds]
theorem make_units {A : Around} {C : Addr} {us : List Value} {kw : List (Str × Value)} : (A.under (.builtin "type.__call__" ⟨.ref C :: us, kw⟩)).units = A.units + 1 := by
  first | rfl | simp [Around.under, Code.cUnits, Code.frames, Code.isFrame]
theorem Room.make {k : Nat} {A : Around} (r : Room (k + 1) A) (C : Addr) (us : List Value) (kw : List (Str × Value)) : Room k (A.under (.builtin "type.__call__" ⟨.ref C :: us, kw⟩)) :=
  ⟨r.hd, by have := r.dp; rw [make_depth]; omega, by have := r.un; rw [make_units]; omega⟩
theorem Room.depth {k : Nat} {A : Around} (r : Room k A) : A.depth < recursionLimit := by have := r.dp; omega
theorem Room.units {k : Nat} {A : Around} (r : Room k A) : A.units + 64 < cLine := by have := r.un; omega
theorem Room.units0 {k : Nat} {A : Around} (r : Room k A) : A.units < cLine := by have := r.un; omega

/-! ### argument lists and displays -/
def tNil : TA := fun _ H Q => Q [] H
def tCons (ta : TE) (tr : TA) : TA := fun σ H Q => ta σ H fun x H1 => tr σ H1 fun xs H2 => Q (x :: xs) H2
section
variable {X : Cx} {e : Expr} {es : List Expr} {te : TE} {t : TA} {pos : Pos}
theorem pa_nil : PA X [] tNil := fun _ _ _ _ H Q I h => Calls.spliced_nil ⟨[], H, I, .nil, h⟩
theorem pa_cons (ha : PE X e te) (hr : PA X es t) (hs : starEach (e :: es) X.env = (false, eval e X.env) :: starEach es X.env := by rfl) : PA X (e :: es) (tCons te t) := by
  intro pos pins s σ H Q I h
  rw [hs]
  show wpAny _ _ (spliced ((false, eval e X.env) :: backTo pos (starEach es X.env))) _ _ s
  refine Calls.spliced_cons (thn (ha pins s σ H _ I h) fun u s1 ⟨x, H1, I1, r1, q1⟩ => ?_)
  exact thn (hr pos pins s1 σ H1 _ I1 q1) fun us s2 ⟨xs, H2, I2, r2, q2⟩ => ⟨x :: xs, H2, I2, .cons r1 r2, q2⟩

/-- a tuple, a list of written items -/
def tTup (t : TA) : TE := fun σ H Q => t σ H fun xs H1 => xs.length ≤ sizeLine ∧ ∀ p, H1 p = none → Q (.ref p) (upd H1 p (.tup xs))
def tLst (t : TA) : TE := fun σ H Q => t σ H fun xs H1 => xs.length ≤ sizeLine ∧ ∀ p, H1 p = none → Q (.ref p) (upd H1 p (.lst xs))
theorem pe_tup {x1} (h : PA X es t) : PE X (.Tuple es x1 pos) (tTup t) := by
  intro pins s σ H Q I hq
  refine wpAny_Tuple_spliced (thn (h pos pins s σ H _ I hq) fun us s1 ⟨xs, H1, I1, r, z, q⟩ => ⟨by rw [← r.length]; exact z, ?_⟩)
  have hf : H1 s1.heap.objs.size = none := I1.hok.fresh (Nat.le_refl _)
  refine ⟨.ref s1.heap.objs.size, upd H1 s1.heap.objs.size (.tup xs), I1.laid (t' := s1.toks) (fun b u e => Heap.get?_push_of_some _ e) (Nat.le_refl _) ?_, rfl, q _ hf⟩
  exact ⟨z, us, r, ⟨_, Heap.get?_push_size _ rfl, rfl, _, rfl⟩⟩
theorem pe_lst (h : PA X es t) : PE X (.List es pos) (tLst t) := by
  intro pins s σ H Q I hq
  refine wpAny_List_spliced (thn (h pos pins s σ H _ I hq) fun us s1 ⟨xs, H1, I1, r, z, q⟩ => ⟨by rw [← r.length]; exact z, ?_⟩)
  have hf : H1 s1.heap.objs.size = none := I1.hok.fresh (Nat.le_refl _)
  refine ⟨.ref s1.heap.objs.size, upd H1 s1.heap.objs.size (.lst xs), I1.laid (t' := s1.toks) (fun b u e => Heap.get?_push_of_some _ e) (Nat.le_refl _) ?_, rfl, q _ hf⟩
  exact ⟨z, us, 0, r, Heap.get?_push_size _ rfl⟩
end

/-! ### what a def promises -/
/-- a def's promise: the bound arguments in the parameters' order, the heap, the wanted end, the wanted exception -/
abbrev Sp := List V → Hp → VK → XK → Prop
/-- how an exception lies behind a call (file 08 gives it): the callers' frames, abstract heap and state ahead of the call, the wish, the exception, the state -/
abbrev CXT := List Env → Hp → Shared → XK → Value → Shared → Prop

/-- the state at a call -/
structure Env0 (P : Program) (w : World) (K : PySem.W.Frag) (mg : Str → Option Value) (base : Heap) (A : Around) (outer : List Env) (s : Shared) (H : Hp) : Prop where
  frames : A.frames = some outer
  mod : Mod K mg base
  bs : ∀ b o, base.get? b = some o → s.heap.get? b = some o ∧ H b = none
  bsz : base.objs.size ≤ s.heap.objs.size
  funs : s.heap.FunFrames base outer
  frf : ∀ b ∈ frs outer, H b = none
  hok : HOk P w H s.heap
  bare : AllBare s.gens
/-- a call's end -/
def CE (outer : List Env) (P : Program) (w : World) (H : Hp) (s : Shared) (Q : VK) (u : Value) (s' : Shared) : Prop :=
  ∃ v H', s'.os = s.os ∧ AllBare s'.gens ∧ Un (frs outer) [] H H' s.heap s'.heap ∧ HOk P w H' s'.heap ∧ RelV v u ∧ Q v H'
def CR (CX : CXT) (outer : List Env) (P : Program) (w : World) (H : Hp) (s : Shared) (Q : VK) (E : XK) (r : Result) (s' : Shared) : Prop :=
  match r with
  | .ok (.ret u) => CE outer P w H s Q u s'
  | .ok _ => False
  | .error e => CX outer H s E e s'
structure FnOk (P : Program) (w : World) (K : PySem.W.Frag) (mg : Str → Option Value) (base : Heap) (CX : CXT) (k : Nat) (f : Addr) (fd : FuncData) (ps : List Str) (sp : Sp) : Prop where
  len : ∀ vs H Q E, sp vs H Q E → vs.length = ps.length
  run : ∀ (A : Around) (outer : List Env) (s : Shared) (H : Hp) (args : Args) (us : List Value) (vs : List V) (Q : VK) (E : XK), Room k A → Env0 P w K mg base A outer s H → BindsTo s fd args (ps.zip us) → Vals vs us → sp vs H Q E →
    codeAny (model P w) A (.call (.ref f) args) (CR CX outer P w H s Q E) s
theorem FnOk.mono {P : Program} {w : World} {K : PySem.W.Frag} {mg : Str → Option Value} {base : Heap} {CX : CXT} {j k : Nat} {f : Addr} {fd : FuncData} {ps : List Str} {sp : Sp} (F : FnOk P w K mg base CX j f fd ps sp) (h : j ≤ k) :
    FnOk P w K mg base CX k f fd ps sp := ⟨F.len, fun A outer s H args us vs Q E hr => F.run A outer s H args us vs Q E (hr.mono h)⟩
/-- a weaker promise -/
theorem FnOk.imp {P : Program} {w : World} {K : PySem.W.Frag} {mg : Str → Option Value} {base : Heap} {CX : CXT} {k : Nat} {f : Addr} {fd : FuncData} {ps : List Str} {sp sp' : Sp} (F : FnOk P w K mg base CX k f fd ps sp)
    (h : ∀ vs H Q E, sp' vs H Q E → sp vs H Q E) : FnOk P w K mg base CX k f fd ps sp' :=
  ⟨fun vs H Q E q => F.len vs H Q E (h _ _ _ _ q), fun A outer s H args us vs Q E hr he hb hv hs => F.run A outer s H args us vs Q E hr he hb hv (h _ _ _ _ hs)⟩

theorem Env0.make {P : Program} {w : World} {K : PySem.W.Frag} {mg : Str → Option Value} {base : Heap} {A : Around} {outer : List Env} {s : Shared} {H : Hp} (e : Env0 P w K mg base A outer s H) (C : Addr) (us : List Value) (kw : List (Str × Value)) :
    Env0 P w K mg base (A.under (.builtin "type.__call__" ⟨.ref C :: us, kw⟩)) outer s H := ⟨by first | exact e.frames | (simpa [Around.under, Code.envs, Code.isFrame, pushEnvs] using e.frames), e.mod, e.bs, e.bsz, e.funs, e.frf, e.hok, e.bare⟩
theorem Env0.in1 {P : Program} {w : World} {K : PySem.W.Frag} {mg : Str → Option Value} {base : Heap} {A : Around} {outer : List Env} {s : Shared} {H : Hp} (e : Env0 P w K mg base A outer s H) :
    Env0 P w K mg base A.in1 outer s H := ⟨e.frames, e.mod, e.bs, e.bsz, e.funs, e.frf, e.hok, e.bare⟩

section
variable {X : Cx} {pins : List (Addr × Obj)} {σ : St} {H : Hp} {s s' : Shared}
/-- from a body: what a callee wants -/
theorem Inv.env0 (I : Inv X pins σ H s) : Env0 X.prog X.w X.K X.mg X.base X.A X.stack s H :=
  ⟨I.ok.frames, I.ok.mod, I.bs, Nat.le_trans I.ok.bsz I.sz, I.stack, I.stkFree, I.hok, I.bare⟩
/-- behind a call -/
theorem Inv.after {Q : VK} {u : Value} (I : Inv X pins σ H s) (h : CE X.stack X.prog X.w H s Q u s') : EP X pins σ Q u s' := by
  obtain ⟨v, H', os, bare, un, hok, r, q⟩ := h
  obtain ⟨hh, g, d, t, os'⟩ := s'
  obtain rfl : os' = s.os := os
  exact ⟨v, H', I.call (h' := hh) (g' := g) (d' := d) (t' := t) (ch := []) un hok bare (fun b z => absurd z (by simp)), r, q⟩
end

/-! ### calls -/
/-- f(..): the written arguments, then the defaults dvs; E: what is wanted of an exception -/
def tCall (sp : Sp) (dvs : List V) (E : XK) (t : TA) : TE := fun σ H Q => t σ H fun vs H1 => sp (vs ++ dvs) H1 Q E
/-- o.m(..) of an instance of the class at C -/
def tMeth (C : Addr) (m : Str) (sp : Sp) (dvs : List V) (E : XK) (ta : TE) (t : TA) : TE := fun σ H Q => ta σ H fun x H1 => ∃ a dx fs, x = .ref a ∧ H1 a = some (.ins C dx fs) ∧ fs.lookup m = none ∧
  t σ H1 fun vs H2 => sp (x :: (vs ++ dvs)) H2 Q E
/-- C(..): a new instance and its dict, then __init__ -/
def tMake (C : Addr) (sp : Sp) (dvs : List V) (E : XK) (t : TA) : TE := fun σ H Q => t σ H fun vs H1 => ∀ x dx, H1 x = none → H1 dx = none → dx ≠ x →
  sp (.ref x :: (vs ++ dvs)) (upd (upd H1 dx (.own x)) x (.ins C dx [])) (fun v H2 => v = .non ∧ Q (.ref x) H2) E

/-- how the parameters are bound: us the positional arguments, kw the keywords' values by name, ds the defaults that fill up -/
def Binds (K : PySem.W.Frag) (fd : FuncData) (ps : List Str) (ds : List Value) : Prop :=
  ∀ (s : Shared) (us : List Value), K.In s.heap → (us ++ ds).length = ps.length → BindsTo s fd ⟨us, []⟩ (ps.zip (us ++ ds))
/-- every parameter is given -/
theorem Binds.all {K : PySem.W.Frag} {fd : FuncData} {ps : List Str} (h : ∀ us : List Value, us.length = ps.length → bindArgs fd ⟨us, []⟩ = pure (ps.zip us)) : Binds K fd ps [] := fun s us _ hl => by
  rw [List.append_nil] at hl ⊢
  exact .of_eq (h us hl)

/-- an exception of a callee reaches what this body wants of exceptions -/
def Passes (CX : CXT) (X : Cx) (E : XK) : Prop := ∀ (pins : List (Addr × Obj)) (σ : St) (H : Hp) (s : Shared) (e : Value) (s' : Shared), Inv X pins σ H s → CX X.stack H s E e s' → X.xe e s'

section
variable {X : Cx} {CX : CXT} {k : Nat} {f C : Addr} {fd : FuncData} {ps : List Str} {sp : Sp} {dvs : List V} {ds : List Value} {E : XK} {x m : Str} {p pos apos : Pos} {e o : Expr} {es : List Expr} {ta : TE} {t : TA}

/-- the callee runs -/
theorem run_fn {pins : List (Addr × Obj)} {σ : St} {H : Hp} {s : Shared} {Q : VK} {us : List Value} {vs : List V} (F : FnOk X.prog X.w X.K X.mg X.base CX k f fd ps sp) (hr : Room k X.A) (hb : Binds X.K fd ps ds) (hd : Vals dvs ds) (hx : Passes CX X E)
    (I : Inv X pins σ H s) (r : Vals vs us) (h : sp (vs ++ dvs) H Q E) : wpAny (model X.prog X.w) X.A (call (.ref f) us) (EP X pins σ Q) X.xe s := by
  have r2 : Vals (vs ++ dvs) (us ++ ds) := r.append hd
  have hl : (us ++ ds).length = ps.length := by rw [← r2.length]; exact F.len _ _ _ _ h
  refine wpAny_call (codeAny_mono (F.run X.A X.stack s H ⟨us, []⟩ (us ++ ds) (vs ++ dvs) Q E hr I.env0 (hb s us I.kIn hl) r2 h) fun r s' hq => ?_)
  cases r with
  | error e => exact hx pins σ H s e s' I hq
  | ok fl =>
    cases fl with
    | ret u => exact I.after hq
    | next => exact False.elim hq
    | brk => exact False.elim hq
    | cont => exact False.elim hq

theorem pe_call (F : FnOk X.prog X.w X.K X.mg X.base CX k f fd ps sp) (hr : Room k X.A) (hg : Gl X x) (hm : X.mg x = some (.ref f)) (hk : PySem.W.keepIn X.K (.ref f) = true) (hb : Binds X.K fd ps ds) (hd : Vals dvs ds) (hx : Passes CX X E)
    (ha : PA X (e :: es) t) (hdb : (x == ("__debug__" : Str)) = false := by decide) (he : starEach (e :: es) X.env = (false, eval e X.env) :: starEach es X.env := by rfl) (hpl : (backTo pos (starEach es X.env)).any (·.1) = false := by rfl) :
    PE X (.Call (.Name x p) (e :: es) [] pos) (tCall sp dvs E t) := by
  intro pins s σ H Q I h
  refine wpAny_Call_Name_kw (ld_glob I hg hm ?_ hdb)
  refine PySem.W.callWith_K (h₀ := X.base) I.ok.mod.kin hk (thn (ha pos pins s σ H _ I h) fun us s1 ⟨vs, H1, I1, r, q⟩ => ⟨I1.kIn, ?_⟩) he hpl
  exact run_fn F hr hb hd hx I1 r q
theorem pe_call0 (F : FnOk X.prog X.w X.K X.mg X.base CX k f fd ps sp) (hr : Room k X.A) (hg : Gl X x) (hm : X.mg x = some (.ref f)) (hk : PySem.W.keepIn X.K (.ref f) = true) (hb : Binds X.K fd ps ds) (hd : Vals dvs ds) (hx : Passes CX X E)
    (hdb : (x == ("__debug__" : Str)) = false := by decide) : PE X (.Call (.Name x p) [] [] pos) (tCall sp dvs E tNil) := by
  intro pins s σ H Q I h
  refine wpAny_Call_Name_kw (ld_glob I hg hm ?_ hdb)
  exact PySem.W.callWith_K0 I.kIn hk (run_fn (us := []) F hr hb hd hx I .nil h)

/-- o.m(e, ..) -/
theorem pe_meth {pl : Sem Bool} (he : PE X o ta) (c : Cls X.K C) (hm : Meth X.K C m f) (F : FnOk X.prog X.w X.K X.mg X.base CX k f fd ps sp) (hr : Room k X.A) (hb : Binds X.K fd ps ds) (hd : Vals dvs ds) (hx : Passes CX X E) (ha : PA X (e :: es) t)
    (hst : starEach (e :: es) X.env = (false, eval e X.env) :: starEach es X.env := by rfl) (hpl : (backTo pos (starEach es X.env)).any (·.1) = false := by rfl)
    (ht : eval (.Call (.Attribute o m apos) (e :: es) [] pos) X.env = (do
      let ov ← eval o X.env
      standAt apos.atName
      let (f, first) ← holding [ov] (getMethod ov m pl)
      callWith pos f first (backTo pos (starEach (e :: es) X.env)) (backToKw pos (keywordEach [] X.env))) := by rfl) :
    PE X (.Call (.Attribute o m apos) (e :: es) [] pos) (tMeth C m sp dvs E ta t) := by
  intro pins s σ H Q I h
  refine PySem.W.methodCall_KW (pl := pl) (thn (he pins s σ H _ I h) fun u s1 ⟨x, H1, I1, rx, a, dx, fs, ex, ea, l, q⟩ => ?_) ht
  subst ex
  obtain rfl : u = Value.ref a := rx
  refine getmeth_ok I1 ea c hm l ?_
  refine PySem.W.callWith_K (first := [.ref a]) (h₀ := X.base) I.ok.mod.kin hm.kp (thn (ha pos pins s1 σ H1 _ I1 q) fun us s2 ⟨vs, H2, I2, r, q2⟩ => ⟨I2.kIn, ?_⟩) hst hpl
  exact run_fn (us := .ref a :: us) (vs := .ref a :: vs) F hr hb hd hx I2 (.cons rfl r) q2
/-- o.m() -/
theorem pe_meth0 {pl : Sem Bool} (he : PE X o ta) (c : Cls X.K C) (hm : Meth X.K C m f) (F : FnOk X.prog X.w X.K X.mg X.base CX k f fd ps sp) (hr : Room k X.A) (hb : Binds X.K fd ps ds) (hd : Vals dvs ds) (hx : Passes CX X E)
    (ht : eval (.Call (.Attribute o m apos) [] [] pos) X.env = (do
      let ov ← eval o X.env
      standAt apos.atName
      let (f, first) ← holding [ov] (getMethod ov m pl)
      callWith pos f first (backTo pos (starEach [] X.env)) (backToKw pos (keywordEach [] X.env))) := by rfl) :
    PE X (.Call (.Attribute o m apos) [] [] pos) (tMeth C m sp dvs E ta tNil) := by
  intro pins s σ H Q I h
  refine PySem.W.methodCall_KW (pl := pl) (thn (he pins s σ H _ I h) fun u s1 ⟨x, H1, I1, rx, a, dx, fs, ex, ea, l, q⟩ => ?_) ht
  subst ex
  obtain rfl : u = Value.ref a := rx
  refine getmeth_ok I1 ea c hm l ?_
  exact PySem.W.callWith_K0 (first := [.ref a]) I1.kIn hm.kp (run_fn (us := [.ref a]) (vs := [.ref a]) F hr hb hd hx I1 (.cons rfl .nil) q)

/-- what a class must have to be made -/
structure Mk (K : PySem.W.Frag) (C f : Addr) : Prop where
  makes : PySem.W.makesIn K C = true
  init : PySem.W.findIn K (.ref C) "__init__" = some (some (.ref f))
  fn : PySem.W.isFn K (.ref f) = true
  kp : PySem.W.keepIn K (.ref C) = true

theorem run_make {pins : List (Addr × Obj)} {σ : St} {H : Hp} {s : Shared} {Q : VK} {us : List Value} {vs : List V} (M : Mk X.K C f) (F : FnOk X.prog X.w X.K X.mg X.base CX k f fd ps sp) (hr : Room (k + 1) X.A) (hb : Binds X.K fd ps ds) (hd : Vals dvs ds)
    (hx : Passes CX X E) (I : Inv X pins σ H s) (r : Vals vs us)
    (h : ∀ x dx, H x = none → H dx = none → dx ≠ x → sp (.ref x :: (vs ++ dvs)) (upd (upd H dx (.own x)) x (.ins C dx [])) (fun v H2 => v = .non ∧ Q (.ref x) H2) E) :
    wpAny (model X.prog X.w) X.A (call (.ref C) us) (EP X pins σ Q) X.xe s := by
  have hq := h (s.heap.objs.size + 1) s.heap.objs.size (I.hok.fresh (Nat.le_succ _)) (I.hok.fresh (Nat.le_refl _)) (Nat.ne_of_lt (Nat.lt_succ_self _))
  have I2 := Inv.made (C := C) I
  have r2 : Vals (V.ref (s.heap.objs.size + 1) :: (vs ++ dvs)) (Value.ref (s.heap.objs.size + 1) :: (us ++ ds)) := .cons rfl (r.append hd)
  have hl : (Value.ref (s.heap.objs.size + 1) :: us ++ ds).length = ps.length := by
    have e := r2.length
    rw [F.len _ _ _ _ hq] at e
    exact e.symm
  refine wpAny_call (make_map (f := f) I.kIn M.makes M.init (beq_iff_eq.mp M.fn) (codeAny_mono (F.run _ X.stack _ _ ⟨Value.ref (s.heap.objs.size + 1) :: us, []⟩ (Value.ref (s.heap.objs.size + 1) :: (us ++ ds)) _ _ E (hr.make C us [])
    (I2.env0.make C us []) (hb _ (Value.ref (s.heap.objs.size + 1) :: us) I2.kIn hl) r2 hq) fun r s' hq' => ?_))
  cases r with
  | error e => exact hx pins σ _ _ e s' I2 hq'
  | ok fl =>
    cases fl with
    | ret u =>
      obtain ⟨v, H', I3, rv, ev, q3⟩ := I2.after hq'
      subst ev
      exact ⟨rv, ⟨V.ref (s.heap.objs.size + 1), H', I3, rfl, q3⟩⟩
    | next => exact False.elim hq'
    | brk => exact False.elim hq'
    | cont => exact False.elim hq'
theorem pe_make (M : Mk X.K C f) (F : FnOk X.prog X.w X.K X.mg X.base CX k f fd ps sp) (hr : Room (k + 1) X.A) (hg : Gl X x) (hm : X.mg x = some (.ref C)) (hb : Binds X.K fd ps ds) (hd : Vals dvs ds) (hx : Passes CX X E)
    (ha : PA X (e :: es) t) (hdb : (x == ("__debug__" : Str)) = false := by decide) (he : starEach (e :: es) X.env = (false, eval e X.env) :: starEach es X.env := by rfl) (hpl : (backTo pos (starEach es X.env)).any (·.1) = false := by rfl) :
    PE X (.Call (.Name x p) (e :: es) [] pos) (tMake C sp dvs E t) := by
  intro pins s σ H Q I h
  refine wpAny_Call_Name_kw (ld_glob I hg hm ?_ hdb)
  refine PySem.W.callWith_K (h₀ := X.base) I.ok.mod.kin M.kp (thn (ha pos pins s σ H _ I h) fun us s1 ⟨vs, H1, I1, r, q⟩ => ⟨I1.kIn, ?_⟩) he hpl
  exact run_make M F hr hb hd hx I1 r q
theorem pe_make0 (M : Mk X.K C f) (F : FnOk X.prog X.w X.K X.mg X.base CX k f fd ps sp) (hr : Room (k + 1) X.A) (hg : Gl X x) (hm : X.mg x = some (.ref C)) (hb : Binds X.K fd ps ds) (hd : Vals dvs ds) (hx : Passes CX X E)
    (hdb : (x == ("__debug__" : Str)) = false := by decide) : PE X (.Call (.Name x p) [] [] pos) (tMake C sp dvs E tNil) := by
  intro pins s σ H Q I h
  refine wpAny_Call_Name_kw (ld_glob I hg hm ?_ hdb)
  exact PySem.W.callWith_K0 I.kIn M.kp (run_make (us := []) M F hr hb hd hx I .nil h)
end

/-! ### keywords -/
/-- the values of the keywords, from the left -/
def PK (X : Cx) (kws : List Keyword) (t : TA) : Prop :=
  ∀ (pos : Pos) (pins : List (Addr × Obj)) (s : Shared) (σ : St) (H : Hp) (Q : List V → Hp → Prop), Inv X pins σ H s → t σ H Q → wpAny (model X.prog X.w) X.A (evalAll ((backToKw pos (keywordEach kws X.env)).map (·.2))) (AP X pins σ Q) X.xe s
section
variable {X : Cx} {CX : CXT} {k : Nat} {f C : Addr} {fd : FuncData} {ps ks : List Str} {sp : Sp} {E : XK} {x m : Str} {p pos apos kpos : Pos} {e o : Expr} {es : List Expr} {kws : List Keyword} {te ta : TE} {t tk : TA} {nm : Option Str}
theorem pk_nil : PK X [] tNil := fun _ _ _ _ H Q I h => wpAny_evalAll_nil ⟨[], H, I, .nil, h⟩
theorem pk_cons (ha : PE X e te) (hr : PK X kws t) : PK X (⟨nm, e, kpos⟩ :: kws) (tCons te t) := by
  intro pos pins s σ H Q I h
  show wpAny _ _ (evalAll ((do let v ← eval e X.env; standAt pos; pure v) :: (backToKw pos (keywordEach kws X.env)).map (·.2))) _ _ s
  refine wpAny_evalAll_cons (wpAny_bind (thn (ha pins s σ H _ I h) fun u s1 ⟨x, H1, I1, r1, q1⟩ => wpAny_bind (wpAny_standAt (wpAny_pure ?_))))
  exact thn (hr pos pins s1 σ H1 _ I1 q1) fun us s2 ⟨xs, H2, I2, r2, q2⟩ => ⟨x :: xs, H2, I2, .cons r1 r2, q2⟩

/-- how a call with keywords binds: g puts the positional values us and the keywords' values ws (names ks) in the parameters' order, defaults among them -/
structure KBinds (K : PySem.W.Frag) (fd : FuncData) (ps ks : List Str) (g : List Value → List Value → List Value) (gV : List V → List V → List V) : Prop where
  to : ∀ (s : Shared) (us ws : List Value), K.In s.heap → (g us ws).length = ps.length → BindsTo s fd ⟨us, ks.zip ws⟩ (ps.zip (g us ws))
  rel : ∀ {vs : List V} {us : List Value} {zs : List V} {ws : List Value}, Vals vs us → Vals zs ws → Vals (gV vs zs) (g us ws)
def tCallK (sp : Sp) (gV : List V → List V → List V) (E : XK) (t tk : TA) : TE := fun σ H Q => t σ H fun vs H1 => tk σ H1 fun zs H2 => sp (gV vs zs) H2 Q E
variable {g : List Value → List Value → List Value} {gV : List V → List V → List V}
theorem run_fnk {pins : List (Addr × Obj)} {σ : St} {H : Hp} {s : Shared} {Q : VK} {us ws : List Value} {vs zs : List V} (F : FnOk X.prog X.w X.K X.mg X.base CX k f fd ps sp) (hr : Room k X.A) (hb : KBinds X.K fd ps ks g gV) (hx : Passes CX X E)
    (I : Inv X pins σ H s) (r : Vals vs us) (rz : Vals zs ws) (h : sp (gV vs zs) H Q E) : wpAny (model X.prog X.w) X.A (call (.ref f) us (ks.zip ws)) (EP X pins σ Q) X.xe s := by
  have r2 := hb.rel r rz
  have hl : (g us ws).length = ps.length := by rw [← r2.length]; exact F.len _ _ _ _ h
  refine wpAny_call (codeAny_mono (F.run X.A X.stack s H ⟨us, ks.zip ws⟩ (g us ws) (gV vs zs) Q E hr I.env0 (hb.to s us ws I.kIn hl) r2 h) fun r s' hq => ?_)
  cases r with
  | error e => exact hx pins σ H s e s' I hq
  | ok fl =>
    cases fl with
    | ret u => exact I.after hq
    | next => exact False.elim hq
    | brk => exact False.elim hq
    | cont => exact False.elim hq
/-- f(e, .., k = v, ..) -/
theorem pe_callK (F : FnOk X.prog X.w X.K X.mg X.base CX k f fd ps sp) (hr : Room k X.A) (hg : Gl X x) (hm : X.mg x = some (.ref f)) (hk : PySem.W.keepIn X.K (.ref f) = true) (hb : KBinds X.K fd ps ks g gV) (hx : Passes CX X E)
    (ha : PA X (e :: es) t) (hkw : PK X kws tk) (hall : (backToKw pos (keywordEach kws X.env)).all (·.1.isSome) = true := by rfl) (hks : (backToKw pos (keywordEach kws X.env)).filterMap (·.1) = ks := by rfl)
    (hdb : (x == ("__debug__" : Str)) = false := by decide) (he : starEach (e :: es) X.env = (false, eval e X.env) :: starEach es X.env := by rfl)
    (hpl : ((backTo pos (starEach (e :: es) X.env)).any (·.1) || (backToKw pos (keywordEach kws X.env)).any (·.1.isNone)) = false := by rfl) :
    PE X (.Call (.Name x p) (e :: es) kws pos) (tCallK sp gV E t tk) := by
  intro pins s σ H Q I h
  refine wpAny_Call_Name_kw (ld_glob I hg hm ?_ hdb)
  refine PySem.W.callWith_KW (h₀ := X.base) I.ok.mod.kin hk hall (thn (ha pos pins s σ H _ I h) fun us s1 ⟨vs, H1, I1, r, q⟩ => ?_) hpl he
  refine thn (hkw pos pins s1 σ H1 _ I1 q) fun ws s2 ⟨zs, H2, I2, rz, q2⟩ => ⟨I2.kIn, ?_⟩
  rw [hks]
  exact run_fnk F hr hb hx I2 r rz q2
end

/-! ### a def's body keeps its promise -/
/-- names: the parameters first -/
structure FnScope (N P : List Str) (sc : Scope) : Prop where
  kind : sc.kind = .function
  co : sc.isCoroutine = false
  gen : sc.isGenerator = false
  nd : N.Nodup
  pre : N.take P.length = P
  par : ∀ x ∈ P, sc.names.lookup x = some .local ∨ sc.names.lookup x = some .cell
  nofree : ∀ y ∈ sc.names, y.2 ≠ .free

theorem bindL_out {kindOf : Str → Option NameKind} {x : Str} : ∀ {binds : List (Str × Value)} {m : Str → Option Value}, (∀ v, (x, v) ∉ binds) → bindL kindOf binds m x = m x
  | [], _, _ => rfl
  | (n, v) :: r, m, h => by
    unfold bindL
    rw [bindL_out fun w hw => h w (List.mem_cons_of_mem _ hw)]
    split
    · have : x ≠ n := by rintro rfl; exact h v List.mem_cons_self
      simp [this]
    · rfl
theorem bindC_out {kindOf : Str → Option NameKind} {x : Str} : ∀ {binds : List (Str × Value)} {m : Str → Option Value}, (∀ v, (x, v) ∉ binds) → bindC kindOf binds m x = m x
  | [], _, _ => rfl
  | (n, v) :: r, m, h => by
    unfold bindC
    rw [bindC_out fun w hw => h w (List.mem_cons_of_mem _ hw)]
    split
    · rfl
    · have : x ≠ n := by rintro rfl; exact h v List.mem_cons_self
      simp [this]
theorem bindL_get {kindOf : Str → Option NameKind} {x : Str} {v : Value} : ∀ {P : List Str} {vs : List Value} {i : Nat} {m : Str → Option Value}, P.Nodup → P[i]? = some x → vs[i]? = some v → kindOf x = some .local →
    bindL kindOf (P.zip vs) m x = some v
  | [], _, _, _, _, h, _, _ => by simp at h
  | _ :: _, [], _, _, _, _, h, _ => by simp at h
  | p :: P, w :: vs, 0, m, nd, h1, h2, hk => by
    simp at h1 h2; subst h1; subst h2
    show bindL kindOf ((p, w) :: P.zip vs) m p = _
    unfold bindL
    rw [bindL_out fun v hv => (List.nodup_cons.mp nd).1 (List.of_mem_zip hv).1, if_pos hk]
    simp
  | p :: P, w :: vs, i + 1, m, nd, h1, h2, hk => by
    show bindL kindOf ((p, w) :: P.zip vs) m x = _
    unfold bindL
    exact bindL_get (i := i) (List.nodup_cons.mp nd).2 (by simpa using h1) (by simpa using h2) hk
theorem bindC_get {kindOf : Str → Option NameKind} {x : Str} {v : Value} : ∀ {P : List Str} {vs : List Value} {i : Nat} {m : Str → Option Value}, P.Nodup → P[i]? = some x → vs[i]? = some v → kindOf x ≠ some .local →
    bindC kindOf (P.zip vs) m x = some v
  | [], _, _, _, _, h, _, _ => by simp at h
  | _ :: _, [], _, _, _, _, h, _ => by simp at h
  | p :: P, w :: vs, 0, m, nd, h1, h2, hk => by
    simp at h1 h2; subst h1; subst h2
    show bindC kindOf ((p, w) :: P.zip vs) m p = _
    unfold bindC
    rw [bindC_out fun v hv => (List.nodup_cons.mp nd).1 (List.of_mem_zip hv).1, if_neg hk]
    simp
  | p :: P, w :: vs, i + 1, m, nd, h1, h2, hk => by
    show bindC kindOf ((p, w) :: P.zip vs) m x = _
    unfold bindC
    exact bindC_get (i := i) (List.nodup_cons.mp nd).2 (by simpa using h1) (by simpa using h2) hk

/-- the names' values at the entry -/
def start (N : List Str) (vs : List V) : St := vs.map some ++ List.replicate (N.length - vs.length) none

/-- the context of a def's body, at its entry; an exception leaves the frame, then lies as CX says -/
def cxOf (CX : CXT) (P : Program) (w : World) (K : PySem.W.Frag) (mg : Str → Option Value) (base : Heap) (N : List Str) (qual : Str) (scope : Scope) (f : Addr) (cd : Value) (A : Around) (outer : List Env) (s : Shared) (H : Hp) (E : XK) : Cx where
  prog := P
  w := w
  K := K
  mg := mg
  base := base
  A := A.deeper (envOfC qual scope s.heap.objs.size f cd)
  N := N
  s₀ := s
  H₀ := H
  env := envOfC qual scope s.heap.objs.size f cd
  outer := outer
  stack := envOfC qual scope s.heap.objs.size f cd :: outer
  ex := []
  calm := true
  fn := fun _ => true
  pn := []
  xe := fun e s' => wpAny (model P w) (A.deeper (envOfC qual scope s.heap.objs.size f cd)) (leaving (envOfC qual scope s.heap.objs.size f cd) e) (fun _ s'' => CX outer H s E e s'') (fun e' s'' => CX outer H s E e' s'') s'

theorem cell_has {sc : Scope} {n : Nat} {x : Str} (h : sc.names.lookup x = some .cell) : ∃ c, (cellsFrom n sc.names []).lookup x = some c := by
  have q := PySem.W.cellsFrom_some sc.names n [] (.inl h)
  exact Option.isSome_iff_exists.mp q

theorem inv_start {CX : CXT} {P : Program} {w : World} {K : PySem.W.Frag} {mg : Str → Option Value} {base : Heap} {N ps : List Str} {qual : Str} {scope : Scope} {f : Addr} {cd : Value} {A : Around} {outer : List Env} {s s1 : Shared} {H : Hp} {E : XK} {us : List Value} {vs : List V}
    (S : FnScope N ps scope) (hd : A.handled = none) (e0 : Env0 P w K mg base A outer s H) (hl : vs.length = ps.length) (r : Vals vs us)
    (x : InCallC s s.heap.objs.size (bindL (envOfC qual scope s.heap.objs.size f cd).kindOf (ps.zip us) fun _ => none) (cellsFrom (s.heap.objs.size + 1) scope.names []) (bindC (envOfC qual scope s.heap.objs.size f cd).kindOf (ps.zip us) fun _ => none) s1) :
    Inv (cxOf CX P w K mg base N qual scope f cd A outer s H E) [] (start N vs) H s1 := by
  have hpl : ps.length ≤ N.length := by have := congrArg List.length S.pre; rw [List.length_take] at this; omega
  obtain ⟨h1, tk, rfl, hk⟩ := x.done
  have noA : ∀ b : Addr, b ∉ (cxOf CX P w K mg base N qual scope f cd A outer s H E).ex := fun b z => absurd (show b ∈ ([] : List Addr) from z) (by simp)
  refine ⟨⟨e0.mod, S.kind, rfl, rfl, Nat.le_refl _, fun y z c h1 h2 => ?_, fun y hy => ?_, fun y c _ h => ?_, fun _ => hd, Around.frames_deeper e0.frames, .inr ⟨rfl, rfl⟩, fun b z => absurd z (noA b), e0.bs, e0.bsz, fun b _ _ => noA b, fun b z => absurd z (noA b), e0.funs, e0.frf⟩,
    rfl, e0.bare, Un.kept hk, ⟨_, x.toInCall.ns, fun i y v h1 h2 h3 => ?_⟩, fun y c h => ⟨_, x.cell y c h⟩, e0.hok.fresh (Nat.le_refl _), fun y c h => ?_, fun p hp => absurd (show p ∈ ([] : List (Addr × Obj)) from hp) (by simp), e0.hok.kept hk, ?_⟩
  · exact name_of_addr x.apart (PySem.mem_of_lookup h1) (PySem.mem_of_lookup h2)
  · have hy : scope.names.lookup y = some .cell ∨ scope.names.lookup y = some .free := hy
    rcases hy with hy | hy
    · exact cell_has hy
    · exact absurd rfl (S.nofree _ (PySem.mem_of_lookup hy))
  · exact Nat.le_of_lt (x.above y c (PySem.mem_of_lookup h))
  · have hi : i < vs.length := by
      unfold start at h2
      by_cases hi : i < vs.length
      · exact hi
      · rw [List.getElem?_append_right (by simpa using hi)] at h2
        rw [List.getElem?_replicate] at h2
        split at h2 <;> cases h2
    have ha : vs[i]? = some v := by
      unfold start at h2
      rw [List.getElem?_append_left (by simpa using hi), List.getElem?_map] at h2
      cases e : vs[i]? with
      | none => rw [e] at h2; cases h2
      | some a => rw [e] at h2; cases h2; rfl
    obtain ⟨u, hu, rv⟩ := r.get ha
    have hp : ps[i]? = some y := by
      rw [← S.pre, List.getElem?_take_of_lt (by omega)]; exact h1
    have ndP : ps.Nodup := by rw [← S.pre]; exact S.nd.sublist (List.take_sublist _ _)
    refine ⟨u, rv, ?_⟩
    rcases S.par y (List.mem_of_getElem? hp) with k | k
    · exact .inl ⟨k, bindL_get ndP hp hu k⟩
    · obtain ⟨c, e⟩ := cell_has (n := s.heap.objs.size + 1) k
      refine .inr ⟨.inl k, c, e, ?_⟩
      have q := x.cell y c e
      rw [bindC_get ndP hp hu (by show scope.names.lookup y ≠ _; rw [k]; decide)] at q
      exact q
  · exact e0.hok.fresh (Nat.le_of_lt (x.above y c (PySem.mem_of_lookup h)))
  · unfold start
    show _ = N.length
    rw [List.length_append, List.length_map, List.length_replicate]
    omega

/-- THE RULE: a def (or a method) of the text, by its body. The body's reading t is chosen for each entry; it is run at the parameters' values -/
theorem fn_of {CX : CXT} {P : Program} {w : World} {K : PySem.W.Frag} {mg : Str → Option Value} {base : Heap} {k : Nat} {f : Addr} {name qual : Str} {params : Arguments} {body : List Stmt} {scope : Scope} {dV kV doc pm cdv ct oc : Value} {an od : Option Addr}
    {osl : Array (Option Value)} {N ps : List Str} {sp : Sp} (lk : K.lookup f = some ⟨oc, od, .func (PySem.W.fnOf name qual params body scope dV kV doc pm an cdv ct), osl⟩) (hcd : PySem.W.codeIn K cdv qual = true) (S : FnScope N ps scope)
    (len : ∀ vs H Q E, sp vs H Q E → vs.length = ps.length)
    (hbody : ∀ (A : Around) (outer : List Env) (s : Shared) (H : Hp) (vs : List V) (Q : VK) (E : XK), Room k (A.deeper (envOfC qual scope s.heap.objs.size f cdv)) → sp vs H Q E →
      ∃ t, PSs (cxOf CX P w K mg base N qual scope f cdv A outer s H E) body t ∧ t { nx := fun _ H' => Q .non H', rt := Q } (start N vs) H) :
    FnOk P w K mg base CX (k + 1) f (PySem.W.fnOf name qual params body scope dV kV doc pm an cdv ct) ps sp := by
  refine ⟨len, fun A outer s H args us vs Q E hr e0 hb r hsp => ?_⟩
  have hl := len _ _ _ _ hsp
  have KX : K.In s.heap := e0.mod.kin.keeps fun b o e => (e0.bs b o e).1
  have lim : s.heap.NoLimit := e0.mod.nolimit.keeps fun b o e => (e0.bs b o e).1
  have hkind : ∀ y ∈ ps.zip us, scope.names.lookup y.1 = some .local ∨ (scope.names.lookup y.1 = some .cell ∧ ((cellsFrom (s.heap.objs.size + 1) scope.names []).lookup y.1).isSome = true) := fun ⟨n, v⟩ hy => by
    rcases S.par n (List.of_mem_zip hy).1 with q | q
    · exact .inl q
    · exact .inr ⟨q, PySem.W.cellsFrom_some _ _ _ (.inl q)⟩
  refine codeAny_call_function hr.depth (KX _ _ lk) rfl S.co S.gen rfl (PySem.W.codeRec_of KX hcd) (hb _ _ _ _ ?_)
  refine wpAny_newFunctionEnv_cells S.kind hkind fun env he s1 x => ?_
  subst he
  refine ⟨lim.keeps x.toInCall.keep, codeAny_func ?_⟩
  obtain ⟨t, ht, hq⟩ := hbody A outer s H vs Q E (hr.deeper _) hsp
  have I : Inv (cxOf CX P w K mg base N qual scope f cdv A outer s H E) [] (start N vs) H s1 := inv_start S hr.hd e0 hl r x
  refine wpAny_mono (ht [] s1 (start N vs) H _ I hq) (fun fl s' hs => ?_) fun e s' hs => hs
  have fin : ∀ {σ' : St} {H' : Hp} {v : V} {u : Value}, Inv (cxOf CX P w K mg base N qual scope f cdv A outer s H E) [] σ' H' s' → RelV v u → Q v H' → CE outer P w H s Q u s' :=
    fun {σ' H' v u} J rv q => ⟨v, H', J.os, J.bare, J.base, J.hok, rv, q⟩
  cases fl with
  | ret u =>
    obtain ⟨v, σ', H', J, rv, q⟩ := hs
    exact fin J rv q
  | next =>
    obtain ⟨σ', H', J, q⟩ := hs
    exact fin (v := V.non) (u := Value.none) J rfl q
  | brk =>
    obtain ⟨_, _, _, q⟩ := hs
    exact False.elim q
  | cont =>
    obtain ⟨_, _, _, q⟩ := hs
    exact False.elim q
end L2

namespace L2
open PySem PySem.Spec PyProof.Rows
section
variable {X : Cx} {x : Str} {p pos : Pos} {e : Expr} {es : List Expr} {t : TA} {id T : String} {r : List V → Hp → VK → Prop}

def tCB (r : List V → Hp → VK → Prop) (t : TA) : TE := fun σ H Q => t σ H fun vs H1 => r vs H1 Q
/-- f(e, ..), f a built-in function -/
theorem pe_callB (hc : CallR X (.builtin id) r) (hg : Gl X x) (hm : X.mg x = none) (hv : bootBuiltins x = some (.builtin id)) (ha : PA X (e :: es) t) (hn : x ≠ "__name__" := by decide) (hdb : (x == ("__debug__" : Str)) = false := by decide)
    (he : starEach (e :: es) X.env = (false, eval e X.env) :: starEach es X.env := by rfl) (hpl : (backTo pos (starEach es X.env)).any (·.1) = false := by rfl) : PE X (.Call (.Name x p) (e :: es) [] pos) (tCB r t) := by
  intro pins s σ H Q I h
  refine wpAny_Call_Name_kw (ld_blt I hg hm hv ?_ hn hdb)
  exact PyProof.Rows.callWith_builtin1 (thn (ha pos pins s σ H _ I h) fun us s1 ⟨vs, H1, I1, r1, q1⟩ => hc pins s1 σ H1 vs us Q I1 r1 q1) he hpl
/-- T(e, ..), T a built-in type -/
theorem pe_callTy (hc : CallR X (.type T) r) (hg : Gl X x) (hm : X.mg x = none) (hv : bootBuiltins x = some (.type T)) (ha : PA X (e :: es) t) (hn : x ≠ "__name__" := by decide) (hdb : (x == ("__debug__" : Str)) = false := by decide)
    (he : starEach (e :: es) X.env = (false, eval e X.env) :: starEach es X.env := by rfl) (hpl : (backTo pos (starEach es X.env)).any (·.1) = false := by rfl) : PE X (.Call (.Name x p) (e :: es) [] pos) (tCB r t) := by
  intro pins s σ H Q I h
  refine wpAny_Call_Name_kw (ld_blt I hg hm hv ?_ hn hdb)
  exact PyProof.Rows.callWith_type1 (thn (ha pos pins s σ H _ I h) fun us s1 ⟨vs, H1, I1, r1, q1⟩ => hc pins s1 σ H1 vs us Q I1 r1 q1) he hpl
/-- T() -/
theorem pe_callTy0 (hc : CallR X (.type T) r) (hg : Gl X x) (hm : X.mg x = none) (hv : bootBuiltins x = some (.type T)) (hn : x ≠ "__name__" := by decide) (hdb : (x == ("__debug__" : Str)) = false := by decide) :
    PE X (.Call (.Name x p) [] [] pos) (tCB r tNil) := by
  intro pins s σ H Q I h
  refine wpAny_Call_Name_kw (ld_blt I hg hm hv ?_ hn hdb)
  exact PyProof.Rows.callWith_type0 (hc pins s σ H [] [] Q I .nil h)
end
end L2

namespace HT
open PySem PyProof.Rows

/-- t < u of tuples of ints -/
def lexLt : List Int → List Int → Bool
  | [], [] => false
  | [], _ :: _ => true
  | _ :: _, [] => false
  | x :: xs, y :: ys => if x = y then lexLt xs ys else decide (x < y)
theorem lexLt_cons (x y : Int) (xs ys : List Int) : lexLt (x :: xs) (y :: ys) = if x = y then lexLt xs ys else decide (x < y) := rfl
theorem lexLt_nil_nil : lexLt [] [] = false := rfl
theorem lexLt_nil_cons (y : Int) (ys : List Int) : lexLt [] (y :: ys) = true := rfl
theorem lexLt_cons_nil (x : Int) (xs : List Int) : lexLt (x :: xs) [] = false := rfl

theorem eqAt_int (A : Around) (s : Shared) (a : Int) (t : Tok) (c : Int) (u : Tok) : ∃ e, SeqAt.EqAt A s (.int a t) (.int c u) e ∧ (e = true ↔ a = c) :=
  ⟨(a == c), SeqAt.EqAt.int_int a t c u, by simp⟩
theorem rcLt_int (A : Around) (s : Shared) (a : Int) (t : Tok) (c : Int) (u : Tok) (prog : Program) (w : World) (E : Value → Shared → Prop) (Q : Value → Shared → Prop) (h : Q (.bool (decide (a < c))) s) :
    wpAny (model prog w) A (richCompare .Lt (.int a t) (.int c u)) Q E s :=
  (PyProof.Rows.lt_int h : wpAny (model prog w) A (compareOp .Lt (.int a t) (.int c u)) Q E s)

section
open PySem.SeqAt
open PySem.AutoSeq1 (wpAny_loadPart')
open PySem.MeetsSeq PySem.MeetsSeq2 PySem.MeetsSeq3

theorem tuple_lt_ints (l b : Addr) (items items2 : Array Value) (n n2 : Nat) (dd dd2 : Option Addr) (sl sl2 : Array (Option Value)) (ns ms : List Int) (hi : IntsAre items.toList ns) (hj : IntsAre items2.toList ms) :
    Meets (Builtin.«tuple.__lt__» ⟨[.ref l, .ref b], []⟩)
      (fun _ R s => s.heap.get? l = some { cls := .type "tuple", dict := dd, data := .seq items n, slots := sl } ∧ s.heap.get? b = some { cls := .type "tuple", dict := dd2, data := .seq items2 n2, slots := sl2 } ∧
        R (.ok (.ret (.bool (lexLt ns ms)))) s) :=
  .of_wp fun prog w A R s h => by
    obtain ⟨hp, g, d, tk, os⟩ := s; obtain ⟨hl, hb, h⟩ := h
    have f2 := AutoSeq1.sub_tuple_tuple
    have z1 : items.size = ns.length := by rw [← hi.length]; simp
    have z2 : items2.size = ms.length := by rw [← hj.length]; simp
    wp_walk using wpAny_loadPart' hl, wpAny_loadPart' hb, wpAny_forIn_list _ (fun rest b s' => b.1 = none ∧ s' = ⟨hp, g, d, tk, os⟩ ∧ ∃ (vs ws : List Value) (ns' ms' : List Int), rest = vs.zip ws ∧
      IntsAre vs ns' ∧ IntsAre ws ms' ∧ ns'.length + items2.size = ms'.length + items.size ∧ R (.ok (.ret (.bool (lexLt ns' ms')))) ⟨hp, g, d, tk, os⟩) _
    case turn =>
      rintro ⟨y, x⟩ rest b s' ⟨hb', rfl, vs, ws, ns', ms', hz, hvi, hwi, hlen, hR⟩
      cases hvi with
      | nil => rw [List.zip_nil_left] at hz; cases hz
      | cons a t hvi' =>
        cases hwi with
        | nil => rw [List.zip_nil_right] at hz; cases hz
        | cons c u hwi' =>
          rw [List.zip_cons_cons] at hz
          injection hz with hyx hrest
          injection hyx with hy hx
          subst hy hx
          rw [lexLt_cons] at hR
          simp only [List.length_cons] at hlen
          obtain ⟨e, he, hiff⟩ := eqAt_int A.in1 ⟨hp, g, d, tk, os⟩ a t c u
          refine wpAny_bind (he prog w _ _ ?_)
          cases e with
          | true =>
            rw [if_pos (hiff.mp rfl)] at hR
            wp_walk
            exact ⟨rfl, rfl, _, _, _, _, hrest, hvi', hwi', by omega, hR⟩
          | false =>
            rw [if_neg (fun q => absurd (hiff.mpr q) Bool.false_ne_true)] at hR
            have hri := rcLt_int A.in1 ⟨hp, g, d, tk, os⟩ a t c u prog w
            wp_walk using hri
            exact ⟨_, rfl, by simpa using hR⟩
    case fin =>
      rintro ⟨b1, b2⟩ s' ⟨hb', rfl, vs, ws, ns', ms', hz, hvi, hwi, hlen, hR⟩
      simp only at hb'
      subst hb'
      have hv : lexLt ns' ms' = decide (items.size < items2.size) := by
        cases hvi with
        | nil =>
          cases hwi with
          | nil =>
            simp only [List.length_nil] at hlen
            rw [lexLt_nil_nil]
            exact (decide_eq_false (by omega)).symm
          | cons c u hw =>
            simp only [List.length_nil, List.length_cons] at hlen
            rw [lexLt_nil_cons]
            exact (decide_eq_true (by omega)).symm
        | cons a t hv =>
          cases hwi with
          | nil =>
            simp only [List.length_nil, List.length_cons] at hlen
            rw [lexLt_cons_nil]
            exact (decide_eq_false (by omega)).symm
          | cons c u hw =>
            rw [List.zip_cons_cons] at hz
            cases hz
      rw [hv] at hR
      wp_walk
      exact ⟨_, rfl, by simpa [Builtin.Tuple.tupleCompareSizes] using hR⟩
    case h =>
      exact ⟨rfl, rfl, items.toList, items2.toList, ns, ms, rfl, hi, hj, by omega, h⟩
end

section
variable {prog : Program} {w : World} {A : Around} {E : Value → Shared → Prop} {s : Shared}

theorem lt_tupInts {l b : Addr} {items items2 : Array Value} {ns ms : List Int} {Q : Value → Shared → Prop} (hl : IsTup s.heap l items) (hb : IsTup s.heap b items2) (hi : IntsAre items.toList ns) (hj : IntsAre items2.toList ms)
    (hu : A.units < cLine) (h : Q (.bool (lexLt ns ms)) s) : wpAny (model prog w) A (compareOp .Lt (.ref l) (.ref b)) Q E s := by
  obtain ⟨⟨cls, dd, data, sl⟩, ho, hc, n, hd⟩ := id hl
  obtain ⟨⟨cls2, dd2, data2, sl2⟩, ho2, hc2, n2, hd2⟩ := id hb
  simp only at hc hd hc2 hd2
  subst hc hd hc2 hd2
  exact richCompare_meets_room (op := .Lt) ⟨_, ho, rfl⟩ ⟨_, ho2, rfl⟩ PySem.F.slot_tuple_lt PySem.F.entry_tuple_lt (PySem.F.args_tuple_lt_2 _ _) (tuple_lt_ints l b items items2 n n2 dd dd2 sl sl2 ns ms hi hj)
    ⟨ho, ho2, show Value.bool (lexLt ns ms) ≠ Value.notImplemented ∧ Q (.bool (lexLt ns ms)) s from ⟨(fun x => nomatch x), h⟩⟩ hu

/-- t + u, t not empty -/
theorem cat_tup {t b : Addr} {vs ws : List Value} {Q : Value → Shared → Prop} (ht : IsTup s.heap t vs.toArray) (hb : IsTup s.heap b ws.toArray) (hv : vs ≠ [])
    (h1 : ws = [] → Q (.ref t) s) (h2 : ws ≠ [] → Q (.ref s.heap.objs.size) { s with heap := s.heap.push { cls := .type "tuple", data := .seq (vs ++ ws).toArray } })
    (hsz : vs.length + ws.length ≤ sizeLine) : wpAny (model prog w) A (binaryOp .Add (.ref t) (.ref b)) Q E s := by
  obtain ⟨⟨cls, dd, data, sl⟩, ho, hc, n, hd⟩ := id ht
  obtain ⟨⟨cls2, dd2, data2, sl2⟩, ho2, hc2, n2, hd2⟩ := id hb
  simp only at hc hd hc2 hd2
  subst hc hd hc2 hd2
  have e : vs.toArray ++ ws.toArray = (vs ++ ws).toArray := by simp
  by_cases hw : ws = []
  · exact concat_meets ⟨_, ho, rfl⟩ ⟨_, ho2, rfl⟩ noFill_tuple_add seq_tuple_add PySem.F.slot_tuple_add PySem.F.entry_tuple_add (PySem.F.args_tuple_add_2 _ _)
      (tuple_addW1 t b vs.toArray ws.toArray n n2 dd dd2 sl sl2 (by simpa using hv) (by simp [hw])) ⟨ho, ho2, h1 hw⟩
  · refine concat_meets ⟨_, ho, rfl⟩ ⟨_, ho2, rfl⟩ noFill_tuple_add seq_tuple_add PySem.F.slot_tuple_add PySem.F.entry_tuple_add (PySem.F.args_tuple_add_2 _ _)
      (tuple_addW2 t b vs.toArray ws.toArray n n2 dd dd2 sl sl2 (by simpa using hv) (by simpa using hw) (by rw [List.size_toArray, List.size_toArray]; exact hsz)) ⟨ho, ho2, ?_⟩
    rw [e]
    exact h2 hw

/-! ### t[a:b], not the whole -/
/-- a slice's bound as a place among n (d where it is left out) -/
def sIx (n d : Nat) : Option Int → Nat
  | none => d
  | some v => if v < 0 then (v + (n : Int)).toNat else min v.toNat n
theorem sIx_none (n d : Nat) : sIx n d none = d := rfl
theorem sIx_nat (n d k : Nat) : sIx n d (some (k : Int)) = min k n := by
  show (if (k : Int) < 0 then ((k : Int) + (n : Int)).toNat else min (k : Int).toNat n) = min k n
  rw [if_neg (by omega), Int.toNat_natCast]
theorem sIx_le (n d : Nat) (hd : d ≤ n) (o : Option Int) : sIx n d o ≤ n := by
  cases o with
  | none => exact hd
  | some v =>
    show (if v < 0 then (v + (n : Int)).toNat else min v.toNat n) ≤ n
    by_cases hv : v < 0
    · rw [if_pos hv]; omega
    · rw [if_neg hv]; exact Nat.min_le_right _ _
theorem clip_eq (v : Int) (n d : Nat) : (if v < 0 then max (v + (n : Int)) 0 else min v (n : Int)) = ((sIx n d (some v) : Nat) : Int) := by
  show (if v < 0 then max (v + (n : Int)) 0 else min v (n : Int)) = (((if v < 0 then (v + (n : Int)).toNat else min v.toNat n) : Nat) : Int)
  by_cases hv : v < 0
  · simp only [if_pos hv]; omega
  · simp only [if_neg hv]; omega
theorem adjust_gen (lo hi : Option Int) (n : Nat) : Builtin.Slice.sliceAdjust lo hi 1 (n : Int) = (((sIx n 0 lo : Nat) : Int), ((sIx n n hi : Nat) : Int)) := by
  have h1 : ¬ ((1 : Int) < 0) := by omega
  unfold Builtin.Slice.sliceAdjust
  simp only [h1, if_false]
  refine Prod.ext ?_ ?_
  · cases lo with
    | none => rfl
    | some v => exact clip_eq v n 0
  · cases hi with
    | none => rfl
    | some v => exact clip_eq v n n
theorem places_gen (i j : Nat) : Builtin.Slice.slicePlaces (i : Int) (j : Int) 1 = j - i := by
  unfold Builtin.Slice.slicePlaces
  have h1 : (1 : Int) > 0 := by omega
  simp only [h1, if_true, Int.ediv_one]
  split <;> omega
theorem slicePart_ {v : Value} {o : Option Int} {Q : Option Int → Shared → Prop} (p : IsPart v o) (h : Q o s) : wpAny (model prog w) A (Builtin.Slice.slicePartIndex v) Q E s := by
  cases p with
  | none => exact slicePart_none h
  | int i t => exact slicePart_int h
theorem sliceApplied_gen {sl : Addr} {vl vu : Value} {lo hi : Option Int} {n : Nat} {Q : Int × Int × Nat → Shared → Prop} (hs : s.heap.IsSliceOf sl vl vu .none) (pl : IsPart vl lo) (pu : IsPart vu hi)
    (h : Q (((sIx n 0 lo : Nat) : Int), 1, sIx n n hi - sIx n 0 lo) s) : wpAny (model prog w) A (Builtin.Slice.sliceApplied (.ref sl) (pure (n : Int))) Q E s := by
  obtain ⟨os, hos, hcs, hds⟩ := id hs
  unfold Builtin.Slice.sliceApplied Builtin.Slice.sliceFields
  refine wpAny_bind (wpAny_bind (wpAny_field hos hds (x := vl) rfl (wpAny_bind (wpAny_field hos hds (x := vu) rfl (wpAny_bind (wpAny_field hos hds (x := .none) rfl (wpAny_pure ?_)))))))
  refine wpAny_bind (slicePart_none ?_)
  show wpAny _ _ (if ((1 : Int) == 0) = true then _ else _) _ _ s
  rw [if_neg (by decide)]
  refine wpAny_bind (slicePart_ pl (wpAny_bind (slicePart_ pu (wpAny_bind (wpAny_pure ?_)))))
  show wpAny _ _ (match Builtin.Slice.sliceAdjust lo hi 1 (n : Int) with | (lo, hi) => pure (lo, (1 : Int), Builtin.Slice.slicePlaces lo hi 1)) _ _ s
  rw [adjust_gen lo hi n]
  show wpAny _ _ (pure (((sIx n 0 lo : Nat) : Int), (1 : Int), Builtin.Slice.slicePlaces ((sIx n 0 lo : Nat) : Int) ((sIx n n hi : Nat) : Int) 1)) _ _ s
  rw [places_gen]
  exact wpAny_pure h
theorem pick_gen (xs : Array Value) (i k : Nat) : ((List.range k).filterMap fun (m : Nat) => xs[((i : Int) + (m : Int) * 1).toNat]?).toArray = ((xs.toList.drop i).take k).toArray := by
  have e : (fun (m : Nat) => xs[((i : Int) + (m : Int) * 1).toNat]?) = fun m => xs[i + m]? := by
    funext m
    have : ((i : Int) + (m : Int) * 1).toNat = i + m := by omega
    rw [this]
  rw [e]
  have := pick_run xs i k
  rw [List.filterMap_map] at this
  have e2 : ((fun x => xs[x]?) ∘ fun x => i + x) = fun m => xs[i + m]? := rfl
  rw [e2] at this
  rw [this]

theorem getItem_tuple_cut {t sl : Addr} {items : Array Value} {vl vu : Value} {lo hi : Option Int} {Q : Value → Shared → Prop} (ht : IsTup s.heap t items) (hs : s.heap.IsSliceOf sl vl vu .none) (pl : IsPart vl lo) (pu : IsPart vu hi)
    (hw : ¬ (sIx items.size 0 lo = 0 ∧ sIx items.size items.size hi = items.size))
    (h : Q (.ref s.heap.objs.size) { s with heap := s.heap.push { cls := .type "tuple", data := .seq ((items.toList.drop (sIx items.size 0 lo)).take (sIx items.size items.size hi - sIx items.size 0 lo)).toArray } })
    (hsz : items.size ≤ sizeLine) : wpAny (model prog w) A (getItem (.ref t) (.ref sl)) Q E s := by
  have htake : sizeOk (.seq ((items.toList.drop (sIx items.size 0 lo)).take (sIx items.size items.size hi - sIx items.size 0 lo)).toArray) := by
    show ((items.toList.drop (sIx items.size 0 lo)).take (sIx items.size items.size hi - sIx items.size 0 lo)).toArray.size ≤ sizeLine
    rw [List.size_toArray, List.length_take, List.length_drop, Array.length_toList]
    omega
  have hj : sIx items.size items.size hi ≤ items.size := sIx_le _ _ (Nat.le_refl _) hi
  obtain ⟨os, hos, hcs, hds⟩ := id hs
  have hTs : s.TypeIs (.ref sl) "slice" := ⟨os, hos, hcs⟩
  unfold getItem
  try with_reducible refine wpAny_holding ?_
  first | refine wpAny_bind (wpAny_pure ?_) | skip
  refine wpAny_bind (wpAny_sequenceKey ht.typeIs (by decide) ?_)
  refine wpAny_bind (wpAny_callSpecial?_slot (name := Str.ofString "__getitem__") ht.typeIs PyProof.Rows.slot_tuple_getitem
    (wpAny_call_entry PyProof.Rows.slot_tuple_getitem ht.typeIs entry_tuple_getitem ?_ (args_tuple_getitem _ _)))
  show wpAny _ _ (Builtin.Tuple.tupleItemsOf (.ref t) >>= _) _ _ s
  refine wpAny_bind (tupleItemsOf_ ht ?_)
  refine wpAny_bind (wpAny_typeOf hTs ?_)
  rw [if_pos (by decide)]
  refine wpAny_bind (sliceApplied_gen hs pl pu ?_)
  have hno : ¬ ((((sIx items.size 0 lo : Nat) : Int) == 0 && (1 : Int) == 1 && (sIx items.size items.size hi - sIx items.size 0 lo) == items.size) = true) := by
    intro q
    rw [Bool.and_eq_true, Bool.and_eq_true] at q
    have q1 : ((sIx items.size 0 lo : Nat) : Int) = 0 := eq_of_beq q.1.1
    have q2 : sIx items.size items.size hi - sIx items.size 0 lo = items.size := eq_of_beq q.2
    exact hw ⟨by omega, by omega⟩
  show wpAny _ _ (if (((sIx items.size 0 lo : Nat) : Int) == 0 && (1 : Int) == 1 && (sIx items.size items.size hi - sIx items.size 0 lo) == items.size) = true then _ else _) _ _ s
  rw [if_neg hno, pick_gen]
  first
    | exact wpAny_bind (m := Builtin.Tuple.tupleExact _) (wpAny_newObj_type (wpAny_pure ⟨_, rfl, wpAny_pure h⟩) htake)
    | exact wpAny_bind (m := Builtin.Tuple.tupleExact _) (wpAny_newObj_type (wpAny_bind (wpAny_pure (wpAny_pure ⟨_, rfl, wpAny_pure h⟩))) htake)
    | exact wpAny_bind (wpAny_bind (m := Builtin.Tuple.tupleExact _) (wpAny_newObj_type (wpAny_pure (wpAny_pure ⟨_, rfl, wpAny_pure h⟩)) htake))
    | exact wpAny_bind (wpAny_bind (m := Builtin.Tuple.tupleExact _) (wpAny_newObj_type (wpAny_pure ⟨_, rfl, wpAny_pure h⟩) htake))
end
end HT

namespace L2
open PySem PySem.Spec PyProof.Rows

/-! ### the parts of a slice -/
abbrev TO := St → Hp → (Option Int → Hp → Prop) → Prop
/-- a slice's part (left out, or an int) -/
def PO (X : Cx) (e : Option Expr) (t : TO) : Prop :=
  ∀ (pins : List (Addr × Obj)) (s : Shared) (σ : St) (H : Hp) (Q : Option Int → Hp → Prop), Inv X pins σ H s → t σ H Q →
    wpAny (model X.prog X.w) X.A (evalPart e X.env) (fun u s' => ∃ o H', Inv X pins σ H' s' ∧ IsPart u o ∧ Q o H') X.xe s
def tNoPart : TO := fun _ H Q => Q none H
def tPart (t : TE) : TO := fun σ H Q => t σ H fun x H1 => ∃ i, x = .int i ∧ Q (some i) H1

theorem intsAre_of {ns : List Int} : ∀ {us : List Value}, Vals (ns.map V.int) us → IntsAre us ns := by
  induction ns with
  | nil => intro us r; rw [List.map_nil] at r; cases r; exact .nil
  | cons n ns ih =>
    intro us r
    rw [List.map_cons] at r
    cases r with
    | cons r1 r2 =>
      obtain ⟨t, e⟩ := r1
      subst e
      exact .cons n t (ih r2)

section
variable {X : Cx} {e : Expr} {te : TE} {lo hi : Option Expr} {tl th : TO} {pos p2 : Pos}

theorem po_none : PO X none tNoPart := by
  intro pins s σ H Q I h
  rw [evalPart_none]
  exact wpAny_pure ⟨none, H, I, .none, h⟩
theorem po_some (h : PE X e te) : PO X (some e) (tPart te) := by
  intro pins s σ H Q I hw
  rw [evalPart_some]
  refine thn (h pins s σ H _ I hw) fun u s1 ⟨x, H1, I1, r1, q1⟩ => ?_
  obtain ⟨i, rfl, q⟩ := q1
  obtain ⟨t, rfl⟩ := r1
  exact ⟨some i, H1, I1, .int i t, q⟩

/-- what a slice of a value is, by values: the slice object stands at sl -/
def SlR (X : Cx) (r : V → Option Int → Option Int → Hp → VK → Prop) : Prop :=
  ∀ (pins : List (Addr × Obj)) (s : Shared) (σ : St) (H : Hp) (x : V) (v vl vu : Value) (lo hi : Option Int) (sl : Addr) (Q : VK), Inv X pins σ H s → RelV x v → s.heap.IsSliceOf sl vl vu .none → IsPart vl lo → IsPart vu hi → r x lo hi H Q →
    ∃ T id, typeLookup (.type T) "__getitem__" = pure (some (.builtin id)) ∧ s.TypeIs v T ∧ wpAny (model X.prog X.w) X.A (getItem v (.ref sl)) (EP X pins σ Q) X.xe s
theorem SlR.or {r r' : V → Option Int → Option Int → Hp → VK → Prop} (h : SlR X r) (h' : SlR X r') : SlR X (fun x lo hi H Q => r x lo hi H Q ∨ r' x lo hi H Q) := by
  intro pins s σ H x v vl vu lo hi sl Q I rx hs pl pu q
  rcases q with q | q
  · exact h pins s σ H x v vl vu lo hi sl Q I rx hs pl pu q
  · exact h' pins s σ H x v vl vu lo hi sl Q I rx hs pl pu q
def tSl (r : V → Option Int → Option Int → Hp → VK → Prop) (te : TE) (tl th : TO) : TE := fun σ H Q => te σ H fun x H1 => tl σ H1 fun l H2 => th σ H2 fun u H3 => r x l u H3 Q
/-- a[lo:hi], any a -/
theorem pe_slice {r : V → Option Int → Option Int → Hp → VK → Prop} (hr : SlR X r) (he : PE X e te) (hl : PO X lo tl) (hu : PO X hi th) : PE X (.Subscript e (.Slice lo hi none p2) pos) (tSl r te tl th) := by
  intro pins s σ H Q I h
  refine Subscript_ (thn (he pins s σ H _ I h) fun v s1 ⟨x, H1, I1, r1, q1⟩ => ?_)
  refine wpAny_Slice (thn (hl pins s1 σ H1 _ I1 q1) fun vl s2 ⟨l, H2, I2, pl, q2⟩ => thn (hu pins s2 σ H2 _ I2 q2) fun vu s3 ⟨u, H3, I3, pu, q3⟩ => ?_)
  rw [evalPart_none]
  refine wpAny_pure ?_
  have I4 : Inv X pins σ H3 { s3 with heap := s3.heap.push { cls := .type "slice", data := .fields #[vl, vu, .none] } } := I3.kept (t' := s3.toks) fun b ob q => Heap.get?_push_of_some _ q
  obtain ⟨T, id, hT, ht, hg⟩ := hr pins { s3 with heap := s3.heap.push { cls := .type "slice", data := .fields #[vl, vu, .none] } } σ H3 x v vl vu l u s3.heap.objs.size Q I4 r1 (Heap.IsSliceOf.new ..) pl pu q3
  show wpAny (model X.prog X.w) X.A (subscriptTail e (.Slice lo hi none p2) v (.ref s3.heap.objs.size)) (EP X pins σ Q) X.xe { s3 with heap := s3.heap.push { cls := .type "slice", data := .fields #[vl, vu, .none] } }
  exact tail_any (ops := [.ref s3.heap.objs.size, v]) ht hT hg (by with_unfolding_all rfl)

/-- the items of xs[lo:hi] -/
def cutV (xs : List V) (lo hi : Option Int) : List V := (xs.drop (HT.sIx xs.length 0 lo)).take (HT.sIx xs.length xs.length hi - HT.sIx xs.length 0 lo)
theorem cutV_length (xs : List V) (lo hi : Option Int) : (cutV xs lo hi).length ≤ xs.length := by
  unfold cutV
  rw [List.length_take, List.length_drop]
  omega
/-- t[lo:hi], not the whole of it (the whole would be t itself) -/
def rSlT (K : PySem.W.Frag) : V → Option Int → Option Int → Hp → VK → Prop := fun x lo hi H Q => ∃ a xs, x = .ref a ∧ SqT K H a xs ∧
  ¬ (HT.sIx xs.length 0 lo = 0 ∧ HT.sIx xs.length xs.length hi = xs.length) ∧ ∀ p, H p = none → Q (.ref p) (upd H p (.tup (cutV xs lo hi)))
theorem sl_tup : SlR X (rSlT X.K) := by
  intro pins s σ H x v vl vu lo hi sl Q I rx hs pl pu h
  obtain ⟨a, xs, rfl, hx, hw, q⟩ := h
  cases rx
  obtain ⟨its, r, ht, hz⟩ := I.tuple hx
  have hlen : its.toArray.size = xs.length := by rw [List.size_toArray]; exact r.length.symm
  refine ⟨"tuple", _, PyProof.Rows.slot_tuple_getitem.lookup, ht.typeIs, ?_⟩
  refine HT.getItem_tuple_cut ht hs pl pu (by rw [hlen]; exact hw) ?_ (by rw [hlen]; exact hz)
  rw [hlen]
  refine ⟨.ref s.heap.objs.size, _, I.laid (t' := s.toks) (o := .tup (cutV xs lo hi)) (fun b ob q => Heap.get?_push_of_some _ q) (Nat.le_refl _) ?_, rfl, q _ (I.hok.fresh (Nat.le_refl _))⟩
  exact ⟨Nat.le_trans (cutV_length xs lo hi) hz, _, (r.drop (HT.sIx xs.length 0 lo)).take (HT.sIx xs.length xs.length hi - HT.sIx xs.length 0 lo), IsTup.new _ _⟩

/-! ### t < u, t + u -/
def rLtT (K : PySem.W.Frag) : R2 := fun x y H Q => ∃ a b ns ms, x = .ref a ∧ y = .ref b ∧ SqT K H a (ns.map V.int) ∧ SqT K H b (ms.map V.int) ∧ Q (.bl (HT.lexLt ns ms)) H
theorem op_ltT (hu : X.A.units < cLine) : OpR X (compareOp .Lt) (rLtT X.K) := by
  intro pins s σ H x y v u Q I rx ry h
  obtain ⟨a, b, ns, ms, rfl, rfl, ha, hb, q⟩ := h
  cases rx
  cases ry
  obtain ⟨its, r1, p1, _⟩ := I.tuple ha
  obtain ⟨its2, r2, p2, _⟩ := I.tuple hb
  have i1 : IntsAre its.toArray.toList ns := intsAre_of r1
  have i2 : IntsAre its2.toArray.toList ms := intsAre_of r2
  exact HT.lt_tupInts p1 p2 i1 i2 hu ⟨.bl (HT.lexLt ns ms), H, I, rfl, q⟩
/-- t + u, t not empty: u empty gives t itself -/
def rCatT (K : PySem.W.Frag) : R2 := fun x y H Q => ∃ a b xs ys, x = .ref a ∧ y = .ref b ∧ SqT K H a xs ∧ SqT K H b ys ∧ xs ≠ [] ∧ xs.length + ys.length ≤ sizeLine ∧
  (ys = [] → Q (.ref a) H) ∧ (ys ≠ [] → ∀ p, H p = none → Q (.ref p) (upd H p (.tup (xs ++ ys))))
theorem Vals.nil_iff {xs : List V} {us : List Value} (r : Vals xs us) : us = [] ↔ xs = [] := by
  cases r with
  | nil => simp
  | cons _ _ => simp
theorem op_catT : OpR X (binaryOp .Add) (rCatT X.K) := by
  intro pins s σ H x y v u Q I rx ry h
  obtain ⟨a, b, xs, ys, rfl, rfl, ha, hb, hx, hz, q1, q2⟩ := h
  cases rx
  cases ry
  obtain ⟨its, r1, p1, _⟩ := I.tuple ha
  obtain ⟨its2, r2, p2, _⟩ := I.tuple hb
  refine HT.cat_tup p1 p2 (fun z => hx (r1.nil_iff.mp z)) (fun z => ⟨.ref a, H, I, rfl, q1 (r2.nil_iff.mp z)⟩) (fun z => ?_) (by rw [← r1.length, ← r2.length]; exact hz)
  refine ⟨.ref s.heap.objs.size, _, I.laid (t' := s.toks) (o := .tup (xs ++ ys)) (fun b ob q => Heap.get?_push_of_some _ q) (Nat.le_refl _) ?_, rfl, q2 (fun w => z (r2.nil_iff.mpr w)) _ (I.hok.fresh (Nat.le_refl _))⟩
  exact ⟨by rw [List.length_append]; exact hz, _, r1.append r2, IsTup.new _ _⟩
/-- tuple(t) -/
theorem call_tupleT : CallR X (.type "tuple") (fun xs H Q => ∃ a ys, xs = [.ref a] ∧ SqT X.K H a ys ∧ Q (.ref a) H) := by
  intro pins s σ H xs us Q I r h
  obtain ⟨a, ys, rfl, ha, q⟩ := h
  obtain ⟨u, rfl, ru⟩ := vals1 r
  cases ru
  obtain ⟨its, _, p1, _⟩ := I.tuple ha
  exact call_tuple_same (items := its.toArray) p1 ⟨.ref a, H, I, rfl, q⟩
end
end L2

namespace L2
open PySem PySem.Spec PyProof.Rows

/-! ### places -/
/-- the place that an index of any sign means -/
def ixN (n : Nat) (i : Int) : Option Nat := if 0 ≤ i then (if i < n then some i.toNat else none) else if -(n : Int) ≤ i then some (i + n).toNat else none
def atI {α : Type} (xs : List α) (i : Int) : Option α := (ixN xs.length i).bind fun j => xs[j]?
theorem ixN_seq {n : Nat} {i : Int} {j : Nat} (h : ixN n i = some j) : seqIndex? i n = some j ∧ j < n ∧ -(n : Int) ≤ i ∧ i < n := by
  unfold ixN at h
  by_cases h0 : 0 ≤ i
  · rw [if_pos h0] at h
    by_cases h1 : i < n
    · rw [if_pos h1] at h
      have e : i.toNat = j := Option.some.inj h
      exact ⟨by rw [seqIndex_of h0 h1, e], by omega, by omega, h1⟩
    · rw [if_neg h1] at h; cases h
  · rw [if_neg h0] at h
    by_cases h1 : -(n : Int) ≤ i
    · rw [if_pos h1] at h
      have e : (i + n).toNat = j := Option.some.inj h
      exact ⟨by rw [seqIndex_neg (by omega) h1, e], by omega, h1, by omega⟩
    · rw [if_neg h1] at h; cases h
theorem atI_get {α : Type} {xs : List α} {i : Int} {v : α} (h : atI xs i = some v) : ∃ j, seqIndex? i xs.length = some j ∧ xs[j]? = some v ∧ j < xs.length ∧ -(xs.length : Int) ≤ i ∧ i < xs.length := by
  unfold atI at h
  cases e : ixN xs.length i with
  | none => rw [e] at h; cases h
  | some j =>
    rw [e] at h
    obtain ⟨h1, h2, h3, h4⟩ := ixN_seq e
    exact ⟨j, h1, h, h2, h3, h4⟩
theorem atI_nat {α : Type} {xs : List α} {j : Nat} {v : α} (h : xs[j]? = some v) : atI xs (j : Int) = some v := by
  have hj : j < xs.length := (List.getElem?_eq_some_iff.mp h).1
  have e : ixN xs.length (j : Int) = some j := by
    unfold ixN
    rw [if_pos (by omega), if_pos (by omega)]; simp
  unfold atI; rw [e]; exact h
theorem atI_last {α : Type} (xs : List α) (v : α) : atI (xs ++ [v]) (-1) = some v := by
  have hl : (xs ++ [v]).length = xs.length + 1 := by simp
  have e : ixN (xs ++ [v]).length (-1) = some xs.length := by
    unfold ixN
    rw [hl, if_neg (by decide), if_pos (by omega)]
    congr 1
    omega
  unfold atI
  rw [e]
  show (xs ++ [v])[xs.length]? = some v
  simp

/-! ### what may be subscripted -/
/-- what stands as an index of a plain subscript -/
def PlainIx (b : Expr) : Prop := ∀ o i, subscripted b false o i = operate [o, i] (getItem o i)
/-- a subscript by values -/
def IxR (X : Cx) (r : R2) : Prop :=
  ∀ (value slice : Expr) (pins : List (Addr × Obj)) (s : Shared) (σ : St) (H : Hp) (x y : V) (v u : Value) (Q : VK), Inv X pins σ H s → RelV x v → RelV y u → r x y H Q →
    subscripted slice false v u = operate [v, u] (getItem v u) → wpAny (model X.prog X.w) X.A (subscriptTail value slice v u) (EP X pins σ Q) X.xe s
/-- a call of a builtin's method by values: the receiver, the arguments -/
def MtR (X : Cx) (id : String) (r : V → List V → Hp → VK → Prop) : Prop :=
  ∀ (pins : List (Addr × Obj)) (s : Shared) (σ : St) (H : Hp) (x : V) (xs : List V) (v : Value) (us : List Value) (Q : VK), Inv X pins σ H s → RelV x v → Vals xs us → r x xs H Q →
    wpAny (model X.prog X.w) X.A (call (.builtin id) (v :: us)) (EP X pins σ Q) X.xe s
section
variable {X : Cx} {a b : Expr} {ta tb : TE} {pos : Pos}
theorem IxR.or {r r' : R2} (h : IxR X r) (h' : IxR X r') : IxR X (fun x y H Q => r x y H Q ∨ r' x y H Q) := by
  intro value slice pins s σ H x y v u Q I rx ry q hs
  rcases q with q | q
  · exact h value slice pins s σ H x y v u Q I rx ry q hs
  · exact h' value slice pins s σ H x y v u Q I rx ry q hs
theorem MtR.or {id : String} {r r' : V → List V → Hp → VK → Prop} (h : MtR X id r) (h' : MtR X id r') : MtR X id (fun x xs H Q => r x xs H Q ∨ r' x xs H Q) := by
  intro pins s σ H x xs v us Q I rx rs q
  rcases q with q | q
  · exact h pins s σ H x xs v us Q I rx rs q
  · exact h' pins s σ H x xs v us Q I rx rs q
/-- a[b] -/
theorem pe_ix {r : R2} (hr : IxR X r) (ha : PE X a ta) (hb : PE X b tb) (hs : PlainIx b) : PE X (.Subscript a b pos) (tOp r ta tb) := by
  intro pins s σ H Q I h
  exact Subscript_ (binT ha hb I h fun v u s2 x y H2 I2 rx ry q => hr a b pins s2 σ H2 x y v u Q I2 rx ry q (hs _ _))

def rIxL (K : PySem.W.Frag) : R2 := fun x y H Q => ∃ p xs i v, x = .ref p ∧ y = .int i ∧ SqL K H p xs ∧ atI xs i = some v ∧ Q v H
def rIxT (K : PySem.W.Frag) : R2 := fun x y H Q => ∃ p xs i v, x = .ref p ∧ y = .int i ∧ SqT K H p xs ∧ atI xs i = some v ∧ Q v H
def rIxS : R2 := fun x y H Q => ∃ z i c, x = .str z ∧ y = .int i ∧ z.length ≤ sizeLine ∧ atI z.cps.toList i = some c ∧ Q (.str ⟨#[c]⟩) H
theorem ix_list : IxR X (rIxL X.K) := by
  intro value slice pins s σ H x y v u Q I rx ry h hs
  obtain ⟨p, xs, i, z, rfl, rfl, hq, he, q⟩ := h
  cases rx
  obtain ⟨t, rfl⟩ := ry
  obtain ⟨its, r, pl, hz⟩ := I.list hq
  obtain ⟨j, h1, h2, h3, h4, h5⟩ := atI_get he
  obtain ⟨w, ew, rw'⟩ := r.get h2
  have hl := r.length
  have hn := line63
  have fin : EP X pins σ Q w s := ⟨z, H, I, rw', q⟩
  by_cases h0 : 0 ≤ i
  · have hj : i.toNat = j := by
      rw [seqIndex_of h0 h5] at h1
      exact Option.some.inj h1
    exact item_listR pl.isList h0 (by omega) (by rw [hj]; simpa using ew) fin hs
  · have hj : (i + (its.toArray.size : Int)).toNat = j := by
      rw [seqIndex_neg (by omega) h4] at h1
      rw [List.size_toArray, ← hl]
      exact Option.some.inj h1
    exact subscriptTail_builtinR (x := w) pl.isList.typeIs slot_list_getitem.lookup
      (wpAny_getItem_list_neg (Q := fun r s' => r = w ∧ EP X pins σ Q r s') pl.isList (by omega) (by rw [List.size_toArray] <;> omega) (by omega) (by rw [hj]; simpa using ew) ⟨rfl, fin⟩) hs
theorem ix_tup : IxR X (rIxT X.K) := by
  intro value slice pins s σ H x y v u Q I rx ry h hs
  obtain ⟨p, xs, i, z, rfl, rfl, hq, he, q⟩ := h
  cases rx
  obtain ⟨t, rfl⟩ := ry
  obtain ⟨its, r, pl, hz⟩ := I.tuple hq
  obtain ⟨j, h1, h2, h3, h4, h5⟩ := atI_get he
  obtain ⟨w, ew, rw'⟩ := r.get h2
  have hl := r.length
  have hn := line63
  have fin : EP X pins σ Q w s := ⟨z, H, I, rw', q⟩
  exact subscriptTail_builtinR (x := w) pl.typeIs slot_tuple_getitem.lookup
    (getItem_tuple (j := j) (Q := fun r s' => r = w ∧ EP X pins σ Q r s') pl (by omega) (by omega) (by rw [List.size_toArray, ← hl]; exact h1) (by simpa using ew) ⟨rfl, fin⟩) hs
theorem ix_str : IxR X rIxS := by
  intro value slice pins s σ H x y v u Q I rx ry h hs
  obtain ⟨z, i, c, rfl, rfl, hz, he, q⟩ := h
  obtain ⟨t, rfl⟩ := rx
  obtain ⟨t', rfl⟩ := ry
  obtain ⟨j, h1, h2, h3, h4, h5⟩ := atI_get he
  have hl : z.cps.toList.length = z.length := by simp [Str.length]
  rw [hl] at h1 h4 h5
  have hn := line63
  exact tail_any (typeIs_str s z t) slot_str_getitem.lookup (getItem_str (c := c) (by
    have e1 : decide (i < -(2 ^ 63 : Int)) = false := decide_eq_false (by omega)
    have e2 : decide (i ≥ 2 ^ 63) = false := decide_eq_false (by omega)
    rw [e1, e2, Bool.or_false]) (by rw [h1]; simpa using h2) ⟨.str ⟨#[c]⟩, H, I.tok _, ⟨_, rfl⟩, q⟩) hs
/-- list, tuple or str -/
def rIx (K : PySem.W.Frag) : R2 := fun x y H Q => rIxL K x y H Q ∨ rIxT K x y H Q ∨ rIxS x y H Q
theorem ix_seq : IxR X (rIx X.K) := ix_list.or (ix_tup.or ix_str)

/-! ### xs[i] = v, any sign -/
/-- the list's object behind a store -/
theorem mapSeq_set (its : List Value) (n j : Nat) (u : Value) : Obj.mapSeq (·.setIfInBounds j u) { cls := .type "list", data := .seq its.toArray n } = { cls := .type "list", data := .seq (its.set j u).toArray n } := by
  simp [Obj.mapSeq]
theorem Inv.lst {pins : List (Addr × Obj)} {σ : St} {H : Hp} {s : Shared} {p : Addr} {xs : List V} (I : Inv X pins σ H s) (h : H p = some (.lst xs)) :
    ∃ (its : List Value) (n : Nat), Vals xs its ∧ s.heap.get? p = some { cls := .type "list", data := .seq its.toArray n } ∧ xs.length ≤ sizeLine := by
  obtain ⟨z, its, n, r, e⟩ := I.hok p _ h
  exact ⟨its, n, r, e, z⟩
/-- the list at p is written by an update of its object -/
theorem Inv.lstUpd {pins : List (Addr × Obj)} {σ : St} {H : Hp} {s : Shared} {p : Addr} {xs ys : List V} {its its' : List Value} {n n' : Nat} {f : Obj → Obj} (I : Inv X pins σ H s) (h : H p = some (.lst xs))
    (ho : s.heap.get? p = some { cls := .type "list", data := .seq its.toArray n }) (hf : f { cls := .type "list", data := .seq its.toArray n } = { cls := .type "list", data := .seq its'.toArray n' }) (r : Vals ys its') (hz : ys.length ≤ sizeLine) (t : Nat) :
    Inv X pins σ (upd H p (.lst ys)) { s with heap := s.heap.update p f, toks := t } := by
  have e : (s.heap.update p f).get? p = some { cls := .type "list", data := .seq its'.toArray n' } := by
    rw [Heap.get?_update_self f ho (by rw [hf] <;> rfl), hf]
  refine I.write (x := p) (e := p) (by rw [h]; trivial) (.inl rfl) (fun b u hb q => (Heap.get?_update_other _ _ (Ne.symm hb)).trans q) ⟨_, e⟩ ?_
  exact ⟨hz, its', n', r, e⟩
def rSetL : V → V → V → Hp → (Hp → Prop) → Prop := fun o i v H Q => ∃ p xs k j, o = .ref p ∧ i = .int k ∧ H p = some (.lst xs) ∧ ixN xs.length k = some j ∧ Q (upd H p (.lst (xs.set j v)))
theorem set_list : PSet X rSetL := by
  intro pins s σ H o i v ov iv u Q I ro ri rv h
  obtain ⟨p, xs, k, j, rfl, rfl, hp, hj, q⟩ := h
  cases ro
  obtain ⟨t, rfl⟩ := ri
  obtain ⟨its, n, r, ho, hz⟩ := I.lst hp
  obtain ⟨h1, h2, h3, h4⟩ := ixN_seq hj
  have hl := r.length
  have hn := line63
  have I' : Inv X pins σ (upd H p (.lst (xs.set j v))) { s with heap := s.heap.update p (Obj.mapSeq (·.setIfInBounds j u)) } :=
    I.lstUpd hp ho (mapSeq_set its n j u) (r.set rv j) (by rw [List.length_set]; exact hz) s.toks
  by_cases h0 : 0 ≤ k
  · have hk : k.toNat = j := by
      rw [seqIndex_of h0 h4] at h1
      exact Option.some.inj h1
    exact PySem.W.ki_setAt ho h0 (by omega) (by rw [List.size_toArray, ← hl]; exact h4) (by rw [hk]; exact ⟨_, I', q⟩)
  · have hk : (k + (its.toArray.size : Int)).toNat = j := by
      rw [seqIndex_neg (by omega) h3] at h1
      rw [List.size_toArray, ← hl]
      exact Option.some.inj h1
    exact PySem.W.ki_setBack ho (by omega) (by rw [List.size_toArray, ← hl]; exact h3) (by omega) (by rw [hk]; exact ⟨_, I', q⟩)

/-! ### slices -/
theorem slice_bounds (lo hi : Option Int) (n : Nat) : (sliceBounds lo hi none n).1 = ((HT.sIx n 0 lo : Nat) : Int) ∧ (sliceBounds lo hi none n).2.1 = ((HT.sIx n n hi : Nat) : Int) ∧ (sliceBounds lo hi none n).2.2 = 1 := by
  refine ⟨?_, ?_, rfl⟩
  · cases lo with
    | none => simp [sliceBounds, HT.sIx]
    | some i =>
      simp only [sliceBounds, HT.sIx, Option.getD_none, show (1 : Int) > 0 by decide, if_true]
      by_cases h : i < 0
      · simp only [h, if_true] <;> omega
      · simp only [h, if_false] <;> omega
  · cases hi with
    | none => simp [sliceBounds, HT.sIx]
    | some i =>
      simp only [sliceBounds, HT.sIx, Option.getD_none, show (1 : Int) > 0 by decide, if_true]
      by_cases h : i < 0
      · simp only [h, if_true] <;> omega
      · simp only [h, if_false] <;> omega
theorem slicePick_cut (its : List Value) (lo hi : Option Int) : slicePick its.toArray lo hi none = ((its.drop (HT.sIx its.length 0 lo)).take (HT.sIx its.length its.length hi - HT.sIx its.length 0 lo)).toArray := by
  obtain ⟨h1, h2, h3⟩ := slice_bounds lo hi its.toArray.size
  unfold slicePick
  rw [h1, h2, h3]
  simp only [sliceRange_one, pick_run, List.size_toArray] <;> rfl
/-- xs[lo:hi] of a list: a new list -/
def rSlL (K : PySem.W.Frag) : V → Option Int → Option Int → Hp → VK → Prop := fun x lo hi H Q => ∃ a xs, x = .ref a ∧ SqL K H a xs ∧ ∀ p, H p = none → Q (.ref p) (upd H p (.lst (cutV xs lo hi)))
theorem sl_list : SlR X (rSlL X.K) := by
  intro pins s σ H x v vl vu lo hi sl Q I rx hs pl pu h
  obtain ⟨a, xs, rfl, hx, q⟩ := h
  cases rx
  obtain ⟨its, r, ht, hz⟩ := I.list hx
  have hlen := r.length
  refine ⟨"list", _, slot_list_getitem.lookup, ht.isList.typeIs, ?_⟩
  refine wpAny_getItem_list_slice ht.isList hs pl pu .none (by simp) ?_ (by rw [List.size_toArray] <;> omega)
  rw [slicePick_cut, ← hlen]
  refine ⟨.ref s.heap.objs.size, _, I.laid (t' := s.toks) (o := .lst (cutV xs lo hi)) (fun b ob q => Heap.get?_push_of_some _ q) (Nat.le_refl _) ?_, rfl, q _ (I.hok.fresh (Nat.le_refl _))⟩
  exact ⟨Nat.le_trans (cutV_length xs lo hi) hz, _, 0, (r.drop (HT.sIx xs.length 0 lo)).take (HT.sIx xs.length xs.length hi - HT.sIx xs.length 0 lo), Heap.get?_push_size _ rfl⟩

/-! ### in, not in: flat items -/
def flatV : V → Bool
  | .non => true
  | .bl _ => true
  | .int _ => true
  | .str _ => true
  | _ => false
/-- == of flat values -/
def eqV : V → V → Bool
  | .non, .non => true
  | .bl a, .bl b => a == b
  | .bl a, .int b => (if a then 1 else 0) == b
  | .int a, .bl b => a == (if b then 1 else 0)
  | .int a, .int b => a == b
  | .str a, .str b => a == b
  | _, _ => false
theorem eqAt_V {A : Around} {s : Shared} {y x : V} {u v : Value} (ry : RelV y u) (rx : RelV x v) (fy : flatV y = true) (fx : flatV x = true) : SeqAt.EqAt A s u v (eqV y x) := by
  cases y with
  | non =>
    cases ry
    cases x with
    | non => cases rx; exact SeqAt.EqAt.same _
    | bl b => cases rx; exact SeqAt.EqAt.none_bool b
    | int b => obtain ⟨t, rfl⟩ := rx; exact SeqAt.EqAt.none_int b t
    | str b => obtain ⟨t, rfl⟩ := rx; exact SeqAt.EqAt.none_str b t
    | _ => exact absurd (show false = true from fx) Bool.false_ne_true
  | bl a =>
    cases ry
    cases x with
    | non => cases rx; exact SeqAt.EqAt.bool_none a
    | bl b => cases rx; exact SeqAt.EqAt.bool_bool a b
    | int b => obtain ⟨t, rfl⟩ := rx; exact SeqAt.EqAt.bool_int a b t
    | str b => obtain ⟨t, rfl⟩ := rx; exact SeqAt.EqAt.bool_str a b t
    | _ => exact absurd (show false = true from fx) Bool.false_ne_true
  | int a =>
    obtain ⟨t', rfl⟩ := ry
    cases x with
    | non => cases rx; exact SeqAt.EqAt.int_none a t'
    | bl b => cases rx; exact SeqAt.EqAt.int_bool a t' b
    | int b => obtain ⟨t, rfl⟩ := rx; exact SeqAt.EqAt.int_int a t' b t
    | str b => obtain ⟨t, rfl⟩ := rx; exact SeqAt.EqAt.int_str a t' b t
    | _ => exact absurd (show false = true from fx) Bool.false_ne_true
  | str a =>
    obtain ⟨t', rfl⟩ := ry
    cases x with
    | non => cases rx; exact SeqAt.EqAt.str_none a t'
    | bl b => cases rx; exact SeqAt.EqAt.str_bool a t' b
    | int b => obtain ⟨t, rfl⟩ := rx; exact SeqAt.EqAt.str_int a t' b t
    | str b => obtain ⟨t, rfl⟩ := rx; exact SeqAt.EqAt.str_str a t' b t
    | _ => exact absurd (show false = true from fx) Bool.false_ne_true
  | _ => exact absurd (show false = true from fy) Bool.false_ne_true
/-- the items' answers, read off the values (a value's own answer does not lean on its token) -/
def eqU (x : V) (u : Value) : Bool := match u with
  | .none => eqV .non x
  | .bool b => eqV (.bl b) x
  | .int i _ => eqV (.int i) x
  | .str z _ => eqV (.str z) x
  | _ => false
theorem eqU_of {x y : V} {u : Value} (r : RelV y u) (f : flatV y = true) : eqU x u = eqV y x := by
  cases y with
  | non => cases r; rfl
  | bl b => cases r; rfl
  | int i => obtain ⟨t, rfl⟩ := r; rfl
  | str z => obtain ⟨t, rfl⟩ := r; rfl
  | _ => exact absurd (show false = true from f) Bool.false_ne_true
theorem any_eqU {x : V} : ∀ {xs : List V} {us : List Value}, Vals xs us → xs.all flatV = true → us.any (eqU x) = xs.any fun y => eqV y x
  | _, _, .nil, _ => rfl
  | y :: xs, u :: us, .cons r t, f => by
    rw [List.all_cons, Bool.and_eq_true] at f
    rw [List.any_cons, List.any_cons, eqU_of r f.1, any_eqU t f.2]
theorem mem_eqAt {A : Around} {s : Shared} {x : V} {v : Value} (rx : RelV x v) (fx : flatV x = true) : ∀ {xs : List V} {us : List Value}, Vals xs us → xs.all flatV = true → ∀ u ∈ us, SeqAt.EqAt A s u v (eqU x u)
  | _, _, .nil, _ => fun u hu => by cases hu
  | y :: xs, u :: us, .cons r t, f => fun u' hu => by
    rw [List.all_cons, Bool.and_eq_true] at f
    rcases List.mem_cons.mp hu with rfl | hu
    · rw [eqU_of r f.1]; exact eqAt_V r rx f.1 fx
    · exact mem_eqAt rx fx t f.2 u' hu
def inV (x : V) (xs : List V) : Bool := xs.any fun y => eqV y x
/-- x in a list or tuple of flat items -/
def rIn (K : PySem.W.Frag) (neg : Bool) : R2 := fun x y H Q => ∃ p xs, y = .ref p ∧ (SqL K H p xs ∨ SqT K H p xs) ∧ flatV x = true ∧ xs.all flatV = true ∧ Q (.bl (if neg then !inV x xs else inV x xs)) H
theorem op_in_seq : OpR X (compareOp .In) (rIn X.K false) := by
  intro pins s σ H x y v u Q I rx ry h
  obtain ⟨p, xs, rfl, hq, fx, fs, q⟩ := h
  cases ry
  rcases hq with hq | hq
  · obtain ⟨its, r, pl, hz⟩ := I.list hq
    refine SeqAt.in_listAt (eqU x) pl.isList (fun w hw => mem_eqAt rx fx r fs w (by simpa using hw)) ⟨.bl _, H, I, rfl, ?_⟩
    rw [show its.toArray.any (eqU x) = its.any (eqU x) by simp, any_eqU r fs]
    exact q
  · obtain ⟨its, r, pl, hz⟩ := I.tuple hq
    refine SeqAt.in_tupleAt (eqU x) pl (fun w hw => mem_eqAt rx fx r fs w (by simpa using hw)) ⟨.bl _, H, I, rfl, ?_⟩
    rw [show its.toArray.any (eqU x) = its.any (eqU x) by simp, any_eqU r fs]
    exact q
theorem op_notIn_seq : OpR X (compareOp .NotIn) (rIn X.K true) := by
  intro pins s σ H x y v u Q I rx ry h
  obtain ⟨p, xs, rfl, hq, fx, fs, q⟩ := h
  cases ry
  rcases hq with hq | hq
  · obtain ⟨its, r, pl, hz⟩ := I.list hq
    refine SeqAt.notIn_listAt (eqU x) pl.isList (fun w hw => mem_eqAt rx fx r fs w (by simpa using hw)) ⟨.bl _, H, I, rfl, ?_⟩
    rw [show its.toArray.any (eqU x) = its.any (eqU x) by simp, any_eqU r fs]
    exact q
  · obtain ⟨its, r, pl, hz⟩ := I.tuple hq
    refine SeqAt.notIn_tupleAt (eqU x) pl (fun w hw => mem_eqAt rx fx r fs w (by simpa using hw)) ⟨.bl _, H, I, rfl, ?_⟩
    rw [show its.toArray.any (eqU x) = its.any (eqU x) by simp, any_eqU r fs]
    exact q
theorem op_notIn_str : OpR X (compareOp .NotIn) (fun x y H Q => ∃ i j, x = .str i ∧ y = .str j ∧ Q (.bl (!(!(Builtin.Str.occurrences j i 0 j.length 1).isEmpty))) H) := by
  intro pins s σ H x y v u Q I rx ry h
  obtain ⟨i, j, rfl, rfl, q⟩ := h
  obtain ⟨t, rfl⟩ := rx
  obtain ⟨t', rfl⟩ := ry
  exact notIn_str ⟨.bl _, H, I, rfl, q⟩

/-! ### len, list(x), tuple(x) of any list or tuple that is read -/
theorem call_len_seq : CallR X (.builtin "len") (fun xs H Q => ∃ p ys, xs = [.ref p] ∧ (SqL X.K H p ys ∨ SqT X.K H p ys) ∧ Q (.int ys.length) H) := by
  intro pins s σ H xs us Q I r h
  obtain ⟨p, ys, rfl, hq, q⟩ := h
  obtain ⟨u, rfl, rx⟩ := vals1 r
  cases rx
  have hn := line63
  rcases hq with hq | hq
  · obtain ⟨its, r', pl, hz⟩ := I.list hq
    have hlen := r'.length
    exact Calls.call_len_list pl.isList (by simp only [List.size_toArray] <;> omega) ⟨.int ys.length, H, I.tok _, ⟨s.toks + 1, by rw [List.size_toArray, hlen]⟩, q⟩
  · obtain ⟨its, r', pl, hz⟩ := I.tuple hq
    have hlen := r'.length
    exact len_tuple pl (by simp only [List.size_toArray] <;> omega) ⟨.int ys.length, H, I.tok _, ⟨s.toks + 1, by rw [List.size_toArray, hlen]⟩, q⟩
theorem call_len_str : CallR X (.builtin "len") (fun xs H Q => ∃ z, xs = [.str z] ∧ z.length ≤ sizeLine ∧ Q (.int z.length) H) := by
  intro pins s σ H xs us Q I r h
  obtain ⟨z, rfl, hz, q⟩ := h
  obtain ⟨u, rfl, t, rfl⟩ := vals1 r
  have hn := line63
  exact len_str (by omega) ⟨.int z.length, H, I.tok _, ⟨_, rfl⟩, q⟩
theorem CallR.or {f : Value} {r r' : List V → Hp → VK → Prop} (h : CallR X f r) (h' : CallR X f r') : CallR X f (fun xs H Q => r xs H Q ∨ r' xs H Q) := by
  intro pins s σ H xs us Q I rs q
  rcases q with q | q
  · exact h pins s σ H xs us Q I rs q
  · exact h' pins s σ H xs us Q I rs q
theorem call_list_of : CallR X (.type "list") (fun xs H Q => ∃ p ys, xs = [.ref p] ∧ (SqL X.K H p ys ∨ SqT X.K H p ys) ∧ ∀ l, H l = none → Q (.ref l) (upd H l (.lst ys))) := by
  intro pins s σ H xs us Q I r h
  obtain ⟨p, ys, rfl, hq, q⟩ := h
  obtain ⟨u, rfl, rx⟩ := vals1 r
  cases rx
  have fin : ∀ (its : List Value), Vals ys its → ys.length ≤ sizeLine → ∀ (h' : Heap) (c' : Nat), (∀ b o', s.heap.get? b = some o' → h'.get? b = some o') →
      h'.get? s.heap.objs.size = some { cls := .type "list", dict := none, data := .seq its.toArray c', slots := #[] } → EP X pins σ Q (.ref s.heap.objs.size) { s with heap := h' } := fun its r' hz h' c' kp e =>
    ⟨.ref s.heap.objs.size, _, I.laid (t' := s.toks) kp (Nat.le_refl _) (show ObjOk X.prog X.w _ h' _ (.lst ys) from ⟨hz, its, c', r', e⟩), rfl, q _ (I.hok.fresh (Nat.le_refl _))⟩
  rcases hq with hq | hq
  · obtain ⟨its, r', pl, hz⟩ := I.list hq
    have hlen := r'.length
    obtain ⟨o, ho, hc, n, hd⟩ := pl.isList
    exact call_list_seq p (.inl rfl) ho hc hd (fun h' c' kp e => fin its r' hz h' c' kp e) (by simp only [List.size_toArray] <;> omega)
  · obtain ⟨its, r', pl, hz⟩ := I.tuple hq
    have hlen := r'.length
    obtain ⟨o, ho, hc, n, hd⟩ := pl
    exact call_list_seq p (.inr rfl) ho hc hd (fun h' c' kp e => fin its r' hz h' c' kp e) (by simp only [List.size_toArray] <;> omega)
theorem call_tuple_of : CallR X (.type "tuple") (fun xs H Q => ∃ p ys, xs = [.ref p] ∧ ((SqL X.K H p ys ∧ ∀ l, H l = none → Q (.ref l) (upd H l (.tup ys))) ∨ (SqT X.K H p ys ∧ Q (.ref p) H))) := by
  intro pins s σ H xs us Q I r h
  obtain ⟨p, ys, rfl, h⟩ := h
  obtain ⟨u, rfl, rx⟩ := vals1 r
  cases rx
  rcases h with ⟨hq, q⟩ | ⟨hq, q⟩
  · obtain ⟨its, r', pl, hz⟩ := I.list hq
    have hlen := r'.length
    refine call_tuple_list pl.isList (fun h' kp => ?_) (by simp only [List.size_toArray] <;> omega)
    have I1 : Inv X pins σ H { s with heap := h' } := I.kept (t' := s.toks) kp
    have I2 : Inv X pins σ (upd H h'.objs.size (.tup ys)) { s with heap := h'.push { cls := .type "tuple", data := .seq its.toArray } } :=
      I1.laid (t' := s.toks) (fun b o e => Heap.get?_push_of_some _ e) (Nat.le_refl _) (show ObjOk X.prog X.w _ _ _ (.tup ys) from ⟨hz, its, r', IsTup.new _ _⟩)
    exact ⟨.ref h'.objs.size, _, I2, rfl, q _ (I1.hok.fresh (Nat.le_refl _))⟩
  · obtain ⟨its, r', pl, hz⟩ := I.tuple hq
    exact call_tuple_same pl ⟨.ref p, H, I, rfl, q⟩

/-! ### the call of a builtin's method: o.m(..) -/
/-- the value is of that builtin type -/
def tyV (K : PySem.W.Frag) (T : String) (x : V) (H : Hp) : Prop := match x with
  | .str _ => T = "str"
  | .int _ => T = "int"
  | .ref p => (T = "list" ∧ ∃ xs, SqL K H p xs) ∨ (T = "tuple" ∧ ∃ o, K.lookup p = some o ∧ o.cls = .type "tuple" ∧ o.dict = none) ∨
      (T = "dict" ∧ ((∃ kvs, H p = some (.dK kvs)) ∨ ∃ kvs, H p = some (.dT kvs))) ∨ (T = "set" ∧ ∃ S n, H p = some (.set S n))
  | _ => False
theorem tyV_is {pins : List (Addr × Obj)} {σ : St} {H : Hp} {s : Shared} {T : String} {x : V} {v : Value} (I : Inv X pins σ H s) (r : RelV x v) (ty : tyV X.K T x H) :
    s.TypeIs v T ∧ ∀ a, v = .ref a → ∃ ob, s.heap.get? a = some ob ∧ ob.dict = none := by
  cases x with
  | str z =>
    obtain ⟨t, rfl⟩ := r
    cases (show T = "str" from ty)
    exact ⟨typeIs_str s z t, fun _ e => nomatch e⟩
  | int i =>
    obtain ⟨t, rfl⟩ := r
    cases (show T = "int" from ty)
    exact ⟨typeIs_int s i t, fun _ e => nomatch e⟩
  | ref p =>
    cases r
    rcases ty with ⟨rfl, xs, hq⟩ | ⟨rfl, o, hk, hc, hd⟩ | ⟨rfl, hk⟩ | ⟨rfl, S, n, hk⟩
    · obtain ⟨its, _, pl, _⟩ := I.list hq
      refine ⟨pl.isList.typeIs, fun a e => ?_⟩
      cases e
      obtain ⟨o, n, e, c, hd, _⟩ := pl
      exact ⟨o, e, hd⟩
    · refine ⟨⟨o, I.kIn p o hk, hc⟩, fun a e => ?_⟩
      cases e
      exact ⟨o, I.kIn _ o hk, hd⟩
    · have z : ∃ o, s.heap.get? p = some o ∧ o.ExactDict := by
        rcases hk with ⟨kvs, hk⟩ | ⟨kvs, hk⟩
        · obtain ⟨_, _, _, _, o, _, _, e, ex, _⟩ := I.hok p _ hk
          exact ⟨o, e, ex⟩
        · obtain ⟨_, _, _, _, o, _, _, e, ex, _⟩ := I.hok p _ hk
          exact ⟨o, e, ex⟩
      obtain ⟨o, e, ex⟩ := z
      refine ⟨⟨o, e, ex.1⟩, fun a e2 => ?_⟩
      cases e2
      exact ⟨o, e, ex.2.1⟩
    · obtain ⟨o, _, _, _, e, ex, _⟩ := I.hok p _ hk
      refine ⟨⟨o, e, ex.1⟩, fun a e2 => ?_⟩
      cases e2
      exact ⟨o, e, ex.2.1⟩
  | _ => exact False.elim ty
def tBM0 (K : PySem.W.Frag) (T : String) (r : V → List V → Hp → VK → Prop) (to : TE) : TE := fun σ H Q => to σ H fun x H1 => tyV K T x H1 ∧ r x [] H1 Q
def tBM (K : PySem.W.Frag) (T : String) (r : V → List V → Hp → VK → Prop) (to : TE) (t : TA) : TE := fun σ H Q => to σ H fun x H1 => tyV K T x H1 ∧ t σ H1 fun xs H2 => r x xs H2 Q
variable {o e : Expr} {es : List Expr} {to : TE} {t : TA} {name : Str} {apos cpos : Pos} {T id : String} {r : V → List V → Hp → VK → Prop}
theorem pe_bm0 (pa : PlainAttrs T) (slot : Slot T name id) (hty : typeOf (.builtin id) = pure (.type "method_descriptor")) (hm : MtR X id r) (ho : PE X o to)
    (hbase : attributeBase o name X.env (eval o X.env) = eval o X.env := by rfl) (hline : (apos.endLine == cpos.line) = true := by rfl) : PE X (.Call (.Attribute o name apos) [] [] cpos) (tBM0 X.K T r to) := by
  intro pins s σ H Q I h
  refine wpAny_Call_method0_late hbase hline (thn (ho pins s σ H _ I h) fun v s1 ⟨x, H1, I1, r1, ty, q1⟩ => ?_)
  obtain ⟨h1, h2⟩ := tyV_is I1 r1 ty
  exact ⟨T, id, pa, slot, hty, h1, h2, Calls.callWith_builtin rfl (PySem.evalArgs_none (hm pins s1 σ H1 x [] v [] Q I1 r1 .nil q1))⟩
theorem pe_bm (pa : PlainAttrs T) (slot : Slot T name id) (hty : typeOf (.builtin id) = pure (.type "method_descriptor")) (hm : MtR X id r) (ho : PE X o to) (ha : PA X (e :: es) t)
    (hbase : attributeBase o name X.env (eval o X.env) = eval o X.env := by rfl)
    (hfew : ((backTo cpos (starEach (e :: es) X.env)).all (fun x => !x.1) && (backToKw cpos (keywordEach [] X.env)).all (fun x => x.1.isSome)
      && decide ((e :: es).length + ([] : List Keyword).length + (if ([] : List Keyword).isEmpty then 0 else 1) < 30)) = true := by rfl)
    (hline : (apos.endLine == cpos.line) = true := by rfl) (hs : starEach (e :: es) X.env = (false, eval e X.env) :: starEach es X.env := by rfl) (hplain : (backTo cpos (starEach es X.env)).any (·.1) = false := by rfl) :
    PE X (.Call (.Attribute o name apos) (e :: es) [] cpos) (tBM X.K T r to t) := by
  intro pins s σ H Q I h
  refine wpAny_Call_method_late hbase hfew hline rfl (thn (ho pins s σ H _ I h) fun v s1 ⟨x, H1, I1, r1, ty, q1⟩ => ?_)
  obtain ⟨h1, h2⟩ := tyV_is I1 r1 ty
  refine ⟨T, id, pa, slot, hty, h1, h2, ?_⟩
  have hA := ha cpos pins s1 σ H1 _ I1 q1
  rw [hs] at hA ⊢
  refine Calls.callWith_builtin (by show (false || (backTo cpos (starEach es X.env)).any (·.1)) = false; rw [hplain] <;> rfl) (Calls.evalArgs_plain ?_)
  exact thn hA fun us s2 ⟨vs, H2, I2, r2, q2⟩ => hm pins s2 σ H2 x vs v us Q I2 r1 r2 q2
/- xs.append(e), list.index on a module's tuple .. are MtR facts of 06m -/
end
end L2

namespace L2
open PySem PySem.Spec PyProof.Rows

def MtM (X : Cx) (id : String) (r : V → List V → Hp → VK → Prop) : Prop :=
  ∀ (pins : List (Addr × Obj)) (s : Shared) (σ : St) (H : Hp) (x : V) (xs : List V) (v : Value) (us : List Value) (Q : VK), Inv X pins σ H s → RelV x v → Vals xs us → r x xs H Q →
    wpAny (model X.prog X.w) X.A (call (.builtin id) (v :: us)) (EP X pins σ Q) X.xe s

/-! ### lists of values -/
theorem Vals.one : ∀ {x : V} {us : List Value}, Vals [x] us → ∃ u, us = [u] ∧ RelV x u
  | _, _, .cons r .nil => ⟨_, rfl, r⟩
theorem Vals.two : ∀ {x y : V} {us : List Value}, Vals [x, y] us → ∃ u v, us = [u, v] ∧ RelV x u ∧ RelV y v
  | _, _, _, .cons r (.cons q .nil) => ⟨_, _, rfl, r, q⟩
theorem Vals.zero : ∀ {us : List Value}, Vals [] us → us = []
  | _, .nil => rfl
theorem Vals.dropLast {xs : List V} {us : List Value} (h : Vals xs us) : Vals xs.dropLast us.dropLast := by
  induction h with
  | nil => exact .nil
  | cons r t ih =>
    cases t with
    | nil => exact .nil
    | cons q t' => exact .cons r ih
theorem Vals.eraseIdx : ∀ {xs : List V} {us : List Value} (i : Nat), Vals xs us → Vals (xs.eraseIdx i) (us.eraseIdx i)
  | _, _, _, .nil => .nil
  | _, _, 0, .cons _ t => t
  | _, _, i + 1, .cons r t => .cons r (Vals.eraseIdx i t)
theorem Vals.reverse {xs : List V} {us : List Value} (h : Vals xs us) : Vals xs.reverse us.reverse := by
  induction h with
  | nil => exact .nil
  | cons r t ih => rw [List.reverse_cons, List.reverse_cons]; exact Vals.append ih (.cons r .nil)
theorem Vals.rep {xs : List V} {us : List Value} (h : Vals xs us) : ∀ k : Nat, Vals (List.replicate k xs).flatten (List.replicate k us).flatten
  | 0 => .nil
  | k + 1 => by
    rw [List.replicate_succ, List.replicate_succ, List.flatten_cons, List.flatten_cons]
    exact Vals.append h (Vals.rep h k)
theorem erase_last {α : Type} (l : List α) : l.eraseIdx (l.length - 1) = l.dropLast := by
  induction l with
  | nil => rfl
  | cons a r ih =>
    cases r with
    | nil => rfl
    | cons b r =>
      have e : (a :: b :: r).length - 1 = ((b :: r).length - 1) + 1 := by
        have h1 : (a :: b :: r).length = r.length + 2 := rfl
        have h2 : (b :: r).length = r.length + 1 := rfl
        omega
      rw [e, List.eraseIdx_cons_succ, ih]
      all_goals rfl
theorem len_erase {α : Type} : ∀ (l : List α) (i : Nat), (l.eraseIdx i).length ≤ l.length
  | [], _ => Nat.le_refl _
  | _ :: _, 0 => Nat.le_succ _
  | _ :: r, i + 1 => Nat.succ_le_succ (len_erase r i)
theorem foldl_rep (its : List Value) : ∀ (k : Nat) (acc : List Value),
    List.foldl (fun x1 x2 => x1 ++ x2) acc.toArray (List.replicate k its.toArray) = (acc ++ (List.replicate k its).flatten).toArray
  | 0, acc => by simp
  | k + 1, acc => by
    have e : acc.toArray ++ its.toArray = (acc ++ its).toArray := by simp
    have e2 : (acc ++ its) ++ (List.replicate k its).flatten = acc ++ (List.replicate (k + 1) its).flatten := by
      rw [List.replicate_succ, List.flatten_cons, List.append_assoc]
    rw [← e2, ← foldl_rep its k (acc ++ its), ← e, List.replicate_succ, List.foldl_cons]

section
variable {X : Cx} {pins : List (Addr × Obj)} {σ : St} {H : Hp} {s : Shared} {l b : Addr} {xs ys zs : List V}

/-! ### the two steps: a tracked list is rewritten, a new list is laid -/
theorem Inv.lset {its its' : List Value} {n : Nat} {f : Array Value → Array Value} {t' : Nat} (I : Inv X pins σ H s) (hH : H l = some (.lst xs))
    (e : s.heap.get? l = some { cls := .type "list", data := .seq its.toArray n }) (hf : f its.toArray = its'.toArray) (hv : Vals ys its') (hz : ys.length ≤ sizeLine) :
    Inv X pins σ (upd H l (.lst ys)) { s with heap := s.heap.update l (Obj.mapSeq f), toks := t' } := by
  have q := PySem.IsL.update e f
  rw [hf] at q
  refine I.write (x := l) (e := l) (by rw [hH]; exact trivial) (.inl rfl) (fun b' u hb hu => (Heap.get?_update_other s.heap (Obj.mapSeq f) (Ne.symm hb)).trans hu) ⟨_, q⟩ ?_
  exact ⟨hz, its', _, hv, q⟩
theorem Inv.lnew {its : List Value} {t' : Nat} (I : Inv X pins σ H s) (hv : Vals ys its) (hz : ys.length ≤ sizeLine) :
    Inv X pins σ (upd H s.heap.objs.size (.lst ys)) { s with heap := s.heap.push { cls := .type "list", data := .seq its.toArray }, toks := t' } :=
  I.laid (fun _ _ q => Heap.get?_push_of_some _ q) (Nat.le_refl _) ⟨hz, its, 0, hv, Heap.get?_push_size _ rfl⟩
theorem Inv.fresh (I : Inv X pins σ H s) : H s.heap.objs.size = none := I.hok.fresh (Nat.le_refl _)
theorem Inv.lstM (I : Inv X pins σ H s) (hH : H l = some (.lst xs)) : xs.length ≤ sizeLine ∧ ∃ (its : List Value) (n : Nat), Vals xs its ∧ xs.length = its.length ∧ s.heap.get? l = some { cls := .type "list", data := .seq its.toArray n } := by
  obtain ⟨z, its, n, r, e⟩ := I.hok l _ hH
  exact ⟨z, its, n, r, r.length, e⟩

theorem notLongL {n : Nat} (h : n ≤ sizeLine) : Builtin.List.listTooLong n = false := by
  unfold Builtin.List.listTooLong
  exact decide_eq_false (by omega)
end

section
variable {X : Cx}

/-! ### methods -/
def rAppend : V → List V → Hp → VK → Prop := fun x vs H Q => ∃ l xs y, x = .ref l ∧ vs = [y] ∧ H l = some (.lst xs) ∧ xs.length < sizeLine ∧ Q .non (upd H l (.lst (xs ++ [y])))
theorem mt_append : MtM X "list.append" rAppend := by
  intro pins s σ H x vs v us Q I rx rv h
  obtain ⟨l, xs, y, rfl, rfl, hH, hz, q⟩ := h
  cases rx
  obtain ⟨u, rfl, ru⟩ := rv.one
  obtain ⟨z, its, n, r, hl, e⟩ := I.lstM hH
  refine call_meets F.slot_list_append ⟨_, e, rfl⟩ F.entry_list_append (F.args_list_append_2 _ _) (PySem.list_append l its.toArray n u (by rw [List.size_toArray]; omega)) ⟨e, ?_⟩
  refine ⟨.non, _, I.lset (its' := its ++ [u]) hH e (by simp) (r.append (.cons ru .nil)) ?_, rfl, q⟩
  rw [List.length_append, List.length_singleton]
  omega

def rExtend : V → List V → Hp → VK → Prop := fun x vs H Q => ∃ l b xs zs, x = .ref l ∧ vs = [.ref b] ∧ H l = some (.lst xs) ∧ H b = some (.lst zs) ∧ xs.length + zs.length ≤ sizeLine ∧ Q .non (upd H l (.lst (xs ++ zs)))
theorem mt_extend : MtM X "list.extend" rExtend := by
  intro pins s σ H x vs v us Q I rx rv h
  obtain ⟨l, b, xs, zs, rfl, rfl, hH, hB, hz, q⟩ := h
  cases rx
  obtain ⟨u, rfl, ru⟩ := rv.one
  cases ru
  obtain ⟨z, its, n, r, hl, e⟩ := I.lstM hH
  obtain ⟨z2, its2, n2, r2, hl2, e2⟩ := I.lstM hB
  have hsz : its.toArray.size + its2.toArray.size ≤ sizeLine := by rw [List.size_toArray, List.size_toArray]; omega
  have hlong : ¬ (!its.toArray.isEmpty && Builtin.List.listTooLong (its.toArray.size + its2.toArray.size)) = true := by
    rw [notLongL hsz, Bool.and_false]
    exact Bool.false_ne_true
  refine call_meets F.slot_list_extend ⟨_, e, rfl⟩ F.entry_list_extend (F.args_list_extend_2 _ _)
    (AutoSeq1.list_extend_list_list_0 l its.toArray n b its2.toArray n2 hlong (by rw [List.size_toArray]; omega) (by omega)) ⟨e, e2, ?_⟩
  refine ⟨.non, _, I.lset (its' := its ++ its2) hH e (by simp) (r.append r2) ?_, rfl, q⟩
  rw [List.length_append]
  omega

def rPop : V → List V → Hp → VK → Prop := fun x vs H Q => ∃ l xs y, x = .ref l ∧ vs = [] ∧ H l = some (.lst xs) ∧ xs[xs.length - 1]? = some y ∧ Q y (upd H l (.lst xs.dropLast))
theorem mt_pop : MtM X "list.pop" rPop := by
  intro pins s σ H x vs v us Q I rx rv h
  obtain ⟨l, xs, y, rfl, rfl, hH, hy, q⟩ := h
  cases rx
  have hus := rv.zero
  subst hus
  obtain ⟨z, its, n, r, hl, e⟩ := I.lstM hH
  obtain ⟨u, hu, ru⟩ := r.get hy
  have hy' : its.toArray[its.toArray.size - 1]? = some u := by
    show its.toArray[its.length - 1]? = some u
    rw [← Array.getElem?_toList, ← hl]
    exact hu
  refine call_meets F.slot_list_pop ⟨_, e, rfl⟩ F.entry_list_pop (F.args_list_pop_1 _) (MeetsSeq.list_pop_last l its.toArray n u hy' (by rw [List.size_toArray]; omega)) ⟨e, ?_⟩
  refine ⟨y, _, I.lset (its' := its.dropLast) hH e ?_ r.dropLast ?_, ru, q⟩
  · show its.toArray.eraseIdxIfInBounds (its.toArray.size - 1) = its.dropLast.toArray
    rw [List.size_toArray, List.eraseIdxIfInBounds_toArray, erase_last]
  · rw [List.length_dropLast]
    omega

def rPopAt : V → List V → Hp → VK → Prop := fun x vs H Q => ∃ l xs i k y, x = .ref l ∧ vs = [.int i] ∧ H l = some (.lst xs) ∧ -(2 ^ 63) ≤ i ∧ i < 2 ^ 63 ∧ seqIndex? i xs.length = some k ∧ xs[k]? = some y ∧ Q y (upd H l (.lst (xs.eraseIdx k)))
theorem mt_popAt : MtM X "list.pop" rPopAt := by
  intro pins s σ H x vs v us Q I rx rv h
  obtain ⟨l, xs, i, k, y, rfl, rfl, hH, h1, h2, hk, hy, q⟩ := h
  cases rx
  obtain ⟨u, rfl, ru⟩ := rv.one
  obtain ⟨t, rfl⟩ := ru
  obtain ⟨z, its, n, r, hl, e⟩ := I.lstM hH
  obtain ⟨w, hw, rw'⟩ := r.get hy
  refine call_meets F.slot_list_pop ⟨_, e, rfl⟩ F.entry_list_pop (F.args_list_pop_2 _ _)
    (MeetsSeq.list_pop_at l its.toArray n i t k w (fitsIndex_both h1 h2) (by rw [List.size_toArray, ← hl]; exact hk) (by rw [← Array.getElem?_toList]; exact hw) (by rw [List.size_toArray]; omega)) ⟨e, ?_⟩
  refine ⟨y, _, I.lset (its' := its.eraseIdx k) hH e ?_ (r.eraseIdx k) ?_, rw', q⟩
  · show its.toArray.eraseIdxIfInBounds k = (its.eraseIdx k).toArray
    rw [List.eraseIdxIfInBounds_toArray]
  · have := len_erase xs k
    omega

def rReverse : V → List V → Hp → VK → Prop := fun x vs H Q => ∃ l xs, x = .ref l ∧ vs = [] ∧ H l = some (.lst xs) ∧ Q .non (upd H l (.lst xs.reverse))
theorem mt_reverse : MtM X "list.reverse" rReverse := by
  intro pins s σ H x vs v us Q I rx rv h
  obtain ⟨l, xs, rfl, rfl, hH, q⟩ := h
  cases rx
  have hus := rv.zero
  subst hus
  obtain ⟨z, its, n, r, hl, e⟩ := I.lstM hH
  refine call_meets F.slot_list_reverse ⟨_, e, rfl⟩ F.entry_list_reverse (F.args_list_reverse_1 _) (AutoSeq1.list_reverse_list_0 l its.toArray n (by rw [List.size_toArray]; omega)) ⟨e, ?_⟩
  refine ⟨.non, _, I.lset (its' := its.reverse) hH e (by simp) r.reverse ?_, rfl, q⟩
  rw [List.length_reverse]
  omega

def rClear : V → List V → Hp → VK → Prop := fun x vs H Q => ∃ l xs, x = .ref l ∧ vs = [] ∧ H l = some (.lst xs) ∧ Q .non (upd H l (.lst []))
theorem mt_clear : MtM X "list.clear" rClear := by
  intro pins s σ H x vs v us Q I rx rv h
  obtain ⟨l, xs, rfl, rfl, hH, q⟩ := h
  cases rx
  have hus := rv.zero
  subst hus
  obtain ⟨z, its, n, r, hl, e⟩ := I.lstM hH
  refine call_meets F.slot_list_clear ⟨_, e, rfl⟩ F.entry_list_clear (F.args_list_clear_1 _) (AutoSeq1.list_clear_list_0 l its.toArray n (by rw [List.size_toArray]; omega)) ⟨e, ?_⟩
  exact ⟨.non, _, I.lset (its' := []) (ys := []) hH e rfl .nil (Nat.zero_le _), rfl, q⟩

/-! ### list + list, list += list, list * int -/
def rCat : R2 := fun x y H Q => ∃ l b xs zs, x = .ref l ∧ y = .ref b ∧ H l = some (.lst xs) ∧ H b = some (.lst zs) ∧ xs.length + zs.length ≤ sizeLine ∧ ∀ p, H p = none → Q (.ref p) (upd H p (.lst (xs ++ zs)))
theorem op_cat : OpR X (binaryOp .Add) rCat := by
  intro pins s σ H x y v u Q I rx ry h
  obtain ⟨l, b, xs, zs, rfl, rfl, hH, hB, hz, q⟩ := h
  cases rx
  cases ry
  obtain ⟨z, its, n, r, hl, e⟩ := I.lstM hH
  obtain ⟨z2, its2, n2, r2, hl2, e2⟩ := I.lstM hB
  refine PySem.P.add_list e e2 ?_ (by rw [List.size_toArray, List.size_toArray]; omega)
  have ea : its.toArray ++ its2.toArray = (its ++ its2).toArray := by simp
  rw [ea]
  exact ⟨.ref _, _, I.lnew (t' := s.toks) (r.append r2) (by rw [List.length_append]; omega), rfl, q _ I.fresh⟩
/-- a list times an int (a negative one is nothing) -/
def rRep : R2 := fun x y H Q => ∃ l k xs, x = .ref l ∧ y = .int k ∧ H l = some (.lst xs) ∧ -(2 ^ 63) ≤ k ∧ k < 2 ^ 63 ∧ xs.length * k.toNat ≤ sizeLine ∧
  ∀ p, H p = none → Q (.ref p) (upd H p (.lst (List.replicate k.toNat xs).flatten))
theorem len_rep {α : Type} (xs : List α) (k : Nat) : (List.replicate k xs).flatten.length = k * xs.length := by
  induction k with
  | zero => simp
  | succ k ih => rw [List.replicate_succ, List.flatten_cons, List.length_append, ih, Nat.succ_mul, Nat.add_comm]
theorem op_rep : OpR X (binaryOp .Mult) rRep := by
  intro pins s σ H x y v u Q I rx ry h
  obtain ⟨l, k, xs, rfl, rfl, hH, h1, h2, hz, q⟩ := h
  cases rx
  obtain ⟨t, rfl⟩ := ry
  obtain ⟨z, its, n, r, hl, e⟩ := I.lstM hH
  have hlen : its.toArray.size * k.toNat ≤ sizeLine := by rw [List.size_toArray, ← hl]; exact hz
  have hcap : ¬ its.toArray.size * k.toNat > (2 ^ 63 - 1) / 8 := by
    have : (sizeLine : Nat) ≤ (2 ^ 63 - 1) / 8 := by decide
    omega
  have hfit : ¬ (!Builtin.List.listFitsIndex k) = true := by
    rw [fitsIndex_both h1 h2]
    exact Bool.false_ne_true
  have hlong : ¬ Builtin.List.listTooLong (its.toArray.size * k.toNat) = true := by
    rw [notLongL hlen]
    exact Bool.false_ne_true
  have hnew : List.foldl (fun x1 x2 => x1 ++ x2) #[] (List.replicate (if its.toArray.isEmpty = true then 0 else k.toNat) its.toArray) = (List.replicate k.toNat its).flatten.toArray := by
    have f0 : ∀ m : Nat, List.foldl (fun x1 x2 => x1 ++ x2) #[] (List.replicate m its.toArray) = (List.replicate m its).flatten.toArray := fun m => by
      have := foldl_rep its m []
      rw [List.nil_append] at this
      exact this
    rw [f0]
    cases its with
    | nil => simp
    | cons a r' => rw [if_neg (by simp)]
  refine wpAny_binaryOp_repeat_ref (T := "list") (U := "int") (by decide) ⟨_, e, rfl⟩ (fun s' => typeIs_int s' k t) noFill_list_mul F.fills_int_mul F.slot_int_rmul repeat_list F.slot_int_index.lookup
    (call_meets F.slot_int_rmul (typeIs_int s k t) F.entry_int_rmul (F.args_int_rmul_2 _ _) (int___rmul___int_list k t l its.toArray n)
      ⟨e, rfl, ⟨_, e, rfl⟩, call_meets F.slot_list_mul ⟨_, e, rfl⟩ F.entry_list_mul (F.args_list_mul_2 _ _) (AutoListH.list___mul___list_int_3 l its.toArray n k t hfit hcap hlong) ⟨e, ?_⟩⟩)
  rw [hnew]
  exact ⟨.ref _, _, I.lnew (t' := s.toks) (r.rep k.toNat) (by rw [len_rep, Nat.mul_comm]; exact hz), rfl, q _ I.fresh⟩

/-! ### del xs[i] -/
theorem del_list {pins : List (Addr × Obj)} {s : Shared} {σ : St} {H : Hp} {l : Addr} {xs : List V} {i : Int} {t : Tok} {k : Nat} {Q : Unit → Shared → Prop} (I : Inv X pins σ H s) (hH : H l = some (.lst xs))
    (h1 : -(2 ^ 63) ≤ i) (h2 : i < 2 ^ 63) (hk : seqIndex? i xs.length = some k) (h : ∀ s', Inv X pins σ (upd H l (.lst (xs.eraseIdx k))) s' → Q () s') :
    wpAny (model X.prog X.w) X.A (delItem (.ref l) (.int i t)) Q X.xe s := by
  obtain ⟨z, its, n, r, hl, e⟩ := I.lstM hH
  refine PySem.P.delItem_list (k := k) e (fitsIndex_both h1 h2) (by rw [List.size_toArray, ← hl]; exact hk) (h _ ?_) (by rw [List.size_toArray]; omega)
  refine I.lset (its' := its.eraseIdx k) (t' := s.toks) hH e ?_ (r.eraseIdx k) ?_
  · show its.toArray.eraseIdxIfInBounds k = (its.eraseIdx k).toArray
    rw [List.eraseIdxIfInBounds_toArray]
  · have := len_erase xs k
    omega
end

/-! ### xs[a:b] = ys -/
section
variable {prog : Program} {w : World} {A : Around} {E : Value → Shared → Prop} {s : Shared}
theorem splice_eq (its its2 : List Value) (a c : Nat) : its.toArray.extract 0 a ++ its2.toArray ++ its.toArray.extract c its.toArray.size = (its.take a ++ its2 ++ its.drop c).toArray := by
  apply Array.toList_inj.mp
  first
    | (simp
       exact List.take_of_length_le (by simp))
    | simp [List.take_of_length_le]
    | simp
theorem bounds_run {a c n : Nat} (hac : a ≤ c) (hc : c ≤ n) : sliceBounds (some (a : Int)) (some (c : Int)) none n = ((a : Int), (c : Int), 1) := by
  simp only [sliceBounds, Option.getD_none]
  have h1 : ¬ ((a : Int) < 0) := by omega
  have h2 : ¬ ((c : Int) < 0) := by omega
  simp only [h1, h2, if_false, show (1 : Int) > 0 by decide, if_true]
  congr 1
  · omega
  · congr 1; omega
set_option maxRecDepth 100000 in
/-- list.__setitem__ with a slice of step one and another list -/
theorem setItem_slice {l b sl : Addr} {items new : Array Value} {n n2 : Nat} {vl vu : Value} {a c : Nat} {Q : Unit → Shared → Prop}
    (e : s.heap.get? l = some { cls := .type "list", data := .seq items n }) (e2 : s.heap.get? b = some { cls := .type "list", data := .seq new n2 }) (hne : l ≠ b)
    (hs : s.heap.IsSliceOf sl vl vu .none) (pl : IsPart vl (some (a : Int))) (pu : IsPart vu (some (c : Int))) (hac : a ≤ c) (hc : c ≤ items.size)
    (hsz : items.size + new.size ≤ sizeLine) (h : Q () { s with heap := s.heap.update l (Obj.mapSeq fun xs => xs.extract 0 a ++ new ++ xs.extract c xs.size) }) :
    wpAny (model prog w) A (setItem (.ref l) (.ref sl) (.ref b)) Q E s := by
  have hl : s.heap.IsList l items := PySem.IsL.isList e
  have hb : s.heap.IsList b new := PySem.IsL.isList e2
  obtain ⟨os, hos, hcs, hds⟩ := id hs
  have hTs : s.TypeIs (.ref sl) "slice" := ⟨os, hos, hcs⟩
  have hstep : ¬ ((rawPart none == rawInt 0) = true) := Bool.false_ne_true
  have hsame : Builtin.List.listSameRef (.ref l) (.ref b) = false := by
    unfold Builtin.List.listSameRef
    exact beq_eq_false_iff_ne.mpr hne
  have hmax : (max (a : Int) (c : Int)).toNat = c := by omega
  have hz' : ((fun xs : Array Value => xs.extract 0 a ++ new ++ xs.extract c xs.size) items).size ≤ sizeLine + 1 := by
    simp only [Array.size_append, Array.size_extract]
    omega
  unfold setItem
  try with_reducible refine wpAny_holding ?_
  first | refine wpAny_bind (wpAny_pure ?_) | skip
  refine wpAny_bind (wpAny_sequenceKey hl.typeIs (by decide) ?_)
  refine wpAny_bind (wpAny_callSpecial?_slot (name := Str.ofString "__setitem__") hl.typeIs slot_list_setitem
    (wpAny_call_entry slot_list_setitem hl.typeIs entry_list_setitem ?_ (args_list_setitem _ _ _)))
  show wpAny _ _ (Builtin.List.listSubscript? (.ref sl) >>= _) _ _ s
  refine wpAny_bind ?_
  unfold Builtin.List.listSubscript?
  refine wpAny_bind (wpAny_specialOf hTs slice_no_index ?_)
  simp only [Option.isNone_none, if_true]
  refine wpAny_pure ?_
  show wpAny _ _ (typeOf (.ref sl) >>= _) _ _ s
  refine wpAny_bind (wpAny_typeOf hTs ?_)
  first
    | rw [if_neg (by decide)]
    | refine PySem.W.KFB.if_not (by decide) ?_
  rw [listSliceParts_eq]
  refine wpAny_bind (wpAny_bind (wpAny_field hos hds (x := .none) rfl (wpAny_bind (wpAny_listPart .none ?_))))
  rw [if_neg hstep]
  refine wpAny_bind (wpAny_field hos hds (x := vl) rfl (wpAny_bind (wpAny_listPart pl ?_)))
  refine wpAny_bind (wpAny_field hos hds (x := vu) rfl (wpAny_bind (wpAny_listPart pu (wpAny_pure ?_))))
  first
    | simp only [hsame, Bool.false_eq_true, if_false]
    | refine PySem.W.KFB.if_not hsame ?_
    | (dsimp only
       rw [if_neg (by rw [hsame]; exact Bool.false_ne_true)])
  refine wpAny_bind (m := Builtin.List.listAllItems (.ref b) "must assign iterable to extended slice") ?_
  unfold Builtin.List.listAllItems
  refine wpAny_bind (wpAny_typeOf hb.typeIs ?_)
  first
    | refine PySem.W.KFB.if_so (by decide) ?_
    | rw [if_pos (by decide)]
    | simp only [beq_self_eq_true, Bool.true_or, if_true]
  unfold Builtin.List.listItems
  refine wpAny_bind (wpAny_seqItems e2 rfl (wpAny_pure ?_))
  refine wpAny_bind (wpAny_bind (wpAny_seqItems e rfl (wpAny_pure ?_)))
  refine wpAny_bind (wpAny_of_eq ((sliceIndices_raw (some (a : Int)) (some (c : Int)) none items.size (by simp)).trans (congrArg (pure : Int × Int × Int → Sem (Int × Int × Int)) (bounds_run hac hc))) ?_)
  show wpAny _ _ (if ((1 : Int) == 1) = true then _ else _) _ _ s
  rw [if_pos (by decide)]
  refine wpAny_bind (wpAny_rule ?_)
  first
    | simp only [notLongL hsz, Bool.false_eq_true, if_false]
    | refine PySem.W.KFB.if_not (notLongL hsz) ?_
  first | refine wpAny_bind (wpAny_pure ?_) | skip
  show wpAny _ _ (updateSeq l (fun xs => xs.extract 0 ((a : Int)).toNat ++ new ++ xs.extract (max (a : Int) (c : Int)).toNat xs.size) >>= _) _ _ s
  rw [hmax, Int.toNat_natCast]
  refine wpAny_bind (wpAny_updateSeq (hz := Nat.le_trans (Nat.le_add_right _ _) hsz) (_hz' := hz') e rfl ?_)
  refine wpAny_bind (wpAny_letGo ?_)
  first
    | exact wpAny_bind (wpAny_pure (wpAny_pure ⟨.none, rfl, wpAny_pure h⟩))
    | exact wpAny_pure ⟨.none, rfl, wpAny_pure h⟩
end

section
variable {X : Cx}
/-- xs[a:c] = ys of another list, at the value level: sl is the slice object that was just made -/
theorem set_slice {pins : List (Addr × Obj)} {s : Shared} {σ : St} {H : Hp} {l b sl : Addr} {xs ys : List V} {a c : Int} {vl vu : Value} {Q : Unit → Shared → Prop} (I : Inv X pins σ H s)
    (hH : H l = some (.lst xs)) (hB : H b = some (.lst ys)) (hne : l ≠ b) (hs : s.heap.IsSliceOf sl vl vu .none) (ra : RelV (.int a) vl) (rc : RelV (.int c) vu) (h0 : 0 ≤ a) (hac : a ≤ c) (hc : c ≤ xs.length)
    (hz : xs.length + ys.length ≤ sizeLine) (h : ∀ s', Inv X pins σ (upd H l (.lst (xs.take a.toNat ++ ys ++ xs.drop c.toNat))) s' → Q () s') :
    wpAny (model X.prog X.w) X.A (setItem (.ref l) (.ref sl) (.ref b)) Q X.xe s := by
  obtain ⟨ta, rfl⟩ := ra
  obtain ⟨tc, rfl⟩ := rc
  obtain ⟨z, its, n, r, hl, e⟩ := I.lstM hH
  obtain ⟨z2, its2, n2, r2, hl2, e2⟩ := I.lstM hB
  obtain ⟨a', rfl⟩ := Int.eq_ofNat_of_zero_le h0
  obtain ⟨c', rfl⟩ := Int.eq_ofNat_of_zero_le (Int.le_trans h0 hac)
  simp only [Int.toNat_natCast] at h
  refine setItem_slice (a := a') (c := c') e e2 hne hs (.int _ _) (.int _ _) (by omega) (by rw [List.size_toArray]; omega) (by rw [List.size_toArray, List.size_toArray]; omega) (h _ ?_)
  refine I.lset (its' := its.take a' ++ its2 ++ its.drop c') (t' := s.toks) hH e ?_ (Vals.append (Vals.append (r.take _) r2) (r.drop _)) ?_
  · exact splice_eq its its2 a' c'
  · rw [List.length_append, List.length_append, List.length_take, List.length_drop]
    omega
end
end L2

namespace Att
open PySem PySem.W PySem.Calls PyProof.Rows

/-! ### the script -/
theorem ints_of_wellAll {P : Params} {h : Heap} : ∀ (ns : List Int) (vs : List Value), WellAll P h vs (ns.map WData.int) → IntsAre vs ns := by
  intro ns
  induction ns with
  | nil =>
    intro vs w
    rw [List.map_nil] at w
    cases w
    exact .nil
  | cons n ns ih =>
    intro vs w
    rw [List.map_cons] at w
    cases w with
    | cons a b =>
      cases a
      exact .cons _ _ (ih _ b)

theorem script_of {l : OpenLaw} {n : Nat} (hn : l.most = some n) {P : Params} {h : Heap} {args : List WData} {vals : List Value}
    (hpre : l.row.toRowW.claim.pre args = true) (hwl : WellAll P h vals args) :
    ∃ a vs ns, vals = [Value.ref a] ∧ args = [WData.list (ns.map WData.int)] ∧ h.get? a = some { cls := .type "list", data := .seq vs.toArray } ∧ IntsAre vs ns ∧ ns.length ≤ n := by
  have hsh : WShape.hasAll [] args [.list .int] = true := (pre_splitW hpre).1
  have hc : l.pre.holds [] { args := args } = true := (pre_splitW hpre).2
  obtain ⟨d, r, rfl, h1, h2⟩ := hasAllW_cons hsh
  obtain rfl := hasAllW_nil h2
  obtain ⟨xs, rfl, h3⟩ := hasW_list h1
  obtain ⟨ns, rfl⟩ := items_int h3
  have hlen : ns.length ≤ n := by
    unfold OpenLaw.pre at hc
    have h4 : (WTm.not (.lt (.lit (.int (n : Int))) (.len (.arg 0)))).holds [] { args := [.list (ns.map .int)] } = true := by
      have h4 := (holds_andW hc).1
      rw [hn] at h4
      exact h4
    have h5 := condW_of h4 (w_not (w_lt w_lit (w_len_list (w_arg rfl))))
    rw [List.length_map] at h5
    refine Nat.le_of_not_lt fun q => ?_
    have q' : (n : Int) < ((ns.length : Nat) : Int) := by omega
    first
      | (rw [decide_eq_true q'] at h5; exact absurd h5 (by decide))
      | (simp at h5; omega)
  cases hwl with
  | cons w1 w2 =>
    cases w2
    cases w1 with
    | list ho hall => exact ⟨_, _, ns, rfl, rfl, ho, ints_of_wellAll ns _ hall, hlen⟩

theorem post_true (l : OpenLaw) (args : List WData) : l.row.toRowW.claim.post args (.bool true) args = true :=
  postW_of (r := l.row.toRowW) (X := (true == true))
    (show WShape.has [] (.bool true) .bool = true by first | rfl | decide | simp [WShape.has, WShape.arms, WShape.armsAll])
    (show (WTm.eq .res (.lit (.bool true))).value [] { args := args, res := some (.bool true), after := args } = some (.bool (true == true)) from w_eq_bool (w_res rfl) w_lit) rfl

/-! ### the attachment: holds_open's last premise (the goal 'hc' behind k_head) from a wpAny of the law's body -/
theorem attach {l : OpenLaw} {n : Nat} {q : Program} {loose : List Str} {XP : (Str → Option Value) → Heap → Prop} {YP : World → Heap → Prop} {d : DefRec} {x : Str}
    (hn : l.most = some n) (hdf : d.params.defaults = [])
    (hbind : ∀ pm cd doc v : Value, bindArgs (docDef d.name d.params d.body d.scope pm cd doc) ⟨[v], []⟩ = pure [(x, v)])
    (hx : d.scope.names.lookup x = some .local ∨ d.scope.names.lookup x = some .cell)
    (hk : d.scope.kind = .function) (hco : d.scope.isCoroutine = false) (hgen : d.scope.isGenerator = false)
    (body : ∀ (w : World) (s₀ s₁ s : Shared) (mg mb : Str → Option Value) (fa : Addr) (o : Obj) (pm cd doc : Value) (a : Addr) (vs : List Value) (ns : List Int),
      Ground q loose [] XP w s₀ mg mb s₁.heap → YP w s₁.heap →
      s₁.heap.get? fa = some o → o.data = .func (docDef d.name d.params d.body d.scope pm cd doc) → s₁.heap.CodeRec cd d.name → mg d.name = some (.ref fa) →
      s₁.heap.get? a = some { cls := .type "list", data := .seq vs.toArray } → IntsAre vs ns → ns.length ≤ n →
      s.gens = #[] → s.os = s₁.os →
      Fr s₁.heap s₁.heap.objs.size s.heap (bindL (envOfC d.name d.scope s₁.heap.objs.size fa cd).kindOf [(x, .ref a)] fun _ => none) →
      Cl s₁.heap.objs.size (cellsFrom (s₁.heap.objs.size + 1) d.scope.names []) s.heap (bindC (envOfC d.name d.scope s₁.heap.objs.size fa cd).kindOf [(x, .ref a)] fun _ => none) →
      wpAny (model l.prog w) (callerA.deeper (envOfC d.name d.scope s₁.heap.objs.size fa cd)) (execs d.body (envOfC d.name d.scope s₁.heap.objs.size fa cd))
        (fun f s' => f = .ret (.bool true) ∧ OldK s₁.heap s'.heap ∧ s'.os = s₁.os ∧ AllBare s'.gens) (fun _ _ => False) s) :
    WalkO q loose XP YP l.row.toRowW d [] (fun f vs => PySem.call f vs) := by
  intro w s₀ s₁ mg mb G Y fa o pm cd doc dV kV ho hd hcd hD hmg hg args vals as hpre hlay hrd hwl hlo
  obtain rfl : dV = .none := Dflts.none hD hdf
  obtain rfl : kV = .none := Dflts.noKw hD
  obtain ⟨a, vs, ns, rfl, rfl, hobj, hints, hlen⟩ := script_of hn hpre hwl
  refine enter_call ?_
  refine call_cells_ret (o := o) (by rw [depth_caller]; decide) ho (fd_plain hd) G.T.nolimit hcd (hbind pm cd doc (.ref a)) (fun y hy => ?_) (fun h₁ tk F X => ?_) hco hgen hk
  · obtain rfl : y = (x, Value.ref a) := List.mem_singleton.mp hy
    rcases hx with e | e
    · exact .inl e
    · exact .inr ⟨e, cellsFrom_some _ _ _ (.inl e)⟩
  · refine wpAny_mono (body w s₀ s₁ { s₁ with heap := h₁, toks := tk } mg mb fa o pm cd doc a vs ns G Y ho (fd_plain hd) hcd hmg hobj hints hlen hg rfl F X) (fun f s' hq => ?_) (fun _ _ hq => hq)
    obtain ⟨rfl, h2, h3, h4⟩ := hq
    exact ⟨.inl ⟨.bool true, .bool true, [], rfl, fun _ => rfl, .bool true, post_true l _, fun _ => ⟨List.Pairwise.nil, fun _ hm => (nomatch hm)⟩⟩, h2, h3, h4⟩

/-- the same from a codeAny of the CALL (for a layer whose function contracts speak of calls) -/
theorem attach_call {l : OpenLaw} {n : Nat} {q : Program} {loose : List Str} {XP : (Str → Option Value) → Heap → Prop} {YP : World → Heap → Prop} {d : DefRec}
    (hn : l.most = some n) (hdf : d.params.defaults = [])
    (call : ∀ (w : World) (s₀ s₁ : Shared) (mg mb : Str → Option Value) (fa : Addr) (o : Obj) (pm cd doc : Value) (a : Addr) (vs : List Value) (ns : List Int),
      Ground q loose [] XP w s₀ mg mb s₁.heap → YP w s₁.heap →
      s₁.heap.get? fa = some o → o.data = .func (docDef d.name d.params d.body d.scope pm cd doc) → s₁.heap.CodeRec cd d.name → mg d.name = some (.ref fa) →
      s₁.heap.get? a = some { cls := .type "list", data := .seq vs.toArray } → IntsAre vs ns → ns.length ≤ n → s₁.gens = #[] →
      codeAny (model l.prog w) callerA (.call (.ref fa) ⟨[.ref a], []⟩) (fun r s' => r = .ok (.ret (.bool true)) ∧ OldK s₁.heap s'.heap ∧ s'.os = s₁.os ∧ AllBare s'.gens) s₁) :
    WalkO q loose XP YP l.row.toRowW d [] (fun f vs => PySem.call f vs) := by
  intro w s₀ s₁ mg mb G Y fa o pm cd doc dV kV ho hd hcd hD hmg hg args vals as hpre hlay hrd hwl hlo
  obtain rfl : dV = .none := Dflts.none hD hdf
  obtain rfl : kV = .none := Dflts.noKw hD
  obtain ⟨a, vs, ns, rfl, rfl, hobj, hints, hlen⟩ := script_of hn hpre hwl
  refine enter_call (codeAny_mono (call w s₀ s₁ mg mb fa o pm cd doc a vs ns G Y ho (fd_plain hd) hcd hmg hobj hints hlen hg) fun r s' hq => ?_)
  obtain ⟨rfl, h2, h3, h4⟩ := hq
  exact ⟨.inl ⟨.bool true, .bool true, [], rfl, fun _ => rfl, .bool true, post_true l _, fun _ => ⟨List.Pairwise.nil, fun _ hm => (nomatch hm)⟩⟩, h2, h3, h4⟩

/-- the same where the top left finished generators (o_head chose holds_openN): nothing may have changed at all and no generator may be left -/
theorem attachN {l : OpenLaw} {n : Nat} {q : Program} {loose : List Str} {XP : (Str → Option Value) → Heap → Prop} {YP : World → Heap → Prop} {d : DefRec} {x : Str}
    (hn : l.most = some n) (hdf : d.params.defaults = [])
    (hbind : ∀ pm cd doc v : Value, bindArgs (docDef d.name d.params d.body d.scope pm cd doc) ⟨[v], []⟩ = pure [(x, v)])
    (hx : d.scope.names.lookup x = some .local ∨ d.scope.names.lookup x = some .cell)
    (hk : d.scope.kind = .function) (hco : d.scope.isCoroutine = false) (hgen : d.scope.isGenerator = false)
    (body : ∀ (w : World) (s₀ s₁ s : Shared) (mg mb : Str → Option Value) (fa : Addr) (o : Obj) (pm cd doc : Value) (a : Addr) (vs : List Value) (ns : List Int),
      Ground q loose [] XP w s₀ mg mb s₁.heap → YP w s₁.heap →
      s₁.heap.get? fa = some o → o.data = .func (docDef d.name d.params d.body d.scope pm cd doc) → s₁.heap.CodeRec cd d.name → mg d.name = some (.ref fa) →
      s₁.heap.get? a = some { cls := .type "list", data := .seq vs.toArray } → IntsAre vs ns → ns.length ≤ n →
      s.gens = #[] → s.os = s₁.os →
      Fr s₁.heap s₁.heap.objs.size s.heap (bindL (envOfC d.name d.scope s₁.heap.objs.size fa cd).kindOf [(x, .ref a)] fun _ => none) →
      Cl s₁.heap.objs.size (cellsFrom (s₁.heap.objs.size + 1) d.scope.names []) s.heap (bindC (envOfC d.name d.scope s₁.heap.objs.size fa cd).kindOf [(x, .ref a)] fun _ => none) →
      wpAny (model l.prog w) (callerA.deeper (envOfC d.name d.scope s₁.heap.objs.size fa cd)) (execs d.body (envOfC d.name d.scope s₁.heap.objs.size fa cd))
        (fun f s' => f = .ret (.bool true) ∧ (∀ b o, s₁.heap.get? b = some o → s'.heap.get? b = some o) ∧ s'.os = s₁.os ∧ s'.gens = #[]) (fun _ _ => False) s) :
    WalkN q loose XP YP l.row.toRowW d [] (fun f vs => PySem.call f vs) := by
  intro w s₀ s₁ mg mb G Y fa o pm cd doc dV kV ho hd hcd hD hmg hg args vals as hpre hlay hrd hwl hlo
  obtain rfl : dV = .none := Dflts.none hD hdf
  obtain rfl : kV = .none := Dflts.noKw hD
  obtain ⟨a, vs, ns, rfl, rfl, hobj, hints, hlen⟩ := script_of hn hpre hwl
  refine enter_callW ?_
  refine call_cells_ret (o := o) (by rw [depth_caller]; decide) ho (fd_plain hd) G.T.nolimit hcd (hbind pm cd doc (.ref a)) (fun y hy => ?_) (fun h₁ tk F X => ?_) hco hgen hk
  · obtain rfl : y = (x, Value.ref a) := List.mem_singleton.mp hy
    rcases hx with e | e
    · exact .inl e
    · exact .inr ⟨e, cellsFrom_some _ _ _ (.inl e)⟩
  · refine wpAny_mono (body w s₀ s₁ { s₁ with heap := h₁, toks := tk } mg mb fa o pm cd doc a vs ns G Y ho (fd_plain hd) hcd hmg hobj hints hlen hg rfl F X) (fun f s' hq => ?_) (fun _ _ hq => hq)
    obtain ⟨rfl, h2, h3, h4⟩ := hq
    exact ⟨.inl ⟨.bool true, .bool true, [], rfl, fun _ => rfl, .bool true, post_true l _, fun _ => ⟨List.Pairwise.nil, fun _ hm => (nomatch hm)⟩⟩, h2, h3, h4⟩

/-! ### rules over ANY heap (no ledger) from facts about the written part K: the library's own take a ledger (News) for what they write -/
section
variable {prog : Program} {w : World} {A : Around} {E : Value → Shared → Prop} {s : Shared} {K : Frag}

/-- a def of the module, or a method (qual 'C.m'), entered: the frame is the next address; cells behind it -/
theorem call_fn {R : Result → Shared → Prop} {name qual : Str} {params : Arguments} {body : List Stmt} {scope : Scope} {dV kV doc pm cdv ct oc : Value} {an od : Option Addr} {osl : Array (Option Value)} {f : Addr} {args : Args} {binds : List (Str × Value)}
    (X : K.In s.heap) (hlim : s.heap.NoLimit) (ho : K.lookup f = some ⟨oc, od, .func (fnOf name qual params body scope dV kV doc pm an cdv ct), osl⟩) (hcd : codeIn K cdv qual = true) (hroom : A.depth < recursionLimit)
    (hbind : BindsTo s (fnOf name qual params body scope dV kV doc pm an cdv ct) args binds)
    (hkind : (binds.all fun y => scope.names.lookup y.1 == some .local || scope.names.lookup y.1 == some .cell) = true)
    (h : ∀ s₁, InCallC s s.heap.objs.size (bindL (envOfC qual scope s.heap.objs.size f cdv).kindOf binds fun _ => none) (cellsFrom (s.heap.objs.size + 1) scope.names [])
        (bindC (envOfC qual scope s.heap.objs.size f cdv).kindOf binds fun _ => none) s₁ →
      wpAny (model prog w) (A.deeper (envOfC qual scope s.heap.objs.size f cdv)) (execs body (envOfC qual scope s.heap.objs.size f cdv))
        (fun fl s' => R (.ok (.ret (match fl with | .ret v => v | _ => .none))) s')
        (fun e s' => wpAny (model prog w) (A.deeper (envOfC qual scope s.heap.objs.size f cdv)) (leaving (envOfC qual scope s.heap.objs.size f cdv) e) (fun _ s'' => R (.error e) s'') (fun e' s'' => R (.error e') s'') s') s₁)
    (hco : scope.isCoroutine = false) (hgen : scope.isGenerator = false) (hk : scope.kind = .function) : codeAny (model prog w) A (.call (.ref f) args) R s := by
  refine codeAny_call_function hroom (X _ _ ho) rfl hco hgen rfl (codeRec_of X hcd) (hbind _ _ _ _ ?_)
  refine wpAny_newFunctionEnv_cells hk (kindsX hkind _) fun env he s₁ x => ?_
  subst he
  exact ⟨hlim.keeps x.toInCall.keep, codeAny_func (h s₁ x)⟩

/-- C(..): dict at size, instance at size + 1, then __init__ -/
theorem make_obj {R : Result → Shared → Prop} {C fI : Addr} {rest : List Value} {kw : List (Str × Value)}
    (X : K.In s.heap) (hm : makesIn K C = true) (hi : findIn K (.ref C) "__init__" = some (some (.ref fI))) (hf : isFn K (.ref fI) = true)
    (h : codeAny (model prog w) (A.under (.builtin "type.__call__" ⟨.ref C :: rest, kw⟩)) (.call (.ref fI) ⟨.ref (s.heap.objs.size + 1) :: rest, kw⟩) (InitBack (s.heap.objs.size + 1) R)
      { s with heap := (s.heap.push emptyDict).push (instObj C s.heap.objs.size) }) : codeAny (model prog w) A (.call (.ref C) ⟨rest, kw⟩) R s := by
  obtain ⟨hh, g, d, t, os⟩ := s
  exact make_core (makes_of X hm) (looks_findIn X hi) (fun self => bind_fn X self (beq_iff_eq.mp hf)) (.inl rfl) h

/-- x.name where the instance's dict holds the name and the class does not -/
theorem get_field {x C : Addr} {ox : Obj} {es : List DictEntry} {n : Nat} {name : Str} {expr : Bool} {v : Value} {Q : Value → Shared → Prop}
    (X : K.In s.heap) (I : PySem.W.InstAt s.heap x ox C (some (dictOf es n))) (hg : plainGet K C name = true) (hh : hasDictIn K C = true) (ha : findIn K (.ref C) name = some none)
    (hl : getL name es = some (some v)) (hv : handedIn v = true) (h : Q v { s with toks := s.toks + 1 }) : wpAny (model prog w) A (getAttr (.ref x) name expr) Q E s :=
  get_value X I (plainGet_of hg).1 (findObj_own hh ha rfl hl) hv h

/-- x.m(..): the method found in the class -/
theorem get_method {x C f : Addr} {ox : Obj} {es : List DictEntry} {n : Nat} {name : Str} {pl : Sem Bool} {Q : Value × List Value → Shared → Prop}
    (X : K.In s.heap) (I : PySem.W.InstAt s.heap x ox C (some (dictOf es n))) (hg : plainGet K C name = true) (hf : findIn K (.ref C) name = some (some (.ref f))) (ht : isFn K (.ref f) = true)
    (hl : getL name es = some none) (h : Q (.ref f, [.ref x]) s) : wpAny (model prog w) A (getMethod (.ref x) name pl) Q E s :=
  method_fn X I (plainGet_of hg).1 (plainGet_of hg).2 hf (beq_iff_eq.mp ht) (by show (lookIn name (dictOf es n)).map _ = _; rw [lookIn_dict, hl]; rfl) h

/-! the whole heap as the ledger: makes every rule that writes through a ledger a rule over any heap -/
def noObjs (h : Heap) : Heap := { h with objs := #[] }
theorem noObjs_get (h : Heap) (b : Addr) : (noObjs h).get? b = none := by
  cases e : (noObjs h).get? b with
  | none => rfl
  | some o => exact absurd (Heap.lt_size e) (Nat.not_lt_zero _)
def ledger (h : Heap) (L d : Addr) : List (Addr × Obj) := (List.range h.objs.size).filterMap fun a => if a = L ∨ a = d then none else (h.get? a).map fun o => (a, o)
theorem mem_ledger {h : Heap} {L d a : Addr} {o : Obj} : (a, o) ∈ ledger h L d ↔ a ≠ L ∧ a ≠ d ∧ h.get? a = some o := by
  unfold ledger
  rw [List.mem_filterMap]
  constructor
  · rintro ⟨b, _, e⟩
    split at e
    · cases e
    · rename_i hb
      obtain ⟨o', ho, e'⟩ := Option.map_eq_some_iff.mp e
      cases e'
      exact ⟨fun q => hb (.inl q), fun q => hb (.inr q), ho⟩
  · rintro ⟨n1, n2, ho⟩
    refine ⟨a, List.mem_range.mpr (Heap.lt_size ho), ?_⟩
    rw [if_neg (show ¬ (a = L ∨ a = d) from fun q => q.elim n1 n2), ho] <;> rfl
theorem news_ledger {h : Heap} {L d : Addr} {od : Obj} (hne : d ≠ L) (ho : h.get? d = some od) : News (noObjs h) L h ([] ++ (d, od) :: ledger h L d) := by
  rintro ⟨a, o⟩ hp
  rcases List.mem_cons.mp hp with e | hp
  · cases e
    exact ⟨ho, hne, noObjs_get _ _⟩
  · obtain ⟨n1, n2, e⟩ := mem_ledger.mp hp
    exact ⟨e, n1, noObjs_get _ _⟩
theorem fr_all {h : Heap} {L : Addr} {m : Str → Option Value} (n : h.Ns L m) : Fr (noObjs h) L h m :=
  ⟨n, fun b o e => (by rw [noObjs_get] at e; cases e), Nat.zero_le _⟩
/-- Upd of the head entry (for append_K, setItem_K ..) -/
theorem upd_ledger {h : Heap} {L d : Addr} {o o' : Obj} : Upd d o o' ((d, o) :: ledger h L d) ((d, o') :: ledger h L d) :=
  .head fun ⟨_, _⟩ hp => (mem_ledger.mp hp).2.1

/-- x.name = v over any heap: L is any namespace of the heap (the frame's, say): its map stays, its object is not told; all else but the dict stays -/
theorem set_field {x C dx L : Addr} {ox : Obj} {m : Str → Option Value} {es es' : List DictEntry} {n n' : Nat} {name : Str} {v : Value} {Q : Unit → Shared → Prop}
    (X : K.In s.heap) (I : PySem.W.InstAt s.heap x ox C (some (dictOf es n))) (hd : ox.dict = some dx) (hL : s.heap.Ns L m) (hne : dx ≠ L)
    (hs : findIn K (.ref C) "__setattr__" = some (some (.builtin "object.__setattr__"))) (hp : plainOver K C = true) (ht : takerIn K C name = some none) (hh : hasDictIn K C = true) (hl : (getL name es).isSome = true)
    (e : (putL name (PyData.keyHash w.params name) (.str name (s.toks + 1)) v es, putN name es n) = (es', n')) (hz : es'.length ≤ 1000)
    (h : ∀ h' : Heap, h'.Ns L m → h'.get? dx = some (dictOf es' n') → (∀ b o, b ≠ dx → b ≠ L → s.heap.get? b = some o → h'.get? b = some o) → Q () { s with heap := h', toks := s.toks + 2 }) :
    wpAny (model prog w) A (setAttr (.ref x) name v) Q E s := by
  obtain ⟨e1, e2⟩ := Prod.mk.inj e
  have hdx : s.heap.get? dx = some (dictOf es n) := by
    have := I.dict
    rw [hd] at this
    exact this
  refine set_plain X I hs (osa_dict (s := { s with toks := s.toks + 1 }) (h₀ := noObjs s.heap) (L := L) (m := m) (od := dictOf es n) (od' := dictOf es' n') (es := es') (n := n') (pre := []) (post := ledger s.heap L dx)
    (fr_all hL) (news_ledger hne hdx) X I hd hp ht hh hl (fun _ q => nomatch q) (fun ⟨_, _⟩ q => (mem_ledger.mp q).2.1) (by rw [putName_dict, e1, e2]) rfl hz fun h' F' N' => ?_)
  exact h h' F'.ns (N'.get (List.Mem.head _)) fun b o n1 n2 ho => N'.get (List.Mem.tail _ (mem_ledger.mpr ⟨n2, n1, ho⟩))
end
end Att

namespace L2
open PySem PySem.Spec PyProof.Rows

theorem vals_ints : ∀ {vs : List Value} {ns : List Int}, IntsAre vs ns → Vals (ns.map V.int) vs
  | _, _, .nil => .nil
  | _, _, .cons n t h => .cons ⟨t, rfl⟩ (vals_ints h)

/-- nothing is tracked but the script, known to the object (or it is an object of the module) -/
def Only (H : Hp) : Prop := ∀ b, H b = none ∨ ∃ o xs, H b = some (.frz o (.lst xs))

/-- THE HEAD: the law's promise, at the heap behind the top. F, the promise of the law's def, may use that base is part of the heap (so K.In base, base.Ns mainGlobals mg stand in Mod) -/
theorem law_call {P : Program} {w : World} {K : PySem.W.Frag} {mg mb : Str → Option Value} {CX : CXT} {k : Nat} {fa a : Addr} {fd : FuncData} {x : Str} {sp : Sp} {s₁ : Shared} {vs : List Value} {ns : List Int}
    (KX : K.In s₁.heap) (hns : s₁.heap.Ns mainGlobals mg) (hb : s₁.heap.Ns builtinsNs mb) (hbb : ∀ x : Str, x ≠ "__name__" → mb x = bootBuiltins x) (hlim : s₁.heap.NoLimit) (hg : s₁.gens = #[])
    (ha : s₁.heap.get? a = some { cls := .type "list", data := .seq vs.toArray }) (hi : IntsAre vs ns) (hl : ns.length ≤ sizeLine) (hr : Room k callerA)
    (F : ∀ base : Heap, K.In base → base.Ns mainGlobals mg → FnOk P w K mg base CX k fa fd [x] sp) (hbind : ∀ (s : Shared) (u : Value), BindsTo s fd ⟨[u], []⟩ [(x, u)])
    (hsp : ∀ H : Hp, Only H → SqL K H a (ns.map V.int) → sp [.ref a] H (fun v _ => v = .bl true) fun _ _ _ => False)
    (hCX : ∀ H e s', CX [] H s₁ (fun _ _ _ => False) e s' → False) :
    codeAny (model P w) callerA (.call (.ref fa) ⟨[.ref a], []⟩) (fun r s' => r = .ok (.ret (.bool true)) ∧ OldK s₁.heap s'.heap ∧ s'.os = s₁.os ∧ AllBare s'.gens) s₁ := by
  have rv := vals_ints hi
  have lenV := hi.length
  -- from an abstract heap in which nothing but the script may be tracked
  have core : ∀ H : Hp, Only H → SqL K H a (ns.map V.int) → HOk P w H s₁.heap → (∀ b, H b ≠ none → b = a) → (H a ≠ none → K.lookup a = none) →
      codeAny (model P w) callerA (.call (.ref fa) ⟨[.ref a], []⟩) (fun r s' => r = .ok (.ret (.bool true)) ∧ OldK s₁.heap s'.heap ∧ s'.os = s₁.os ∧ AllBare s'.gens) s₁ := by
    intro H hO hS hok hA hK
    have base_of : ∀ {b : Addr} {o : Obj}, s₁.heap.get? b = some o → H b = none → (hidT s₁.heap H).get? b = some o := fun e n => hidT_get e n
    have noA : ∀ {b : Addr} {o : Obj} {es : Array DictEntry} {ep : Nat}, s₁.heap.get? b = some o → o.data = .dict es ep → H b = none := fun {b o es ep} e d => by
      cases q : H b with
      | none => rfl
      | some u =>
        have e' : b = a := hA b (by rw [q]; simp)
        subst e'
        rw [ha] at e; cases e
        have d' : Data.seq vs.toArray _ = Data.dict es ep := d
        cases d'
    have nsK : ∀ {b : Addr} {m : Str → Option Value}, s₁.heap.Ns b m → (hidT s₁.heap H).Ns b m := fun {b m} ⟨o, es, ep, e, d, r⟩ => ⟨o, es, ep, base_of e (noA e d), d, r⟩
    have hKb : K.In (hidT s₁.heap H) := fun b o e => base_of (KX b o e) (by
      cases q : H b with
      | none => rfl
      | some u =>
        have e' : b = a := hA b (by rw [q]; simp)
        subst e'
        rw [hK (by rw [q]; simp)] at e; cases e)
    have hM : Mod K mg (hidT s₁.heap H) := ⟨hKb, nsK hns, ⟨mb, nsK hb, hbb⟩, let ⟨mc, h1, h2⟩ := hlim; ⟨mc, nsK h1, h2⟩⟩
    have e0 : Env0 P w K mg (hidT s₁.heap H) callerA [] s₁ H := ⟨rfl, hM, fun b o e => of_hidT e, Nat.le_of_eq (hidT_size _ _), trivial, fun b hb => absurd (show b ∈ ([] : List Addr) from hb) (by simp), hok, .of_eq hg⟩
    refine codeAny_mono ((F _ hKb (nsK hns)).run callerA [] s₁ H ⟨[.ref a], []⟩ [.ref a] [.ref a] _ _ hr e0 (hbind s₁ (.ref a)) (.cons rfl .nil) (hsp H hO hS)) fun r s' h => ?_
    cases r with
    | error e => exact (hCX H e s' h).elim
    | ok fl =>
      cases fl with
      | next => exact False.elim h
      | brk => exact False.elim h
      | cont => exact False.elim h
      | ret u =>
        obtain ⟨v, H', os, bare, un, hok', r', q⟩ := h
        have q' : v = .bl true := q
        subst q'
        obtain rfl : u = Value.bool true := r'
        refine ⟨rfl, OldK.of_keep fun b o e => ?_, os, bare⟩
        cases q : H b with
        | none => exact un.keep b o e q (by intro z; exact absurd (show b ∈ ([] : List Addr) from z) (by simp)) (by simp)
        | some u =>
          rcases hO b with z | ⟨ob, xs, z⟩
          · rw [q] at z; cases z
          · have z2 := un.frzs b ob _ z
            obtain ⟨e1, _⟩ := hok b _ z
            obtain ⟨e2, _⟩ := hok' b _ z2
            rw [e] at e1; cases e1
            exact e2
  cases hk : K.lookup a with
  | some o =>
    -- the script is one of the module's own objects
    have e := KX a o hk
    rw [ha] at e
    cases e
    refine core (fun _ => none) (fun _ => .inl rfl) (.inr ⟨_, vs.toArray, _, hk, rfl, rfl, rfl, by rw [List.size_toArray, lenV]; exact hl, by simpa using rv⟩) (fun b u z => by have z' : (none : Option HO) = some u := z; cases z') (fun b z => absurd rfl z) fun z => absurd rfl z
  | none =>
    refine core (fun b => if b = a then some (.frz { cls := .type "list", data := .seq vs.toArray } (.lst (ns.map V.int))) else none) (fun b => ?_) (.inl (.inr ⟨{ cls := .type "list", data := .seq vs.toArray }, if_pos rfl⟩)) (fun b u z => ?_) (fun b z => ?_) fun _ => hk
    · by_cases hb : b = a
      · exact .inr ⟨_, _, if_pos hb⟩
      · exact .inl (if_neg hb)
    · by_cases hb : b = a
      · have z' := (if_pos hb).symm.trans z
        cases z'
        subst hb
        exact ⟨ha, by rw [List.length_map]; exact hl, vs, _, rv, ha⟩
      · have z' := (if_neg hb).symm.trans z
        cases z'
    · by_cases hb : b = a
      · exact hb
      · exact absurd (if_neg hb) z
end L2

namespace L2
open PySem PySem.Spec PyProof.Rows

abbrev KOf {K : PySem.W.Frag} {h : Heap} (_ : K.In h) : PySem.W.Frag := K

/-- the goal that k_head leaves (case hc), from the law's promise. F gives the function object fd (K's own) once, then the promise over every base -/
theorem walk_of {l : PySem.W.OpenLaw} {n k : Nat} {q : Program} {loose : List Str} {XP : (Str → Option Value) → Heap → Prop} {YP : World → Heap → Prop} {d : DefRec} {K : Params → PySem.W.Frag} {CX : World → CXT} {sp : World → Sp} {x : Str}
    (hn : l.most = some n) (hn2 : n ≤ sizeLine) (hdf : d.params.defaults = []) (hr : Room k callerA)
    (hY : ∀ (w : World) (h : Heap), YP w h → (K w.params).In h)
    (F : ∀ (w : World) (mg : Str → Option Value) (fa : Addr) (h : Heap), (K w.params).In h → h.Ns mainGlobals mg → mg d.name = some (.ref fa) →
      ∃ fd : FuncData, (∀ (s : Shared) (u : Value), BindsTo s fd ⟨[u], []⟩ [(x, u)]) ∧
        ∀ base : Heap, (K w.params).In base → base.Ns mainGlobals mg → FnOk l.prog w (K w.params) mg base (CX w) k fa fd [x] (sp w))
    (hsp : ∀ (w : World) (H : Hp) (a : Addr) (ns : List Int), ns.length ≤ n → Only H → SqL (K w.params) H a (ns.map V.int) → sp w [.ref a] H (fun v _ => v = .bl true) fun _ _ _ => False)
    (hCX : ∀ (w : World) (H : Hp) (s : Shared) (e : Value) (s' : Shared), CX w [] H s (fun _ _ _ => False) e s' → False) :
    PySem.W.WalkO q loose XP YP l.row.toRowW d [] (fun f vs => PySem.call f vs) := by
  refine Att.attach_call hn hdf fun w s₀ s₁ mg mb fa o pm cd doc a vs ns G Y ho hd hcd hmg hobj hints hlen hg => ?_
  have KX := hY w _ Y
  obtain ⟨fd, hb, hF⟩ := F w mg fa _ KX G.T.g hmg
  exact law_call KX G.T.g G.T.b G.T.builtins G.T.nolimit hg hobj hints (Nat.le_trans hlen hn2) hr hF hb (fun H hO hS => hsp w H a ns hlen hO hS) fun H e s' => hCX w H s₁ e s'
/-- the same where the promise hangs on the written part alone: (sp := My.sp_law), no hole under a binder -/
theorem walk_ofK {l : PySem.W.OpenLaw} {n k : Nat} {q : Program} {loose : List Str} {XP : (Str → Option Value) → Heap → Prop} {YP : World → Heap → Prop} {d : DefRec} {K : Params → PySem.W.Frag} {CX : CXT} {sp : PySem.W.Frag → Sp} {x : Str}
    (hn : l.most = some n) (hn2 : n ≤ sizeLine) (hdf : d.params.defaults = []) (hr : Room k callerA)
    (hY : ∀ (w : World) (h : Heap), YP w h → (K w.params).In h)
    (F : ∀ (w : World) (mg : Str → Option Value) (fa : Addr) (h : Heap), (K w.params).In h → h.Ns mainGlobals mg → mg d.name = some (.ref fa) →
      ∃ fd : FuncData, (∀ (s : Shared) (u : Value), BindsTo s fd ⟨[u], []⟩ [(x, u)]) ∧
        ∀ base : Heap, (K w.params).In base → base.Ns mainGlobals mg → FnOk l.prog w (K w.params) mg base CX k fa fd [x] (sp (K w.params)))
    (hsp : ∀ (K : PySem.W.Frag) (H : Hp) (a : Addr) (ns : List Int), ns.length ≤ n → Only H → SqL K H a (ns.map V.int) → sp K [.ref a] H (fun v _ => v = .bl true) fun _ _ _ => False)
    (hCX : ∀ (H : Hp) (s : Shared) (e : Value) (s' : Shared), CX [] H s (fun _ _ _ => False) e s' → False) :
    PySem.W.WalkO q loose XP YP l.row.toRowW d [] (fun f vs => PySem.call f vs) :=
  walk_of (K := K) (CX := fun _ => CX) (sp := fun w => sp (K w.params)) hn hn2 hdf hr hY F (fun w H a ns h1 h2 h3 => hsp (K w.params) H a ns h1 h2 h3) fun _ H s e s' => hCX H s e s'
end L2

/- THE LAST THEOREM (shape; LID, My.* are yours):
   My.Adr: a structure of the addresses that your layer names (classes, functions); My.Txt K t: a structure (Prop) of the equations over K;
   My.txt_mk : {K} {implicit addresses ..} (e1 : nsIn K mainGlobals "law" = some (some (.ref f))) (e2 : K.lookup f = some ⟨oc, od, .func (fnOf "law" "law" params body scope dV kV doc pm an cdv ct), sl⟩) (e3 : codeIn K cdv "law" = true) .. : ∃ t, My.Txt K t

set_option maxRecDepth 100000 in
set_option maxHeartbeats 0 in
theorem PySem.Challenge.cw_LID_holds : PySem.Challenge.rw_LID.Holds := by
  w_on; o_law; k_head; (case hw => w_witness2)
  k_fill
  refine L2.walk_of (l := PySem.Challenge.rw_LID) (n := 63) (k := 40) (x := "script") (CX := fun w => ..) (sp := fun _ => My.sp_law) rfl (by decide) rfl ⟨rfl, by decide, by decide⟩ (fun w h Y => PySem.W.kIn_of Y) ?F ?S ?C
  case F =>
    intro w mg fa h KX G hmg
    have T : ∃ t, My.Txt (L2.KOf KX) t := by
      dsimp only [L2.KOf]                          -- K must stand as «<heap const> w.params» for k_is
      refine' My.txt_mk ?e1 ?e2 ?e3 ..
      (case e1 => PySem.W.k_is)                    -- in the order: a name -> its address -> its object -> its parts
      (case e2 => PySem.W.k_is)
      ..
    obtain ⟨t, T⟩ := T
    have e0 := hmg.symm.trans (PySem.W.mg_of KX G T.law)
    cases e0                                       -- fa is the law's own address
    exact ⟨_, fun s u => .of_eq rfl, fun base kb nb => My.law_fn T kb nb⟩     -- if «.of_eq rfl» comes too early: refine' ⟨_, ?b, fun base kb nb => My.law_fn T kb nb⟩; exact fun s u => .of_eq rfl
  case S => exact fun w H a ns hl hO hS => ..
  case C => exact ..
(the tactic k_is has no namespace: write k_is) -/

/-! SHORT WORDS over the layer: a def of the text, its body, what a loop and a test want. -/
namespace L2
open PySem PySem.Spec PyProof.Rows

/-! ### the text by places -/
/-- the j-th statement of a class's body -/
def inClass (s : Stmt) (j : Nat) : Stmt := match s with
  | .ClassDef _ _ _ body _ _ _ _ _ _ _ => body.getD j (.Pass ⟨0, 0, 0, 0⟩)
  | _ => .Pass ⟨0, 0, 0, 0⟩
def defArgs (s : Stmt) : Arguments := match s with
  | .FunctionDef _ a _ _ _ _ _ _ _ _ => a
  | _ => { posonlyargs := [], args := [], vararg := none, kwonlyargs := [], kw_defaults := [], kwarg := none, defaults := [] }
def defBody (s : Stmt) : List Stmt := match s with
  | .FunctionDef _ _ b _ _ _ _ _ _ _ => b
  | _ => []
def defScope (s : Stmt) : Scope := match s with
  | .FunctionDef _ _ _ _ _ _ sc _ _ _ => sc
  | _ => { kind := .function, names := [], isGenerator := false, isCoroutine := false }

/-! ### no exception leaves a def -/
abbrev CX0 : CXT := fun _ _ _ _ _ _ => False
abbrev E0 : XK := fun _ _ _ => False
theorem pass0 {X : Cx} : Passes CX0 X E0 := fun _ _ _ _ _ _ _ h => h.elim

/-! ### a def (or method) of the text as it stands behind the top -/
structure Fun (K : PySem.W.Frag) (x qual : Str) (st : Stmt) (f : Addr) (fd : FuncData) : Prop where
  ex : ∃ (oc : Value) (od : Option Addr) (kV doc pm : Value) (an : Option Addr) (cdv ct : Value) (osl : Array (Option Value)),
    fd = PySem.W.fnOf x qual (defArgs st) (defBody st) (defScope st) .none kV doc pm an cdv ct ∧ K.lookup f = some ⟨oc, od, .func fd, osl⟩ ∧ PySem.W.codeIn K cdv qual = true
  kp : PySem.W.keepIn K (.ref f) = true
section
variable {P : Program} {w : World} {K : PySem.W.Frag} {mg : Str → Option Value} {base : Heap}
/-- THE RULE for a def: its body as a term of rules, and the reading of that term -/
theorem Fun.ok {x qual : Str} {st : Stmt} {f : Addr} {fd : FuncData} {N ps : List Str} {k : Nat} {sp : Sp} (F : Fun K x qual st f fd) (S : FnScope N ps (defScope st)) (len : ∀ vs H Q E, sp vs H Q E → vs.length = ps.length)
    (hbody : ∀ (cdv : Value) (A : Around) (outer : List Env) (s : Shared) (H : Hp) (vs : List V) (Q : VK) (E : XK), Room k (A.deeper (envOfC qual (defScope st) s.heap.objs.size f cdv)) → sp vs H Q E →
      ∃ t, PSs (cxOf CX0 P w K mg base N qual (defScope st) f cdv A outer s H E).nox (defBody st) t ∧ t { nx := fun _ H' => Q .non H', rt := Q } (start N vs) H) : FnOk P w K mg base CX0 (k + 1) f fd ps sp := by
  obtain ⟨oc, od, kV, doc, pm, an, cdv, ct, osl, rfl, lk, hcd⟩ := F.ex
  refine fn_of lk hcd S len fun A outer s H vs Q E hr hsp => ?_
  obtain ⟨t, h, q⟩ := hbody cdv A outer s H vs Q E hr hsp
  exact ⟨t, h.nox, q⟩
/-- how its arguments bind (no defaults): h is «fun _ _ _ _ _ _ us hl => match us, hl with | [_, _], _ => rfl», one _ a parameter -/
theorem Fun.binds {x qual : Str} {st : Stmt} {f : Addr} {fd : FuncData} {ps : List Str} (F : Fun K x qual st f fd)
    (h : ∀ (kV doc pm : Value) (an : Option Addr) (cdv ct : Value) (us : List Value), us.length = ps.length → bindArgs (PySem.W.fnOf x qual (defArgs st) (defBody st) (defScope st) .none kV doc pm an cdv ct) ⟨us, []⟩ = pure (ps.zip us)) : Binds K fd ps [] := by
  obtain ⟨oc, od, kV, doc, pm, an, cdv, ct, osl, rfl, lk, hcd⟩ := F.ex
  exact .all (h kV doc pm an cdv ct)
theorem fun_mk {x qual : Str} {st : Stmt} {f : Addr} {oc : Value} {od an : Option Addr} {osl : Array (Option Value)} {kV doc pm cdv ct : Value} (l : K.lookup f = some ⟨oc, od, .func (PySem.W.fnOf x qual (defArgs st) (defBody st) (defScope st) .none kV doc pm an cdv ct), osl⟩)
    (c : PySem.W.codeIn K cdv qual = true) (k : PySem.W.keepIn K (.ref f) = true) : Fun K x qual st f (PySem.W.fnOf x qual (defArgs st) (defBody st) (defScope st) .none kV doc pm an cdv ct) := ⟨⟨oc, od, kV, doc, pm, an, cdv, ct, osl, rfl, l, c⟩, k⟩
end
theorem hu_of {A : Around} {k : Nat} (hr : Room k A) : A.units + 1 < cLine := Nat.lt_of_le_of_lt (Nat.add_le_add_left (by decide : 1 ≤ 64) _) hr.units
theorem small1000 {n : Nat} (h : n ≤ 1000) : n < sizeLine := Nat.lt_of_le_of_lt h (by decide)

/-! ### expressions in short: the name that stands in the i-th slot -/
section
variable {X : Cx}
theorem pv (i : Nat) {x : Str} {pos : Pos} (hN : X.N[i]? = some x := by rfl) (hv : Vis X.env.scope x := by first | exact Or.inl rfl | exact Or.inr (Or.inl rfl) | exact Or.inr (Or.inr rfl)) (hd : (x == ("__debug__" : Str)) = false := by decide)
    (hcd : (x == ("__classdict__" : Str)) = false := by decide) : PE X (.Name x pos) (tVar i) := pe_var hN hv hd hcd
end

/-! ### tests -/
theorem iteF {A B : Prop} (h : B) : if false = true then A else B := by
  rw [if_neg Bool.false_ne_true]
  exact h
theorem iteT {A B : Prop} (h : A) : if true = true then A else B := by
  rw [if_pos rfl]
  exact h
theorem ite2 {c A B : Prop} [Decidable c] (h1 : c → A) (h2 : ¬ c → B) : if c then A else B := by
  by_cases h : c
  · rw [if_pos h]
    exact h1 h
  · rw [if_neg h]
    exact h2 h
theorem iteNS {c A B : Prop} [Decidable c] (hc : c) (h : B) : if (!decide c) = true then A else B := by
  rw [decide_eq_true hc]
  exact iteF h

/-! ### heaps -/
/-- all that was tracked is as it was -/
def Same (H H' : Hp) : Prop := ∀ b o, H b = some o → H' b = some o
theorem Same.refl (H : Hp) : Same H H := fun _ _ h => h
theorem Same.trans {H H1 H2 : Hp} (a : Same H H1) (b : Same H1 H2) : Same H H2 := fun c o h => b c o (a c o h)
theorem Same.free {H H' : Hp} (e : Same H H') {l : Addr} (h : H' l = Option.none) : H l = Option.none := by
  cases q : H l with
  | none => rfl
  | some o =>
    rw [e l o q] at h
    cases h
theorem Same.seq {K : PySem.W.Frag} {H H' : Hp} {a : Addr} {xs : List V} (e : Same H H') (h : SqL K H a xs) : SqL K H' a xs := by
  rcases h with (h | ⟨o, h⟩) | h
  · exact .inl (.inl (e _ _ h))
  · exact .inl (.inr ⟨o, e _ _ h⟩)
  · exact .inr h

end L2

set_option Elab.async false
set_option linter.all false
set_option maxRecDepth 100000
set_option maxHeartbeats 4000000
/-! FURTHER RULES over the hand layer (our own) -/
namespace HT
open PySem PyProof.Rows
/-- t <= u of tuples of ints -/
def lexLe : List Int → List Int → Bool
  | [], _ => true
  | _ :: _, [] => false
  | x :: xs, y :: ys => if x = y then lexLe xs ys else decide (x ≤ y)
theorem lexLe_cons (x y : Int) (xs ys : List Int) : lexLe (x :: xs) (y :: ys) = if x = y then lexLe xs ys else decide (x ≤ y) := rfl
theorem rcLe_int (A : Around) (s : Shared) (a : Int) (t : Tok) (c : Int) (u : Tok) (prog : Program) (w : World) (E : Value → Shared → Prop) (Q : Value → Shared → Prop) (h : Q (.bool (decide (a ≤ c))) s) :
    wpAny (model prog w) A (richCompare .LtE (.int a t) (.int c u)) Q E s :=
  (PyProof.Rows.le_int h : wpAny (model prog w) A (compareOp .LtE (.int a t) (.int c u)) Q E s)
section
open PySem.SeqAt
open PySem.AutoSeq1 (wpAny_loadPart')
open PySem.MeetsSeq PySem.MeetsSeq2 PySem.MeetsSeq3
theorem tuple_le_ints (l b : Addr) (items items2 : Array Value) (n n2 : Nat) (dd dd2 : Option Addr) (sl sl2 : Array (Option Value)) (ns ms : List Int) (hi : IntsAre items.toList ns) (hj : IntsAre items2.toList ms) :
    Meets (Builtin.«tuple.__le__» ⟨[.ref l, .ref b], []⟩)
      (fun _ R s => s.heap.get? l = some { cls := .type "tuple", dict := dd, data := .seq items n, slots := sl } ∧ s.heap.get? b = some { cls := .type "tuple", dict := dd2, data := .seq items2 n2, slots := sl2 } ∧
        R (.ok (.ret (.bool (lexLe ns ms)))) s) :=
  .of_wp fun prog w A R s h => by
    obtain ⟨hp, g, d, tk, os⟩ := s; obtain ⟨hl, hb, h⟩ := h
    have f2 := AutoSeq1.sub_tuple_tuple
    have z1 : items.size = ns.length := by rw [← hi.length]; simp
    have z2 : items2.size = ms.length := by rw [← hj.length]; simp
    wp_walk using wpAny_loadPart' hl, wpAny_loadPart' hb, wpAny_forIn_list _ (fun rest b s' => b.1 = none ∧ s' = ⟨hp, g, d, tk, os⟩ ∧ ∃ (vs ws : List Value) (ns' ms' : List Int), rest = vs.zip ws ∧
      IntsAre vs ns' ∧ IntsAre ws ms' ∧ ns'.length + items2.size = ms'.length + items.size ∧ R (.ok (.ret (.bool (lexLe ns' ms')))) ⟨hp, g, d, tk, os⟩) _
    case turn =>
      rintro ⟨y, x⟩ rest b s' ⟨hb', rfl, vs, ws, ns', ms', hz, hvi, hwi, hlen, hR⟩
      cases hvi with
      | nil => rw [List.zip_nil_left] at hz; cases hz
      | cons a t hvi' =>
        cases hwi with
        | nil => rw [List.zip_nil_right] at hz; cases hz
        | cons c u hwi' =>
          rw [List.zip_cons_cons] at hz
          injection hz with hyx hrest
          injection hyx with hy hx
          subst hy hx
          rw [lexLe_cons] at hR
          simp only [List.length_cons] at hlen
          obtain ⟨e, he, hiff⟩ := eqAt_int A.in1 ⟨hp, g, d, tk, os⟩ a t c u
          refine wpAny_bind (he prog w _ _ ?_)
          cases e with
          | true =>
            rw [if_pos (hiff.mp rfl)] at hR
            wp_walk
            exact ⟨rfl, rfl, _, _, _, _, hrest, hvi', hwi', by omega, hR⟩
          | false =>
            rw [if_neg (fun q => absurd (hiff.mpr q) Bool.false_ne_true)] at hR
            have hri := rcLe_int A.in1 ⟨hp, g, d, tk, os⟩ a t c u prog w
            wp_walk using hri
            exact ⟨_, rfl, by simpa using hR⟩
    case fin =>
      rintro ⟨b1, b2⟩ s' ⟨hb', rfl, vs, ws, ns', ms', hz, hvi, hwi, hlen, hR⟩
      simp only at hb'
      subst hb'
      have hv : lexLe ns' ms' = decide (items.size ≤ items2.size) := by
        cases hvi with
        | nil =>
          simp only [List.length_nil] at hlen
          have e : lexLe [] ms' = true := by cases ms' <;> rfl
          rw [e]
          exact (decide_eq_true (by omega)).symm
        | cons a t hv =>
          cases hwi with
          | nil =>
            simp only [List.length_nil, List.length_cons] at hlen
            show false = _
            exact (decide_eq_false (by omega)).symm
          | cons c u hw =>
            rw [List.zip_cons_cons] at hz
            cases hz
      rw [hv] at hR
      wp_walk
      exact ⟨_, rfl, by simpa [Builtin.Tuple.tupleCompareSizes] using hR⟩
    case h =>
      exact ⟨rfl, rfl, items.toList, items2.toList, ns, ms, rfl, hi, hj, by omega, h⟩
end
section
variable {prog : Program} {w : World} {A : Around} {E : Value → Shared → Prop} {s : Shared}
theorem le_tupInts {l b : Addr} {items items2 : Array Value} {ns ms : List Int} {Q : Value → Shared → Prop} (hl : IsTup s.heap l items) (hb : IsTup s.heap b items2) (hi : IntsAre items.toList ns) (hj : IntsAre items2.toList ms)
    (hu : A.units < cLine) (h : Q (.bool (lexLe ns ms)) s) : wpAny (model prog w) A (compareOp .LtE (.ref l) (.ref b)) Q E s := by
  obtain ⟨⟨cls, dd, data, sl⟩, ho, hc, n, hd⟩ := id hl
  obtain ⟨⟨cls2, dd2, data2, sl2⟩, ho2, hc2, n2, hd2⟩ := id hb
  simp only at hc hd hc2 hd2
  subst hc hd hc2 hd2
  exact richCompare_meets_room (op := .LtE) ⟨_, ho, rfl⟩ ⟨_, ho2, rfl⟩ PySem.F.slot_tuple_le PySem.F.entry_tuple_le (PySem.F.args_tuple_le_2 _ _) (tuple_le_ints l b items items2 n n2 dd dd2 sl sl2 ns ms hi hj)
    ⟨ho, ho2, show Value.bool (lexLe ns ms) ≠ Value.notImplemented ∧ Q (.bool (lexLe ns ms)) s from ⟨(fun x => nomatch x), h⟩⟩ hu
/-- () + u is u -/
theorem cat_tup0 {t b : Addr} {ws : List Value} {Q : Value → Shared → Prop} (ht : IsTup s.heap t #[]) (hb : IsTup s.heap b ws.toArray) (h1 : Q (.ref b) s) : wpAny (model prog w) A (binaryOp .Add (.ref t) (.ref b)) Q E s := by
  obtain ⟨⟨cls, dd, data, sl⟩, ho, hc, n, hd⟩ := id ht
  obtain ⟨⟨cls2, dd2, data2, sl2⟩, ho2, hc2, n2, hd2⟩ := id hb
  simp only at hc hd hc2 hd2
  subst hc hd hc2 hd2
  exact concat_meets ⟨_, ho, rfl⟩ ⟨_, ho2, rfl⟩ noFill_tuple_add seq_tuple_add PySem.F.slot_tuple_add PySem.F.entry_tuple_add (PySem.F.args_tuple_add_2 _ _)
      (tuple_addW0 t b #[] ws.toArray n n2 dd dd2 sl sl2 (by simp)) ⟨ho, ho2, h1⟩
/-- t[a:b], the whole: t itself -/
theorem getItem_tuple_all {t sl : Addr} {items : Array Value} {vl vu : Value} {lo hi : Option Int} {Q : Value → Shared → Prop} (ht : IsTup s.heap t items) (hs : s.heap.IsSliceOf sl vl vu .none) (pl : IsPart vl lo) (pu : IsPart vu hi)
    (h1 : sIx items.size 0 lo = 0) (h2 : sIx items.size items.size hi = items.size)
    (h : Q (.ref t) s) : wpAny (model prog w) A (getItem (.ref t) (.ref sl)) Q E s := by
  obtain ⟨os, hos, hcs, hds⟩ := id hs
  have hTs : s.TypeIs (.ref sl) "slice" := ⟨os, hos, hcs⟩
  obtain ⟨ot, hot, hct, hdt⟩ := id ht
  unfold getItem
  try with_reducible refine wpAny_holding ?_
  first | refine wpAny_bind (wpAny_pure ?_) | skip
  refine wpAny_bind (wpAny_sequenceKey ht.typeIs (by decide) ?_)
  refine wpAny_bind (wpAny_callSpecial?_slot (name := Str.ofString "__getitem__") ht.typeIs PyProof.Rows.slot_tuple_getitem
    (wpAny_call_entry PyProof.Rows.slot_tuple_getitem ht.typeIs entry_tuple_getitem ?_ (args_tuple_getitem _ _)))
  show wpAny _ _ (Builtin.Tuple.tupleItemsOf (.ref t) >>= _) _ _ s
  refine wpAny_bind (tupleItemsOf_ ht ?_)
  refine wpAny_bind (wpAny_typeOf hTs ?_)
  rw [if_pos (by decide)]
  refine wpAny_bind (sliceApplied_gen hs pl pu ?_)
  have hyes : (((sIx items.size 0 lo : Nat) : Int) == 0 && (1 : Int) == 1 && (sIx items.size items.size hi - sIx items.size 0 lo) == items.size) = true := by
    rw [h1, h2]; simp
  show wpAny _ _ (if (((sIx items.size 0 lo : Nat) : Int) == 0 && (1 : Int) == 1 && (sIx items.size items.size hi - sIx items.size 0 lo) == items.size) = true then _ else _) _ _ s
  rw [if_pos hyes]
  unfold Builtin.Tuple.tupleIsExact
  refine wpAny_bind (wpAny_bind (wpAny_typeOf ht.typeIs (wpAny_pure ?_)))
  rw [if_pos (by decide)]
  exact wpAny_bind (wpAny_rule (wpAny_pure ⟨_, rfl, wpAny_pure h⟩))
/-- t[::-1] -/
theorem rev_adjust (n : Nat) : Builtin.Slice.sliceAdjust none none (-1) (n : Int) = ((n : Int) - 1, -1) := by
  unfold Builtin.Slice.sliceAdjust
  rfl
theorem rev_places (n : Nat) : Builtin.Slice.slicePlaces ((n : Int) - 1) (-1) (-1) = n := by
  unfold Builtin.Slice.slicePlaces
  rw [if_neg (by decide)]
  by_cases h : n = 0
  · subst h; rfl
  · rw [if_pos (by omega)]
    have e : ((n : Int) - 1 - -1 - 1) / (- -1) + 1 = n := by
      rw [show (- -1 : Int) = 1 by decide, Int.ediv_one]; omega
    rw [e]; simp
theorem rev_pick (xs : Array Value) : ((List.range xs.size).filterMap fun (m : Nat) => xs[(((xs.size : Int) - 1) + (m : Int) * (-1)).toNat]?) = xs.toList.reverse := by
  apply List.ext_getElem?
  intro i
  have key : ∀ n, n ≤ xs.size → ((List.range n).filterMap fun (m : Nat) => xs[(((xs.size : Int) - 1) + (m : Int) * (-1)).toNat]?) = xs.toList.reverse.take n := by
    intro n
    induction n with
    | zero => intro _; simp
    | succ n ih =>
      intro hn
      rw [List.range_succ, List.filterMap_append, ih (by omega), List.take_add_one]
      congr 1
      have e : (((xs.size : Int) - 1) + (n : Int) * (-1)).toNat = xs.size - 1 - n := by omega
      simp only [List.filterMap_cons, List.filterMap_nil, e]
      rw [List.getElem?_reverse (by rw [Array.length_toList]; omega)]
      have e2 : xs.toList.length - 1 - n = xs.size - 1 - n := by simp
      rw [e2, Array.getElem?_toList]
      have hlt : xs.size - 1 - n < xs.size := by omega
      rw [Array.getElem?_eq_getElem hlt]
      rfl
  rw [key xs.size (Nat.le_refl _), List.take_of_length_le (by simp)]
theorem sliceApplied_rev {sl : Addr} {u : Tok} {n : Nat} {Q : Int × Int × Nat → Shared → Prop} (hs : s.heap.IsSliceOf sl .none .none (.int (-1) u))
    (h : Q ((n : Int) - 1, -1, n) s) : wpAny (model prog w) A (Builtin.Slice.sliceApplied (.ref sl) (pure (n : Int))) Q E s := by
  obtain ⟨os, hos, hcs, hds⟩ := id hs
  unfold Builtin.Slice.sliceApplied Builtin.Slice.sliceFields
  refine wpAny_bind (wpAny_bind (wpAny_field hos hds (x := .none) rfl (wpAny_bind (wpAny_field hos hds (x := .none) rfl (wpAny_bind (wpAny_field hos hds (x := .int (-1) u) rfl (wpAny_pure ?_)))))))
  refine wpAny_bind (slicePart_int ?_)
  show wpAny _ _ (if ((-1 : Int) == 0) = true then _ else _) _ _ s
  rw [if_neg (by decide)]
  refine wpAny_bind (slicePart_none (wpAny_bind (slicePart_none (wpAny_bind (wpAny_pure ?_)))))
  show wpAny _ _ (match Builtin.Slice.sliceAdjust none none (-1) (n : Int) with | (lo, hi) => pure (lo, (-1 : Int), Builtin.Slice.slicePlaces lo hi (-1))) _ _ s
  rw [rev_adjust n]
  show wpAny _ _ (pure ((n : Int) - 1, (-1 : Int), Builtin.Slice.slicePlaces ((n : Int) - 1) (-1) (-1))) _ _ s
  rw [rev_places]
  exact wpAny_pure h
theorem getItem_tuple_rev {t sl : Addr} {items : Array Value} {u : Tok} {Q : Value → Shared → Prop} (ht : IsTup s.heap t items) (hs : s.heap.IsSliceOf sl .none .none (.int (-1) u))
    (h : Q (.ref s.heap.objs.size) { s with heap := s.heap.push { cls := .type "tuple", data := .seq items.toList.reverse.toArray } })
    (hsz : items.size ≤ sizeLine) : wpAny (model prog w) A (getItem (.ref t) (.ref sl)) Q E s := by
  have htake : sizeOk (.seq items.toList.reverse.toArray) := by
    show items.toList.reverse.toArray.size ≤ sizeLine
    rw [List.size_toArray, List.length_reverse, Array.length_toList]
    omega
  obtain ⟨os, hos, hcs, hds⟩ := id hs
  have hTs : s.TypeIs (.ref sl) "slice" := ⟨os, hos, hcs⟩
  unfold getItem
  try with_reducible refine wpAny_holding ?_
  first | refine wpAny_bind (wpAny_pure ?_) | skip
  refine wpAny_bind (wpAny_sequenceKey ht.typeIs (by decide) ?_)
  refine wpAny_bind (wpAny_callSpecial?_slot (name := Str.ofString "__getitem__") ht.typeIs PyProof.Rows.slot_tuple_getitem
    (wpAny_call_entry PyProof.Rows.slot_tuple_getitem ht.typeIs entry_tuple_getitem ?_ (args_tuple_getitem _ _)))
  show wpAny _ _ (Builtin.Tuple.tupleItemsOf (.ref t) >>= _) _ _ s
  refine wpAny_bind (tupleItemsOf_ ht ?_)
  refine wpAny_bind (wpAny_typeOf hTs ?_)
  rw [if_pos (by decide)]
  refine wpAny_bind (sliceApplied_rev hs ?_)
  show wpAny _ _ (if (((items.size : Int) - 1 == 0 && (-1 : Int) == 1 && items.size == items.size)) = true then _ else _) _ _ s
  rw [if_neg (by simp)]
  rw [show ((List.range items.size).filterMap fun (k : Nat) => items[(((items.size : Int) - 1) + (k : Int) * (-1)).toNat]?) = items.toList.reverse from rev_pick items]
  first
    | exact wpAny_bind (m := Builtin.Tuple.tupleExact _) (wpAny_newObj_type (wpAny_pure ⟨_, rfl, wpAny_pure h⟩) htake)
    | exact wpAny_bind (m := Builtin.Tuple.tupleExact _) (wpAny_newObj_type (wpAny_bind (wpAny_pure (wpAny_pure ⟨_, rfl, wpAny_pure h⟩))) htake)
    | exact wpAny_bind (wpAny_bind (m := Builtin.Tuple.tupleExact _) (wpAny_newObj_type (wpAny_pure (wpAny_pure ⟨_, rfl, wpAny_pure h⟩)) htake))
    | exact wpAny_bind (wpAny_bind (m := Builtin.Tuple.tupleExact _) (wpAny_newObj_type (wpAny_pure ⟨_, rfl, wpAny_pure h⟩) htake))
end
end HT

namespace L2
open PySem PySem.Spec PyProof.Rows
/-! ### kinds -/
def isiT (t T : String) : Bool := decide (t = T) || (decide (t = "bool") && decide (T = "int"))
theorem kit_tab {K : PySem.W.Frag} {t T : String} (ht : t ∈ ["NoneType", "bool", "int", "str", "list", "tuple", "dict"]) (hT : T ∈ ["bool", "int", "str", "list", "tuple", "dict"]) :
    PySem.W.kitOne K (.type t) (.type T) = some (isiT t T) := by
  simp only [List.mem_cons, List.not_mem_nil, or_false] at ht hT
  rcases ht with rfl | rfl | rfl | rfl | rfl | rfl | rfl <;> rcases hT with rfl | rfl | rfl | rfl | rfl | rfl <;> kernel_rfl
def isiOk (t T : String) (b : Bool) : Bool := decide (t ∈ ["NoneType", "bool", "int", "str", "list", "tuple", "dict"]) && decide (T ∈ ["bool", "int", "str", "list", "tuple", "dict"]) && (isiT t T == b)
theorem kit_ok {K : PySem.W.Frag} {t T : String} {b : Bool} (h : isiOk t T b = true) : PySem.W.kitOne K (.type t) (.type T) = some b := by
  unfold isiOk at h
  rw [Bool.and_eq_true, Bool.and_eq_true] at h
  rw [kit_tab (of_decide_eq_true h.1.1) (of_decide_eq_true h.1.2), eq_of_beq h.2]
theorem same_new {H : Hp} {p : Addr} (h : H p = none) (o : HO) : Same H (upd H p o) := fun b u q => by rw [upd_ne (ne_of_none q h)]; exact q
section
variable {X : Cx}
/-- isinstance(x, T), T a built-in class -/
def rIsi (K : PySem.W.Frag) : List V → Hp → VK → Prop := fun xs H Q => ∃ x T t b, xs = [x, .ty T] ∧ TyOf K H x (.type t) ∧ isiOk t T b = true ∧ Q (.bl b) H
theorem call_isi : CallR X (.builtin "isinstance") (rIsi X.K) := by
  intro pins s σ H xs us Q I r h
  obtain ⟨x, T, t, b, rfl, ty, ok, q⟩ := h
  obtain ⟨u, w', rfl, r1, r2⟩ := vals2 r
  obtain rfl : w' = Value.type T := r2
  exact isinst_ok I r1 ty (kit_ok ok) fun tk => ⟨.bl b, H, I.tok tk, rfl, q⟩
/-- t <= u -/
def rLeT (K : PySem.W.Frag) : R2 := fun x y H Q => ∃ a b ns ms, x = .ref a ∧ y = .ref b ∧ SqT K H a (ns.map V.int) ∧ SqT K H b (ms.map V.int) ∧ Q (.bl (HT.lexLe ns ms)) H
theorem op_leT (hu : X.A.units < cLine) : OpR X (compareOp .LtE) (rLeT X.K) := by
  intro pins s σ H x y v u Q I rx ry h
  obtain ⟨a, b, ns, ms, rfl, rfl, ha, hb, q⟩ := h
  cases rx
  cases ry
  obtain ⟨its, r1, p1, _⟩ := I.tuple ha
  obtain ⟨its2, r2, p2, _⟩ := I.tuple hb
  have i1 : IntsAre its.toArray.toList ns := intsAre_of r1
  have i2 : IntsAre its2.toArray.toList ms := intsAre_of r2
  exact HT.le_tupInts p1 p2 i1 i2 hu ⟨.bl (HT.lexLe ns ms), H, I, rfl, q⟩
/-- t + u of tracked tuples, whatever they hold -/
def rCatA : R2 := fun x y H Q => ∃ a b xs ys, x = .ref a ∧ y = .ref b ∧ H a = some (.tup xs) ∧ H b = some (.tup ys) ∧ xs.length + ys.length ≤ sizeLine ∧
  ∀ c H', Same H H' → H' c = some (.tup (xs ++ ys)) → Q (.ref c) H'
theorem op_catA : OpR X (binaryOp .Add) rCatA := by
  intro pins s σ H x y v u Q I rx ry h
  obtain ⟨a, b, xs, ys, rfl, rfl, ha, hb, hz, q⟩ := h
  by_cases hx : xs = []
  · subst hx
    cases rx
    cases ry
    obtain ⟨its, r1, p1, _⟩ := I.tuple (SqT.of ha)
    obtain ⟨its2, r2, p2, _⟩ := I.tuple (SqT.of hb)
    obtain rfl : its = [] := by cases r1; rfl
    exact HT.cat_tup0 p1 p2 ⟨.ref b, H, I, rfl, q b H (Same.refl H) hb⟩
  · refine op_catT pins s σ H (.ref a) (.ref b) v u Q I rx ry ⟨a, b, xs, ys, rfl, rfl, SqT.of ha, SqT.of hb, hx, hz, fun e => ?_, fun e p hp => ?_⟩
    · subst e
      exact q a H (Same.refl H) (by rw [List.append_nil]; exact ha)
    · exact q p _ (same_new hp _) upd_same
/-- t[lo:hi] of a tracked tuple, the whole too -/
def rSlA : V → Option Int → Option Int → Hp → VK → Prop := fun x lo hi H Q => ∃ a xs, x = .ref a ∧ H a = some (.tup xs) ∧ ∀ c H', Same H H' → H' c = some (.tup (cutV xs lo hi)) → Q (.ref c) H'
theorem sl_tupA : SlR X rSlA := by
  intro pins s σ H x v vl vu lo hi sl Q I rx hs pl pu h
  obtain ⟨a, xs, rfl, hx, q⟩ := h
  by_cases hw : HT.sIx xs.length 0 lo = 0 ∧ HT.sIx xs.length xs.length hi = xs.length
  · cases rx
    obtain ⟨its, r, ht, hz⟩ := I.tuple (SqT.of hx)
    have hlen : its.toArray.size = xs.length := by rw [List.size_toArray]; exact r.length.symm
    refine ⟨"tuple", _, PyProof.Rows.slot_tuple_getitem.lookup, ht.typeIs, ?_⟩
    refine HT.getItem_tuple_all ht hs pl pu (by rw [hlen]; exact hw.1) (by rw [hlen]; exact hw.2) ⟨.ref a, H, I, rfl, q a H (Same.refl H) ?_⟩
    have e : cutV xs lo hi = xs := by
      unfold cutV
      rw [hw.1, hw.2]
      simp
    rw [e]
    exact hx
  · exact sl_tup pins s σ H (.ref a) v vl vu lo hi sl Q I rx hs pl pu ⟨a, xs, rfl, SqT.of hx, hw, fun p hp => q p _ (same_new hp _) upd_same⟩
/-- t[::-1] -/
def tRev (te : TE) : TE := fun σ H Q => te σ H fun x H1 => ∃ a xs, x = .ref a ∧ H1 a = some (.tup xs) ∧ ∀ c H', Same H1 H' → H' c = some (.tup xs.reverse) → Q (.ref c) H'
theorem pe_rev {e : Expr} {te : TE} {pos p2 p3 p4 : Pos} {j : Nat} (he : PE X e te) : PE X (.Subscript e (.Slice none none (some (.UnaryOp .USub (.Constant (.int 1) j p3) p4)) p2) pos) (tRev te) := by
  intro pins s σ H Q I h
  refine Subscript_ (thn (he pins s σ H _ I h) fun v s1 ⟨x, H1, I1, r1, q1⟩ => ?_)
  obtain ⟨a, xs, rfl, hx, q⟩ := q1
  cases r1
  have hm : PE X (.UnaryOp .USub (.Constant (.int 1) j p3) p4) (tUn (rU fun i => .int (-i)) (tC (.int 1))) := pe_un un_neg pe_int
  refine wpAny_Slice ?_
  rw [evalPart_none]
  refine wpAny_pure (wpAny_pure ?_)
  rw [evalPart_some]
  refine thn (hm pins s1 σ H1 (fun z H2 => z = .int (-1) ∧ H2 = H1) I1 ⟨1, rfl, rfl, rfl⟩) fun u s2 ⟨z, H2, I2, r2, ez, eH⟩ => ?_
  subst ez eH
  obtain ⟨tk, rfl⟩ := r2
  have I4 : Inv X pins σ H2 { s2 with heap := s2.heap.push { cls := .type "slice", data := .fields #[.none, .none, .int (-1) tk] } } := I2.kept (t' := s2.toks) fun b ob q => Heap.get?_push_of_some _ q
  obtain ⟨its, r, ht, hz⟩ := I4.tuple (SqT.of hx)
  have hlen : its.toArray.size = xs.length := by rw [List.size_toArray]; exact r.length.symm
  show wpAny (model X.prog X.w) X.A (subscriptTail e _ (.ref a) (.ref s2.heap.objs.size)) (EP X pins σ Q) X.xe _
  refine tail_any (ops := [.ref a, .ref s2.heap.objs.size]) ht.typeIs PyProof.Rows.slot_tuple_getitem.lookup ?_ (by with_unfolding_all rfl)
  refine HT.getItem_tuple_rev ht (Heap.IsSliceOf.new ..) ?_ (by rw [hlen]; exact hz)
  refine ⟨.ref _, _, I4.laid (t' := s2.toks) (o := .tup xs.reverse) (fun b ob q => Heap.get?_push_of_some _ q) (Nat.le_refl _) ?_, rfl, q _ _ (same_new (I4.hok.fresh (Nat.le_refl _)) _) upd_same⟩
  exact ⟨by rw [List.length_reverse]; exact hz, _, r.reverse, IsTup.new _ _⟩
/-- is True, is False -/
theorem op_is_bl : OpR X (compareOp .Is) (fun x y H Q => ∃ b c, x = .bl b ∧ y = .bl c ∧ Q (.bl (b == c)) H) := by
  intro pins s σ H x y v u Q I rx ry h
  obtain ⟨b, c, rfl, rfl, q⟩ := h
  cases rx
  cases ry
  exact is_bool (fin_bl I q rfl)
/-- {} -/
theorem Inv.big' {pins : List (Addr × Obj)} {σ : St} {H : Hp} {s : Shared} (I : Inv X pins σ H s) : sysModules < s.heap.objs.size := by
  have h : mainGlobals < s.heap.objs.size := (I.mod.glob.keeps I.bk).lt
  exact Nat.lt_trans (by decide) h
def tDNew : TE := fun _ H Q => ∀ p, H p = none → Q (.ref p) (upd H p (.dK []))
theorem pe_dnew {pos : Pos} : PE X (.Dict [] [] pos) tDNew := fun pins s σ H Q I h =>
  wpAny_Dict_empty ⟨.ref s.heap.objs.size, _, I.laid (a := s.heap.objs.size) (o := .dK []) (t' := s.toks) (fun _ _ q => Heap.get?_push_of_some _ q) (Nat.le_refl _)
    ⟨Nat.zero_le _, beq_eq_false_iff_ne.mpr (Ne.symm (Nat.ne_of_lt I.big')), [], .nil, Heap.DictOf.new s.heap⟩, rfl, h _ (I.hok.fresh (Nat.le_refl _))⟩
end
end L2

set_option Elab.async false
set_option linter.all false
set_option maxRecDepth 100000
set_option maxHeartbeats 4000000
/-! DATA over the hand layer, and rules that hand on a new heap by what is true of it -/
namespace L2
open PySem PySem.Spec PyProof.Rows
theorem Same.up {H H' : Hp} {a : Addr} {o : HO} (s : Same H H') (h : H a = some o) : H' a = some o := s a o h
/-- all but what stands at l is as it was -/
def Butl (l : Addr) (H H' : Hp) : Prop := ∀ b o, b ≠ l → H b = some o → H' b = some o
theorem Butl.up {l : Addr} {H H' : Hp} {a : Addr} {o : HO} (s : Butl l H H') (h : H a = some o) (ne : a ≠ l) : H' a = some o := s a o ne h
theorem Same.butl {l : Addr} {H H' : Hp} (s : Same H H') : Butl l H H' := fun b o _ h => s b o h
theorem Butl.trans {l : Addr} {H H1 H2 : Hp} (a : Butl l H H1) (b : Butl l H1 H2) : Butl l H H2 := fun c o n h => b c o n (a c o n h)
theorem Same.sqt {K : PySem.W.Frag} {H H' : Hp} {a : Addr} {xs : List V} (e : Same H H') (h : SqT K H a xs) : SqT K H' a xs := by
  rcases h with (h | ⟨o, h⟩) | h
  · exact .inl (.inl (e _ _ h))
  · exact .inl (.inr ⟨o, e _ _ h⟩)
  · exact .inr h
/-- a thing, by its parts -/
inductive D where
  | non | bl (b : Bool) | int (i : Int) | str (x : Str) | tup (l : List D) | lst (l : List D) | dct
mutual
/-- the heap holds the thing d at v -/
inductive Rep (H : Hp) : V → D → Prop where
  | non : Rep H .non .non
  | bl (b : Bool) : Rep H (.bl b) (.bl b)
  | int (i : Int) : Rep H (.int i) (.int i)
  | str (x : Str) : Rep H (.str x) (.str x)
  | tup {a : Addr} {xs : List V} {ds : List D} (h : H a = some (.tup xs)) (r : Reps H xs ds) : Rep H (.ref a) (.tup ds)
  | lst {a : Addr} {xs : List V} {ds : List D} (h : H a = some (.lst xs)) (r : Reps H xs ds) : Rep H (.ref a) (.lst ds)
  | dct {a : Addr} (h : H a = some (.dK [])) : Rep H (.ref a) .dct
inductive Reps (H : Hp) : List V → List D → Prop where
  | nil : Reps H [] []
  | cons {x : V} {d : D} {xs : List V} {ds : List D} (h : Rep H x d) (r : Reps H xs ds) : Reps H (x :: xs) (d :: ds)
end
mutual
theorem Rep.mono {H H' : Hp} (s : Same H H') : ∀ {x : V} {d : D}, Rep H x d → Rep H' x d
  | _, _, .non => .non
  | _, _, .bl b => .bl b
  | _, _, .int i => .int i
  | _, _, .str x => .str x
  | _, _, .tup h r => .tup (s _ _ h) (Reps.mono s r)
  | _, _, .lst h r => .lst (s _ _ h) (Reps.mono s r)
  | _, _, .dct h => .dct (s _ _ h)
theorem Reps.mono {H H' : Hp} (s : Same H H') : ∀ {xs : List V} {ds : List D}, Reps H xs ds → Reps H' xs ds
  | _, _, .nil => .nil
  | _, _, .cons h r => .cons (Rep.mono s h) (Reps.mono s r)
end
theorem Reps.length {H : Hp} : ∀ {xs : List V} {ds : List D}, Reps H xs ds → xs.length = ds.length
  | _, _, .nil => rfl
  | _, _, .cons _ r => by rw [List.length_cons, List.length_cons, Reps.length r]
theorem Reps.get {H : Hp} : ∀ {xs : List V} {ds : List D} {i : Nat} {x : V}, Reps H xs ds → xs[i]? = some x → ∃ d, ds[i]? = some d ∧ Rep H x d
  | _, _, _, _, .nil, e => by simp at e
  | _, _, 0, _, .cons h _, e => by simp at e; subst e; exact ⟨_, rfl, h⟩
  | _, _, i + 1, x, .cons _ r, e => by
    obtain ⟨d, h1, h2⟩ := Reps.get (i := i) (x := x) r (by simpa using e)
    exact ⟨d, by simpa using h1, h2⟩
theorem Reps.getD {H : Hp} : ∀ {xs : List V} {ds : List D} {i : Nat} {d : D}, Reps H xs ds → ds[i]? = some d → ∃ x, xs[i]? = some x ∧ Rep H x d
  | _, _, _, _, .nil, e => by simp at e
  | _, _, 0, _, .cons h _, e => by simp at e; subst e; exact ⟨_, rfl, h⟩
  | _, _, i + 1, d, .cons _ r, e => by
    obtain ⟨x, h1, h2⟩ := Reps.getD (i := i) (d := d) r (by simpa using e)
    exact ⟨x, by simpa using h1, h2⟩
theorem Reps.append {H : Hp} : ∀ {xs ys : List V} {ds es : List D}, Reps H xs ds → Reps H ys es → Reps H (xs ++ ys) (ds ++ es)
  | _, _, _, _, .nil, s => s
  | _, _, _, _, .cons h r, s => .cons h (Reps.append r s)
theorem Reps.take {H : Hp} : ∀ {xs : List V} {ds : List D} (n : Nat), Reps H xs ds → Reps H (xs.take n) (ds.take n)
  | _, _, 0, _ => .nil
  | _, _, _ + 1, .nil => .nil
  | _, _, n + 1, .cons h r => .cons h (Reps.take n r)
theorem Reps.drop {H : Hp} : ∀ {xs : List V} {ds : List D} (n : Nat), Reps H xs ds → Reps H (xs.drop n) (ds.drop n)
  | _, _, 0, r => r
  | _, _, _ + 1, .nil => .nil
  | _, _, n + 1, .cons _ r => Reps.drop n r
theorem Reps.reverse {H : Hp} : ∀ {xs : List V} {ds : List D}, Reps H xs ds → Reps H xs.reverse ds.reverse
  | _, _, .nil => .nil
  | _, _, .cons h r => by
    rw [List.reverse_cons, List.reverse_cons]
    exact Reps.append (Reps.reverse r) (.cons h .nil)
theorem Reps.ints {H : Hp} : ∀ {ns : List Int}, Reps H (ns.map V.int) (ns.map D.int)
  | [] => .nil
  | n :: ns => .cons (.int n) Reps.ints
theorem Reps.ints_of {H : Hp} : ∀ {xs : List V} {ns : List Int}, Reps H xs (ns.map D.int) → xs = ns.map V.int
  | _, [], .nil => rfl
  | _, n :: ns, .cons h r => by
    cases h
    rw [List.map_cons, Reps.ints_of r]
/-- its kind -/
def tyD : D → String
  | .non => "NoneType" | .bl _ => "bool" | .int _ => "int" | .str _ => "str" | .tup _ => "tuple" | .lst _ => "list" | .dct => "dict"
theorem Rep.ty {K : PySem.W.Frag} {H : Hp} {x : V} {d : D} (r : Rep H x d) : TyOf K H x (.type (tyD d)) := by
  cases r with
  | non => exact .non
  | bl b => exact .bl b
  | int i => exact .int i
  | str x => exact .str x
  | tup h _ => exact .tup h
  | lst h _ => exact .lst h
  | dct h => exact .dK h
/-- an operation's reading may be made stronger -/
theorem PE.weaken {X : Cx} {e : Expr} {t t' : TE} (h : PE X e t) (imp : ∀ σ H Q, t' σ H Q → t σ H Q) : PE X e t' := fun pins s σ H Q I q => h pins s σ H Q I (imp σ H Q q)
theorem OpR.weaken {X : Cx} {f : Value → Value → Sem Value} {r r' : R2} (h : OpR X f r) (imp : ∀ x y H Q, r' x y H Q → r x y H Q) : OpR X f r' := fun pins s σ H x y v u Q I rx ry q => h pins s σ H x y v u Q I rx ry (imp x y H Q q)
theorem CallR.weaken {X : Cx} {f : Value} {r r' : List V → Hp → VK → Prop} (h : CallR X f r) (imp : ∀ xs H Q, r' xs H Q → r xs H Q) : CallR X f r' := fun pins s σ H xs us Q I rx q => h pins s σ H xs us Q I rx (imp xs H Q q)
def New (H : Hp) (o : HO) (Q : VK) : Prop := ∀ p H', Same H H' → H' p = some o → H p = none → Q (.ref p) H'
theorem New.at {H : Hp} {o : HO} {Q : VK} (n : New H o Q) {p : Addr} (hp : H p = none) : Q (.ref p) (upd H p o) := n p _ (same_new hp o) upd_same hp
section
variable {X : Cx} {e : Expr} {es : List Expr} {te : TE} {t : TA} {pos : Pos}
def tTupA (t : TA) : TE := fun σ H Q => t σ H fun xs H1 => xs.length ≤ sizeLine ∧ New H1 (.tup xs) Q
def tLstA (t : TA) : TE := fun σ H Q => t σ H fun xs H1 => xs.length ≤ sizeLine ∧ New H1 (.lst xs) Q
/-- an argument list's reading is monotone -/
def MonoA (t : TA) : Prop := ∀ σ H (Q Q' : List V → Hp → Prop), (∀ xs H', Q xs H' → Q' xs H') → t σ H Q → t σ H Q'
theorem pe_tupA {x1} (h : PA X es t) : PE X (.Tuple es x1 pos) (tTupA t) := by
  have h' : PA X es (fun σ H Q => ∃ R : List V → Hp → Prop, t σ H R ∧ ∀ xs H', R xs H' → Q xs H') := by
    intro pos pins s σ H Q I ⟨R, q, imp⟩
    exact thn (h pos pins s σ H R I q) fun us s' ⟨vs, H', I', r, q'⟩ => ⟨vs, H', I', r, imp _ _ q'⟩
  exact (pe_tup h').weaken fun σ H Q q => ⟨_, q, fun xs H' ⟨z, n⟩ => ⟨z, fun p hp => n.at hp⟩⟩
theorem pe_lstA (h : PA X es t) : PE X (.List es pos) (tLstA t) := by
  have h' : PA X es (fun σ H Q => ∃ R : List V → Hp → Prop, t σ H R ∧ ∀ xs H', R xs H' → Q xs H') := by
    intro pos pins s σ H Q I ⟨R, q, imp⟩
    exact thn (h pos pins s σ H R I q) fun us s' ⟨vs, H', I', r, q'⟩ => ⟨vs, H', I', r, imp _ _ q'⟩
  exact (pe_lst h').weaken fun σ H Q q => ⟨_, q, fun xs H' ⟨z, n⟩ => ⟨z, fun p hp => n.at hp⟩⟩
def tDNewA : TE := fun _ H Q => New H (.dK []) Q
theorem pe_dnewA : PE X (.Dict [] [] pos) tDNewA := pe_dnew.weaken fun σ H Q n p hp => n.at hp
def rCatL : R2 := fun x y H Q => ∃ l b xs zs, x = .ref l ∧ y = .ref b ∧ H l = some (.lst xs) ∧ H b = some (.lst zs) ∧ xs.length + zs.length ≤ sizeLine ∧ New H (.lst (xs ++ zs)) Q
theorem op_catL : OpR X (binaryOp .Add) rCatL := op_cat.weaken fun x y H Q ⟨l, b, xs, zs, e1, e2, h1, h2, z, n⟩ => ⟨l, b, xs, zs, e1, e2, h1, h2, z, fun p hp => n.at hp⟩
theorem call_list_A : CallR X (.type "list") (fun xs H Q => ∃ p ys, xs = [.ref p] ∧ (SqL X.K H p ys ∨ SqT X.K H p ys) ∧ New H (.lst ys) Q) :=
  call_list_of.weaken fun xs H Q ⟨p, ys, e, h, n⟩ => ⟨p, ys, e, h, fun l hl => n.at hl⟩
theorem call_tuple_A : CallR X (.type "tuple") (fun xs H Q => ∃ p ys, xs = [.ref p] ∧ SqL X.K H p ys ∧ New H (.tup ys) Q) :=
  call_tuple_of.weaken fun xs H Q ⟨p, ys, e, h, n⟩ => ⟨p, ys, e, .inl ⟨h, fun l hl => n.at hl⟩⟩
def rAppendA : V → List V → Hp → VK → Prop := fun x vs H Q => ∃ l xs y, x = .ref l ∧ vs = [y] ∧ H l = some (.lst xs) ∧ xs.length < sizeLine ∧ ∀ H', Butl l H H' → H' l = some (.lst (xs ++ [y])) → Q .non H'
theorem mt_appendA : MtM X "list.append" rAppendA := fun pins s σ H x xs v us Q I rx rv ⟨l, ys, y, e1, e2, h, z, n⟩ =>
  mt_append pins s σ H x xs v us Q I rx rv ⟨l, ys, y, e1, e2, h, z, n _ (fun b o ne hb => by rw [upd_ne ne]; exact hb) upd_same⟩
end
theorem at0 {x : V} {xs : List V} : atI (x :: xs) 0 = some x := atI_nat (j := 0) rfl
theorem at1 {x y : V} {xs : List V} : atI (x :: y :: xs) 1 = some y := atI_nat (j := 1) rfl
theorem atI_of {xs : List V} {i : Int} (h0 : 0 ≤ i) (h1 : i < xs.length) : ∃ x, atI xs i = some x ∧ xs[i.toNat]? = some x := by
  have hi : i.toNat < xs.length := by omega
  have e : xs[i.toNat]? = some xs[i.toNat] := List.getElem?_eq_getElem hi
  have e2 : ((i.toNat : Nat) : Int) = i := by omega
  have q := atI_nat e
  rw [e2] at q
  exact ⟨_, q, e⟩
end L2
namespace L2
open PySem PySem.Spec PyProof.Rows
theorem Reps.cut {H : Hp} {xs : List V} {ds : List D} (r : Reps H xs ds) (lo hi : Option Int) : ∃ es, Reps H (cutV xs lo hi) es ∧ es.length ≤ ds.length := by
  unfold cutV
  refine ⟨_, (r.drop (HT.sIx xs.length 0 lo)).take _, ?_⟩
  rw [List.length_take, List.length_drop]
  omega
theorem Reps.pick {H : Hp} {xs : List V} {ds : List D} (r : Reps H xs ds) {i : Int} (h0 : 0 ≤ i) (h1 : i < ds.length) : ∃ x d, atI xs i = some x ∧ Rep H x d ∧ d ∈ ds := by
  have hl := r.length
  obtain ⟨x, e1, e2⟩ := atI_of (xs := xs) h0 (by omega)
  obtain ⟨d, e3, e4⟩ := r.get e2
  exact ⟨x, d, e1, e4, List.mem_of_getElem? e3⟩
section
variable {X : Cx} {a b c : Expr} {ta tb : TE} {tt : TT} {pos : Pos}
/-- a if c else b, both ways met again in one value -/
def tIfM (tt : TT) (ta tb : TE) : TE := fun σ H Q => tt σ H fun c H1 => ∃ x, (if c = true then ta σ H1 (fun v H' => v = x ∧ H' = H1) else tb σ H1 (fun v H' => v = x ∧ H' = H1)) ∧ Q x H1
theorem pe_ifExpM (hc : PT X c tt) (ha : PE X a ta) (hb : PE X b tb) : PE X (.IfExp c a b pos) (tIfM tt ta tb) := by
  have ha' : PE X a (fun σ H Q => ∃ R : VK, ta σ H R ∧ ∀ v H', R v H' → Q v H') := by
    intro pins s σ H Q I ⟨R, q, imp⟩
    exact thn (ha pins s σ H R I q) fun u s' ⟨v, H', I', r, q'⟩ => ⟨v, H', I', r, imp _ _ q'⟩
  have hb' : PE X b (fun σ H Q => ∃ R : VK, tb σ H R ∧ ∀ v H', R v H' → Q v H') := by
    intro pins s σ H Q I ⟨R, q, imp⟩
    exact thn (hb pins s σ H R I q) fun u s' ⟨v, H', I', r, q'⟩ => ⟨v, H', I', r, imp _ _ q'⟩
  have hc' : PT X c (fun σ H Q => ∃ R : Bool → Hp → Prop, tt σ H R ∧ ∀ v H', R v H' → Q v H') := by
    intro pins s σ H Q I ⟨R, q, imp⟩
    exact thn (hc pins s σ H R I q) fun u s' ⟨H', I', q'⟩ => ⟨H', I', imp _ _ q'⟩
  refine (pe_ifExp hc' ha' hb').weaken fun σ H Q q => ⟨_, q, fun k H1 ⟨x, h, qx⟩ => ?_⟩
  cases k with
  | true =>
    rw [if_pos rfl] at h ⊢
    exact ⟨_, h, fun v H' ⟨e1, e2⟩ => by subst e1 e2; exact qx⟩
  | false =>
    rw [if_neg Bool.false_ne_true] at h ⊢
    exact ⟨_, h, fun v H' ⟨e1, e2⟩ => by subst e1 e2; exact qx⟩
end
theorem small_log {n : Nat} (h : n ≤ 1000) : n.log2 < 1920 := by
  by_cases h0 : n = 0
  · subst h0; decide
  · rw [Nat.log2_lt h0]
    exact Nat.lt_of_le_of_lt h (Nat.lt_of_lt_of_le (by decide : 1000 < 2 ^ 10) (Nat.pow_le_pow_right (by decide) (by decide)))
end L2

set_option Elab.async false
set_option linter.all false
set_option maxRecDepth 100000
set_option maxHeartbeats 4000000
/-! COMPREHENSIONS of lists over the hand layer -/
namespace L2
open PySem PySem.Spec PyProof.Rows
/-! ### the closure -/
def clOf (scope : Scope) (env : Env) : List (Str × Addr) := (scope.names.filterMap fun y => if y.2 == .free then (env.cells.lookup y.1).map fun c => (y.1, c) else none).reverse
theorem closure_go (env : Env) : ∀ (names : List (Str × NameKind)) (acc : List (Str × Addr)), (∀ y ∈ names, y.2 = .free → ∃ c, env.cells.lookup y.1 = some c) →
    (forIn names acc fun (x : Str × NameKind) r => if (x.2 == .free) = true then do let c ← cellOf env x.1; pure (ForInStep.yield ((x.1, c) :: r)) else pure (ForInStep.yield r) : Sem (List (Str × Addr))) =
      pure ((names.filterMap fun y => if y.2 == .free then (env.cells.lookup y.1).map fun c => (y.1, c) else none).reverse ++ acc)
  | [], acc, _ => rfl
  | (n, k) :: r, acc, h => by
    rw [List.forIn_cons]
    have ih := fun acc' => closure_go env r acc' fun y hy => h y (List.mem_cons_of_mem _ hy)
    by_cases hk : k = .free
    · subst hk
      obtain ⟨c, hc⟩ := h (n, .free) List.mem_cons_self rfl
      have hc' : env.cells.lookup n = some c := hc
      simp only [beq_self_eq_true, if_true, cellOf, hc', List.filterMap_cons, Option.map_some, List.reverse_cons, List.append_assoc, List.singleton_append]
      exact ih _
    · have hb : (k == NameKind.free) = false := by simpa using hk
      simp only [hb, Bool.false_eq_true, if_false, List.filterMap_cons]
      exact ih _
theorem closureFor_eq {scope : Scope} {env : Env} (h : ∀ y ∈ scope.names, y.2 = .free → ∃ c, env.cells.lookup y.1 = some c) : closureFor scope env = pure (clOf scope env) := by
  have e := closure_go env scope.names [] h
  rw [List.append_nil] at e
  have e2 : closureFor scope env = ((forIn scope.names ([] : List (Str × Addr)) fun (x : Str × NameKind) r => if (x.2 == .free) = true then do let c ← cellOf env x.1; pure (ForInStep.yield ((x.1, c) :: r)) else pure (ForInStep.yield r) : Sem (List (Str × Addr))) >>= fun r => pure r) := rfl
  rw [e2, e]
  rfl
theorem clOf_lookup {scope : Scope} {env : Env} {x : Str} {c : Addr} (h : (clOf scope env).lookup x = some c) : env.cells.lookup x = some c := by
  have hm := PySem.mem_of_lookup h
  unfold clOf at hm
  rw [List.mem_reverse, List.mem_filterMap] at hm
  obtain ⟨y, hy, e⟩ := hm
  split at e
  · cases q : env.cells.lookup y.1 with
    | none => rw [q] at e; cases e
    | some c' =>
      rw [q] at e
      have e' := Option.some.inj e
      injection e' with e1 e2
      subst e1 e2
      exact q
  · cases e
theorem clOf_has {scope : Scope} {env : Env} {x : Str} {c : Addr} (hx : scope.names.lookup x = some .free) (h : env.cells.lookup x = some c) : (clOf scope env).lookup x = some c := by
  have hm : (x, NameKind.free) ∈ scope.names := PySem.mem_of_lookup hx
  have : (x, c) ∈ clOf scope env := by
    unfold clOf
    rw [List.mem_reverse, List.mem_filterMap]
    exact ⟨_, hm, by simp [h]⟩
  cases q : (clOf scope env).lookup x with
  | none =>
    exact absurd this (by
      intro hm'
      have := List.lookup_eq_none_iff.mp q _ hm'
      simp at this)
  | some c' =>
    have := clOf_lookup q
    rw [h] at this
    exact this.symm ▸ rfl

/-! ### the block's own context -/
def Cx.block (X : Cx) (scope : Scope) (C : Addr) (N : List Str) (fp : List Addr) (s₀ : Shared) (H₀ : Hp) : Cx :=
  { prog := X.prog, w := X.w, K := X.K, mg := X.mg, base := X.base, A := X.A, N := N, s₀ := s₀, H₀ := H₀, env := compEnvC scope (clOf scope X.env) C X.env, outer := X.stack, stack := X.stack, ex := fp,
    fn := fun _ => false, calm := X.calm, pn := [], xe := fun _ _ => False }
/-- the block's names: those of the def that it sees (free ones), its own targets -/
structure BlkNames (X : Cx) (scope : Scope) (N : List Str) (st : St → St) (ks : List Nat) : Prop where
  kind : scope.kind = .function
  cell : ∀ y ∈ scope.names, y.2 ≠ .cell
  loc : ∀ y ∈ scope.names, y.2 = .local → scope.names.lookup y.1 = some .local
  free : ∀ y ∈ scope.names, y.2 = .free → X.env.kindOf y.1 = some .cell ∨ X.env.kindOf y.1 = some .free
  len : ∀ σ, (st σ).length = N.length
  val : ∀ σ (i : Nat) x v, N[i]? = some x → (st σ)[i]? = some (some v) → scope.names.lookup x = some .free ∧ i ∉ ks ∧ ∃ j : Nat, X.N[j]? = some x ∧ σ[j]? = some (some v)
theorem relabel_kind {scope : Scope} {env : Env} {x : Str} (h : (relabel scope env).names.lookup x = some .cell ∨ (relabel scope env).names.lookup x = some .free) (hc : ∀ y ∈ scope.names, y.2 ≠ .cell) : scope.names.lookup x = some .free := by
  have go : ∀ names : List (Str × NameKind), (∀ y ∈ names, y.2 ≠ .cell) → ((names.map fun (n, k) => if (k == NameKind.free && env.scope.kind == .function && env.kindOf n == some .cell) then (n, NameKind.cell) else (n, k)).lookup x = some .cell ∨
      (names.map fun (n, k) => if (k == NameKind.free && env.scope.kind == .function && env.kindOf n == some .cell) then (n, NameKind.cell) else (n, k)).lookup x = some .free) → names.lookup x = some .free := by
    intro names
    induction names with
    | nil => intro _ h; simp at h
    | cons y r ih =>
      obtain ⟨n, k⟩ := y
      intro hc h
      have hr := ih fun y hy => hc y (List.mem_cons_of_mem _ hy)
      have hk : k ≠ .cell := hc (n, k) List.mem_cons_self
      rw [List.map_cons] at h
      by_cases hx : x == n
      · rw [List.lookup_cons, hx]
        show some k = some .free
        by_cases hcc : (k == NameKind.free && env.scope.kind == .function && env.kindOf n == some .cell) = true
        · rw [Bool.and_eq_true, Bool.and_eq_true] at hcc
          rw [eq_of_beq hcc.1.1]
        · simp only [if_neg hcc, List.lookup_cons, hx] at h
          rcases h with h | h
          · exact absurd (Option.some.inj h) hk
          · exact h
      · have hx' : (x == n) = false := by simpa using hx
        rw [List.lookup_cons, hx']
        refine hr ?_
        by_cases hcc : (k == NameKind.free && env.scope.kind == .function && env.kindOf n == some .cell) = true
        · simp only [if_pos hcc, List.lookup_cons, hx'] at h
          exact h
        · simp only [if_neg hcc, List.lookup_cons, hx'] at h
          exact h
  exact go scope.names hc h
theorem relabel_free {scope : Scope} {env : Env} {x : Str} (h : scope.names.lookup x = some .free) : (relabel scope env).names.lookup x = some .cell ∨ (relabel scope env).names.lookup x = some .free := by
  have go : ∀ names : List (Str × NameKind), names.lookup x = some .free → ((names.map fun (n, k) => if (k == NameKind.free && env.scope.kind == .function && env.kindOf n == some .cell) then (n, NameKind.cell) else (n, k)).lookup x = some .cell ∨
      (names.map fun (n, k) => if (k == NameKind.free && env.scope.kind == .function && env.kindOf n == some .cell) then (n, NameKind.cell) else (n, k)).lookup x = some .free) := by
    intro names
    induction names with
    | nil => intro h; simp at h
    | cons y r ih =>
      obtain ⟨n, k⟩ := y
      intro h
      rw [List.map_cons]
      by_cases hx : x == n
      · rw [List.lookup_cons, hx] at h
        have hk : k = .free := Option.some.inj h
        by_cases hcc : (k == NameKind.free && env.scope.kind == .function && env.kindOf n == some .cell) = true
        · simp only [if_pos hcc, List.lookup_cons, hx]
          exact .inl trivial
        · simp only [if_neg hcc, List.lookup_cons, hx]
          exact .inr (by rw [hk])
      · have hx' : (x == n) = false := by simpa using hx
        rw [List.lookup_cons, hx'] at h
        by_cases hcc : (k == NameKind.free && env.scope.kind == .function && env.kindOf n == some .cell) = true
        · simp only [if_pos hcc, List.lookup_cons, hx']
          exact ih h
        · simp only [if_neg hcc, List.lookup_cons, hx']
          exact ih h
  exact go scope.names h
section
variable {X : Cx} {pins : List (Addr × Obj)} {σ : St} {H H' : Hp} {s : Shared}
/-- the invariant at the block's entry: the accumulator at D is new and tracked, the block's names stand at C -/
theorem Inv.block {scope : Scope} {N : List Str} {st : St → St} {ks : List Nat} {fp : List Addr} {D C : Addr} {o : HO} {h' : Heap} {tk : Nat} (I : Inv X pins σ H s) (B : BlkNames X scope N st ks)
    (hfp : ∀ b ∈ fp, FpOk X pins H b) (hob : ∀ b ∈ fp, ∃ ob, s.heap.get? b = some ob)
    (hD : s.heap.objs.size ≤ D) (hC : s.heap.objs.size ≤ C) (hDC : D ≠ C) (keep : ∀ b u, s.heap.get? b = some u → h'.get? b = some u) (hns : h'.Ns C fun _ => none) (hacc : ObjOk X.prog X.w (upd H D o) h' D o) :
    Inv (X.block scope C N fp s H) [] (st σ) (upd H D o) { s with heap := h', toks := tk } := by
  have hHD : H D = none := I.hok.fresh hD
  have hcl : ∀ x c, (clOf scope X.env).lookup x = some c → X.env.cells.lookup x = some c := fun x c e => clOf_lookup e
  have hfresh : ∀ b ∈ fp, b < s.heap.objs.size := fun b hb => by
    obtain ⟨ob, e⟩ := hob b hb
    exact Heap.lt_size e
  refine ⟨⟨I.mod, ?_, I.ok.glob, I.ok.blt, hC, fun x y c e1 e2 => I.ok.inj x y c (hcl x c e1) (hcl y c e2), fun x hx => ?_, fun x c hf => absurd (show false = true from hf) Bool.false_ne_true, I.ok.hd, I.ok.frames, .inl rfl, fun b hb => ⟨?_, fun x c e z => ?_⟩,
    I.bs, ?_, fun b ob e hb => ?_, fun b hb hs => ?_, I.stack, I.stkFree⟩, rfl, I.bare, Un.laid keep hD hHD, ⟨_, hns, fun i x v e1 e2 hv => ?_⟩, fun x c e => ?_, ?_, fun x c e => ?_, fun p hp => absurd (show p ∈ ([] : List (Addr × Obj)) from hp) (by simp), I.hok.laid keep hD hacc, B.len σ⟩
  · show (relabel scope X.env).kind = .function
    exact B.kind
  · have hfree := relabel_kind hx B.cell
    obtain ⟨c, hc⟩ := I.ok.has x (B.free (x, .free) (PySem.mem_of_lookup hfree) rfl)
    exact ⟨c, clOf_has hfree hc⟩
  · exact Nat.ne_of_lt (Nat.lt_of_lt_of_le (hfresh b hb) hC)
  · exact (hfp b hb).2.2.2.2.1 x c (hcl x c e) z
  · exact Nat.le_trans I.ok.bsz I.sz
  · rcases (hfp b hb).2.2.2.1 with z | z
    · exact I.ok.noex b ob e z
    · exact absurd (Nat.lt_of_lt_of_le (Heap.lt_size (I.ok.bs b ob e).1) z) (Nat.lt_irrefl _)
  · rcases List.mem_cons.mp (I.stkSub b hs) with z | z
    · exact (hfp b hb).2.1 z
    · exact (hfp b hb).2.2.1 z
  · obtain ⟨hfree, _, j, f1, f2⟩ := B.val σ i x v e1 e2
    obtain ⟨m, hn, hl⟩ := I.loc
    have hk := B.free (x, .free) (PySem.mem_of_lookup hfree) rfl
    obtain ⟨u, ru, hu⟩ := hl j x v f1 f2 (hk.elim (fun z => .inr (.inl z)) fun z => .inr (.inr z))
    rcases hu with ⟨k, _⟩ | ⟨_, c, ec, ic⟩
    · rcases hk with z | z
      · exact absurd (k.symm.trans z) (by decide)
      · exact absurd (k.symm.trans z) (by decide)
    · refine ⟨u, ru, .inr ⟨?_, c, clOf_has hfree ec, ic.keeps keep⟩⟩
      rcases hv with z | z | z
      · have z' : (relabel scope X.env).names.lookup x = some .local := z
        rcases relabel_free (env := X.env) hfree with y | y
        · exact absurd (z'.symm.trans y) (by decide)
        · exact absurd (z'.symm.trans y) (by decide)
      · exact .inl z
      · exact .inr z
  · obtain ⟨v, ic⟩ := I.cell x c (hcl x c e)
    exact ⟨v, ic.keeps keep⟩
  · show upd H D o C = none
    rw [upd_ne (Ne.symm hDC)]
    exact I.hok.fresh hC
  · show upd H D o c = none
    obtain ⟨v, ic⟩ := I.cell x c (hcl x c e)
    rw [upd_ne (Nat.ne_of_lt (Nat.lt_of_lt_of_le ic.lt hD))]
    exact I.freeC x c (hcl x c e)
end

/-! ### the loop of a comprehension, whatever its target -/
section
variable {prog : Program} {w : World} {A : Around} {R : Result → Shared → Prop} {s : Shared}
theorem compLoop_own {elt target iter : Expr} {ifs : List Expr} {scope : Scope} {pos : Pos} {it acc : Value} {env : Env} (I : Nat → Shared → Prop)
    (turn : ∀ n s, I n s → wpAny (model prog w) A (pyNext it) (fun r s₁ => match r with
      | none => R (.ok .next) s₁
      | some v => wpAny (model prog w) A (letOwnedTupleGo target it v) (fun _ s₁ => wpAny (model prog w) A (assign target env v) (fun _ s₂ =>
          wpAny (model prog w) A (forIn ifs true fun c r => if r = true then do let ok ← isTrue c env (eval c env); pure (ForInStep.yield ok) else pure (ForInStep.yield r)) (fun ok s₃ =>
            if ok = true then wpAny (model prog w) A (eval elt env) (fun x s₄ =>
              wpAny (model prog w) A (call (.builtin "list.append") [acc, x]) (fun _ s₅ => ∃ m, m < n ∧ I m s₅) (fun _ _ => False) s₄) (fun _ _ => False) s₃
            else ∃ m, m < n ∧ I m s₃) (fun _ _ => False) s₂) (fun _ _ => False) s₁) (fun _ _ => False) s₁) (fun _ _ => False) s)
    (n : Nat) (h : I n s) : codeAny (model prog w) A (.compLoop (.ListComp elt [⟨target, iter, ifs, 0⟩] scope pos) 0 it acc env) R s := by
  refine codeAny_loop rfl I (fun n s hI => ?_) n h
  show wpAny _ A ((compTurn (.ListComp elt [⟨target, iter, ifs, 0⟩] scope pos) 0 it acc env).onRaise (fun x => do noteFrame x env; theTreesLotGoes x)) _ _ s
  refine wpAny_noted ?_
  rw [compTurn_list]
  refine wpAny_bind (wpAny_standAt (wpAny_bind (wpAny_mono (turn n s hI) (fun r s₁ h₁ => ?_) fun _ _ h' => h'.elim)))
  cases r with
  | none => exact wpAny_pure h₁
  | some v =>
    refine wpAny_bind (wpAny_mono h₁ (fun _ s₁ h₁ => ?_) fun _ _ h' => h'.elim)
    refine wpAny_bind (wpAny_mono h₁ (fun _ s₂ h₂ => wpAny_bind (wpAny_mono h₂ (fun ok s₃ h₃ => ?_) fun _ _ h' => h'.elim)) fun _ _ h' => h'.elim)
    cases ok with
    | false => exact wpAny_pure ⟨rfl, h₃⟩
    | true =>
      exact wpAny_bind (wpAny_bind (wpAny_mono h₃ (fun x s₄ h₄ => wpAny_bind (wpAny_mono h₄ (fun _ s₅ h₅ => wpAny_pure (wpAny_pure ⟨rfl, h₅⟩)) fun _ _ h' => h'.elim)) fun _ _ h' => h'.elim))
end
/-- the targets alone are stored -/
def GOnly (g : TG) (ks : List Nat) : Prop := ∀ v σ H (Q : St → Hp → Prop), g v σ H Q → g v σ H (fun σ' H' => Q σ' H' ∧ σ'.length = σ.length ∧ ∀ k, k ∉ ks → σ'[k]? = σ[k]?)
def GOnlys (g : TGs) (ks : List Nat) : Prop := ∀ vs σ H (Q : St → Hp → Prop), g vs σ H Q → g vs σ H (fun σ' H' => Q σ' H' ∧ σ'.length = σ.length ∧ ∀ k, k ∉ ks → σ'[k]? = σ[k]?)
theorem go_name {i : Nat} {ks : List Nat} (h : i ∈ ks) : GOnly (gName i) ks := fun v σ H Q q => ⟨q, List.length_set, fun k hk => List.getElem?_set_ne (fun (e : i = k) => hk (e ▸ h))⟩
theorem gos_nil {ks : List Nat} : GOnlys gNil ks := fun vs σ H Q ⟨e, q⟩ => ⟨e, q, rfl, fun _ _ => rfl⟩
/-- a target's reading is monotone -/
def GMono (g : TG) : Prop := ∀ v σ H (Q Q' : St → Hp → Prop), (∀ σ' H', Q σ' H' → Q' σ' H') → g v σ H Q → g v σ H Q'
def GMonos (g : TGs) : Prop := ∀ v σ H (Q Q' : St → Hp → Prop), (∀ σ' H', Q σ' H' → Q' σ' H') → g v σ H Q → g v σ H Q'
theorem gm_name {i : Nat} : GMono (gName i) := fun v σ H Q Q' imp q => imp _ _ q
theorem gms_nil : GMonos gNil := fun v σ H Q Q' imp ⟨e, q⟩ => ⟨e, imp _ _ q⟩
theorem gms_cons {t : TG} {u : TGs} (h1 : GMono t) (h2 : GMonos u) : GMonos (gCons t u) := fun vs σ H Q Q' imp ⟨v, r, e, q⟩ => ⟨v, r, e, h1 _ _ _ _ _ (fun σ' H' q' => h2 _ _ _ _ _ imp q') q⟩
theorem gos_cons {t : TG} {u : TGs} {ks : List Nat} (h1 : GOnly t ks) (m1 : GMono t) (h2 : GOnlys u ks) (m2 : GMonos u) : GOnlys (gCons t u) ks := fun vs σ H Q ⟨v, r, e, q⟩ =>
  ⟨v, r, e, m1 _ _ _ _ _ (fun σ' H' ⟨q', l', k'⟩ => m2 _ _ _ _ _ (fun σ2 H2 ⟨q2, l2, k2⟩ => ⟨q2, l2.trans l', fun k hk => (k2 k hk).trans (k' k hk)⟩) (h2 _ _ _ _ q')) (h1 _ _ _ _ q)⟩
theorem go_tup {K : PySem.W.Frag} {n : Nat} {t : TGs} {ks : List Nat} (h : GOnlys t ks) : GOnly (gTup K n t) ks := fun v σ H Q ⟨a, xs, e1, e2, e3, q⟩ => ⟨a, xs, e1, e2, e3, h _ _ _ _ q⟩
theorem gm_tup {K : PySem.W.Frag} {n : Nat} {t : TGs} (h : GMonos t) : GMono (gTup K n t) := fun v σ H Q Q' imp ⟨a, xs, e1, e2, e3, q⟩ => ⟨a, xs, e1, e2, e3, h _ _ _ _ _ imp q⟩
/-- the tests of a clause -/
def PIfs (X : Cx) (ifs : List Expr) (t : TT) : Prop :=
  ∀ (pins : List (Addr × Obj)) (s : Shared) (σ : St) (H : Hp) (Q : Bool → Hp → Prop), Inv X pins σ H s → t σ H Q →
    wpAny (model X.prog X.w) X.A (forIn ifs true fun c r => if r = true then do let ok ← isTrue c X.env (eval c X.env); pure (ForInStep.yield ok) else pure (ForInStep.yield r)) (TP X pins σ Q) X.xe s
def tYes : TT := fun _ H Q => Q true H
theorem pf_nil {X : Cx} : PIfs X [] tYes := fun _ _ _ H _ I h => wpAny_tests_nil ⟨H, I, h⟩
theorem pf_one {X : Cx} {c : Expr} {t : TT} (h : PT X c t) : PIfs X [c] t := fun pins s σ H Q I q => wpAny_tests_one (h pins s σ H Q I q)
/-! ### [e for t in i if c] -/
/-- W: by the turn, a measure, what has been gathered, the heap -/
def tLC (wi : TI) (st : St → St) (g : TG) (tt : TT) (te : TE) : TE := fun σ H Q => wi σ H fun J H1 => ∀ l, H1 l = none → ∃ W : Nat → Nat → List V → Hp → Prop, (∃ m, W 0 m [] (upd H1 l (.lst []))) ∧
  ∀ i m acc H2, W i m acc H2 → H2 l = some (.lst acc) ∧ acc.length < sizeLine ∧ ((J.stop i H2 ∧ Q (.ref l) H2) ∨ (J.go i H2 ∧ ∀ x H3, J.yld i H2 x H3 → g x (st σ) H3 fun σ4 H4 => tt σ4 H4 fun ok H5 =>
    if ok = true then te σ4 H5 fun y H6 => H6 l = some (.lst acc) ∧ ∃ m', m' < m ∧ W (i + 1) m' (acc ++ [y]) (upd H6 l (.lst (acc ++ [y]))) else ∃ m', m' < m ∧ W (i + 1) m' acc H5))
section
variable {X : Cx} {elt tg iter : Expr} {ifs : List Expr} {scope : Scope} {pos : Pos} {N : List Str} {st : St → St} {ks : List Nat} {wi : TI} {g : TG} {tt : TT} {te : TE}
/-- the block: from the iterator to the list -/
theorem lc_block (B : BlkNames X scope N st ks) (hc : X.calm = true) (hg : ∀ C fp s₀ H₀, PG (X.block scope C N fp s₀ H₀) tg g) (hgo : GOnly g ks) (ht : ∀ C fp s₀ H₀, PIfs (X.block scope C N fp s₀ H₀) ifs tt)
    (he : ∀ C fp s₀ H₀, PE (X.block scope C N fp s₀ H₀) elt te) {pins : List (Addr × Obj)} {σ : St} {H1 : Hp} {s₂ : Shared} {it : Addr} {fp : List Addr} {tn : Nat → Heap → Prop} {J : It} {Q : VK} {RR : Value → Addr → Result → Shared → Prop} {E : Value → Shared → Prop}
    (I : Inv X pins σ H1 s₂) (T : Turn X.prog X.w X.K tg J fp it tn) (h0 : tn 0 s₂.heap) (hfp : ∀ b ∈ fp, FpOk X pins H1 b)
    (h : ∀ l, H1 l = none → ∃ W : Nat → Nat → List V → Hp → Prop, (∃ m, W 0 m [] (upd H1 l (.lst []))) ∧
      ∀ i m acc H2, W i m acc H2 → H2 l = some (.lst acc) ∧ acc.length < sizeLine ∧ ((J.stop i H2 ∧ Q (.ref l) H2) ∨ (J.go i H2 ∧ ∀ x H3, J.yld i H2 x H3 → g x (st σ) H3 fun σ4 H4 => tt σ4 H4 fun ok H5 =>
        if ok = true then te σ4 H5 fun y H6 => H6 l = some (.lst acc) ∧ ∃ m', m' < m ∧ W (i + 1) m' (acc ++ [y]) (upd H6 l (.lst (acc ++ [y]))) else ∃ m', m' < m ∧ W (i + 1) m' acc H5)))
    (hRR : ∀ D C H' s', (∃ σ', Inv (X.block scope C N fp s₂ H1) [] σ' H' s') → s₂.heap.objs.size ≤ C → Q (.ref D) H' → RR (.ref D) C (.ok .next) s') :
    wpAny (model X.prog X.w) X.A (newList []) (fun acc s₃ => wpAny (model X.prog X.w) X.A (newFunctionEnv scope X.env.globals (clOf scope X.env) [] X.env.qual none .none (some X.env)) (fun cenv s₄ =>
      codeAny (model X.prog X.w) X.A (.compStart (.ListComp elt [⟨tg, iter, ifs, 0⟩] scope pos) 0 (.ref it) acc { cenv with scope := relabel scope X.env }) (RR acc cenv.locals) s₄) E s₃) E s₂ := by
  refine wpAny_newObj_type (wpAny_newFunctionEnv B.cell (by intro y hy; simp at hy) (fun h₁ hns₁ hsb₁ => ?_) B.kind)
  dsimp only at hns₁ hsb₁ ⊢
  generalize hH2 : s₂.heap.push { cls := .type "list", dict := none, data := .seq ([] : List Value).toArray } = P2 at hns₁ hsb₁ ⊢
  have hC : P2.objs.size = s₂.heap.objs.size + 1 := by rw [← hH2, Heap.size_push]
  have hDC : s₂.heap.objs.size ≠ P2.objs.size := by rw [hC]; exact Nat.ne_of_lt (Nat.lt_succ_self _)
  have hCle : s₂.heap.objs.size ≤ P2.objs.size := by rw [hC]; exact Nat.le_succ _
  have old : ∀ b o, s₂.heap.get? b = some o → h₁.get? b = some o := fun b o e =>
    hsb₁.extBut b o (by rw [hC]; exact Nat.ne_of_lt (Nat.lt_succ_of_lt (Heap.lt_size e))) (Heap.get?_push_of_some _ (hH2 ▸ Heap.get?_push_of_some _ e))
  have hacc : h₁.get? s₂.heap.objs.size = some { cls := .type "list", dict := none, data := .seq ([] : List Value).toArray } := hsb₁.extBut _ _ hDC (Heap.get?_push_of_some _ (hH2 ▸ Heap.get?_push_size _ rfl))
  generalize hCe : P2.objs.size = C at hns₁ hsb₁ hDC hCle ⊢
  have hHD : H1 s₂.heap.objs.size = none := I.hok.fresh (Nat.le_refl _)
  have I0 : Inv (X.block scope C N fp s₂ H1) [] (st σ) (upd H1 s₂.heap.objs.size (.lst [])) { s₂ with heap := h₁, toks := s₂.toks + ([] : List (Str × Value)).length } :=
    I.block B hfp (fun b hb => by obtain ⟨o, e, _⟩ := T.obj 0 _ h0 b hb; exact ⟨o, e⟩) (Nat.le_refl _) hCle hDC old (by simpa using hns₁) ⟨Nat.zero_le _, [], 0, .nil, hacc⟩
  obtain ⟨W, ⟨m0, w0⟩, step⟩ := h _ hHD
  have h01 : tn 0 h₁ := T.keep 0 _ _ h0 fun b _ o e => old b o e
  have stat : ∀ {H' : Hp}, (∀ b ∈ fp, H' b = none) → ∀ b ∈ fp, FpOk (X.block scope C N fp s₂ H1) [] H' b := fun {H'} hn b hb =>
    ⟨hn b hb, (I0.ok.exf b hb).1, I0.ok.exfs b hb, .inl hb, fun x c e => (I0.ok.exf b hb).2 x c e, fun p hp => absurd (show p ∈ ([] : List (Addr × Obj)) from hp) (by simp)⟩
  have fr0 : ∀ b ∈ fp, upd H1 s₂.heap.objs.size (.lst []) b = none := fun b hb => by
    obtain ⟨o, e, _⟩ := T.obj 0 _ h0 b hb
    rw [upd_ne (Nat.ne_of_lt (Heap.lt_size e))]
    exact (hfp b hb).1
  have loop : ∀ s₃ : Shared, s₃ = { s₂ with heap := h₁, toks := s₂.toks + ([] : List (Str × Value)).length } →
      codeAny (model X.prog X.w) X.A (.compLoop (.ListComp elt [⟨tg, iter, ifs, 0⟩] scope pos) 0 (.ref it) (.ref s₂.heap.objs.size) (X.block scope C N fp s₂ H1).env) (RR (.ref s₂.heap.objs.size) C) s₃ := by
    rintro s₃ rfl
    refine compLoop_own (fun n s' => ∃ i acc H2, Inv (X.block scope C N fp s₂ H1) [] (st σ) H2 s' ∧ tn i s'.heap ∧ (∀ b ∈ fp, H2 b = none) ∧ W i n acc H2) ?_ m0 ⟨0, [], _, I0, h01, fr0, w0⟩
    rintro n s3 ⟨i, acc, H2, I2, st2, fr2, w2⟩
    obtain ⟨hl, hz, alt⟩ := step i n acc H2 w2
    rcases alt with ⟨stop, q⟩ | ⟨go, nxt⟩
    · refine thn (T.done (X.block scope C N fp s₂ H1) rfl rfl rfl hc i [] s3 (st σ) H2 _ I2 (stat fr2) st2 stop) fun r s4 ⟨hr, I4⟩ => ?_
      subst hr
      exact hRR _ C H2 s4 ⟨_, I4⟩ hCle q
    · refine thn (T.item (X.block scope C N fp s₂ H1) rfl rfl rfl hc i [] s3 (st σ) H2 _ I2 (stat fr2) st2 go) fun r s4 ⟨u, hr, h4⟩ => ?_
      subst hr
      refine thn h4 fun _ s5 ⟨x, H5, I5, r5, y5, st5, fr5⟩ => ?_
      have I5' := I5.pinned (stat fr5) (T.obj _ _ st5)
      refine thn (hg C fp s₂ H1 _ s5 (st σ) H5 x u _ I5' r5 (hgo _ _ _ _ (nxt x H5 y5))) fun _ s6 ⟨σ6, H6, I6, q6, len6, ag6⟩ => ?_
      refine thn (ht C fp s₂ H1 _ s6 σ6 H6 _ I6 q6) fun ok s7 ⟨H7, I7, q7⟩ => ?_
      have again : ∀ {H9 : Hp} {s9 : Shared} {acc' : List V}, Inv (X.block scope C N fp s₂ H1) ([] ++ pinsAt fp s5.heap) σ6 H9 s9 → (∃ m', m' < n ∧ W (i + 1) m' acc' H9) →
          ∃ m, m < n ∧ ∃ i acc H2, Inv (X.block scope C N fp s₂ H1) [] (st σ) H2 s9 ∧ tn i s9.heap ∧ (∀ b ∈ fp, H2 b = none) ∧ W i m acc H2 := fun {H9 s9 acc'} I9 ⟨m', hm, w9⟩ => by
        have pin9 : ∀ b ∈ fp, ∀ o, s5.heap.get? b = some o → s9.heap.get? b = some o ∧ H9 b = none := fun b hb o e => by
          have z := I9.pin (b, o) (List.mem_append_right _ (List.mem_append_right _ (mem_pinsAt hb e)))
          exact ⟨z.1, z.2.1⟩
        refine ⟨m', hm, i + 1, acc', H9, I9.unpinned.weak (by rw [len6]) (fun k v e => ?_), T.keep _ _ _ st5 fun b hb o e => (pin9 b hb o e).1, fun b hb => ?_, w9⟩
        · have hk : k < (st σ).length := (List.getElem?_eq_some_iff.mp e).1
          have hkN : k < N.length := by rw [← B.len σ]; exact hk
          obtain ⟨_, hks, _⟩ := B.val σ k _ v (List.getElem?_eq_getElem hkN) e
          rw [ag6 k hks]
          exact e
        · obtain ⟨o, e, _⟩ := T.obj _ _ st5 b hb
          exact (pin9 b hb o e).2
      cases ok with
      | false =>
        rw [if_neg Bool.false_ne_true] at q7 ⊢
        exact again I7 q7
      | true =>
        rw [if_pos rfl] at q7 ⊢
        refine thn (he C fp s₂ H1 _ s7 σ6 H7 _ I7 q7) fun u8 s8 ⟨y, H8, I8, r8, hl8, q8⟩ => ?_
        refine thn (mt_append _ s8 σ6 H8 (.ref s₂.heap.objs.size) [y] (.ref s₂.heap.objs.size) [u8] (fun _ H9 => H9 = upd H8 s₂.heap.objs.size (.lst (acc ++ [y]))) I8 rfl (.cons r8 .nil) ⟨_, acc, y, rfl, rfl, hl8, hz, rfl⟩) fun _ s9 ⟨_, H9, I9, _, e9⟩ => ?_
        subst e9
        exact again I9 q8
  exact codeAny_compStart_list (loop _ rfl) (T.self X.A 0 _ _ _ h01 (loop _ rfl))
/-- behind the block: the def's own frame again -/
theorem back_of {pins : List (Addr × Obj)} {σ : St} {H1 H' : Hp} {s₂ s' : Shared} {fp : List Addr} {C : Addr} (I : Inv X pins σ H1 s₂) (hfp : ∀ b ∈ fp, FpOk X pins H1 b) (h : ∃ σ', Inv (X.block scope C N fp s₂ H1) [] σ' H' s') : Inv X pins σ H' s' := by
  obtain ⟨σ', J⟩ := h
  exact I.call' (ch := fp) J.os J.base J.hok J.bare fun b hb => ⟨(hfp b hb).2.2.2.1, (hfp b hb).2.1, (hfp b hb).2.2.2.2.1, (hfp b hb).2.2.2.2.2⟩
theorem pe_lc (B : BlkNames X scope N st ks) (hc : X.calm = true) (hi : PI X tg iter wi) (hg : ∀ C fp s₀ H₀, PG (X.block scope C N fp s₀ H₀) tg g) (hgo : GOnly g ks) (ht : ∀ C fp s₀ H₀, PIfs (X.block scope C N fp s₀ H₀) ifs tt)
    (he : ∀ C fp s₀ H₀, PE (X.block scope C N fp s₀ H₀) elt te) (hs : ∀ x, foldedSetIterable iter X.env x = pure x := by intro _; rfl) : PE X (.ListComp elt [⟨tg, iter, ifs, 0⟩] scope pos) (tLC wi st g tt te) := by
  intro pins s σ H Q I h
  have hcl : closureFor scope X.env = pure (clOf scope X.env) := closureFor_eq fun y hy hk => I.ok.has _ (B.free y hy hk)
  rw [eval_ListComp]
  refine wpAny_comprehension_free (use := none) rfl hs hcl B.kind B.loc (thn (hi pins s σ H _ I h) fun v s1 h1 => thn h1 fun itv s2 h2 => ?_)
  obtain ⟨it, fp, tn, J, H2, e, I2, T, st2, f2, hq⟩ := h2
  subst e
  refine lc_block (RR := fun acc C => compPost (model X.prog X.w) X.A X.xe none (EP X pins σ Q) acc C) B hc hg hgo ht he I2 T st2 f2 hq ?_
  intro D C H' s' hJ hCle q
  have I3 := back_of I2 f2 hJ
  obtain ⟨σ', J'⟩ := hJ
  obtain ⟨m, hn, _⟩ := id J'.loc
  have hHC : H' C = none := J'.free
  refine ⟨m, hn, fun h'' hs'' => ⟨.ref D, H', ?_, rfl, q⟩⟩
  exact I3.turned (t' := s'.toks) (fun b o ne e => (hs''.2 b ne).trans e) hHC (Nat.ne_of_gt (Nat.lt_of_lt_of_le I2.lt hCle)) (.inr (Nat.le_trans I2.sz hCle))
    (fun x c e z => by obtain ⟨v, ic⟩ := I2.cell x c e; exact absurd (Nat.lt_of_lt_of_le ic.lt (by rw [z]; exact hCle)) (Nat.lt_irrefl _))
    (fun p hp z => absurd (Nat.lt_of_lt_of_le (Heap.lt_size (I2.pin p hp).1) (by rw [z]; exact hCle)) (Nat.lt_irrefl _))
/-- x = [..]: the name is stored ahead of the block's end -/
theorem ps_setLC {i : Nat} {x : Str} {pos' spos : Pos} (hN : X.N.Nodup) (hx1 : X.N[i]? = some x) (hx2 : Loc X.env.scope x) (B : BlkNames X scope N st ks) (hc : X.calm = true) (hi : PI X tg iter wi) (hg : ∀ C fp s₀ H₀, PG (X.block scope C N fp s₀ H₀) tg g) (hgo : GOnly g ks)
    (ht : ∀ C fp s₀ H₀, PIfs (X.block scope C N fp s₀ H₀) ifs tt) (he : ∀ C fp s₀ H₀, PE (X.block scope C N fp s₀ H₀) elt te) (hsw : swapsWith (.ListComp elt [⟨tg, iter, ifs, 0⟩] scope pos) (some (.Name x pos')) spos.line X.env = pure true)
    (hs : ∀ x, foldedSetIterable iter X.env x = pure x := by intro _; rfl) (hf : X.fn x = true ∨ X.env.scope.names.lookup x = some .local := by first | exact .inl rfl | exact .inr rfl | assumption) :
    PS X (.Assign [.Name x pos'] (.ListComp elt [⟨tg, iter, ifs, 0⟩] scope pos) spos) (tAsg (tLC wi st g tt te) (gName i)) := by
  intro pins s σ H D I h
  have hcl : closureFor scope X.env = pure (clOf scope X.env) := closureFor_eq fun y hy hk => I.ok.has _ (B.free y hy hk)
  rw [exec_Assign_Name_used _ _ _ _ hsw]
  refine wpAny_bind (wpAny_standAt (wpAny_bind ?_))
  show wpAny _ _ (do let _ ← comprehension (.ListComp elt [⟨tg, iter, ifs, 0⟩] scope pos) scope X.env _ (newList []) false (eval iter X.env) (some (assign (.Name x pos') X.env))) _ _ s
  refine wpAny_bind (wpAny_mono (wpAny_comprehension_free (use := some (assign (.Name x pos') X.env)) (Q := fun _ s' => SP X pins D .next s') rfl hs hcl B.kind B.loc (thn (hi pins s σ H _ I h) fun v s1 h1 => thn h1 fun itv s2 h2 => ?_)) (fun _ s' hq => wpAny_pure (wpAny_pure hq)) fun _ _ e => e)
  obtain ⟨it, fp, tn, J, H2, e, I2, T, st2, f2, hq⟩ := h2
  subst e
  refine lc_block (Q := fun x H1 => gName i x σ H1 D.nx) (RR := fun acc C => compPost (model X.prog X.w) X.A X.xe (some (assign (.Name x pos') X.env)) (fun _ s' => SP X pins D .next s') acc C) B hc hg hgo ht he I2 T st2 f2 hq ?_
  intro DD C H' s' hJ hCle q
  have I3 := back_of I2 f2 hJ
  obtain ⟨σ', J'⟩ := hJ
  obtain ⟨m, hn, _⟩ := id J'.loc
  have hHC : H' C = none := J'.free
  have neL : C ≠ X.env.locals := Nat.ne_of_gt (Nat.lt_of_lt_of_le I2.lt hCle)
  have neC : ∀ x c, X.env.cells.lookup x = some c → c ≠ C := fun x c e z => by obtain ⟨v, ic⟩ := I2.cell x c e; exact absurd (Nat.lt_of_lt_of_le ic.lt (by rw [z]; exact hCle)) (Nat.lt_irrefl _)
  show wpAny _ _ (assign (.Name x pos') X.env (.ref DD)) _ _ _
  refine wpAny_assign_Name ?_
  refine store_ok2 I3 hN hx1 hx2 (show RelV (.ref DD) (.ref DD) from rfl) (fun s4 I4 ⟨a, hsa, ha⟩ => ?_) hf
  have nea : C ≠ a := by
    rcases ha with z | z
    · rw [z]; exact neL
    · exact Ne.symm (neC _ _ z)
  refine ⟨m, hn.sameBut hsa nea, fun h'' hs'' => ⟨_, H', ?_, q⟩⟩
  exact I4.turned (t' := s4.toks) (fun b o ne e => (hs''.2 b ne).trans e) hHC neL (.inr (Nat.le_trans I2.sz hCle)) neC
    (fun p hp z => absurd (Nat.lt_of_lt_of_le (Heap.lt_size (I2.pin p hp).1) (by rw [z]; exact hCle)) (Nat.lt_irrefl _))
end
end L2

set_option Elab.async false
set_option linter.all false
set_option maxRecDepth 100000
set_option maxHeartbeats 4000000
/-! EXCEPTIONS over the hand layer: raised by an own class, passed through defs -/
namespace L2
open PySem PySem.Spec PyProof.Rows
/-- an exception has left a def that was entered at s with H: it flies over the frames outer; B: what stands beside it, as it stood when it was raised -/
def CX1 (P : Program) (w : World) : CXT := fun outer H s E e s' => ∃ (ea : Addr) (cls a0 : Value) (B : Heap) (H' : Hp), e = .ref ea ∧ s'.os = s.os ∧ AllBare s'.gens ∧ Un (frs outer) [] H H' s.heap s'.heap ∧ HOk P w H' B ∧ Heap.FlyingW B outer ea cls a0 s'.heap ∧
  (∀ b o, s.heap.get? b = some o → H b = none → b ∉ frs outer → B.get? b = some o) ∧ (∀ b o, s.heap.get? b = some o → b ∉ frs outer → ∃ o', B.get? b = some o') ∧ E cls none H'
/-- the context of a def's (or a lambda's) body whose exceptions leave it as CX1 says -/
structure DefCx (X : Cx) (E : XK) : Prop where
  stk : X.stack = X.env :: X.outer
  fr : X.env.frame = some X.env.locals
  ex : X.ex = []
  xe : X.xe = fun e s' => wpAny (model X.prog X.w) X.A (leaving X.env e) (fun _ s'' => CX1 X.prog X.w X.outer X.H₀ X.s₀ E e s'') (fun e' s'' => CX1 X.prog X.w X.outer X.H₀ X.s₀ E e' s'') s'
theorem DefCx.of {P : Program} {w : World} {K : PySem.W.Frag} {mg : Str → Option Value} {base : Heap} {N : List Str} {qual : Str} {scope : Scope} {f : Addr} {cd : Value} {A : Around} {outer : List Env} {s₀ : Shared} {H₀ : Hp} {E : XK} :
    DefCx (cxOf (CX1 P w) P w K mg base N qual scope f cd A outer s₀ H₀ E) E := ⟨rfl, rfl, rfl, rfl⟩
section
variable {X : Cx} {E : XK}
/-- what stays where an exception flies on, seen from the def's entry -/
theorem fly_un {pins : List (Addr × Obj)} {σ : St} {H H' : Hp} {s : Shared} {B h' : Heap} (hX : X.ex = []) (I : Inv X pins σ H s)
    (a1 : ∀ b o, s.heap.get? b = some o → H b = none → b ∉ frs X.stack → B.get? b = some o) (a2 : ∀ b o, s.heap.get? b = some o → b ∉ frs X.stack → ∃ o', B.get? b = some o')
    (a3 : B.StaysIn h') (a4 : ∀ b o, b ∈ frs X.outer → s.heap.get? b = some o → H b = none → (∀ vs, o.data ≠ .fields vs) → ∃ sl, h'.get? b = some { o with slots := sl })
    (a5 : ∀ b o, s.heap.get? b = some o → H b = none → H' b = none) (a6 : ∀ b xs, H b = some (.tup xs) → H' b = some (.tup xs)) (a7 : ∀ b o u, H b = some (.frz o u) → H' b = some (.frz o u)) (a8 : ∀ b ps, H b = some (.tbl ps) → ∃ more, H' b = some (.tbl (ps ++ more))) :
    Un (frs X.outer) [] X.H₀ H' X.s₀.heap h' ∧ (∀ b o, X.s₀.heap.get? b = some o → X.H₀ b = none → b ∉ frs X.outer → B.get? b = some o) ∧ (∀ b o, X.s₀.heap.get? b = some o → b ∉ frs X.outer → ∃ o', B.get? b = some o') := by
  have nx : ∀ b, b ∉ X.ex := fun b z => by rw [hX] at z; cases z
  have noS : ∀ b o, X.s₀.heap.get? b = some o → b ∉ frs X.outer → b ∉ frs X.stack := fun b o e nf hb => by
    rcases List.mem_cons.mp (I.stkSub b hb) with z | z
    · exact absurd z (Nat.ne_of_lt (Nat.lt_of_lt_of_le (Heap.lt_size e) I.ok.above))
    · exact nf z
  have bk : ∀ b o, X.s₀.heap.get? b = some o → X.H₀ b = none → b ∉ frs X.outer → B.get? b = some o := fun b o e n nf =>
    a1 b o (I.base.keep b o e n nf (nx b)) (I.base.free b o e n (nx b)) (noS b o e nf)
  have ba : ∀ b o, X.s₀.heap.get? b = some o → b ∉ frs X.outer → ∃ o', B.get? b = some o' := fun b o e nf => by
    obtain ⟨o1, e1⟩ := I.base.there b o e (nx b)
    exact a2 b o1 e1 (noS b o e nf)
  have sl : ∀ b o, X.s₀.heap.get? b = some o → X.H₀ b = none → b ∈ frs X.outer → ∃ sl, h'.get? b = some { o with slots := sl } := fun b o e n hb => by
    obtain ⟨sl1, e1⟩ := I.base.slot b o e n hb (nx b)
    obtain ⟨_, o2, ho2, hnf⟩ := I.ok.funs.mem hb
    rw [e] at ho2
    cases ho2
    obtain ⟨sl2, e2⟩ := a4 b _ hb e1 (I.base.free b o e n (nx b)) hnf
    exact ⟨sl2, e2⟩
  refine ⟨⟨fun b o e n nf _ => a3 b o (bk b o e n nf), fun b o e n hb _ => sl b o e n hb, fun b o e n _ => ?_, fun b o e _ => ?_, fun b xs e => a6 b xs (I.base.tups b xs e), fun b o u e => a7 b o u (I.base.frzs b o u e), fun b ps e => ?_⟩, bk, ba⟩
  · obtain ⟨o1, e1⟩ := I.base.there b o e (nx b)
    exact a5 b o1 e1 (I.base.free b o e n (nx b))
  · by_cases hb : b ∈ frs X.outer
    · obtain ⟨s2, e2⟩ := sl b o e (I.ok.frf b hb) hb
      exact ⟨_, e2⟩
    · obtain ⟨o', e'⟩ := ba b o e hb
      exact ⟨o', a3 b o' e'⟩
  · obtain ⟨m1, e1⟩ := I.base.tbls b ps e
    obtain ⟨m2, e2⟩ := a8 b _ e1
    exact ⟨m1 ++ m2, by rw [e2, Array.append_assoc]⟩
/-- an exception of a callee goes on through the def -/
theorem DefCx.pass (D : DefCx X E) : Passes (CX1 X.prog X.w) X E := by
  intro pins σ H s e s' I h
  obtain ⟨ea, cls, a0, B, H', rfl, os, bare, un, hok, fly, bk, ba, hE⟩ := h
  rw [D.xe]
  have fly' := fly
  rw [D.stk] at fly'
  have hfr := I.ok.frames
  rw [D.stk] at hfr
  refine wpAny_leaves_onW (L := X.env.locals) hfr D.fr fly' fun h' fl up => ?_
  have a4 : ∀ b o, b ∈ frs X.outer → s.heap.get? b = some o → H b = none → (∀ vs, o.data ≠ .fields vs) → ∃ sl, h'.get? b = some { o with slots := sl } := fun b o hb e n nf => by
    have hb' : b ∈ frs X.stack := by
      rw [D.stk]
      unfold frs
      rw [List.filterMap_cons, D.fr]
      exact List.mem_cons_of_mem _ hb
    obtain ⟨s1, e1⟩ := un.slot b o e n hb' (fun z => nomatch z)
    obtain ⟨s2, e2⟩ := up b _ e1 nf
    exact ⟨s2, e2⟩
  obtain ⟨u1, u2, u3⟩ := fly_un (B := B) (h' := h') (H' := H') D.ex I bk ba fl.1 a4 (fun b o e n => un.free b o e n (fun z => nomatch z)) un.tups un.frzs un.tbls
  exact ⟨ea, cls, a0, B, H', rfl, os.trans I.os, bare, u1, hok, fl, u2, u3, hE⟩
/-- a new exception leaves the def -/
theorem DefCx.raise (D : DefCx X E) {pins : List (Addr × Obj)} {σ : St} {H : Hp} {s : Shared} {ea : Addr} {h1 : Heap} {cls : Value} {vs : List Value} (I : Inv X pins σ H s)
    (hx : Heap.MadeExcOf s.heap h1 ea cls vs) (hE : E cls none H) : X.xe (.ref ea) { s with heap := h1 } := by
  rw [D.xe]
  have stk : s.heap.FunFrames X.base X.stack := I.stack
  have hin : ∀ env ∈ X.stack, ∀ a, env.frame = some a → a ∈ frs X.stack := fun env he a ha => List.mem_filterMap.mpr ⟨env, he, ha⟩
  have stk2 := PySem.W.funFrames_hide stk hin
  have hfr := I.ok.frames
  rw [D.stk] at hfr
  have stk3 : s.heap.FunFrames (PySem.W.hideAll s.heap (frs X.stack)) (X.env :: X.outer) := by rw [← D.stk]; exact stk2
  refine wpAny_leaves_madeW (L := X.env.locals) (base := PySem.W.hideAll s.heap (frs X.stack)) hfr D.fr (fun b o q => PySem.W.of_hideAll _ q) stk3 hx fun h' t fl tup bn up => ?_
  have hok : HOk X.prog X.w H (PySem.W.hideAll s.heap (frs X.stack)) := fun a o e => by
    refine (I.hok a o e).stay (fun b u hb q => PySem.W.hideAll_get _ q fun hm => ?_) (fun _ z => z) fun _ _ z => z
    have hn := I.stkFree b hm
    rcases hb with z | z
    · rw [z, e] at hn; cases hn
    · rw [z] at hn; cases hn
  obtain ⟨u1, u2, u3⟩ := fly_un (B := PySem.W.hideAll s.heap (frs X.stack)) (h' := h') (H' := H) D.ex I (fun b o e n nf => PySem.W.hideAll_get _ e nf) (fun b o e nf => ⟨o, PySem.W.hideAll_get _ e nf⟩) fl.1
    (fun b o hb e n nf => up b o (hx.keeps b o e) nf) (fun b o e n => n) (fun _ _ e => e) (fun _ _ _ e => e) (fun b ps e => ⟨#[], by rw [e]; simp⟩)
  exact ⟨ea, cls, .ref t, _, H, rfl, I.os, I.bare, u1, hok, fl, u2, u3, hE⟩
/-- loops let it pass -/
theorem DefCx.own (D : DefCx X E) : PassesOwn (model X.prog X.w) X.A X.env X.xe := fun e s' h => by
  rw [D.xe] at h ⊢
  exact wpAny_leaving_again (SameStack.refl _) h
end
section
variable {P : Program} {w : World} {K : PySem.W.Frag} {mg : Str → Option Value} {base : Heap}
/-- THE RULE for a def that may raise -/
theorem Fun.okX {x q : Str} {st : Stmt} {f : Addr} {fd : FuncData} {N ps : List Str} {k : Nat} {sp : Sp} (F : Fun K x q st f fd) (S : FnScope N ps (defScope st)) (len : ∀ vs H Q E, sp vs H Q E → vs.length = ps.length)
    (hbody : ∀ (cdv : Value) (A : Around) (outer : List Env) (s : Shared) (H : Hp) (vs : List V) (Q : VK) (E : XK), Room k (A.deeper (envOfC q (defScope st) s.heap.objs.size f cdv)) → sp vs H Q E →
      ∃ t, PSs (cxOf (CX1 P w) P w K mg base N q (defScope st) f cdv A outer s H E) (defBody st) t ∧ t { nx := fun _ H' => Q .non H', rt := Q } (start N vs) H) : FnOk P w K mg base (CX1 P w) (k + 1) f fd ps sp := by
  obtain ⟨oc, od, kV, doc, pm, an, cdv, ct, osl, rfl, lk, hcd⟩ := F.ex
  exact fn_of lk hcd S len fun A outer s H vs Q E hr hsp => hbody cdv A outer s H vs Q E hr hsp
end
/-! ### raise C(e) -/
/-- an own error class as the top has made it -/
def ExcC (K : PySem.W.Frag) (C : Addr) : Prop := PySem.W.excIn K C [.type "ValueError", .type "Exception", .type "BaseException", .type "object"] "ValueError.__new__" = true
theorem own_of {K : PySem.W.Frag} {h : Heap} {mg : Str → Option Value} {x : Str} {C : Addr} (X : K.In h) (hm : mg x = some (.ref C)) (q : ExcC K C) : OwnCls x C [.type "ValueError", .type "Exception", .type "BaseException", .type "object"] "ValueError.__new__" mg h := by
  refine ⟨hm, ?_⟩
  unfold ExcC PySem.W.excIn at q
  split at q
  · rename_i dd cd sl ho
    split at q
    · rename_i C' bm k0 k1 k2 k3 n k5 hm' hs
      simp only [Bool.and_eq_true, beq_iff_eq, Bool.not_eq_true'] at q
      obtain ⟨⟨⟨⟨⟨rfl, rfl⟩, hdel⟩, ht⟩, hok⟩, hni⟩ := q
      obtain ⟨nm, bs, mro, ns, qn, hd, sn, sub, ab, col, del⟩ := cd
      dsimp only at hm' hdel hok hni
      subst hm' hdel
      have hsl : sl = #[k0, k1, k2, k3, some (.builtin "ValueError.__new__"), k5] := by
        obtain ⟨l⟩ := sl
        simp only at hs
        rw [hs]
      subst hsl
      exact ⟨bm, ns, nm, qn, bs, hd, sn, sub, ab, col, dd, k0, k1, k2, k3, k5, _, X _ _ ho, .of_isNs (PySem.W.isNs_of_in X hok), PySem.W.nsMap_none_of_in X hok hni, PySem.W.tail_of_in X ht⟩
    · cases q
  · cases q
def tRaise (C : Addr) (E : XK) (ta : TA) : TS := fun _ σ H => ta σ H fun vs H1 => vs.length ≤ sizeLine ∧ E (.ref C) none H1
section
variable {X : Cx} {E : XK}
theorem ps_raise (D : DefCx X E) (hc : X.calm = true) {x : Str} {C : Addr} {e₀ : Expr} {rest : List Expr} {ta : TA} {np cpos pos : Pos} (hm : X.mg x = some (.ref C)) (hC : ExcC X.K C) (hg : Gl X x)
    (ha : PA X (e₀ :: rest) ta) (he : starEach (e₀ :: rest) X.env = (false, eval e₀ X.env) :: starEach rest X.env := by rfl)
    (hplain : (backTo cpos (starEach rest X.env)).any (·.1) = false := by rfl) (hd : (x == ("__debug__" : Str)) = false := by decide) :
    PS X (.Raise (some (.Call (.Name x np) (e₀ :: rest) [] cpos)) none pos) (tRaise C E ta) := by
  intro pins s σ H DD I h
  obtain ⟨tl, NN, nm, q, bs, hdct, sn, sub, ab, col, dd, k0, k1, k2, k3, k5, mN, hCo, hN, hni, T⟩ := (own_of (h := X.base) I.mod.kin hm hC).obj
  have FB := PySem.F.excBase_ValueError
  refine wpAny_Raise_call_subU (C := C) (nm := nm) (q := q) (N := NN) (bs := bs) (bm := tl) (hdct := hdct) (sn := sn) (sub := sub) (ab := ab) (col := col) (dd := dd) (k0 := k0) (k1 := k1) (k2 := k2) (k3 := k3) (k5 := k5)
    FB FB.hasB FB (mN := mN) (T.hasType FB.hasBase) (I.ok.hd hc) (by rw [he]; show (false || (backTo cpos (starEach rest X.env)).any (·.1)) = false; rw [hplain]; rfl) hni
    (ld_glob I hg hm ⟨rfl, ?_⟩ hd)
  have harg := ha cpos pins s σ H _ I h
  rw [he] at harg ⊢
  refine Calls.evalArgs_plain (wpAny_mono harg (fun vs s₂ h₂ => ?_) fun _ _ y => y)
  obtain ⟨xs, H2, I2, rv, hz, hE⟩ := h₂
  refine ⟨rfl, by show vs.length ≤ sizeLine; rw [← rv.length]; exact hz, I2.bk _ _ hCo, hN.keeps I2.bk, T.keeps I2.bk, fun h' ea hx => D.raise I2 hx hE⟩
end
end L2

set_option Elab.async false
set_option linter.all false
set_option maxRecDepth 100000
set_option maxHeartbeats 4000000
/-! THINGS AS VALUES over the hand layer: what a def does is told by a plain function over things; who may change a list is told by labels -/
namespace VL
open PySem PySem.Spec PyProof.Rows L2
/-- a thing, by its parts -/
inductive D where
  | non | bl (b : Bool) | int (i : Int) | str (x : Str) | tup (l : List D) | lst (l : List D) | dct (ks vs : List D) | set (l : List Int) | scr (l : List Int)
instance : Inhabited D := ⟨.non⟩
def kD : Key → D
  | .inl i => .int i
  | .inr x => .str x
variable {K : PySem.W.Frag}
/-- the script: a list that is never changed -/
def ScrOk (K : PySem.W.Frag) (H : Hp) (a : Addr) (ns : List Int) : Prop := (∃ o, H a = some (.frz o (.lst (ns.map V.int)))) ∨
  ∃ (o : Obj) (its : Array Value) (n : Nat), K.lookup a = some o ∧ o.cls = .type "list" ∧ o.dict = none ∧ o.data = .seq its n ∧ its.size ≤ sizeLine ∧ Vals (ns.map V.int) its.toList
theorem ScrOk.sq {H : Hp} {a : Addr} {ns : List Int} (h : ScrOk K H a ns) : SqL K H a (ns.map V.int) := by
  rcases h with h | h
  · exact .inl (.inr h)
  · exact .inr h
mutual
/-- the heap holds the thing d at v, what of it may be changed lies in A -/
inductive Rp (K : PySem.W.Frag) : (Addr → Prop) → Hp → V → D → Prop where
  | non {A : Addr → Prop} {H : Hp} : Rp K A H .non .non
  | bl {A : Addr → Prop} {H : Hp} (b : Bool) : Rp K A H (.bl b) (.bl b)
  | int {A : Addr → Prop} {H : Hp} (i : Int) : Rp K A H (.int i) (.int i)
  | str {A : Addr → Prop} {H : Hp} (x : Str) : Rp K A H (.str x) (.str x)
  | tup {A : Addr → Prop} {H : Hp} {a : Addr} {xs : List V} {ds : List D} (h : SqT K H a xs) (r : Rps K A H xs ds) : Rp K A H (.ref a) (.tup ds)
  | lst {A : Addr → Prop} {H : Hp} {a : Addr} {xs : List V} {ds : List D} (h : H a = some (.lst xs)) (m : A a) (r : Rps K (fun p => A p ∧ p ≠ a) H xs ds) : Rp K A H (.ref a) (.lst ds)
  | dK {A : Addr → Prop} {H : Hp} {a : Addr} {kvs : List (Key × V)} {ds : List D} (h : H a = some (.dK kvs)) (m : A a) (r : Rps K (fun p => A p ∧ p ≠ a) H (kvs.map (·.2)) ds) : Rp K A H (.ref a) (.dct (kvs.map fun p => kD p.1) ds)
  | dT {A : Addr → Prop} {H : Hp} {a : Addr} {kvs : List (List Key × V)} {ds : List D} (h : H a = some (.dT kvs)) (m : A a) (r : Rps K (fun p => A p ∧ p ≠ a) H (kvs.map (·.2)) ds) : Rp K A H (.ref a) (.dct (kvs.map fun p => .tup (p.1.map kD)) ds)
  | set {A : Addr → Prop} {H : Hp} {a : Addr} {S : Int → Bool} {l : List Int} (h : H a = some (.set S l.length)) (m : A a) (hS : ∀ i, S i = decide (i ∈ l)) (nd : l.Nodup) : Rp K A H (.ref a) (.set l)
  | scr {A : Addr → Prop} {H : Hp} {a : Addr} {ns : List Int} (h : ScrOk K H a ns) : Rp K A H (.ref a) (.scr ns)
inductive Rps (K : PySem.W.Frag) : (Addr → Prop) → Hp → List V → List D → Prop where
  | nil {A : Addr → Prop} {H : Hp} : Rps K A H [] []
  | cons {A : Addr → Prop} {H : Hp} {x : V} {d : D} {xs : List V} {ds : List D} (h : Rp K A H x d) (r : Rps K A H xs ds) : Rps K A H (x :: xs) (d :: ds)
end
theorem ScrOk.mono {H H' : Hp} {a : Addr} {ns : List Int} (s : Same H H') (h : ScrOk K H a ns) : ScrOk K H' a ns := by
  rcases h with ⟨o, h⟩ | h
  · exact .inl ⟨o, s _ _ h⟩
  · exact .inr h
mutual
theorem Rp.mono' {H H' : Hp} (s : Same H H') : ∀ {A A' : Addr → Prop} {x : V} {d : D}, Rp K A H x d → (∀ p o, H p = some o → A p → A' p) → Rp K A' H' x d
  | _, _, _, _, .non, _ => .non
  | _, _, _, _, .bl b, _ => .bl b
  | _, _, _, _, .int i, _ => .int i
  | _, _, _, _, .str x, _ => .str x
  | _, _, _, _, .tup h r, hA => .tup (s.sqt h) (Rps.mono' s r hA)
  | _, _, _, _, .lst h m r, hA => .lst (s _ _ h) (hA _ _ h m) (Rps.mono' s r (fun p o e z => ⟨hA p o e z.1, z.2⟩))
  | _, _, _, _, .dK h m r, hA => .dK (s _ _ h) (hA _ _ h m) (Rps.mono' s r (fun p o e z => ⟨hA p o e z.1, z.2⟩))
  | _, _, _, _, .dT h m r, hA => .dT (s _ _ h) (hA _ _ h m) (Rps.mono' s r (fun p o e z => ⟨hA p o e z.1, z.2⟩))
  | _, _, _, _, .set h m hS nd, hA => .set (s _ _ h) (hA _ _ h m) hS nd
  | _, _, _, _, .scr h, _ => .scr (h.mono s)
theorem Rps.mono' {H H' : Hp} (s : Same H H') : ∀ {A A' : Addr → Prop} {xs : List V} {ds : List D}, Rps K A H xs ds → (∀ p o, H p = some o → A p → A' p) → Rps K A' H' xs ds
  | _, _, _, _, .nil, _ => .nil
  | _, _, _, _, .cons h r, hA => .cons (Rp.mono' s h hA) (Rps.mono' s r hA)
end
theorem Rp.mono {A A' : Addr → Prop} {H H' : Hp} (s : Same H H') (hA : ∀ p o, H p = some o → A p → A' p) {x : V} {d : D} (r : Rp K A H x d) : Rp K A' H' x d := r.mono' s hA
theorem Rps.mono {A A' : Addr → Prop} {H H' : Hp} (s : Same H H') (hA : ∀ p o, H p = some o → A p → A' p) {x : List V} {d : List D} (r : Rps K A H x d) : Rps K A' H' x d := r.mono' s hA
theorem Rp.up {A : Addr → Prop} {H H' : Hp} (s : Same H H') {x : V} {d : D} (r : Rp K A H x d) : Rp K A H' x d := r.mono s fun _ _ _ h => h
theorem Rp.wk {A A' : Addr → Prop} {H : Hp} (hA : ∀ p o, H p = some o → A p → A' p) {x : V} {d : D} (r : Rp K A H x d) : Rp K A' H x d := r.mono (Same.refl H) hA
theorem Rps.up {A : Addr → Prop} {H H' : Hp} (s : Same H H') {x : List V} {d : List D} (r : Rps K A H x d) : Rps K A H' x d := r.mono s fun _ _ _ h => h
theorem Rps.wk {A A' : Addr → Prop} {H : Hp} (hA : ∀ p o, H p = some o → A p → A' p) {x : List V} {d : List D} (r : Rps K A H x d) : Rps K A' H x d := r.mono (Same.refl H) hA
/-- what may be changed -/
def isMut : HO → Bool
  | .lst _ => true | .dK _ => true | .dT _ => true | .set _ _ => true | _ => false
theorem sqt_but {l : Addr} {H H' : Hp} (s : Butl l H H') {o : HO} (hl : H l = some o) (ho : isMut o = true) {a : Addr} {xs : List V} (h : SqT K H a xs) : SqT K H' a xs := by
  rcases h with (h | ⟨u, h⟩) | h
  · refine .inl (.inl (s _ _ (fun e => ?_) h))
    subst e; rw [hl] at h; cases h; cases ho
  · refine .inl (.inr ⟨u, s _ _ (fun e => ?_) h⟩)
    subst e; rw [hl] at h; cases h; cases ho
  · exact .inr h
mutual
theorem Rp.but' {l : Addr} {H H' : Hp} (s : Butl l H H') {o : HO} (hl : H l = some o) (ho : isMut o = true) : ∀ {A : Addr → Prop} {x : V} {d : D}, Rp K A H x d → ¬ A l → Rp K A H' x d
  | _, _, _, .non, _ => .non
  | _, _, _, .bl b, _ => .bl b
  | _, _, _, .int i, _ => .int i
  | _, _, _, .str x, _ => .str x
  | _, _, _, .tup h r, hA => .tup (sqt_but s hl ho h) (Rps.but' s hl ho r hA)
  | _, _, _, .lst h m r, hA => .lst (s _ _ (fun e => hA (e ▸ m)) h) m (Rps.but' s hl ho r fun z => hA z.1)
  | _, _, _, .dK h m r, hA => .dK (s _ _ (fun e => hA (e ▸ m)) h) m (Rps.but' s hl ho r fun z => hA z.1)
  | _, _, _, .dT h m r, hA => .dT (s _ _ (fun e => hA (e ▸ m)) h) m (Rps.but' s hl ho r fun z => hA z.1)
  | _, _, _, .set h m hS nd, hA => .set (s _ _ (fun e => hA (e ▸ m)) h) m hS nd
  | _, _, _, .scr h, _ => .scr (by
    rcases h with ⟨u, h⟩ | h
    · exact .inl ⟨u, s _ _ (fun e => by subst e; rw [hl] at h; cases h; cases ho) h⟩
    · exact .inr h)
theorem Rps.but' {l : Addr} {H H' : Hp} (s : Butl l H H') {o : HO} (hl : H l = some o) (ho : isMut o = true) : ∀ {A : Addr → Prop} {xs : List V} {ds : List D}, Rps K A H xs ds → ¬ A l → Rps K A H' xs ds
  | _, _, _, .nil, _ => .nil
  | _, _, _, .cons h r, hA => .cons (Rp.but' s hl ho h hA) (Rps.but' s hl ho r hA)
end
/-- l is changed, which is no part of it -/
theorem Rp.but {A : Addr → Prop} {l : Addr} {H H' : Hp} (s : Butl l H H') {o : HO} (hl : H l = some o) (ho : isMut o = true) (hA : ¬ A l) {x : V} {d : D} (r : Rp K A H x d) : Rp K A H' x d := r.but' s hl ho hA
theorem Rps.but {A : Addr → Prop} {l : Addr} {H H' : Hp} (s : Butl l H H') {o : HO} (hl : H l = some o) (ho : isMut o = true) (hA : ¬ A l) {x : List V} {d : List D} (r : Rps K A H x d) : Rps K A H' x d := r.but' s hl ho hA
mutual
/-- nothing in it may be changed -/
def imm : D → Bool
  | .tup l => imms l
  | .lst _ => false
  | .dct _ _ => false
  | .set _ => false
  | _ => true
def imms : List D → Bool
  | [] => true
  | d :: r => imm d && imms r
end
mutual
theorem Rp.imm' {H : Hp} {A' : Addr → Prop} : ∀ {A : Addr → Prop} {x : V} {d : D}, Rp K A H x d → VL.imm d = true → Rp K A' H x d
  | _, _, _, .non, _ => .non
  | _, _, _, .bl b, _ => .bl b
  | _, _, _, .int i, _ => .int i
  | _, _, _, .str x, _ => .str x
  | _, _, _, .tup h r, e => .tup h (Rps.imm' r (by simpa [VL.imm] using e))
  | _, _, _, .lst h m r, e => by simp [VL.imm] at e
  | _, _, _, .dK h m r, e => by simp [VL.imm] at e
  | _, _, _, .dT h m r, e => by simp [VL.imm] at e
  | _, _, _, .set h m hS nd, e => by simp [VL.imm] at e
  | _, _, _, .scr h, _ => .scr h
theorem Rps.imm' {H : Hp} {A' : Addr → Prop} : ∀ {A : Addr → Prop} {xs : List V} {ds : List D}, Rps K A H xs ds → imms ds = true → Rps K A' H xs ds
  | _, _, _, .nil, _ => .nil
  | _, _, _, .cons h r, e => by
    simp only [imms, Bool.and_eq_true] at e
    exact .cons (Rp.imm' h e.1) (Rps.imm' r e.2)
end
theorem Rp.imm {A A' : Addr → Prop} {H : Hp} {x : V} {d : D} (r : Rp K A H x d) (h : VL.imm d = true) : Rp K A' H x d := r.imm' h
theorem Rps.imm {A A' : Addr → Prop} {H : Hp} {x : List V} {d : List D} (r : Rps K A H x d) (h : imms d = true) : Rps K A' H x d := r.imm' h
section
variable {A : Addr → Prop} {H : Hp}
theorem Rps.length : ∀ {xs : List V} {ds : List D}, Rps K A H xs ds → xs.length = ds.length
  | _, _, .nil => rfl
  | _, _, .cons _ r => by rw [List.length_cons, List.length_cons, Rps.length r]
theorem Rps.get : ∀ {xs : List V} {ds : List D} {i : Nat} {x : V}, Rps K A H xs ds → xs[i]? = some x → ∃ d, ds[i]? = some d ∧ Rp K A H x d
  | _, _, _, _, .nil, e => by simp at e
  | _, _, 0, _, .cons h _, e => by simp at e; subst e; exact ⟨_, rfl, h⟩
  | _, _, i + 1, x, .cons _ r, e => by
    obtain ⟨d, h1, h2⟩ := Rps.get (i := i) (x := x) r (by simpa using e)
    exact ⟨d, by simpa using h1, h2⟩
theorem Rps.getD : ∀ {xs : List V} {ds : List D} {i : Nat} {d : D}, Rps K A H xs ds → ds[i]? = some d → ∃ x, xs[i]? = some x ∧ Rp K A H x d
  | _, _, _, _, .nil, e => by simp at e
  | _, _, 0, _, .cons h _, e => by simp at e; subst e; exact ⟨_, rfl, h⟩
  | _, _, i + 1, d, .cons _ r, e => by
    obtain ⟨x, h1, h2⟩ := Rps.getD (i := i) (d := d) r (by simpa using e)
    exact ⟨x, by simpa using h1, h2⟩
theorem Rps.append : ∀ {xs ys : List V} {ds es : List D}, Rps K A H xs ds → Rps K A H ys es → Rps K A H (xs ++ ys) (ds ++ es)
  | _, _, _, _, .nil, s => s
  | _, _, _, _, .cons h r, s => .cons h (Rps.append r s)
theorem Rps.take : ∀ {xs : List V} {ds : List D} (n : Nat), Rps K A H xs ds → Rps K A H (xs.take n) (ds.take n)
  | _, _, 0, _ => .nil
  | _, _, _ + 1, .nil => .nil
  | _, _, n + 1, .cons h r => .cons h (Rps.take n r)
theorem Rps.drop : ∀ {xs : List V} {ds : List D} (n : Nat), Rps K A H xs ds → Rps K A H (xs.drop n) (ds.drop n)
  | _, _, 0, r => r
  | _, _, _ + 1, .nil => .nil
  | _, _, n + 1, .cons _ r => Rps.drop n r
theorem Rps.reverse : ∀ {xs : List V} {ds : List D}, Rps K A H xs ds → Rps K A H xs.reverse ds.reverse
  | _, _, .nil => .nil
  | _, _, .cons h r => by
    rw [List.reverse_cons, List.reverse_cons]
    exact Rps.append (Rps.reverse r) (.cons h .nil)
theorem Rps.set {x : V} {d : D} (h : Rp K A H x d) : ∀ {xs : List V} {ds : List D} (n : Nat), Rps K A H xs ds → Rps K A H (xs.set n x) (ds.set n d)
  | _, _, _, .nil => .nil
  | _, _, 0, .cons _ r => .cons h r
  | _, _, n + 1, .cons k r => .cons k (Rps.set h n r)
theorem Rps.ints : ∀ {ns : List Int}, Rps K A H (ns.map V.int) (ns.map D.int)
  | [] => .nil
  | n :: ns => .cons (.int n) Rps.ints
theorem Rps.ints_of : ∀ {xs : List V} {ns : List Int}, Rps K A H xs (ns.map D.int) → xs = ns.map V.int
  | _, [], .nil => rfl
  | _, n :: ns, .cons h r => by
    cases h
    rw [List.map_cons, Rps.ints_of r]
end
/-! ### results, names -/
/-- (so that the kernel needn't see it by itself again) -/
theorem by_def {α : Type} {a b : α} (h : a = b) : a = b := h
inductive Rs (α : Type) where
  | ok (a : α) | ex (c : Str) | st
def Rs.bd {α β : Type} : Rs α → (α → Rs β) → Rs β
  | .ok a, f => f a
  | .ex c, _ => .ex c
  | .st, _ => .st
@[simp] theorem bd_ok {α β : Type} (a : α) (f : α → Rs β) : (Rs.ok a).bd f = f a := by_def rfl
@[simp] theorem bd_ex {α β : Type} (c : Str) (f : α → Rs β) : (Rs.ex c : Rs α).bd f = .ex c := by_def rfl
@[simp] theorem bd_st {α β : Type} (f : α → Rs β) : (Rs.st : Rs α).bd f = .st := by_def rfl
theorem bd_eq_ok {α β : Type} {r : Rs α} {f : α → Rs β} {b : β} (h : r.bd f = .ok b) : ∃ a, r = .ok a ∧ f a = .ok b := by
  cases r with
  | ok a => exact ⟨a, rfl, h⟩
  | ex c => cases h
  | st => cases h
inductive Slot where
  | no | sh (d : D) | nw (d : D) | ow (d : D) | oz (d : D) | o2 (l : List (List D))
abbrev En := List Slot
abbrev Lab := Addr → Nat × Nat
abbrev Mode := Option (List Nat)
def inM (m : Mode) (n : Nat) : Prop := match m with
  | none => True
  | some L => n ∈ L
def jn : Mode → Mode → Mode
  | some a, some b => some (a ++ b)
  | _, _ => none
theorem inM_l {a b : Mode} {n : Nat} (h : inM a n) : inM (jn a b) n := by
  cases a with
  | none => cases b <;> exact trivial
  | some L =>
    cases b with
    | none => exact trivial
    | some M => exact List.mem_append_left _ h
theorem inM_r {a b : Mode} {n : Nat} (h : inM b n) : inM (jn a b) n := by
  cases a with
  | none => cases b <;> exact trivial
  | some L =>
    cases b with
    | none => exact trivial
    | some M => exact List.mem_append_right _ h
/-- what of a told thing may be changed: new, or of these labels -/
def fpM (m : Mode) (lab : Lab) (H : Hp) : Addr → Prop := fun p => H p = none ∨ inM m (lab p).1
theorem fpM_l {a b : Mode} {lab : Lab} {H : Hp} {p : Addr} (h : fpM a lab H p) : fpM (jn a b) lab H p := h.imp id inM_l
theorem fpM_r {a b : Mode} {lab : Lab} {H : Hp} {p : Addr} (h : fpM b lab H p) : fpM (jn a b) lab H p := h.imp id inM_r
theorem fpM_back {m : Mode} {lab : Lab} {H H' : Hp} {p : Addr} (s : Same H H') (h : fpM m lab H' p) : fpM m lab H p := h.imp (fun z => s.free z) id
structure Gx where
  H0 : Hp
  E : XK
  cl : Str → Addr
/-- the top of it may be changed -/
def mutD : D → Bool
  | .lst _ => true
  | .dct _ _ => true
  | .set _ => true
  | _ => false
/-- labels: 0 what may be old, 1 what is new since the entry, i + 2 what the name in slot i owns -/
def SlotOk (K : PySem.W.Frag) (H : Hp) (lab : Lab) (i : Nat) (v : V) : Slot → Prop
  | .no => True
  | .sh d => Rp K (fun p => (lab p).1 ≤ 1) H v d
  | .nw d => Rp K (fun p => (lab p).1 = 1) H v d
  | .ow d => Rp K (fun p => (lab p).1 = 1 ∨ (lab p).1 = i + 2) H v d ∧ (mutD d = true → ∃ a, v = .ref a ∧ (lab a).1 = i + 2)
  | .oz d => ∃ a xs ds, v = .ref a ∧ d = .lst ds ∧ H a = some (.lst xs) ∧ (lab a).1 = i + 2 ∧ Rps K (fun p => (lab p).1 ≤ 1) H xs ds
  | .o2 l => ∃ a xs, v = .ref a ∧ H a = some (.lst xs) ∧ lab a = (i + 2, 0) ∧ xs.length = l.length ∧ ∀ (j : Nat) x ds, xs[j]? = some x → l[j]? = some ds → Rp K (fun p => lab p = (i + 2, j + 1)) H x (.lst ds)
/-- the names' values, by the heap; τ: what else is held -/
structure RR (K : PySem.W.Frag) (G : Gx) (τ : List (V × D)) (ρ : En) (σ : L2.St) (H : Hp) (lab : Lab) : Prop where
  len : σ.length = ρ.length
  sl : ∀ (i : Nat) (s : Slot), ρ[i]? = some s → s = .no ∨ ∃ v, σ[i]? = some (some v) ∧ SlotOk K H lab i v s
  old : Same G.H0 H
  new : ∀ p, (lab p).1 ≠ 0 → G.H0 p = none
  tm : ∀ q ∈ τ, Rp K (fun p => (lab p).1 ≤ 1) H q.1 q.2
theorem SlotOk.up {H H' : Hp} {lab : Lab} {i : Nat} {v : V} (s : Same H H') : ∀ {x : Slot}, SlotOk K H lab i v x → SlotOk K H' lab i v x
  | .no, _ => trivial
  | .sh d, h => Rp.up s h
  | .nw d, h => Rp.up s h
  | .ow d, h => ⟨Rp.up s h.1, h.2⟩
  | .oz d, ⟨a, xs, ds, e1, e2, e3, e4, e5⟩ => ⟨a, xs, ds, e1, e2, s _ _ e3, e4, e5.up s⟩
  | .o2 l, ⟨a, xs, e1, e2, e3, e4, e5⟩ => ⟨a, xs, e1, s _ _ e2, e3, e4, fun j x ds f1 f2 => (e5 j x ds f1 f2).up s⟩
theorem rp_top {A : Addr → Prop} {H : Hp} {a : Addr} {d : D} (r : Rp K A H (.ref a) d) (hm : mutD d = true) : ∃ o, H a = some o ∧ isMut o = true ∧ A a := by
  cases r with
  | lst h m _ => exact ⟨_, h, rfl, m⟩
  | dK h m _ => exact ⟨_, h, rfl, m⟩
  | dT h m _ => exact ⟨_, h, rfl, m⟩
  | set h m _ _ => exact ⟨_, h, rfl, m⟩
  | tup _ _ => cases hm
  | scr _ => cases hm
theorem rp_ref {A : Addr → Prop} {H : Hp} {v : V} {d : D} (r : Rp K A H v d) (hm : mutD d = true) : ∃ a, v = .ref a := by
  cases r with
  | lst h m _ => exact ⟨_, rfl⟩
  | dK h m _ => exact ⟨_, rfl⟩
  | dT h m _ => exact ⟨_, rfl⟩
  | set h m _ _ => exact ⟨_, rfl⟩
  | _ => cases hm
/-- labels may change where nothing is tracked -/
theorem SlotOk.lab {H : Hp} {lab lab' : Lab} {i : Nat} {v : V} (hl : ∀ p o, H p = some o → lab' p = lab p) : ∀ {x : Slot}, SlotOk K H lab i v x → SlotOk K H lab' i v x
  | .no, _ => trivial
  | .sh d, h => Rp.wk (fun p o e q => by rw [hl p o e]; exact q) h
  | .nw d, h => Rp.wk (fun p o e q => by rw [hl p o e]; exact q) h
  | .ow d, ⟨h, t⟩ => ⟨Rp.wk (fun p o e q => by rw [hl p o e]; exact q) h, fun m => by
      obtain ⟨a, rfl, ea⟩ := t m
      obtain ⟨o, ho, _⟩ := rp_top h m
      exact ⟨a, rfl, by rw [hl a o ho]; exact ea⟩⟩
  | .oz d, ⟨a, xs, ds, e1, e2, e3, e4, e5⟩ => ⟨a, xs, ds, e1, e2, e3, by rw [hl _ _ e3]; exact e4, Rps.wk (fun p o e q => by rw [hl p o e]; exact q) e5⟩
  | .o2 l, ⟨a, xs, e1, e2, e3, e4, e5⟩ => ⟨a, xs, e1, e2, by rw [hl _ _ e2]; exact e3, e4, fun j x ds f1 f2 => Rp.wk (fun p o e q => by rw [hl p o e]; exact q) (e5 j x ds f1 f2)⟩
section
variable {G : Gx} {τ : List (V × D)} {ρ : En} {σ : L2.St} {H H' : Hp} {lab lab' : Lab}
theorem RR.up (R : RR K G τ ρ σ H lab) (s : Same H H') : RR K G τ ρ σ H' lab :=
  ⟨R.len, fun i x e => (R.sl i x e).imp id fun ⟨v, e1, e2⟩ => ⟨v, e1, e2.up s⟩, R.old.trans s, R.new, fun q hq => (R.tm q hq).up s⟩
theorem RR.relab (R : RR K G τ ρ σ H lab) (hl : ∀ p o, H p = some o → lab' p = lab p) (hn : ∀ p, (lab' p).1 ≠ 0 → G.H0 p = none) : RR K G τ ρ σ H lab' :=
  ⟨R.len, fun i x e => (R.sl i x e).imp id fun ⟨v, e1, e2⟩ => ⟨v, e1, e2.lab hl⟩, R.old, hn, fun q hq => Rp.wk (fun p o e z => by rw [hl p o e]; exact z) (R.tm q hq)⟩
theorem RR.tail {q : V × D} (R : RR K G (q :: τ) ρ σ H lab) : RR K G τ ρ σ H lab := ⟨R.len, R.sl, R.old, R.new, fun z hz => R.tm z (List.mem_cons_of_mem _ hz)⟩
theorem RR.drop {τ' : List (V × D)} (R : RR K G (τ' ++ τ) ρ σ H lab) : RR K G τ ρ σ H lab := ⟨R.len, R.sl, R.old, R.new, fun z hz => R.tm z (List.mem_append_right _ hz)⟩
theorem RR.put {i : Nat} {v : V} {s : Slot} (R : RR K G τ ρ σ H lab) (h : SlotOk K H lab i v s) : RR K G τ (ρ.set i s) (σ.set i (some v)) H lab := by
  refine ⟨by rw [List.length_set, List.length_set, R.len], fun j x e => ?_, R.old, R.new, R.tm⟩
  by_cases hj : i = j
  · subst hj
    have hi : i < ρ.length := by
      have := (List.getElem?_eq_some_iff.mp e).1
      rwa [List.length_set] at this
    rw [List.getElem?_set_self hi] at e
    cases e
    exact .inr ⟨v, by rw [List.getElem?_set_self (by rw [R.len]; exact hi)], h⟩
  · rw [List.getElem?_set_ne hj] at e
    rcases R.sl j x e with z | ⟨u, e1, e2⟩
    · exact .inl z
    · exact .inr ⟨u, by rw [List.getElem?_set_ne hj]; exact e1, e2⟩
/-- label what is new -/
def newLab (H : Hp) (n : Nat) (lab : Lab) : Lab := fun p => match H p with
  | none => (n, 0)
  | some _ => lab p
theorem newLab_old {n : Nat} {p : Addr} {o : HO} (h : H p = some o) : newLab H n lab p = lab p := by unfold newLab; rw [h]
theorem newLab_new {n : Nat} {p : Addr} (h : H p = none) : newLab H n lab p = (n, 0) := by unfold newLab; rw [h]
/-- a told thing whose parts are new or of labels P: what is new is labelled 1 -/
theorem RR.fresh {m : Mode} {v : V} {d : D} {P : Nat → Prop} (h1 : P 1) (hm : ∀ k, inM m k → P k) (R : RR K G τ ρ σ H lab) (s : Same H H') (r : Rp K (fpM m lab H) H' v d) :
    RR K G τ ρ σ H' (newLab H 1 lab) ∧ Rp K (fun p => P (newLab H 1 lab p).1) H' v d := by
  refine ⟨(R.relab (fun p o e => newLab_old e) fun p hp => ?_).up s, Rp.wk (fun p o e z => ?_) r⟩
  · cases e : H p with
    | none => exact R.old.free e
    | some o => rw [newLab_old e] at hp; exact R.new p hp
  · rcases z with z | z
    · rw [newLab_new z]; exact h1
    · cases e : H p with
      | none => rw [newLab_new e]; exact h1
      | some o => rw [newLab_old e]; exact hm _ z
/-- .. and its top, which is new, belongs to slot i -/
theorem RR.freshO {m : Mode} {v : V} {d : D} (i : Nat) (hm : ∀ k, inM m k → k = 1 ∨ k = i + 2) (R : RR K G τ ρ σ H lab) (s : Same H H') (r : Rp K (fpM m lab H) H' v d) (ht : mutD d = true → ∃ a, v = .ref a ∧ H a = none) :
    ∃ lab', RR K G τ ρ σ H' lab' ∧ SlotOk K H' lab' i v (.ow d) := by
  obtain ⟨R', r'⟩ := R.fresh (P := fun k => k = 1 ∨ k = i + 2) (.inl rfl) hm s r
  cases hd : mutD d with
  | false => exact ⟨_, R', r', fun z => absurd z (by simp [hd])⟩
  | true =>
    obtain ⟨a, rfl, ha⟩ := ht hd
    refine ⟨fun p => if p = a then (i + 2, 0) else newLab H 1 lab p, ?_, Rp.wk (fun p o e z => ?_) r', fun _ => ⟨a, rfl, by show (if a = a then ((i + 2, 0) : Nat × Nat) else newLab H 1 lab a).1 = i + 2; rw [if_pos rfl]⟩⟩
    · refine (R.relab (lab' := fun p => if p = a then (i + 2, 0) else newLab H 1 lab p) (fun p o e => ?_) fun p hp => ?_).up s
      · rw [if_neg (fun z => by subst z; rw [ha] at e; cases e), newLab_old e]
      · by_cases z : p = a
        · subst z; exact R.old.free ha
        · rw [if_neg z] at hp; exact R'.new p hp
    · dsimp only
      by_cases q : p = a
      · rw [if_pos q]; exact .inr rfl
      · rw [if_neg q]; exact z
/-- .. the same, what is within may be old -/
theorem RR.freshZ {m : Mode} {v : V} {ds : List D} (i : Nat) (hm : ∀ k, inM m k → k ≤ 1) (R : RR K G τ ρ σ H lab) (s : Same H H') (r : Rp K (fpM m lab H) H' v (.lst ds)) (ht : ∃ a, v = .ref a ∧ H a = none) :
    ∃ lab', RR K G τ ρ σ H' lab' ∧ SlotOk K H' lab' i v (.oz (.lst ds)) := by
  obtain ⟨R', r'⟩ := R.fresh (P := fun k => k ≤ 1) (Nat.le_refl 1) hm s r
  obtain ⟨a, rfl, ha⟩ := ht
  cases r' with
  | lst h mm rr =>
    rename_i xs
    refine ⟨fun p => if p = a then (i + 2, 0) else newLab H 1 lab p, ?_, a, xs, ds, rfl, rfl, h, by dsimp only; rw [if_pos rfl], rr.wk fun p o e z => ?_⟩
    · refine (R.relab (lab' := fun p => if p = a then (i + 2, 0) else newLab H 1 lab p) (fun p o e => ?_) fun p hp => ?_).up s
      · rw [if_neg (fun z => by subst z; rw [ha] at e; cases e), newLab_old e]
      · by_cases z : p = a
        · subst z; exact R.old.free ha
        · rw [if_neg z] at hp; exact R'.new p hp
    · dsimp only
      rw [if_neg z.2]
      exact z.1
/-- an owned list whose parts may be old, as a thing -/
theorem oz_rp {H : Hp} {lab : Lab} {i : Nat} {v : V} {d : D} (h : SlotOk K H lab i v (.oz d)) : Rp K (fun p => (lab p).1 ≤ 1 ∨ (lab p).1 = i + 2) H v d := by
  obtain ⟨a, xs, ds, rfl, rfl, h1, h2, h3⟩ := h
  exact .lst h1 (.inr h2) (h3.wk fun p o e z => ⟨.inl z, fun q => by subst q; omega⟩)
end
end VL

set_option Elab.async false
set_option linter.all false
set_option maxRecDepth 100000
set_option maxHeartbeats 4000000
namespace VL
open PySem PySem.Spec PyProof.Rows L2
/-! ### judgements -/
structure Ct where
  ι : Type
  X : ι → Cx
  prog : Program
  w : World
  K : PySem.W.Frag
  mg : Str → Option Value
  base : Heap
  k : Nat
  G : Gx
  cx : ∀ i, (X i).prog = prog ∧ (X i).w = w ∧ (X i).K = K ∧ (X i).mg = mg ∧ (X i).base = base
  calm : ∀ i, (X i).calm = true
  room : ∀ i, Room k (X i).A
  own : ∀ i, PassesOwn (model (X i).prog (X i).w) (X i).A (X i).env (X i).xe
  pass : ∀ i, Passes (CX1 (X i).prog (X i).w) (X i) G.E
  dOk : Bool
  dcx : dOk = true → ∀ i, DefCx (X i) G.E
theorem Ct.hK (C : Ct) (i : C.ι) : (C.X i).K = C.K := (C.cx i).2.2.1
def WR {α : Type} (G : Gx) (r : Rs α) (P : α → Prop) : Prop := match r with
  | .ok a => P a
  | .ex c => ∀ H', Same G.H0 H' → G.E (.ref (G.cl c)) none H'
  | .st => False
theorem WR.bd {α β : Type} {G : Gx} {r : Rs α} {k : α → Rs β} {P : β → Prop} (h : WR G (r.bd k) P) : WR G r (fun a => WR G (k a) P) := by
  cases r with
  | ok a => exact h
  | ex c => exact h
  | st => exact h
theorem WR.imp {α : Type} {G : Gx} {r : Rs α} {P P' : α → Prop} (h : WR G r P) (f : ∀ a, r = .ok a → P a → P' a) : WR G r P' := by
  cases r with
  | ok a => exact f a rfl h
  | ex c => exact h
  | st => exact h
/-- what is wanted of a told thing -/
abbrev QE (K : PySem.W.Frag) (m : Mode) (lab : Lab) (H : Hp) (Q : VK) : D → Prop := fun d => ∀ v H', Same H H' → Rp K (fpM m lab H) H' v d → Q v H'
abbrev QA (K : PySem.W.Frag) (m : Mode) (lab : Lab) (H : Hp) (Q : List V → Hp → Prop) : List D → Prop := fun ds => ∀ vs H', Same H H' → Rps K (fpM m lab H) H' vs ds → Q vs H'
abbrev QT (H : Hp) (Q : Bool → Hp → Prop) : Bool → Prop := fun b => ∀ H', Same H H' → Q b H'
def SimE (K : PySem.W.Frag) (G : Gx) (m : Mode) (t : TE) (f : En → Rs D) : Prop := ∀ τ σ H ρ lab (Q : VK), RR K G τ ρ σ H lab → WR G (f ρ) (QE K m lab H Q) → t σ H Q
def SimA (K : PySem.W.Frag) (G : Gx) (m : Mode) (t : TA) (f : En → Rs (List D)) : Prop := ∀ τ σ H ρ lab (Q : List V → Hp → Prop), RR K G τ ρ σ H lab → WR G (f ρ) (QA K m lab H Q) → t σ H Q
def SimT (K : PySem.W.Frag) (G : Gx) (t : TT) (f : En → Rs Bool) : Prop := ∀ τ σ H ρ lab (Q : Bool → Hp → Prop), RR K G τ ρ σ H lab → WR G (f ρ) (QT H Q) → t σ H Q
def SE (C : Ct) (m : Mode) (e : Expr) (f : En → Rs D) : Prop := ∃ t, (∀ i, PE (C.X i) e t) ∧ SimE C.K C.G m t f
def SA (C : Ct) (m : Mode) (es : List Expr) (f : En → Rs (List D)) : Prop := ∃ t, (∀ i, PA (C.X i) es t) ∧ SimA C.K C.G m t f
def ST (C : Ct) (e : Expr) (f : En → Rs Bool) : Prop := ∃ t, (∀ i, PT (C.X i) e t) ∧ SimT C.K C.G t f
def SW (C : Ct) (e : Expr) (f : En → Rs Bool) : Prop := ∃ t, (∀ i, PW (C.X i) e t) ∧ SimT C.K C.G t f
theorem SW.st {C : Ct} {e : Expr} {f : En → Rs Bool} (h : SW C e f) : ST C e f := let ⟨t, h1, h2⟩ := h; ⟨t, fun i => (h1 i).pt, h2⟩
/-! ### names, constants -/
def varD (i : Nat) : En → Rs D := fun ρ => match ρ[i]? with
  | some (.sh d) => .ok d
  | some (.nw d) => .ok d
  | some (.ow d) => .ok d
  | some (.oz d) => .ok d
  | some (.o2 l) => .ok (.lst (l.map .lst))
  | _ => .st
def varS (i : Nat) : En → Rs D := fun ρ => match ρ[i]? with
  | some (.sh d) => .ok d
  | some (.nw d) => .ok d
  | _ => .st
def varN (i : Nat) : En → Rs D := fun ρ => match ρ[i]? with
  | some (.nw d) => .ok d
  | _ => .st
def varO (i : Nat) : En → Rs D := fun ρ => match ρ[i]? with
  | some (.ow d) => .ok d
  | some (.o2 l) => .ok (.lst (l.map .lst))
  | _ => .st
def cD (d : D) : En → Rs D := fun _ => .ok d
theorem o2_rp {K : PySem.W.Frag} {H : Hp} {lab : Lab} {i : Nat} {v : V} {l : List (List D)} (h : SlotOk K H lab i v (.o2 l)) : Rp K (fun p => (lab p).1 = i + 2) H v (.lst (l.map .lst)) := by
  obtain ⟨a, xs, rfl, ha, hla, hlen, hin⟩ := h
  refine .lst ha (by rw [hla]) ?_
  have go : ∀ (xs : List V) (l : List (List D)) (n : Nat), xs.length = l.length → 0 < n → (∀ (j : Nat) x ds, xs[j]? = some x → l[j]? = some ds → Rp K (fun p => lab p = (i + 2, n + j)) H x (.lst ds)) → Rps K (fun p => (lab p).1 = i + 2 ∧ p ≠ a) H xs (l.map .lst) := by
    intro xs
    induction xs with
    | nil => intro l n hl _ _; cases l with | nil => exact .nil | cons _ _ => simp at hl
    | cons x xs ih =>
      intro l n hl hn h
      cases l with
      | nil => simp at hl
      | cons ds l =>
        refine .cons (Rp.wk (fun p o e z => ⟨by rw [z], fun e => by rw [e, hla] at z; have z2 : (0 : Nat) = n + 0 := congrArg Prod.snd z; omega⟩) (h 0 x ds rfl rfl)) (ih l (n + 1) (by simpa using hl) (by omega) fun j y es e1 e2 => ?_)
        have z := h (j + 1) y es (by simpa using e1) (by simpa using e2)
        rw [show n + 1 + j = n + (j + 1) by omega]
        exact z
  exact go xs l 1 hlen (by omega) fun j x ds e1 e2 => by have z := hin j x ds e1 e2; rw [show 1 + j = j + 1 by omega]; exact z
section
variable {C : Ct} {pos : Pos}
theorem sim_var (K : PySem.W.Frag) (G : Gx) (i : Nat) : SimE K G (some [0, 1, i + 2]) (tVar i) (varD i) := by
  intro τ σ H ρ lab Q R W
  unfold varD at W
  cases e : ρ[i]? with
  | none => rw [e] at W; exact W.elim
  | some s =>
    rw [e] at W
    rcases R.sl i s e with rfl | ⟨v, ev, hv⟩
    · exact False.elim W
    · cases s with
      | no => exact False.elim W
      | sh d => exact ⟨v, ev, W v H (Same.refl H) (Rp.wk (fun p o e z => .inr (by show (lab p).1 ∈ [0, 1, i + 2]; have : (lab p).1 = 0 ∨ (lab p).1 = 1 := by omega
                                                                                  rcases this with q | q <;> rw [q] <;> simp)) hv)⟩
      | nw d => exact ⟨v, ev, W v H (Same.refl H) (Rp.wk (fun p o e z => .inr (by show (lab p).1 ∈ [0, 1, i + 2]; rw [z]; simp)) hv)⟩
      | ow d => exact ⟨v, ev, W v H (Same.refl H) (Rp.wk (fun p o e z => .inr (by show (lab p).1 ∈ [0, 1, i + 2]; rcases z with q | q <;> rw [q] <;> simp)) hv.1)⟩
      | oz d => exact ⟨v, ev, W v H (Same.refl H) (Rp.wk (fun p o e z => .inr (by show (lab p).1 ∈ [0, 1, i + 2]; have : (lab p).1 = 0 ∨ (lab p).1 = 1 ∨ (lab p).1 = i + 2 := by omega
                                                                                  rcases this with q | q | q <;> rw [q] <;> simp)) (oz_rp hv))⟩
      | o2 l => exact ⟨v, ev, W v H (Same.refl H) (Rp.wk (fun p o e z => .inr (by show (lab p).1 ∈ [0, 1, i + 2]; rw [z]; simp)) (o2_rp hv))⟩
theorem sim_varS (K : PySem.W.Frag) (G : Gx) (i : Nat) : SimE K G (some [0, 1]) (tVar i) (varS i) := by
  intro τ σ H ρ lab Q R W
  unfold varS at W
  cases e : ρ[i]? with
  | none => rw [e] at W; exact W.elim
  | some s =>
    rw [e] at W
    rcases R.sl i s e with rfl | ⟨v, ev, hv⟩
    · exact False.elim W
    · cases s with
      | sh d => exact ⟨v, ev, W v H (Same.refl H) (Rp.wk (fun p o e z => .inr (by show (lab p).1 ∈ [0, 1]; have : (lab p).1 = 0 ∨ (lab p).1 = 1 := by omega
                                                                                  rcases this with q | q <;> rw [q] <;> simp)) hv)⟩
      | nw d => exact ⟨v, ev, W v H (Same.refl H) (Rp.wk (fun p o e z => .inr (by show (lab p).1 ∈ [0, 1]; rw [z]; simp)) hv)⟩
      | _ => exact False.elim W
theorem sim_varN (K : PySem.W.Frag) (G : Gx) (i : Nat) : SimE K G (some [1]) (tVar i) (varN i) := by
  intro τ σ H ρ lab Q R W
  unfold varN at W
  cases e : ρ[i]? with
  | none => rw [e] at W; exact W.elim
  | some s =>
    rw [e] at W
    rcases R.sl i s e with rfl | ⟨v, ev, hv⟩
    · exact False.elim W
    · cases s with
      | nw d => exact ⟨v, ev, W v H (Same.refl H) (Rp.wk (fun p o e z => .inr (by show (lab p).1 ∈ [1]; rw [z]; simp)) hv)⟩
      | _ => exact False.elim W
theorem sim_varO (K : PySem.W.Frag) (G : Gx) (i : Nat) : SimE K G (some [1, i + 2]) (tVar i) (varO i) := by
  intro τ σ H ρ lab Q R W
  unfold varO at W
  cases e : ρ[i]? with
  | none => rw [e] at W; exact W.elim
  | some s =>
    rw [e] at W
    rcases R.sl i s e with rfl | ⟨v, ev, hv⟩
    · exact False.elim W
    · cases s with
      | ow d => exact ⟨v, ev, W v H (Same.refl H) (Rp.wk (fun p o e z => .inr (by show (lab p).1 ∈ [1, i + 2]; rcases z with q | q <;> rw [q] <;> simp)) hv.1)⟩
      | o2 l => exact ⟨v, ev, W v H (Same.refl H) (Rp.wk (fun p o e z => .inr (by show (lab p).1 ∈ [1, i + 2]; rw [z]; simp)) (o2_rp hv))⟩
      | _ => exact False.elim W
theorem se_var (i : Nat) {x : Str} (hN : ∀ j, (C.X j).N[i]? = some x := by intro _; rfl) (hv : ∀ j, Vis (C.X j).env.scope x := by intro _; first | exact Or.inl rfl | exact Or.inr (Or.inl rfl) | exact Or.inr (Or.inr rfl)) (hd : (x == ("__debug__" : Str)) = false := by decide)
    (hcd : (x == ("__classdict__" : Str)) = false := by decide) : SE C (some [0, 1, i + 2]) (.Name x pos) (varD i) := ⟨_, fun j => pe_var (hN j) (hv j) hd hcd, sim_var _ _ i⟩
theorem se_varS (i : Nat) {x : Str} (hN : ∀ j, (C.X j).N[i]? = some x := by intro _; rfl) (hv : ∀ j, Vis (C.X j).env.scope x := by intro _; first | exact Or.inl rfl | exact Or.inr (Or.inl rfl) | exact Or.inr (Or.inr rfl)) (hd : (x == ("__debug__" : Str)) = false := by decide)
    (hcd : (x == ("__classdict__" : Str)) = false := by decide) : SE C (some [0, 1]) (.Name x pos) (varS i) := ⟨_, fun j => pe_var (hN j) (hv j) hd hcd, sim_varS _ _ i⟩
theorem se_varN (i : Nat) {x : Str} (hN : ∀ j, (C.X j).N[i]? = some x := by intro _; rfl) (hv : ∀ j, Vis (C.X j).env.scope x := by intro _; first | exact Or.inl rfl | exact Or.inr (Or.inl rfl) | exact Or.inr (Or.inr rfl)) (hd : (x == ("__debug__" : Str)) = false := by decide)
    (hcd : (x == ("__classdict__" : Str)) = false := by decide) : SE C (some [1]) (.Name x pos) (varN i) := ⟨_, fun j => pe_var (hN j) (hv j) hd hcd, sim_varN _ _ i⟩
theorem se_varO (i : Nat) {x : Str} (hN : ∀ j, (C.X j).N[i]? = some x := by intro _; rfl) (hv : ∀ j, Vis (C.X j).env.scope x := by intro _; first | exact Or.inl rfl | exact Or.inr (Or.inl rfl) | exact Or.inr (Or.inr rfl)) (hd : (x == ("__debug__" : Str)) = false := by decide)
    (hcd : (x == ("__classdict__" : Str)) = false := by decide) : SE C (some [1, i + 2]) (.Name x pos) (varO i) := ⟨_, fun j => pe_var (hN j) (hv j) hd hcd, sim_varO _ _ i⟩
theorem se_int {i : Int} {j : Nat} : SE C (some []) (.Constant (.int i) j pos) (cD (.int i)) := ⟨_, fun _ => pe_int, fun τ σ H ρ lab Q R W => W _ H (Same.refl H) (.int i)⟩
theorem se_bl {b : Bool} {j : Nat} : SE C (some []) (.Constant (.bool b) j pos) (cD (.bl b)) := ⟨_, fun _ => pe_bl, fun τ σ H ρ lab Q R W => W _ H (Same.refl H) (.bl b)⟩
theorem se_non {j : Nat} : SE C (some []) (.Constant .none j pos) (cD .non) := ⟨_, fun _ => pe_non, fun τ σ H ρ lab Q R W => W _ H (Same.refl H) .non⟩
theorem se_str {x : Str} {j : Nat} : SE C (some []) (.Constant (.str x) j pos) (cD (.str x)) := ⟨_, fun _ => pe_str, fun τ σ H ρ lab Q R W => W _ H (Same.refl H) (.str x)⟩
/-- a constant of the module -/
theorem se_glob {x : Str} {v : V} {u : Value} {d : D} (hg : ∀ i, Gl (C.X i) x) (hm : C.mg x = some u) (r : RelV v u) (hd : ∀ A H, Rp C.K A H v d) (hdb : (x == ("__debug__" : Str)) = false := by decide) : SE C (some []) (.Name x pos) (cD d) :=
  ⟨_, fun i => pe_glob (hg i) (by rw [(C.cx i).2.2.2.1]; exact hm) r hdb, fun τ σ H ρ lab Q R W => W _ H (Same.refl H) (hd _ _)⟩
/-! ### modes -/
def gImm (d : D) : Rs D := if imm d = true then .ok d else .st
def immD (f : En → Rs D) : En → Rs D := fun ρ => (f ρ).bd gImm
theorem se_imm {m : Mode} {e : Expr} {f : En → Rs D} (h : SE C m e f) : SE C (some []) e (immD f) := by
  obtain ⟨t, h1, h2⟩ := h
  refine ⟨t, h1, fun τ σ H ρ lab Q R W => h2 τ σ H ρ lab Q R (W.bd.imp fun d _ w v H' s r => ?_)⟩
  unfold gImm at w
  by_cases hd : imm d = true
  · rw [if_pos hd] at w
    exact w v H' s (r.imm hd)
  · rw [if_neg hd] at w
    exact False.elim w
theorem se_wk {m m' : Mode} {e : Expr} {f : En → Rs D} (h : SE C m e f) (hm : ∀ n, inM m n → inM m' n) : SE C m' e f := by
  obtain ⟨t, h1, h2⟩ := h
  exact ⟨t, h1, fun τ σ H ρ lab Q R W => h2 τ σ H ρ lab Q R (W.imp fun d _ w v H' s r => w v H' s (Rp.wk (fun p o e z => z.imp id (hm _)) r))⟩
theorem se_any {m : Mode} {e : Expr} {f : En → Rs D} (h : SE C m e f) : SE C none e f := se_wk h fun _ _ => trivial
/-! ### argument lists, displays -/
def nilA : En → Rs (List D) := fun _ => .ok []
def consA (f : En → Rs D) (g : En → Rs (List D)) : En → Rs (List D) := fun ρ => (f ρ).bd fun d => (g ρ).bd fun ds => .ok (d :: ds)
variable {m m1 m2 : Mode} {e a b : Expr} {es : List Expr} {f fa fb : En → Rs D} {g : En → Rs (List D)}
theorem sa_nil : SA C (some []) [] nilA := ⟨_, fun _ => pa_nil, fun τ σ H ρ lab Q R W => W _ H (Same.refl H) .nil⟩
theorem sa_cons (h : SE C m1 e f) (hr : SA C m2 es g) (hs : ∀ i, starEach (e :: es) (C.X i).env = (false, eval e (C.X i).env) :: starEach es (C.X i).env := by intro _; rfl) : SA C (jn m1 m2) (e :: es) (consA f g) := by
  obtain ⟨t, h1, h2⟩ := h
  obtain ⟨u, k1, k2⟩ := hr
  refine ⟨_, fun i => pa_cons (h1 i) (k1 i) (hs i), fun τ σ H ρ lab Q R W => ?_⟩
  refine h2 τ σ H ρ lab _ R (W.bd.imp fun d _ w x H1 s1 r1 => ?_)
  refine k2 τ σ H1 ρ lab _ (R.up s1) (w.bd.imp fun ds _ w xs H2 s2 r2 => ?_)
  exact w (x :: xs) H2 (s1.trans s2) (.cons (r1.mono s2 fun p o _ z => fpM_l z) (r2.wk fun p o _ z => fpM_r (fpM_back s1 z)))
def tupD (g : En → Rs (List D)) : En → Rs D := fun ρ => (g ρ).bd fun ds => if ds.length ≤ sizeLine then .ok (.tup ds) else .st
def lstD (g : En → Rs (List D)) : En → Rs D := fun ρ => (g ρ).bd fun ds => if ds.length ≤ sizeLine then .ok (.lst ds) else .st
theorem se_tup {x1} (h : SA C m es g) : SE C m (.Tuple es x1 pos) (tupD g) := by
  obtain ⟨t, h1, h2⟩ := h
  refine ⟨_, fun i => pe_tupA (h1 i), fun τ σ H ρ lab Q R W => h2 τ σ H ρ lab _ R (W.bd.imp fun ds _ w xs H1 s1 r1 => ?_)⟩
  by_cases hz : ds.length ≤ sizeLine
  · rw [if_pos hz] at w
    exact ⟨by rw [r1.length]; exact hz, fun p H' s hp _ => w _ H' (s1.trans s) (.tup (SqT.of hp) (r1.up s))⟩
  · rw [if_neg hz] at w
    exact False.elim w
theorem se_lst (h : SA C m es g) : SE C m (.List es pos) (lstD g) := by
  obtain ⟨t, h1, h2⟩ := h
  refine ⟨_, fun i => pe_lstA (h1 i), fun τ σ H ρ lab Q R W => h2 τ σ H ρ lab _ R (W.bd.imp fun ds _ w xs H1 s1 r1 => ?_)⟩
  by_cases hz : ds.length ≤ sizeLine
  · rw [if_pos hz] at w
    exact ⟨by rw [r1.length]; exact hz, fun p H' s hp hn => w _ H' (s1.trans s) (.lst hp (.inl (s1.free hn)) ((r1.wk fun q o e z => ⟨z, fun e' => by subst e'; rw [hn] at e; cases e⟩).up s))⟩
  · rw [if_neg hz] at w
    exact False.elim w
theorem se_dct0 : SE C (some []) (.Dict [] [] pos) (cD (.dct [] [])) :=
  ⟨_, fun _ => pe_dnewA, fun τ σ H ρ lab Q R W p H' s hp hn => W _ H' s (.dK (kvs := []) hp (.inl hn) .nil)⟩
/-! ### a thing whose top is new -/
def topN (H : Hp) (v : V) (d : D) : Prop := mutD d = true → ∃ a, v = .ref a ∧ H a = none
def SimF (K : PySem.W.Frag) (G : Gx) (m : Mode) (t : TE) (f : En → Rs D) : Prop := ∀ τ σ H ρ lab (Q : VK), RR K G τ ρ σ H lab → WR G (f ρ) (fun d => ∀ v H', Same H H' → Rp K (fpM m lab H) H' v d → topN H v d → Q v H') → t σ H Q
def SF (C : Ct) (m : Mode) (e : Expr) (f : En → Rs D) : Prop := ∃ t, (∀ i, PE (C.X i) e t) ∧ SimF C.K C.G m t f
/-- all of it is new -/
theorem SimE.toF {K : PySem.W.Frag} {G : Gx} {t : TE} {f : En → Rs D} (h : SimE K G (some []) t f) : SimF K G (some []) t f := fun τ σ H ρ lab Q R W =>
  h τ σ H ρ lab Q R (W.imp fun d _ w v H' s r => w v H' s r fun hm => by
    obtain ⟨a, rfl⟩ := rp_ref r hm
    obtain ⟨o, _, _, z⟩ := rp_top r hm
    rcases z with z | z
    · exact ⟨a, rfl, z⟩
    · cases z)
theorem sf_e (h : SE C (some []) e f) : SF C (some []) e f := let ⟨t, h1, h2⟩ := h; ⟨t, h1, h2.toF⟩
theorem sf_lst (h : SA C m es g) : SF C m (.List es pos) (lstD g) := by
  obtain ⟨t, h1, h2⟩ := h
  refine ⟨_, fun i => pe_lstA (h1 i), fun τ σ H ρ lab Q R W => h2 τ σ H ρ lab _ R (W.bd.imp fun ds _ w xs H1 s1 r1 => ?_)⟩
  by_cases hz : ds.length ≤ sizeLine
  · rw [if_pos hz] at w
    exact ⟨by rw [r1.length]; exact hz, fun p H' s hp hn => w _ H' (s1.trans s) (.lst hp (.inl (s1.free hn)) ((r1.wk fun q o e z => ⟨z, fun e' => by subst e'; rw [hn] at e; cases e⟩).up s)) fun _ => ⟨p, rfl, s1.free hn⟩⟩
  · rw [if_neg hz] at w
    exact False.elim w
/-! ### operations on values -/
/-- r does what fd says, its answer of what is new and of its parts -/
def OpS (K : PySem.W.Frag) (r : R2) (fd : D → D → Rs D) : Prop := ∀ (A : Addr → Prop) x y d e H (Q : VK) z, Rp K A H x d → Rp K A H y e → fd d e = .ok z → (∀ v H', Same H H' → Rp K (fun p => H p = none ∨ A p) H' v z → Q v H') → r x y H Q
def UnS (K : PySem.W.Frag) (r : V → Hp → VK → Prop) (fd : D → Rs D) : Prop := ∀ (A : Addr → Prop) x d H (Q : VK) z, Rp K A H x d → fd d = .ok z → (∀ v H', Same H H' → Rp K (fun p => H p = none ∨ A p) H' v z → Q v H') → r x H Q
def CallS (K : PySem.W.Frag) (r : List V → Hp → VK → Prop) (fd : List D → Rs D) : Prop := ∀ (A : Addr → Prop) xs ds H (Q : VK) z, Rps K A H xs ds → fd ds = .ok z → (∀ v H', Same H H' → Rp K (fun p => H p = none ∨ A p) H' v z → Q v H') → r xs H Q
/-- no exception comes of it -/
def okD (r : Rs D) : Rs D := match r with
  | .ok d => .ok d
  | _ => .st
def op2 (fd : D → D → Rs D) (fa fb : En → Rs D) : En → Rs D := fun ρ => (fa ρ).bd fun x => (fb ρ).bd fun y => okD (fd x y)
def op1 (fd : D → Rs D) (fa : En → Rs D) : En → Rs D := fun ρ => (fa ρ).bd fun x => okD (fd x)
def opA (fd : List D → Rs D) (fa : En → Rs (List D)) : En → Rs D := fun ρ => (fa ρ).bd fun x => okD (fd x)
theorem WR.okD {G : Gx} {r : Rs D} {P : D → Prop} (h : WR G (okD r) P) : ∃ z, r = .ok z ∧ P z := by
  cases r with
  | ok z => exact ⟨z, rfl, h⟩
  | ex c => exact False.elim h
  | st => exact False.elim h
theorem sim_op2 {K : PySem.W.Frag} {G : Gx} {r : R2} {ta tb : TE} {fd : D → D → Rs D} (hs : OpS K r fd) (h1 : SimE K G m1 ta fa) (h2 : SimE K G m2 tb fb) : SimE K G (jn m1 m2) (tOp r ta tb) (op2 fd fa fb) := by
  intro τ σ H ρ lab Q R W
  refine h1 τ σ H ρ lab _ R (W.bd.imp fun d _ w x H1 s1 r1 => ?_)
  refine h2 τ σ H1 ρ lab _ (R.up s1) (w.bd.imp fun e _ w y H2 s2 r2 => ?_)
  obtain ⟨z, ez, w⟩ := w.okD
  refine hs (fpM (jn m1 m2) lab H) x y d e H2 Q z (r1.mono s2 fun p o _ q => fpM_l q) (r2.wk fun p o _ q => fpM_r (fpM_back s1 q)) ez fun v H' s r => w v H' ((s1.trans s2).trans s) (r.wk fun p o _ q => ?_)
  rcases q with q | q
  · exact .inl ((s1.trans s2).free q)
  · exact q
theorem sim_op1 {K : PySem.W.Frag} {G : Gx} {r : V → Hp → VK → Prop} {ta : TE} {fd : D → Rs D} (hs : UnS K r fd) (h1 : SimE K G m ta fa) : SimE K G m (tUn r ta) (op1 fd fa) := by
  intro τ σ H ρ lab Q R W
  refine h1 τ σ H ρ lab _ R (W.bd.imp fun d _ w x H1 s1 r1 => ?_)
  obtain ⟨z, ez, w⟩ := w.okD
  refine hs (fpM m lab H) x d H1 Q z r1 ez fun v H' s r => w v H' (s1.trans s) (r.wk fun p o _ q => ?_)
  rcases q with q | q
  · exact .inl (s1.free q)
  · exact q
theorem sim_opA {K : PySem.W.Frag} {G : Gx} {r : List V → Hp → VK → Prop} {ta : TA} {fd : List D → Rs D} (hs : CallS K r fd) (h1 : SimA K G m ta g) : SimE K G m (tCB r ta) (opA fd g) := by
  intro τ σ H ρ lab Q R W
  refine h1 τ σ H ρ lab _ R (W.bd.imp fun d _ w x H1 s1 r1 => ?_)
  obtain ⟨z, ez, w⟩ := w.okD
  refine hs (fpM m lab H) x d H1 Q z r1 ez fun v H' s r => w v H' (s1.trans s) (r.wk fun p o _ q => ?_)
  rcases q with q | q
  · exact .inl (s1.free q)
  · exact q
/-- the answer has nothing that may be changed -/
theorem se_cut {f : En → Rs D} (h : SE C m e f) (hi : ∀ ρ d, f ρ = .ok d → imm d = true) : SE C (some []) e f := by
  obtain ⟨t, h1, h2⟩ := h
  exact ⟨t, h1, fun τ σ H ρ lab Q R W => h2 τ σ H ρ lab Q R (W.imp fun d ed w v H' s r => w v H' s (r.imm (hi ρ d ed)))⟩
theorem imm_op2 {fd : D → D → Rs D} (h : ∀ x y z, fd x y = .ok z → imm z = true) {ρ : En} {d : D} (e : op2 fd fa fb ρ = .ok d) : imm d = true := by
  obtain ⟨x, _, e⟩ := bd_eq_ok e
  obtain ⟨y, _, e⟩ := bd_eq_ok e
  unfold okD at e
  split at e
  · rename_i z hz
    cases e
    exact h x y _ hz
  · cases e
theorem imm_op1 {fd : D → Rs D} (h : ∀ x z, fd x = .ok z → imm z = true) {ρ : En} {d : D} (e : op1 fd fa ρ = .ok d) : imm d = true := by
  obtain ⟨x, _, e⟩ := bd_eq_ok e
  unfold okD at e
  split at e
  · rename_i z hz
    cases e
    exact h x _ hz
  · cases e
theorem imm_opA {fd : List D → Rs D} (h : ∀ x z, fd x = .ok z → imm z = true) {ρ : En} {d : D} (e : opA fd g ρ = .ok d) : imm d = true := by
  obtain ⟨x, _, e⟩ := bd_eq_ok e
  unfold okD at e
  split at e
  · rename_i z hz
    cases e
    exact h x _ hz
  · cases e
/-- a op b: ro gives the rule in each context -/
theorem se_op {op : Operator} {r : R2} {fd : D → D → Rs D} (ro : ∀ i, OpR (C.X i) (binaryOp op) r) (hs : OpS C.K r fd) (ha : SE C m1 a fa) (hb : SE C m2 b fb) : SE C (jn m1 m2) (.BinOp a op b pos) (op2 fd fa fb) := by
  obtain ⟨t, h1, h2⟩ := ha
  obtain ⟨u, k1, k2⟩ := hb
  exact ⟨_, fun i => pe_op (ro i) (h1 i) (k1 i), sim_op2 hs h2 k2⟩
theorem se_un {op : UnaryOp} {r : V → Hp → VK → Prop} {fd : D → Rs D} (ro : ∀ i, UnR (C.X i) (unaryOp op) r) (hs : UnS C.K r fd) (ha : SE C m a fa) : SE C m (.UnaryOp op a pos) (op1 fd fa) := by
  obtain ⟨t, h1, h2⟩ := ha
  exact ⟨_, fun i => pe_un (ro i) (h1 i), sim_op1 hs h2⟩
theorem se_cmp {op : CmpOp} {r : R2} {fd : D → D → Rs D} (ro : ∀ i, OpR (C.X i) (compareOp op) r) (hs : OpS C.K r fd) (ha : SE C m1 a fa) (hb : SE C m2 b fb) (hm : behindInMarks op b = false := by first | exact nomark _ | (with_unfolding_all rfl)) :
    SE C (jn m1 m2) (.Compare a [op] [b] pos) (op2 fd fa fb) := by
  obtain ⟨t, h1, h2⟩ := ha
  obtain ⟨u, k1, k2⟩ := hb
  exact ⟨_, fun i => pe_cmpR (ro i) (h1 i) (k1 i) hm, sim_op2 hs h2 k2⟩
theorem se_ix {r : R2} {fd : D → D → Rs D} (ro : ∀ i, IxR (C.X i) r) (hs : OpS C.K r fd) (ha : SE C m1 a fa) (hb : SE C m2 b fb) (hp : PlainIx b := by exact fun _ _ => rfl) : SE C (jn m1 m2) (.Subscript a b pos) (op2 fd fa fb) := by
  obtain ⟨t, h1, h2⟩ := ha
  obtain ⟨u, k1, k2⟩ := hb
  exact ⟨_, fun i => pe_ix (ro i) (h1 i) (k1 i) hp, sim_op2 hs h2 k2⟩
variable {p : Pos} {x : Str} {id T : String}
theorem se_callB {r : List V → Hp → VK → Prop} {fd : List D → Rs D} (ro : ∀ i, CallR (C.X i) (.builtin id) r) (hs : CallS C.K r fd) (hg : ∀ i, Gl (C.X i) x) (hm : C.mg x = none) (hv : bootBuiltins x = some (.builtin id)) (ha : SA C m (e :: es) g)
    (hn : x ≠ "__name__" := by decide) (hdb : (x == ("__debug__" : Str)) = false := by decide) (he : ∀ i, starEach (e :: es) (C.X i).env = (false, eval e (C.X i).env) :: starEach es (C.X i).env := by intro _; rfl)
    (hpl : ∀ i, (backTo pos (starEach es (C.X i).env)).any (·.1) = false := by intro _; rfl) : SE C m (.Call (.Name x p) (e :: es) [] pos) (opA fd g) := by
  obtain ⟨t, h1, h2⟩ := ha
  exact ⟨_, fun i => pe_callB (ro i) (hg i) (by rw [(C.cx i).2.2.2.1]; exact hm) hv (h1 i) hn hdb (he i) (hpl i), sim_opA hs h2⟩
theorem se_callT {r : List V → Hp → VK → Prop} {fd : List D → Rs D} (ro : ∀ i, CallR (C.X i) (.type T) r) (hs : CallS C.K r fd) (hg : ∀ i, Gl (C.X i) x) (hm : C.mg x = none) (hv : bootBuiltins x = some (.type T)) (ha : SA C m (e :: es) g)
    (hn : x ≠ "__name__" := by decide) (hdb : (x == ("__debug__" : Str)) = false := by decide) (he : ∀ i, starEach (e :: es) (C.X i).env = (false, eval e (C.X i).env) :: starEach es (C.X i).env := by intro _; rfl)
    (hpl : ∀ i, (backTo pos (starEach es (C.X i).env)).any (·.1) = false := by intro _; rfl) : SE C m (.Call (.Name x p) (e :: es) [] pos) (opA fd g) := by
  obtain ⟨t, h1, h2⟩ := ha
  exact ⟨_, fun i => pe_callTy (ro i) (hg i) (by rw [(C.cx i).2.2.2.1]; exact hm) hv (h1 i) hn hdb (he i) (hpl i), sim_opA hs h2⟩
/-! ### and, or, not, if, chains -/
def andD (f g : En → Rs D) : En → Rs D := fun ρ => (f ρ).bd fun d => match d with
  | .bl true => g ρ
  | .bl false => .ok (.bl false)
  | _ => .st
def orD (f g : En → Rs D) : En → Rs D := fun ρ => (f ρ).bd fun d => match d with
  | .bl false => g ρ
  | .bl true => .ok (.bl true)
  | _ => .st
def notD : D → Rs D
  | .bl b => .ok (.bl (!b))
  | _ => .st
variable {rest : List Expr}
theorem se_one {op} (h : SE C m a fa) : SE C m (.BoolOp op [a] pos) fa := by
  obtain ⟨t, h1, h2⟩ := h
  exact ⟨_, fun i => pe_one (h1 i), h2⟩
theorem se_and (ha : SE C m1 a fa) (hb : SE C m2 (.BoolOp .And (b :: rest) pos) fb) : SE C m2 (.BoolOp .And (a :: b :: rest) pos) (andD fa fb) := by
  obtain ⟨t, h1, h2⟩ := ha
  obtain ⟨u, k1, k2⟩ := hb
  refine ⟨_, fun i => pe_and (h1 i) (k1 i), fun τ σ H ρ lab Q R W => h2 τ σ H ρ lab _ R (W.bd.imp fun d _ w x H1 s1 r1 => ?_)⟩
  cases r1 with
  | bl c =>
    refine ⟨c, rfl, ?_⟩
    cases c with
    | true =>
      rw [if_pos rfl]
      exact k2 τ σ H1 ρ lab Q (R.up s1) (w.imp fun z _ w v H' s r => w v H' (s1.trans s) (r.wk fun p o _ q => fpM_back s1 q))
    | false =>
      rw [if_neg Bool.false_ne_true]
      exact w _ H1 s1 (.bl false)
  | _ => exact False.elim w
theorem se_or (ha : SE C m1 a fa) (hb : SE C m2 (.BoolOp .Or (b :: rest) pos) fb) : SE C m2 (.BoolOp .Or (a :: b :: rest) pos) (orD fa fb) := by
  obtain ⟨t, h1, h2⟩ := ha
  obtain ⟨u, k1, k2⟩ := hb
  refine ⟨_, fun i => pe_or (h1 i) (k1 i), fun τ σ H ρ lab Q R W => h2 τ σ H ρ lab _ R (W.bd.imp fun d _ w x H1 s1 r1 => ?_)⟩
  cases r1 with
  | bl c =>
    refine ⟨c, rfl, ?_⟩
    cases c with
    | false =>
      rw [if_neg Bool.false_ne_true]
      exact k2 τ σ H1 ρ lab Q (R.up s1) (w.imp fun z _ w v H' s r => w v H' (s1.trans s) (r.wk fun p o _ q => fpM_back s1 q))
    | true =>
      rw [if_pos rfl]
      exact w _ H1 s1 (.bl true)
  | _ => exact False.elim w
theorem se_not (ha : SE C m a fa) : SE C (some []) (.UnaryOp .Not a pos) (op1 notD fa) := by
  obtain ⟨t, h1, h2⟩ := ha
  refine ⟨_, fun i => pe_not (h1 i), fun τ σ H ρ lab Q R W => h2 τ σ H ρ lab _ R (W.bd.imp fun d _ w x H1 s1 r1 => ?_)⟩
  obtain ⟨z, ez, w⟩ := w.okD
  cases r1 with
  | bl c => cases ez; exact ⟨c, rfl, w _ H1 s1 (.bl _)⟩
  | _ => cases ez
def ifD (c : En → Rs Bool) (f g : En → Rs D) : En → Rs D := fun ρ => (c ρ).bd fun k => if k = true then f ρ else g ρ
theorem se_if {c : Expr} {fc : En → Rs Bool} (hc : ST C c fc) (ha : SE C m1 a fa) (hb : SE C m2 b fb) : SE C (jn m1 m2) (.IfExp c a b pos) (ifD fc fa fb) := by
  obtain ⟨tc, c1, c2⟩ := hc
  obtain ⟨t, h1, h2⟩ := ha
  obtain ⟨u, k1, k2⟩ := hb
  refine ⟨_, fun i => pe_ifExp (c1 i) (h1 i) (k1 i), fun τ σ H ρ lab Q R W => c2 τ σ H ρ lab _ R (W.bd.imp fun k _ w H1 s1 => ?_)⟩
  cases k with
  | true =>
    rw [if_pos rfl] at w ⊢
    exact h2 τ σ H1 ρ lab Q (R.up s1) (w.imp fun z _ w v H' s r => w v H' (s1.trans s) (r.wk fun p o _ q => fpM_l (fpM_back s1 q)))
  | false =>
    rw [if_neg Bool.false_ne_true] at w ⊢
    exact k2 τ σ H1 ρ lab Q (R.up s1) (w.imp fun z _ w v H' s r => w v H' (s1.trans s) (r.wk fun p o _ q => fpM_r (fpM_back s1 q)))
/-- a op b op' c -/
def chD (fd fd' : D → D → Rs D) (fa fb fc : En → Rs D) : En → Rs D := fun ρ => (fa ρ).bd fun x => (fb ρ).bd fun y => (okD (fd x y)).bd fun z => match z with
  | .bl true => (fc ρ).bd fun w => okD (fd' y w)
  | .bl false => .ok (.bl false)
  | _ => .st
theorem sim_chain {K : PySem.W.Frag} {G : Gx} {r r' : R2} {ta tb tc : TE} {fd fd' : D → D → Rs D} {fc : En → Rs D} {m3 : Mode} (hs : OpS K r fd) (hs' : OpS K r' fd') (hi : ∀ x y z, fd' x y = .ok z → imm z = true) (h1 : SimE K G m1 ta fa) (h2 : SimE K G m2 tb fb) (h3 : SimE K G m3 tc fc) :
    SimE K G (some []) (tChain r r' ta tb tc) (chD fd fd' fa fb fc) := by
  intro τ σ H ρ lab Q R W
  refine h1 τ σ H ρ lab _ R (W.bd.imp fun d _ w x H1 s1 r1 => ?_)
  refine h2 τ σ H1 ρ lab _ (R.up s1) (w.bd.imp fun e _ w y H2 s2 r2 => ?_)
  obtain ⟨z, ez, w⟩ := w.bd.okD
  refine hs (fun _ => True) x y d e H2 _ z (r1.mono s2 fun p o _ q => trivial) (r2.wk fun p o _ q => trivial) ez fun v H3 s3 r3 => ?_
  cases r3 with
  | bl c =>
    refine ⟨c, rfl, ?_⟩
    cases c with
    | false =>
      rw [if_neg Bool.false_ne_true]
      exact w _ H3 ((s1.trans s2).trans s3) (.bl false)
    | true =>
      rw [if_pos rfl]
      refine h3 τ σ H3 ρ lab _ ((R.up s1).up (s2.trans s3)) (w.bd.imp fun e' _ w y' H4 s4 r4 => ?_)
      obtain ⟨z', ez', w⟩ := w.okD
      exact hs' (fun _ => True) y y' e e' H4 Q z' (r2.mono (s3.trans s4) fun p o _ q => trivial) (r4.wk fun p o _ q => trivial) ez' fun v H5 s5 r5 => w v H5 ((((s1.trans s2).trans s3).trans s4).trans s5) (r5.imm (hi _ _ _ ez'))
  | _ => exact False.elim w
theorem se_chain {c : Expr} {fc : En → Rs D} {m3 : Mode} {op op' : CmpOp} {r r' : R2} {fd fd' : D → D → Rs D} (ro : ∀ i, OpR (C.X i) (compareOp op) r) (hs : OpS C.K r fd) (ro' : ∀ i, OpR (C.X i) (compareOp op') r') (hs' : OpS C.K r' fd') (hi : ∀ x y z, fd' x y = .ok z → imm z = true)
    (ha : SE C m1 a fa) (hb : SE C m2 b fb) (hc : SE C m3 c fc) (hm : lastMarks [op, op'] [b, c] = false := by with_unfolding_all rfl) : SE C (some []) (.Compare a [op, op'] [b, c] pos) (chD fd fd' fa fb fc) := by
  obtain ⟨t, h1, h2⟩ := ha
  obtain ⟨u, k1, k2⟩ := hb
  obtain ⟨v, l1, l2⟩ := hc
  exact ⟨_, fun i => pe_chain (ro i) (ro' i) (h1 i) (k1 i) (l1 i) hm, sim_chain hs hs' hi h2 k2 l2⟩
/-! ### tests -/
def truD : D → Rs Bool
  | .non => .ok false
  | .bl b => .ok b
  | .int i => .ok (i != 0)
  | .tup l => .ok (!l.isEmpty)
  | .lst l => .ok (!l.isEmpty)
  | _ => .st
def blD : D → Rs Bool
  | .bl b => .ok b
  | _ => .st
def tst (f : En → Rs D) : En → Rs Bool := fun ρ => (f ρ).bd truD
def tsb (f : En → Rs D) : En → Rs Bool := fun ρ => (f ρ).bd blD
theorem isEmpty_rp {K : PySem.W.Frag} {A : Addr → Prop} {H : Hp} {xs : List V} {ds : List D} (r : Rps K A H xs ds) : (!ds.isEmpty) = !xs.isEmpty := by cases r <;> rfl
theorem st_val (ha : SE C m a fa) (he : ∀ i whole, isTrue a (C.X i).env whole = (do let v ← whole; standAt a.pos; holding [v] (truthy v)) := by intro _ _; rfl) : ST C a (tst fa) := by
  obtain ⟨t, h1, h2⟩ := ha
  refine ⟨fun σ H Q => t σ H fun x H' => ∃ k, TruV C.K x H' k ∧ Q k H', fun i => by rw [← C.hK i]; exact pt_truth (h1 i) (he i), fun τ σ H ρ lab Q R W => h2 τ σ H ρ lab _ R (W.bd.imp fun d _ w x H1 s1 r1 => ?_)⟩
  cases r1 with
  | non => exact ⟨false, rfl, w H1 s1⟩
  | bl b => exact ⟨b, rfl, w H1 s1⟩
  | int i => exact ⟨i != 0, rfl, w H1 s1⟩
  | tup h r => exact ⟨_, .inr (.inl ⟨_, h, rfl⟩), by rw [← isEmpty_rp r]; exact w H1 s1⟩
  | lst h m r => exact ⟨_, .inl ⟨_, SqL.of h, rfl⟩, by rw [← isEmpty_rp r]; exact w H1 s1⟩
  | _ => exact False.elim w
theorem sim_tsb {K : PySem.W.Frag} {G : Gx} {t : TE} {f : En → Rs D} (h : SimE K G m t f) : SimT K G (tTest t) (tsb f) := fun τ σ H ρ lab Q R W => h τ σ H ρ lab _ R (W.bd.imp fun d _ w x H1 s1 r1 => by
  cases r1 with
  | bl b => exact ⟨b, rfl, w H1 s1⟩
  | _ => exact False.elim w)
theorem st_cmp {op : CmpOp} {r : R2} {fd : D → D → Rs D} (ro : ∀ i, OpR (C.X i) (compareOp op) r) (hs : OpS C.K r fd) (ha : SE C m1 a fa) (hb : SE C m2 b fb) (hm : behindInMarks op b = false := by first | exact nomark _ | (with_unfolding_all rfl)) :
    ST C (.Compare a [op] [b] pos) (tsb (op2 fd fa fb)) := by
  obtain ⟨t, h1, h2⟩ := ha
  obtain ⟨u, k1, k2⟩ := hb
  exact ⟨_, fun i => pt_cmpR (ro i) (h1 i) (k1 i) hm, sim_tsb (sim_op2 hs h2 k2)⟩
theorem st_chain {c : Expr} {fc : En → Rs D} {m3 : Mode} {op op' : CmpOp} {r r' : R2} {fd fd' : D → D → Rs D} (ro : ∀ i, OpR (C.X i) (compareOp op) r) (hs : OpS C.K r fd) (ro' : ∀ i, OpR (C.X i) (compareOp op') r') (hs' : OpS C.K r' fd') (hi : ∀ x y z, fd' x y = .ok z → imm z = true)
    (ha : SE C m1 a fa) (hb : SE C m2 b fb) (hc : SE C m3 c fc) (hm : lastMarks [op, op'] [b, c] = false := by with_unfolding_all rfl) : ST C (.Compare a [op, op'] [b, c] pos) (tsb (chD fd fd' fa fb fc)) := by
  obtain ⟨t, h1, h2⟩ := ha
  obtain ⟨u, k1, k2⟩ := hb
  obtain ⟨v, l1, l2⟩ := hc
  exact ⟨_, fun i => pt_chain (ro i) (ro' i) (h1 i) (k1 i) (l1 i) hm, sim_tsb (sim_chain hs hs' hi h2 k2 l2)⟩
variable {ga gb : En → Rs Bool}
def andT (f g : En → Rs Bool) : En → Rs Bool := fun ρ => (f ρ).bd fun k => if k = true then g ρ else .ok false
def orT (f g : En → Rs Bool) : En → Rs Bool := fun ρ => (f ρ).bd fun k => if k = true then .ok true else g ρ
def notT (f : En → Rs Bool) : En → Rs Bool := fun ρ => (f ρ).bd fun k => .ok (!k)
theorem sw_and1 (ha : ST C a ga) : SW C (.BoolOp .And [a] pos) ga := let ⟨t, h1, h2⟩ := ha; ⟨t, fun i => pw_and1 (h1 i), h2⟩
theorem sw_or1 (ha : ST C a ga) : SW C (.BoolOp .Or [a] pos) ga := let ⟨t, h1, h2⟩ := ha; ⟨t, fun i => pw_or1 (h1 i), h2⟩
theorem sw_and (ha : ST C a ga) (hb : SW C (.BoolOp .And (b :: rest) pos) gb) : SW C (.BoolOp .And (a :: b :: rest) pos) (andT ga gb) := by
  obtain ⟨t, h1, h2⟩ := ha
  obtain ⟨u, k1, k2⟩ := hb
  refine ⟨_, fun i => pw_and (h1 i) (k1 i), fun τ σ H ρ lab Q R W => h2 τ σ H ρ lab _ R (W.bd.imp fun k _ w H1 s1 => ?_)⟩
  cases k with
  | true =>
    rw [if_pos rfl] at w ⊢
    exact k2 τ σ H1 ρ lab Q (R.up s1) (w.imp fun z _ w H' s => w H' (s1.trans s))
  | false =>
    rw [if_neg Bool.false_ne_true] at w ⊢
    exact w H1 s1
theorem sw_or (ha : ST C a ga) (hb : SW C (.BoolOp .Or (b :: rest) pos) gb) : SW C (.BoolOp .Or (a :: b :: rest) pos) (orT ga gb) := by
  obtain ⟨t, h1, h2⟩ := ha
  obtain ⟨u, k1, k2⟩ := hb
  refine ⟨_, fun i => pw_or (h1 i) (k1 i), fun τ σ H ρ lab Q R W => h2 τ σ H ρ lab _ R (W.bd.imp fun k _ w H1 s1 => ?_)⟩
  cases k with
  | false =>
    rw [if_neg Bool.false_ne_true] at w ⊢
    exact k2 τ σ H1 ρ lab Q (R.up s1) (w.imp fun z _ w H' s => w H' (s1.trans s))
  | true =>
    rw [if_pos rfl] at w ⊢
    exact w H1 s1
theorem st_not (ha : ST C a ga) : ST C (.UnaryOp .Not a pos) (notT ga) := by
  obtain ⟨t, h1, h2⟩ := ha
  exact ⟨_, fun i => pt_not (h1 i), fun τ σ H ρ lab Q R W => h2 τ σ H ρ lab _ R (W.bd.imp fun k _ w H1 s1 => w H1 s1)⟩
end
end VL

set_option Elab.async false
set_option linter.all false
set_option maxRecDepth 100000
set_option maxHeartbeats 4000000
namespace VL
open PySem PySem.Spec PyProof.Rows L2
/-! ### statements -/
inductive Ou where
  | nx (ρ : En) | rt (d : D) | bk (ρ : En) | ct (ρ : En) | ex (c : Str) | st
def Rs.bo {α : Type} : Rs α → (α → Ou) → Ou
  | .ok a, f => f a
  | .ex c, _ => .ex c
  | .st, _ => .st
@[simp] theorem bo_ok {α : Type} (a : α) (f : α → Ou) : (Rs.ok a).bo f = f a := by_def rfl
@[simp] theorem bo_ex {α : Type} (c : Str) (f : α → Ou) : (Rs.ex c : Rs α).bo f = .ex c := by_def rfl
@[simp] theorem bo_st {α : Type} (f : α → Ou) : (Rs.st : Rs α).bo f = .st := by_def rfl
def Ou.sq : Ou → (En → Ou) → Ou
  | .nx ρ, f => f ρ
  | o, _ => o
@[simp] theorem sq_nx (ρ : En) (f : En → Ou) : (Ou.nx ρ).sq f = f ρ := by_def rfl
@[simp] theorem sq_rt (d : D) (f : En → Ou) : (Ou.rt d).sq f = .rt d := by_def rfl
@[simp] theorem sq_bk (ρ : En) (f : En → Ou) : (Ou.bk ρ).sq f = .bk ρ := by_def rfl
@[simp] theorem sq_ct (ρ : En) (f : En → Ou) : (Ou.ct ρ).sq f = .ct ρ := by_def rfl
@[simp] theorem sq_ex (c : Str) (f : En → Ou) : (Ou.ex c).sq f = .ex c := by_def rfl
@[simp] theorem sq_st (f : En → Ou) : Ou.st.sq f = .st := by_def rfl
def WS (K : PySem.W.Frag) (G : Gx) (τ : List (V × D)) (o : Ou) (De : Ends) : Prop := match o with
  | .nx ρ => ∀ σ H lab, RR K G τ ρ σ H lab → De.nx σ H
  | .bk ρ => ∀ σ H lab, RR K G τ ρ σ H lab → De.bk σ H
  | .ct ρ => ∀ σ H lab, RR K G τ ρ σ H lab → De.ct σ H
  | .rt d => ∀ v H, Same G.H0 H → Rp K (fun p => G.H0 p = none) H v d → De.rt v H
  | .ex c => ∀ H', Same G.H0 H' → G.E (.ref (G.cl c)) none H'
  | .st => False
theorem WS.bo {α : Type} {K : PySem.W.Frag} {G : Gx} {τ : List (V × D)} {r : Rs α} {k : α → Ou} {De : Ends} (h : WS K G τ (r.bo k) De) : WR G r (fun a => WS K G τ (k a) De) := by
  cases r with
  | ok a => exact h
  | ex c => exact h
  | st => exact h
def SimS (K : PySem.W.Frag) (G : Gx) (t : TS) (f : En → Ou) : Prop := ∀ τ σ H ρ lab (De : Ends), RR K G τ ρ σ H lab → WS K G τ (f ρ) De → t De σ H
def SS (C : Ct) (s : Stmt) (f : En → Ou) : Prop := ∃ t, (∀ i, PS (C.X i) s t) ∧ SimS C.K C.G t f
def SSs (C : Ct) (s : List Stmt) (f : En → Ou) : Prop := ∃ t, (∀ i, PSs (C.X i) s t) ∧ SimS C.K C.G t f
section
variable {C : Ct} {pos : Pos} {s : Stmt} {ss : List Stmt} {f g : En → Ou} {e : Expr} {m : Mode} {fe : En → Rs D}
theorem sss_nil : SSs C [] .nx := ⟨_, fun _ => pss_nil, fun τ σ H ρ lab De R W => W σ H lab R⟩
def seqS (f g : En → Ou) : En → Ou := fun ρ => (f ρ).sq g
theorem sss_one (h : SS C s f) : SSs C [s] f := let ⟨t, h1, h2⟩ := h; ⟨t, fun i => pss_one (h1 i), h2⟩
theorem sss_cons (h : SS C s f) (k : SSs C ss g) : SSs C (s :: ss) (seqS f g) := by
  obtain ⟨t, h1, h2⟩ := h
  obtain ⟨u, k1, k2⟩ := k
  refine ⟨_, fun i => pss_cons (h1 i) (k1 i), fun τ σ H ρ lab De R W => h2 τ σ H ρ lab _ R ?_⟩
  unfold seqS at W
  cases h : f ρ with
  | nx ρ' => rw [h] at W; exact fun σ' H' lab' R' => k2 τ σ' H' ρ' lab' De R' W
  | rt d => rw [h] at W; exact W
  | bk ρ' => rw [h] at W; exact W
  | ct ρ' => rw [h] at W; exact W
  | ex c => rw [h] at W; exact W
  | st => rw [h] at W; exact W
/-- a name that owned what it has gives that up -/
def frz (i : Nat) (ρ : En) : En := match ρ[i]? with
  | some (.ow d) => ρ.set i (.nw d)
  | some (.o2 l) => ρ.set i (.nw (.lst (l.map .lst)))
  | _ => ρ
theorem RR.frz {K : PySem.W.Frag} {G : Gx} {τ : List (V × D)} {ρ : En} {σ : L2.St} {H : Hp} {lab : Lab} (R : RR K G τ ρ σ H lab) (i : Nat) : ∃ lab', RR K G τ (frz i ρ) σ H lab' := by
  have go : ∀ d, (∃ s, ρ[i]? = some s ∧ ∀ v, SlotOk K H lab i v s → Rp K (fun p => (lab p).1 = 1 ∨ (lab p).1 = i + 2) H v d) → (∃ v s, ρ[i]? = some s ∧ σ[i]? = some (some v) ∧ SlotOk K H lab i v s) → ∃ lab', RR K G τ (ρ.set i (.nw d)) σ H lab' := by
    rintro d ⟨s0, es0, hrp⟩ ⟨v, s, es, ev, hs⟩
    rw [es] at es0; cases es0
    have hv := hrp v hs
    let lab' : Lab := fun p => if (lab p).1 = i + 2 then (1, 0) else lab p
    have lo : ∀ {p}, (lab p).1 ≠ i + 2 → lab' p = lab p := fun {p} h => by show (if (lab p).1 = i + 2 then ((1, 0) : Nat × Nat) else lab p) = _; rw [if_neg h]
    have ln : ∀ {p}, (lab p).1 = i + 2 → lab' p = (1, 0) := fun {p} h => by show (if (lab p).1 = i + 2 then ((1, 0) : Nat × Nat) else lab p) = _; rw [if_pos h]
    refine ⟨lab', by rw [List.length_set]; exact R.len, fun j x e => ?_, R.old, fun p hp => ?_, fun q hq => Rp.wk (fun p o e z => by rw [lo (by omega)]; exact z) (R.tm q hq)⟩
    · by_cases hj : i = j
      · subst hj
        have hi : i < ρ.length := (List.getElem?_eq_some_iff.mp es).1
        rw [List.getElem?_set_self hi] at e
        cases e
        refine .inr ⟨v, ev, Rp.wk (fun p o e z => ?_) hv⟩
        rcases z with z | z
        · rw [lo (by omega)]; exact z
        · rw [ln z]
      · rw [List.getElem?_set_ne hj] at e
        rcases R.sl j x e with z | ⟨u, e1, e2⟩
        · exact .inl z
        · refine .inr ⟨u, e1, ?_⟩
          cases x with
          | no => trivial
          | sh d' => exact Rp.wk (fun p o e z => by rw [lo (by omega)]; exact z) e2
          | nw d' => exact Rp.wk (fun p o e z => by rw [lo (by omega)]; exact z) e2
          | ow d' =>
            refine ⟨Rp.wk (fun p o e z => by rw [lo (by omega)]; exact z) e2.1, fun hm => ?_⟩
            obtain ⟨a, rfl, ha⟩ := e2.2 hm
            exact ⟨a, rfl, by rw [lo (by omega)]; exact ha⟩
          | oz d' =>
            obtain ⟨a, xs, ds, q1, q2, q3, q4, q5⟩ := e2
            exact ⟨a, xs, ds, q1, q2, q3, by rw [lo (by omega)]; exact q4, Rps.wk (fun p o e z => by rw [lo (by omega)]; exact z) q5⟩
          | o2 l =>
            obtain ⟨a, xs, q1, q2, q3, q4, q5⟩ := e2
            refine ⟨a, xs, q1, q2, ?_, q4, fun jj y ds f1 f2 => Rp.wk (fun p o e z => ?_) (q5 jj y ds f1 f2)⟩
            · rw [lo (by rw [q3]; show j + 2 ≠ i + 2; omega)]; exact q3
            · rw [lo (by rw [z]; show j + 2 ≠ i + 2; omega)]; exact z
    · by_cases h : (lab p).1 = i + 2
      · exact R.new p (by omega)
      · rw [lo h] at hp; exact R.new p hp
  unfold VL.frz
  cases e : ρ[i]? with
  | none => exact ⟨lab, R⟩
  | some s =>
    rcases R.sl i s e with rfl | ⟨v, ev, hv⟩
    · exact ⟨lab, R⟩
    · cases s with
      | no => exact ⟨lab, R⟩
      | sh d => exact ⟨lab, R⟩
      | nw d => exact ⟨lab, R⟩
      | oz d => exact ⟨lab, R⟩
      | ow d => exact go d ⟨_, e, fun _ h => h.1⟩ ⟨v, _, e, ev, hv⟩
      | o2 l => exact go _ ⟨_, e, fun _ h => (o2_rp h).wk fun _ _ _ z => .inr z⟩ ⟨v, _, e, ev, hv⟩
def frzS (i : Nat) (f : En → Ou) : En → Ou := fun ρ => f (frz i ρ)
theorem sss_frz (i : Nat) (h : SSs C ss f) : SSs C ss (frzS i f) := by
  obtain ⟨t, h1, h2⟩ := h
  refine ⟨t, h1, fun τ σ H ρ lab De R W => ?_⟩
  obtain ⟨lab', R'⟩ := R.frz i
  exact h2 τ σ H _ lab' De R' W
/-- code that is never come to -/
theorem ss_never : SS C s (fun _ => .st) := ⟨_, fun _ => ps_never, fun τ σ H ρ lab De R W => False.elim W⟩
theorem ss_pass : SS C (.Pass pos) .nx := ⟨_, fun _ => ps_pass, fun τ σ H ρ lab De R W => W σ H lab R⟩
theorem ss_break : SS C (.Break pos) .bk := ⟨_, fun _ => ps_break, fun τ σ H ρ lab De R W => W σ H lab R⟩
theorem ss_continue : SS C (.Continue pos) .ct := ⟨_, fun _ => ps_continue, fun τ σ H ρ lab De R W => W σ H lab R⟩
/-- a return: nothing that was handed in may be changed through it -/
def okRet : Mode → Bool
  | some L => L.all (· != 0)
  | none => false
def retS (fe : En → Rs D) : En → Ou := fun ρ => (fe ρ).bo .rt
theorem ss_ret (he : SE C m e fe) (hm : okRet m = true := by rfl) : SS C (.Return (some e) pos) (retS fe) := by
  obtain ⟨t, h1, h2⟩ := he
  refine ⟨_, fun i => ps_ret (h1 i), fun τ σ H ρ lab De R W => h2 τ σ H ρ lab _ R (W.bo.imp fun d _ w v H' s r => w v H' (R.old.trans s) (r.wk fun p o _ z => ?_))⟩
  rcases z with z | z
  · exact R.old.free z
  · cases m with
    | none => cases hm
    | some L =>
      refine R.new p fun e0 => ?_
      have := List.all_eq_true.mp hm _ z
      rw [e0] at this
      simp at this
theorem ss_retN : SS C (.Return none pos) (fun _ => .rt .non) := ⟨_, fun _ => ps_retN, fun τ σ H ρ lab De R W => W .non H R.old .non⟩
def dropS (fe : En → Rs D) : En → Ou := fun ρ => (fe ρ).bo fun _ => .nx ρ
theorem ss_expr (he : SE C m e fe) (hs : ∀ i, swapsWith e none pos.line (C.X i).env = pure false := by intro _; rfl) : SS C (.Expr e pos) (dropS fe) := by
  obtain ⟨t, h1, h2⟩ := he
  exact ⟨_, fun i => ps_expr (h1 i) (hs i), fun τ σ H ρ lab De R W => h2 τ σ H ρ lab _ R (W.bo.imp fun d _ w v H' s r => w σ H' lab (R.up s))⟩
def ifS (c : En → Rs Bool) (f g : En → Ou) : En → Ou := fun ρ => (c ρ).bo fun k => if k = true then f ρ else g ρ
theorem ss_if {c : Expr} {a b : List Stmt} {fc : En → Rs Bool} (hc : ST C c fc) (ha : SSs C a f) (hb : SSs C b g) : SS C (.If c a b pos) (ifS fc f g) := by
  obtain ⟨tc, c1, c2⟩ := hc
  obtain ⟨t, h1, h2⟩ := ha
  obtain ⟨u, k1, k2⟩ := hb
  refine ⟨_, fun i => ps_if (c1 i) (h1 i) (k1 i), fun τ σ H ρ lab De R W => c2 τ σ H ρ lab _ R (W.bo.imp fun k _ w H1 s1 => ?_)⟩
  cases k with
  | true => rw [if_pos rfl] at w ⊢; exact h2 τ σ H1 ρ lab De (R.up s1) w
  | false => rw [if_neg Bool.false_ne_true] at w ⊢; exact k2 τ σ H1 ρ lab De (R.up s1) w
/-! ### name = e -/
/-- what may be stored at a name -/
def SV (C : Ct) (i : Nat) (s : Stmt) (m : Mode) (f : En → Rs D) : Prop := ∃ t, (∀ j, PS (C.X j) s (tAsg t (gName i))) ∧ SimE C.K C.G m t f
theorem sv_e {i : Nat} {x : Str} {pos' : Pos} (nd : ∀ j, (C.X j).N.Nodup) (he : SE C m e fe) (hN : ∀ j, (C.X j).N[i]? = some x := by intro _; rfl) (hx : ∀ j, Loc (C.X j).env.scope x := by intro _; first | exact Or.inl rfl | exact Or.inr rfl)
    (hs : ∀ j, swapsWith e (some (.Name x pos')) pos.line (C.X j).env = pure false := by intro _; rfl) (hf : ∀ j, (C.X j).fn x = true ∨ (C.X j).env.scope.names.lookup x = some .local := by intro _; first | exact .inl rfl | exact .inr rfl) :
    SV C i (.Assign [.Name x pos'] e pos) m fe := by
  obtain ⟨t, h1, h2⟩ := he
  exact ⟨t, fun j => ps_set (nd j) (hN j) (hx j) (h1 j) (hs j) (hf j), h2⟩
def SVF (C : Ct) (i : Nat) (s : Stmt) (m : Mode) (f : En → Rs D) : Prop := ∃ t, (∀ j, PS (C.X j) s (tAsg t (gName i))) ∧ SimF C.K C.G m t f
theorem svf_e {i : Nat} {x : Str} {pos' : Pos} (nd : ∀ j, (C.X j).N.Nodup) (he : SF C m e fe) (hN : ∀ j, (C.X j).N[i]? = some x := by intro _; rfl) (hx : ∀ j, Loc (C.X j).env.scope x := by intro _; first | exact Or.inl rfl | exact Or.inr rfl)
    (hs : ∀ j, swapsWith e (some (.Name x pos')) pos.line (C.X j).env = pure false := by intro _; rfl) (hf : ∀ j, (C.X j).fn x = true ∨ (C.X j).env.scope.names.lookup x = some .local := by intro _; first | exact .inl rfl | exact .inr rfl) :
    SVF C i (.Assign [.Name x pos'] e pos) m fe := by
  obtain ⟨t, h1, h2⟩ := he
  exact ⟨t, fun j => ps_set (nd j) (hN j) (hx j) (h1 j) (hs j) (hf j), h2⟩
theorem svf_v {i : Nat} (h : SV C i s (some []) fe) : SVF C i s (some []) fe := let ⟨t, h1, h2⟩ := h; ⟨t, h1, h2.toF⟩
def onlyB (P : Nat → Bool) : Mode → Bool
  | some L => L.all P
  | none => false
theorem only_in {P : Nat → Bool} {m : Mode} (h : onlyB P m = true) : ∀ k, inM m k → P k = true := by
  intro k hk
  cases m with
  | none => cases h
  | some L => exact List.all_eq_true.mp h k hk
abbrev okS : Mode → Bool := onlyB fun k => decide (k ≤ 1)
abbrev okN : Mode → Bool := onlyB fun k => k == 1
abbrev okO (i : Nat) : Mode → Bool := onlyB fun k => k == 1 || k == i + 2
def setS (i : Nat) (fe : En → Rs D) : En → Ou := fun ρ => (fe ρ).bo fun d => .nx (ρ.set i (.sh d))
def setN (i : Nat) (fe : En → Rs D) : En → Ou := fun ρ => (fe ρ).bo fun d => .nx (ρ.set i (.nw d))
def setO (i : Nat) (fe : En → Rs D) : En → Ou := fun ρ => (fe ρ).bo fun d => .nx (ρ.set i (.ow d))
theorem RR.shared {K : PySem.W.Frag} {G : Gx} {τ : List (V × D)} {ρ : En} {σ : L2.St} {H H' : Hp} {lab : Lab} {v : V} {d : D} (hm : okS m = true) (R : RR K G τ ρ σ H lab) (s : Same H H') (r : Rp K (fpM m lab H) H' v d) :
    RR K G τ ρ σ H' (newLab H 1 lab) ∧ Rp K (fun p => (newLab H 1 lab p).1 ≤ 1) H' v d := R.fresh (P := fun k => k ≤ 1) (by decide) (fun k hk => of_decide_eq_true (only_in hm k hk)) s r
theorem ss_setS {i : Nat} (h : SV C i s m fe) (hm : okS m = true := by rfl) : SS C s (setS i fe) := by
  obtain ⟨t, h1, h2⟩ := h
  refine ⟨_, h1, fun τ σ H ρ lab De R W => h2 τ σ H ρ lab _ R (W.bo.imp fun d _ w v H' s r => ?_)⟩
  obtain ⟨R', r'⟩ := R.shared hm s r
  exact w _ _ _ (R'.put (s := .sh d) r')
theorem ss_setN {i : Nat} (h : SV C i s m fe) (hm : okN m = true := by rfl) : SS C s (setN i fe) := by
  obtain ⟨t, h1, h2⟩ := h
  refine ⟨_, h1, fun τ σ H ρ lab De R W => h2 τ σ H ρ lab _ R (W.bo.imp fun d _ w v H' s r => ?_)⟩
  obtain ⟨R', r'⟩ := R.fresh (P := fun k => k = 1) rfl (fun k hk => beq_iff_eq.mp (only_in hm k hk)) s r
  exact w _ _ _ (R'.put (s := .nw d) r')
theorem ss_setO {i : Nat} (h : SVF C i s m fe) (hm : okO i m = true := by rfl) : SS C s (setO i fe) := by
  obtain ⟨t, h1, h2⟩ := h
  refine ⟨_, h1, fun τ σ H ρ lab De R W => h2 τ σ H ρ lab _ R (W.bo.imp fun d _ w v H' s r ht => ?_)⟩
  obtain ⟨lab', R', r'⟩ := R.freshO i (fun k hk => by have := only_in hm k hk; simpa using this) s r ht
  exact w _ _ _ (R'.put (s := .ow d) r')
def setZ (i : Nat) (fe : En → Rs D) : En → Ou := fun ρ => (fe ρ).bo fun d => match d with
  | .lst ds => .nx (ρ.set i (.oz (.lst ds)))
  | _ => .st
theorem ss_setZ {i : Nat} (h : SVF C i s m fe) (hm : okS m = true := by rfl) : SS C s (setZ i fe) := by
  obtain ⟨t, h1, h2⟩ := h
  refine ⟨_, h1, fun τ σ H ρ lab De R W => h2 τ σ H ρ lab _ R (W.bo.imp fun d _ w v H' s r ht => ?_)⟩
  cases d with
  | lst ds =>
    obtain ⟨lab', R', r'⟩ := R.freshZ i (fun k hk => by have := only_in hm k hk; simpa using this) s r (ht rfl)
    exact w _ _ _ (R'.put (s := .oz (.lst ds)) r')
  | _ => exact False.elim w
/-! ### targets -/
def SimG (K : PySem.W.Frag) (G : Gx) (g : TG) (fg : D → En → Rs En) : Prop := ∀ τ v d σ H ρ lab (Q : L2.St → Hp → Prop) ρ', RR K G τ ρ σ H lab → Rp K (fun p => (lab p).1 ≤ 1) H v d → fg d ρ = .ok ρ' → (∀ σ', RR K G τ ρ' σ' H lab → Q σ' H) → g v σ H Q
def SimGs (K : PySem.W.Frag) (G : Gx) (g : TGs) (fg : List D → En → Rs En) : Prop := ∀ τ vs ds σ H ρ lab (Q : L2.St → Hp → Prop) ρ', RR K G τ ρ σ H lab → Rps K (fun p => (lab p).1 ≤ 1) H vs ds → fg ds ρ = .ok ρ' → (∀ σ', RR K G τ ρ' σ' H lab → Q σ' H) → g vs σ H Q
def SG (C : Ct) (tg : Expr) (ks : List Nat) (fg : D → En → Rs En) : Prop := ∃ g, (∀ i, PG (C.X i) tg g) ∧ SimG C.K C.G g fg ∧ GOnly g ks ∧ GMono g
def SGs (C : Ct) (tg : List Expr) (ks : List Nat) (fg : List D → En → Rs En) : Prop := ∃ g, (∀ i, PGs (C.X i) tg g) ∧ SimGs C.K C.G g fg ∧ GOnlys g ks ∧ GMonos g
def gnm (i : Nat) : D → En → Rs En := fun d ρ => .ok (ρ.set i (.sh d))
def gnil : List D → En → Rs En := fun ds ρ => match ds with
  | [] => .ok ρ
  | _ => .st
def gcons (f : D → En → Rs En) (g : List D → En → Rs En) : List D → En → Rs En := fun ds ρ => match ds with
  | d :: r => (f d ρ).bd (g r)
  | _ => .st
def gtup (n : Nat) (g : List D → En → Rs En) : D → En → Rs En := fun d ρ => match d with
  | .tup ds => if ds.length = n then g ds ρ else .st
  | _ => .st
variable {ks : List Nat} {fg : D → En → Rs En} {fgs : List D → En → Rs En} {tg : Expr} {tgs : List Expr}
theorem sg_name {i : Nat} {x : Str} (nd : ∀ j, (C.X j).N.Nodup) (hk : i ∈ ks) (hN : ∀ j, (C.X j).N[i]? = some x := by intro _; rfl) (hx : ∀ j, Loc (C.X j).env.scope x := by intro _; first | exact Or.inl rfl | exact Or.inr rfl)
    (hf : ∀ j, (C.X j).fn x = true ∨ (C.X j).env.scope.names.lookup x = some .local := by intro _; first | exact .inl rfl | exact .inr rfl) : SG C (.Name x pos) ks (gnm i) :=
  ⟨_, fun j => pg_name (nd j) (hN j) (hx j) (hf j), fun τ v d σ H ρ lab Q ρ' R r e q => by cases e; exact q _ (R.put (s := .sh d) r), go_name hk, gm_name⟩
theorem sgs_nil : SGs C [] ks gnil := by
  refine ⟨_, fun _ => pgs_nil, fun τ vs ds σ H ρ lab Q ρ' R r e q => ?_, gos_nil, gms_nil⟩
  cases r with
  | nil => cases e; exact ⟨rfl, q _ R⟩
  | cons _ _ => cases e
theorem sgs_cons (h : SG C tg ks fg) (k : SGs C tgs ks fgs) (hs : ∀ i, (assignEach (tg :: tgs) (C.X i).env).map (·.2) = assign tg (C.X i).env :: (assignEach tgs (C.X i).env).map (·.2) := by intro _; rfl) : SGs C (tg :: tgs) ks (gcons fg fgs) := by
  obtain ⟨g, h1, h2, h3, h4⟩ := h
  obtain ⟨u, k1, k2, k3, k4⟩ := k
  refine ⟨_, fun i => pgs_cons (h1 i) (k1 i) (hs i), fun τ vs ds σ H ρ lab Q ρ' R r e q => ?_, gos_cons h3 h4 k3 k4, gms_cons h4 k4⟩
  cases r with
  | nil => cases e
  | cons h r =>
    obtain ⟨ρ1, e1, e2⟩ := bd_eq_ok e
    exact ⟨_, _, rfl, h2 τ _ _ σ H ρ lab _ ρ1 R h e1 fun σ1 R1 => k2 τ _ _ σ1 H ρ1 lab Q ρ' R1 r e2 q⟩
theorem sg_tup {k n : Nat} (h : SGs C tgs ks fgs) (hn : ∀ i, (assignEach tgs (C.X i).env).length = n := by intro _; rfl) (hst : ∀ i, (assignEach tgs (C.X i).env).findIdx? (·.1) = none := by intro _; rfl) : SG C (.Tuple tgs k pos) ks (gtup n fgs) := by
  obtain ⟨u, k1, k2, k3, k4⟩ := h
  refine ⟨gTup C.K n u, fun i => by rw [← C.hK i]; exact pg_tup (C.calm i) (k1 i) (hn i) (hst i), fun τ v d σ H ρ lab Q ρ' R r e q => ?_, go_tup k3, gm_tup k4⟩
  cases r with
  | tup h r =>
    unfold gtup at e
    dsimp only at e
    split at e
    · rename_i hl
      exact ⟨_, _, rfl, h, by rw [r.length]; exact hl, k2 τ _ _ σ H ρ lab Q ρ' R r e q⟩
    · cases e
  | _ => cases e
def asgS (fe : En → Rs D) (fg : D → En → Rs En) : En → Ou := fun ρ => (fe ρ).bo fun d => match fg d ρ with
  | .ok ρ' => .nx ρ'
  | _ => .st
theorem ss_asg (he : SE C m e fe) (hg : SG C tg ks fg) (hm : okS m = true := by rfl) (hs : ∀ i, swapsWithSole [tg] e pos.line (C.X i).env = pure false := by intro _; rfl) (hw : ∀ i, swappedStores [tg] e (C.X i).env = pure none := by intro _; rfl)
    (h1 : ∀ i, (assignEach [tg] (C.X i).env).map (·.2) = [assign tg (C.X i).env] := by intro _; rfl) : SS C (.Assign [tg] e pos) (asgS fe fg) := by
  obtain ⟨t, p1, p2⟩ := he
  obtain ⟨g, q1, q2, _, _⟩ := hg
  refine ⟨_, fun i => ps_asg (p1 i) (q1 i) (hs i) (hw i) (h1 i), fun τ σ H ρ lab De R W => p2 τ σ H ρ lab _ R (W.bo.imp fun d _ w v H' s r => ?_)⟩
  obtain ⟨R', r'⟩ := R.shared hm s r
  cases hgd : fg d ρ with
  | ok ρ' => rw [hgd] at w; exact q2 τ v d σ H' ρ _ _ ρ' R' r' hgd fun σ' R2 => w σ' H' _ R2
  | ex c => rw [hgd] at w; exact False.elim w
  | st => rw [hgd] at w; exact False.elim w
/-! ### what is walked -/
def JL (K : PySem.W.Frag) (lab : Lab) (J : It) (H : Hp) (ds : List D) : Prop := ∀ i, (ds.length ≤ i → J.stop i H) ∧ (i < ds.length → J.go i H ∧ ∀ x H', J.yld i H x H' → H' = H ∧ ∃ d, ds[i]? = some d ∧ Rp K (fun p => (lab p).1 ≤ 1) H x d)
def SimI (K : PySem.W.Frag) (G : Gx) (wi : TI) (f : En → Rs (List D)) : Prop := ∀ τ σ H ρ lab (Rr : It → Hp → Prop), RR K G τ ρ σ H lab →
  WR G (f ρ) (fun ds => ∀ J H1 lab1 τ1, Same H H1 → (∀ p o, H p = some o → lab1 p = lab p) → RR K G (τ1 ++ τ) ρ σ H1 lab1 → (∀ lab' H', (∀ q ∈ τ1, Rp K (fun p => (lab' p).1 ≤ 1) H' q.1 q.2) → JL K lab' J H' ds) → Rr J H1) → wi σ H Rr
def SI (C : Ct) (tg iter : Expr) (f : En → Rs (List D)) : Prop := ∃ wi, (∀ i, PI (C.X i) tg iter wi) ∧ SimI C.K C.G wi f
def iSeq (K : PySem.W.Frag) (tl : TE) : TI := fun σ H R => tl σ H fun x H1 => ∃ a, x = .ref a ∧ (((∃ xs, SqL K H1 a xs) ∧ R (Itl K a) H1) ∨ ((∃ xs, SqT K H1 a xs) ∧ R (Itt K a) H1))
theorem pi_seq {X : Cx} {tg l : Expr} {tl : TE} (hl : PE X l tl) : PI X tg l (iSeq X.K tl) := by
  intro pins s σ H R I h
  refine thn (hl pins s σ H _ I h) fun v s1 ⟨x, H1, I1, r1, a, e, q1⟩ => ?_
  subst e
  cases r1
  have hp : ∀ b ∈ [s1.heap.objs.size], FpOk X pins H1 b := fun b hb => by
    have e : b = s1.heap.objs.size := by simpa using hb
    rw [e]
    exact I1.fpOk (Nat.le_refl _) (I1.hok.fresh (Nat.le_refl _))
  rcases q1 with ⟨⟨xs, hq⟩, q⟩ | ⟨⟨xs, hq⟩, q⟩
  · obtain ⟨its, rv, p, hz⟩ := I1.list hq
    refine wpAny_pyIter_list p.isList ?_
    exact ⟨_, _, _, _, H1, rfl, I1.kept (t' := s1.toks) fun b o e => Heap.get?_push_of_some _ e, turn_list a _, ⟨_, Heap.get?_push_size _ rfl, rfl, rfl⟩, hp, q⟩
  · obtain ⟨its, rv, p, hz⟩ := I1.tuple hq
    refine wpAny_pyIter_tuple (show s1.heap.IsTuple a its.toArray from p) ?_
    exact ⟨_, _, _, _, H1, rfl, I1.kept (t' := s1.toks) fun b o e => Heap.get?_push_of_some _ e, turn_tuple a _, ⟨_, Heap.get?_push_size _ rfl, rfl, rfl⟩, hp, q⟩
def itD : D → Rs (List D)
  | .tup l => .ok l
  | .lst l => .ok l
  | .scr l => .ok (l.map .int)
  | _ => .st
def itrD (fe : En → Rs D) : En → Rs (List D) := fun ρ => (fe ρ).bd itD
theorem jl_list {K : PySem.W.Frag} {lab : Lab} {H : Hp} {a : Addr} {xs : List V} {ds : List D} (h : SqL K H a xs) (r : Rps K (fun p => (lab p).1 ≤ 1) H xs ds) : JL K lab (Itl K a) H ds := by
  have hl := r.length
  refine fun i => ⟨fun hi => ⟨xs, h, by omega⟩, fun hi => ⟨⟨xs, xs[i]'(by omega), h, by simp [hl, hi]⟩, fun x H' y => ?_⟩⟩
  obtain ⟨e, y⟩ := y
  obtain ⟨d, h1, h2⟩ := r.get (y xs h)
  exact ⟨e, d, h1, h2⟩
theorem jl_tup {K : PySem.W.Frag} {lab : Lab} {H : Hp} {a : Addr} {xs : List V} {ds : List D} (h : SqT K H a xs) (r : Rps K (fun p => (lab p).1 ≤ 1) H xs ds) : JL K lab (Itt K a) H ds := by
  have hl := r.length
  refine fun i => ⟨fun hi => ⟨xs, h, by omega⟩, fun hi => ⟨⟨xs, xs[i]'(by omega), h, by simp [hl, hi]⟩, fun x H' y => ?_⟩⟩
  obtain ⟨e, y⟩ := y
  obtain ⟨d, h1, h2⟩ := r.get (y xs h)
  exact ⟨e, d, h1, h2⟩
theorem si_seq (he : SE C m e fe) (hm : okS m = true := by rfl) : SI C tg e (itrD fe) := by
  obtain ⟨t, p1, p2⟩ := he
  refine ⟨iSeq C.K t, fun i => by rw [← C.hK i]; exact pi_seq (p1 i), fun τ σ H ρ lab Rr R W => p2 τ σ H ρ lab _ R (W.bd.imp fun d _ w v H1 s r => ?_)⟩
  obtain ⟨R', r'⟩ := R.shared hm s r
  cases d with
  | tup l =>
    cases r' with
    | tup h q =>
      rename_i a xs
      refine ⟨_, rfl, .inr ⟨⟨_, h⟩, w _ H1 _ [(.ref a, .tup l)] s (fun p o e => newLab_old e) ⟨R'.len, R'.sl, R'.old, R'.new, fun z hz => ?_⟩ fun lab' H' hq => ?_⟩⟩
      · rcases List.mem_cons.mp hz with rfl | hz
        · exact .tup h q
        · exact R'.tm z hz
      · have z := hq _ (List.mem_cons_self ..)
        cases z with
        | tup h' q' => exact jl_tup h' q'
  | lst l =>
    cases r' with
    | lst h mm q =>
      rename_i a xs
      refine ⟨_, rfl, .inl ⟨⟨_, SqL.of h⟩, w _ H1 _ [(.ref a, .lst l)] s (fun p o e => newLab_old e) ⟨R'.len, R'.sl, R'.old, R'.new, fun z hz => ?_⟩ fun lab' H' hq => ?_⟩⟩
      · rcases List.mem_cons.mp hz with rfl | hz
        · exact .lst h mm q
        · exact R'.tm z hz
      · have z := hq _ (List.mem_cons_self ..)
        cases z with
        | lst h' _ q' => exact jl_list (SqL.of h') (q'.wk fun _ _ _ z => z.1)
  | scr l =>
    cases r' with
    | scr h =>
      rename_i a
      refine ⟨_, rfl, .inl ⟨⟨_, h.sq⟩, w _ H1 _ [(.ref a, .scr l)] s (fun p o e => newLab_old e) ⟨R'.len, R'.sl, R'.old, R'.new, fun z hz => ?_⟩ fun lab' H' hq => ?_⟩⟩
      · rcases List.mem_cons.mp hz with rfl | hz
        · exact .scr h
        · exact R'.tm z hz
      · have z := hq _ (List.mem_cons_self ..)
        cases z with
        | scr h' => exact jl_list h'.sq Rps.ints
  | _ => exact False.elim w
end
end VL

set_option Elab.async false
set_option linter.all false
set_option maxRecDepth 100000
set_option maxHeartbeats 4000000
namespace VL
open PySem PySem.Spec PyProof.Rows L2
section
variable {C : Ct} {pos : Pos} {s : Stmt} {ss : List Stmt} {f g : En → Ou} {e a b : Expr} {es : List Expr} {m m1 m2 : Mode} {fe fa fb : En → Rs D} {ks : List Nat} {fg : D → En → Rs En} {tg : Expr} {fi : En → Rs (List D)} {ga : En → Rs (List D)}
/-! ### range -/
def rngD (lo hi : Int) : List D := (List.range (hi - lo).toNat).map fun (k : Nat) => .int (lo + (k : Int))
def rng1 : List D → Rs (List D)
  | [.int j] => if -(2 ^ 62) ≤ j ∧ j < 2 ^ 62 then .ok (rngD 0 j) else .st
  | _ => .st
def rng2 : List D → Rs (List D)
  | [.int i, .int j] => if (-(2 ^ 62) ≤ i ∧ i < 2 ^ 62) ∧ (-(2 ^ 62) ≤ j ∧ j < 2 ^ 62) then .ok (rngD i j) else .st
  | _ => .st
def rngA (r : List D → Rs (List D)) (ga : En → Rs (List D)) : En → Rs (List D) := fun ρ => (ga ρ).bd r
theorem jl_rng {K : PySem.W.Frag} {lab : Lab} {H : Hp} {lo hi : Int} : JL K lab (Itr lo (hi - lo).toNat) H (rngD lo hi) := by
  have hl : (rngD lo hi).length = (hi - lo).toNat := by unfold rngD; simp
  refine fun i => ⟨fun h => by show (hi - lo).toNat ≤ i; omega, fun h => ⟨by show i < (hi - lo).toNat; omega, fun x H' y => ?_⟩⟩
  obtain ⟨e, rfl⟩ := y
  refine ⟨e, .int (lo + i), ?_, .int _⟩
  unfold rngD
  rw [List.getElem?_map, List.getElem?_range (by omega)]
  rfl
theorem si_rng1 {p : Pos} (ha : SA C m [a] ga) (hg : ∀ i, Gl (C.X i) "range") (hm : C.mg "range" = none) (hs : ∀ i, starEach [a] (C.X i).env = [(false, eval a (C.X i).env)] := by intro _; rfl) : SI C tg (.Call (.Name "range" p) [a] [] pos) (rngA rng1 ga) := by
  obtain ⟨t, h1, h2⟩ := ha
  refine ⟨_, fun i => pi_range1 (hg i) (by rw [(C.cx i).2.2.2.1]; exact hm) (h1 i) (hs i), fun τ σ H ρ lab Rr R W => h2 τ σ H ρ lab _ R (W.bd.imp fun ds _ w vs H1 s r => ?_)⟩
  unfold rng1 at w
  split at w
  · rename_i j _
    split at w
    · rename_i hj
      cases r with
      | cons h r =>
        cases h
        cases r
        refine ⟨j, rfl, hj.1, hj.2, ?_⟩
        have z := w (Itr 0 (j - 0).toNat) H1 lab [] s (fun _ _ _ => rfl) (R.up s) fun lab' H' _ => jl_rng
        rwa [Int.sub_zero] at z
    · exact False.elim w
  · exact False.elim w
theorem si_rng2 {p : Pos} (ha : SA C m [a, b] ga) (hg : ∀ i, Gl (C.X i) "range") (hm : C.mg "range" = none) (hs : ∀ i, starEach [a, b] (C.X i).env = [(false, eval a (C.X i).env), (false, eval b (C.X i).env)] := by intro _; rfl)
    (hs2 : ∀ i, starEach [b] (C.X i).env = [(false, eval b (C.X i).env)] := by intro _; rfl) : SI C tg (.Call (.Name "range" p) [a, b] [] pos) (rngA rng2 ga) := by
  obtain ⟨t, h1, h2⟩ := ha
  refine ⟨_, fun i => pi_range2 (hg i) (by rw [(C.cx i).2.2.2.1]; exact hm) (h1 i) (hs i) (hs2 i), fun τ σ H ρ lab Rr R W => h2 τ σ H ρ lab _ R (W.bd.imp fun ds _ w vs H1 s r => ?_)⟩
  unfold rng2 at w
  split at w
  · rename_i i j _
    split at w
    · rename_i hj
      cases r with
      | cons h r =>
        cases h
        cases r with
        | cons h r =>
          cases h
          cases r
          exact ⟨i, j, rfl, ⟨hj.1.1, hj.1.2, hj.2.1, hj.2.2⟩, w (Itr i (j - i).toNat) H1 lab [] s (fun _ _ _ => rfl) (R.up s) fun lab' H' _ => jl_rng⟩
    · exact False.elim w
  · exact False.elim w
/-! ### for -/
def forL (fg : D → En → Rs En) (b : En → Ou) : List D → En → Ou
  | [], ρ => .nx ρ
  | d :: ds, ρ => match fg d ρ with
    | .ok ρ1 => match b ρ1 with
      | .nx ρ2 => forL fg b ds ρ2
      | .ct ρ2 => forL fg b ds ρ2
      | .bk ρ2 => .nx ρ2
      | o => o
    | _ => .st
def forS (fi : En → Rs (List D)) (fg : D → En → Rs En) (b : En → Ou) : En → Ou := fun ρ => (fi ρ).bo fun ds => forL fg b ds ρ
theorem WS.drop {K : PySem.W.Frag} {G : Gx} {τ τ1 : List (V × D)} {o : Ou} {De : Ends} (h : WS K G τ o De) : WS K G (τ1 ++ τ) o De := by
  cases o with
  | nx ρ => exact fun σ H lab R => h σ H lab R.drop
  | bk ρ => exact fun σ H lab R => h σ H lab R.drop
  | ct ρ => exact fun σ H lab R => h σ H lab R.drop
  | rt d => exact h
  | ex c => exact h
  | st => exact h
theorem ss_for (hi : SI C tg e fi) (hg : SG C tg ks fg) (hb : SSs C ss f) (hs : ∀ i, ∀ x, foldedSetIterable e (C.X i).env x = pure x := by intro _ _; rfl) : SS C (.For tg e ss [] pos) (forS fi fg f) := by
  obtain ⟨wi, i1, i2⟩ := hi
  obtain ⟨gg, g1, g2, _, g4⟩ := hg
  obtain ⟨tb, b1, b2⟩ := hb
  refine ⟨_, fun i => ps_for (C.own i) (C.calm i) (i1 i) (g1 i) (b1 i) (hs i), fun τ σ H ρ lab De R W => i2 τ σ H ρ lab _ R (W.bo.imp fun ds _ w J H1 lab1 τ1 s1 _ R1 jl => ?_)⟩
  refine ⟨fun i n σ' H' => ∃ ρ' lab', RR C.K C.G (τ1 ++ τ) ρ' σ' H' lab' ∧ n = ds.length - i ∧ i ≤ ds.length ∧ WS C.K C.G τ (forL fg f (ds.drop i) ρ') De, ⟨ds.length, ρ, lab1, R1, by omega, by omega, w⟩, ?_⟩
  rintro i n σ' H' ⟨ρ', lab', R', rfl, hi, w'⟩
  have jj := jl lab' H' fun q hq => R'.tm q (List.mem_append_left _ hq)
  by_cases hlt : i < ds.length
  · obtain ⟨go, yl⟩ := (jj i).2 hlt
    refine .inr ⟨go, fun σ2 H2 => ∃ ρ2 lab2, RR C.K C.G (τ1 ++ τ) ρ2 σ2 H2 lab2 ∧ WS C.K C.G τ (forL fg f (ds.drop (i + 1)) ρ2) De, fun σ2 H2 ⟨ρ2, lab2, R2, w2⟩ => ⟨ds.length - (i + 1), by omega, ρ2, lab2, R2, rfl, hlt, w2⟩, fun x H2 hy => ?_⟩
    obtain ⟨rfl, d, ed, rx⟩ := yl x H2 hy
    have ed2 : ds.drop i = d :: ds.drop (i + 1) := by
      rw [List.drop_eq_getElem_cons hlt]
      have := List.getElem?_eq_getElem hlt
      rw [ed] at this
      cases this
      rfl
    rw [ed2] at w'
    unfold forL at w'
    cases eg : fg d ρ' with
    | ex c => rw [eg] at w'; exact False.elim w'
    | st => rw [eg] at w'; exact False.elim w'
    | ok ρ1 =>
      rw [eg] at w'
      refine g2 (τ1 ++ τ) x d σ' H2 ρ' lab' _ ρ1 R' rx eg fun σ1 R1' => b2 (τ1 ++ τ) σ1 H2 ρ1 lab' _ R1' ?_
      dsimp only at w'
      cases eb : f ρ1 with
      | nx ρ2 => rw [eb] at w'; exact fun σ2 H3 lab2 R2 => ⟨ρ2, lab2, R2, w'⟩
      | ct ρ2 => rw [eb] at w'; exact fun σ2 H3 lab2 R2 => ⟨ρ2, lab2, R2, w'⟩
      | bk ρ2 => rw [eb] at w'; exact fun σ2 H3 lab2 R2 => w' σ2 H3 lab2 R2.drop
      | rt d => rw [eb] at w'; exact w'
      | ex c => rw [eb] at w'; exact w'
      | st => rw [eb] at w'; exact w'
  · have e : i = ds.length := by omega
    subst e
    rw [List.drop_length] at w'
    exact .inl ⟨(jj _).1 (Nat.le_refl _), w' σ' H' lab' R'.drop⟩
/-! ### while -/
def itW (c : En → Rs Bool) (b : En → Ou) : Nat → En → Ou
  | 0, _ => .st
  | n + 1, ρ => (c ρ).bo fun k => if k = true then (match b ρ with
      | .nx ρ2 => itW c b n ρ2
      | .ct ρ2 => itW c b n ρ2
      | .bk ρ2 => .nx ρ2
      | o => o) else .nx ρ
def fuel : Nat := 1000000
def whileS (c : En → Rs Bool) (b : En → Ou) : En → Ou := itW c b fuel
theorem ss_while {c : Expr} {fc : En → Rs Bool} (hc : ST C c fc) (hb : SSs C ss f) : SS C (.While c ss [] pos) (whileS fc f) := by
  obtain ⟨tc, c1, c2⟩ := hc
  obtain ⟨tb, b1, b2⟩ := hb
  refine ⟨_, fun i => ps_while (C.own i) (c1 i) (b1 i), fun τ σ H ρ lab De R W => ?_⟩
  refine ⟨fun n σ' H' => ∃ ρ' lab', RR C.K C.G τ ρ' σ' H' lab' ∧ WS C.K C.G τ (itW fc f n ρ') De, ⟨fuel, ρ, lab, R, W⟩, ?_⟩
  rintro n σ' H' ⟨ρ', lab', R', w'⟩
  cases n with
  | zero => exact False.elim w'
  | succ n =>
    refine c2 τ σ' H' ρ' lab' _ R' (WS.bo (show WS C.K C.G τ ((fc ρ').bo _) De from w') |>.imp fun k _ w H1 s1 => ?_)
    cases k with
    | false =>
      rw [if_neg Bool.false_ne_true] at w ⊢
      exact w σ' H1 lab' (R'.up s1)
    | true =>
      rw [if_pos rfl] at w ⊢
      refine ⟨fun σ2 H2 => ∃ ρ2 lab2, RR C.K C.G τ ρ2 σ2 H2 lab2 ∧ WS C.K C.G τ (itW fc f n ρ2) De, fun σ2 H2 ⟨ρ2, lab2, R2, w2⟩ => ⟨n, Nat.lt_succ_self n, ρ2, lab2, R2, w2⟩, ?_⟩
      refine b2 τ σ' H1 ρ' lab' _ (R'.up s1) ?_
      cases eb : f ρ' with
      | nx ρ2 => rw [eb] at w; exact fun σ2 H3 lab2 R2 => ⟨ρ2, lab2, R2, w⟩
      | ct ρ2 => rw [eb] at w; exact fun σ2 H3 lab2 R2 => ⟨ρ2, lab2, R2, w⟩
      | bk ρ2 => rw [eb] at w; exact w
      | rt d => rw [eb] at w; exact w
      | ex c => rw [eb] at w; exact w
      | st => rw [eb] at w; exact w
/-! ### raise -/
def raiseS (x : Str) (ga : En → Rs (List D)) : En → Ou := fun ρ => (ga ρ).bo fun ds => if ds.length ≤ sizeLine then .ex x else .st
theorem ss_raise {x : Str} {Ca : Addr} {e₀ : Expr} {rest : List Expr} {np cpos : Pos} (hd : C.dOk = true) (hm : C.mg x = some (.ref Ca)) (hcl : C.G.cl x = Ca) (hC : ExcC C.K Ca) (hg : ∀ i, Gl (C.X i) x) (ha : SA C m (e₀ :: rest) ga)
    (he : ∀ i, starEach (e₀ :: rest) (C.X i).env = (false, eval e₀ (C.X i).env) :: starEach rest (C.X i).env := by intro _; rfl) (hplain : ∀ i, (backTo cpos (starEach rest (C.X i).env)).any (·.1) = false := by intro _; rfl)
    (hdb : (x == ("__debug__" : Str)) = false := by decide) : SS C (.Raise (some (.Call (.Name x np) (e₀ :: rest) [] cpos)) none pos) (raiseS x ga) := by
  obtain ⟨t, h1, h2⟩ := ha
  refine ⟨_, fun i => ps_raise (C.dcx hd i) (C.calm i) (by rw [(C.cx i).2.2.2.1]; exact hm) (by rw [C.hK i]; exact hC) (hg i) (h1 i) (he i) (hplain i) hdb, fun τ σ H ρ lab De R W => h2 τ σ H ρ lab _ R (W.bo.imp fun ds _ w vs H1 s r => ?_)⟩
  by_cases hz : ds.length ≤ sizeLine
  · rw [if_pos hz] at w
    refine ⟨by rw [r.length]; exact hz, ?_⟩
    have := w H1 (R.old.trans s)
    rwa [hcl] at this
  · rw [if_neg hz] at w
    exact False.elim w
/-! ### calls of defs -/
def spF (K : PySem.W.Frag) (cl : Str → Addr) (n : Nat) (F : List D → Rs D) : Sp := fun vs H Q E => ∃ ds, vs.length = n ∧ Rps K (fun _ => True) H vs ds ∧ WR ⟨H, E, cl⟩ (F ds) (fun d => ∀ v H', Same H H' → Rp K (fun p => H p = none) H' v d → Q v H')
def callD (F : List D → Rs D) (ga : En → Rs (List D)) : En → Rs D := fun ρ => (ga ρ).bd F
theorem sim_call {K : PySem.W.Frag} {G : Gx} {t : TA} {n : Nat} {F : List D → Rs D} (hn : ∀ ρ ds, ga ρ = .ok ds → ds.length = n) (h : SimA K G m t ga) : SimE K G (some []) (tCall (spF K G.cl n F) [] G.E t) (callD F ga) := by
  intro τ σ H ρ lab Q R W
  refine h τ σ H ρ lab _ R (W.bd.imp fun ds eds w vs H1 s r => ⟨ds, by rw [List.append_nil, r.length]; exact hn ρ ds eds, by rw [List.append_nil]; exact r.wk fun _ _ _ _ => trivial, ?_⟩)
  cases hF : F ds with
  | ok d =>
    rw [hF] at w
    exact fun v H' s' r' => w v H' (s.trans s') (r'.wk fun p o _ z => .inl (s.free z))
  | ex c => rw [hF] at w; exact fun H' s' => w H' ((R.old.trans s).trans s')
  | st => rw [hF] at w; exact w
variable {k : Nat} {fn : Addr} {fd : FuncData} {ps : List Str} {x : Str} {p : Pos} {F : List D → Rs D} {n : Nat}
theorem se_call (hF : FnOk C.prog C.w C.K C.mg C.base (CX1 C.prog C.w) k fn fd ps (spF C.K C.G.cl n F)) (hr : k ≤ C.k) (hg : ∀ i, Gl (C.X i) x) (hm : C.mg x = some (.ref fn)) (hk : PySem.W.keepIn C.K (.ref fn) = true) (hb : Binds C.K fd ps []) (ha : SA C m (e :: es) ga)
    (hn : ∀ ρ ds, ga ρ = .ok ds → ds.length = n) (hdb : (x == ("__debug__" : Str)) = false := by decide) (he : ∀ i, starEach (e :: es) (C.X i).env = (false, eval e (C.X i).env) :: starEach es (C.X i).env := by intro _; rfl)
    (hpl : ∀ i, (backTo pos (starEach es (C.X i).env)).any (·.1) = false := by intro _; rfl) : SE C (some []) (.Call (.Name x p) (e :: es) [] pos) (callD F ga) := by
  obtain ⟨t, h1, h2⟩ := ha
  refine ⟨_, fun i => ?_, sim_call hn h2⟩
  obtain ⟨e1, e2, e3, e4, e5⟩ := C.cx i
  refine pe_call (CX := CX1 (C.X i).prog (C.X i).w) (by rw [e1, e2, e3, e4, e5]; exact hF) ((C.room i).mono hr) (hg i) (by rw [e4]; exact hm) (by rw [e3]; exact hk) (by rw [e3]; exact hb) .nil (C.pass i) (h1 i) hdb (he i) (hpl i)
theorem se_call0 (hF : FnOk C.prog C.w C.K C.mg C.base (CX1 C.prog C.w) k fn fd ps (spF C.K C.G.cl 0 F)) (hr : k ≤ C.k) (hg : ∀ i, Gl (C.X i) x) (hm : C.mg x = some (.ref fn)) (hk : PySem.W.keepIn C.K (.ref fn) = true) (hb : Binds C.K fd ps [])
    (hdb : (x == ("__debug__" : Str)) = false := by decide) : SE C (some []) (.Call (.Name x p) [] [] pos) (callD F nilA) := by
  refine ⟨_, fun i => ?_, sim_call (m := some []) (fun ρ ds e => by cases e; rfl) (fun τ σ H ρ lab Q R W => W [] H (Same.refl H) .nil)⟩
  obtain ⟨e1, e2, e3, e4, e5⟩ := C.cx i
  exact pe_call0 (CX := CX1 (C.X i).prog (C.X i).w) (by rw [e1, e2, e3, e4, e5]; exact hF) ((C.room i).mono hr) (hg i) (by rw [e4]; exact hm) (by rw [e3]; exact hk) (by rw [e3]; exact hb) .nil (C.pass i) hdb
theorem len_nil {ρ : En} {ds : List D} (h : nilA ρ = .ok ds) : ds.length = 0 := by cases h; rfl
theorem len_cons {fa : En → Rs D} {ga : En → Rs (List D)} {n : Nat} (h : ∀ ρ ds, ga ρ = .ok ds → ds.length = n) : ∀ ρ ds, consA fa ga ρ = .ok ds → ds.length = n + 1 := fun ρ ds e => by
  obtain ⟨d, _, e⟩ := bd_eq_ok e
  obtain ⟨r, er, e⟩ := bd_eq_ok e
  cases e
  rw [List.length_cons, h ρ r er]
end
/-! ### a def -/
def clOf (mg : Str → Option Value) : Str → Addr := fun x => match mg x with
  | some (.ref a) => a
  | _ => 0
abbrev ctD (P : Program) (w : World) (K : PySem.W.Frag) (mg : Str → Option Value) (base : Heap) (N : List Str) (q : Str) (sc : Scope) (f : Addr) (cdv : Value) (A : Around) (outer : List Env) (s : Shared) (H : Hp) (E : XK) (k : Nat) (hr : Room k (A.deeper (envOfC q sc s.heap.objs.size f cdv))) : Ct where
  ι := Unit
  X := fun _ => cxOf (CX1 P w) P w K mg base N q sc f cdv A outer s H E
  prog := P
  w := w
  K := K
  mg := mg
  base := base
  k := k
  G := ⟨H, E, clOf mg⟩
  cx := fun _ => ⟨rfl, rfl, rfl, rfl, rfl⟩
  calm := fun _ => rfl
  room := fun _ => hr
  own := fun _ => DefCx.own DefCx.of
  pass := fun _ => DefCx.pass DefCx.of
  dOk := true
  dcx := fun _ _ => DefCx.of
def startE (n : Nat) (ds : List D) : En := ds.map .sh ++ List.replicate (n - ds.length) .no
def runD (n : Nat) (f : En → Ou) : List D → Rs D := fun ds => match f (startE n ds) with
  | .nx _ => .ok .non
  | .rt d => .ok d
  | .ex c => .ex c
  | _ => .st
theorem RR.start {K : PySem.W.Frag} {H : Hp} {E : XK} {cl : Str → Addr} {N : List Str} {vs : List V} {ds : List D} (r : Rps K (fun _ => True) H vs ds) : RR K ⟨H, E, cl⟩ [] (startE N.length ds) (start N vs) H (fun _ => (0, 0)) := by
  have hl := r.length
  refine ⟨by unfold startE L2.start; simp [hl], fun i s e => ?_, Same.refl H, fun p hp => absurd rfl hp, fun q hq => by cases hq⟩
  unfold startE at e
  by_cases hi : i < ds.length
  · rw [List.getElem?_append_left (by simpa using hi), List.getElem?_map] at e
    cases ed : ds[i]? with
    | none => rw [ed] at e; cases e
    | some d =>
      rw [ed] at e
      cases e
      obtain ⟨x, ex, rx⟩ := r.getD ed
      refine .inr ⟨x, ?_, rx.wk fun _ _ _ _ => Nat.zero_le _⟩
      unfold L2.start
      rw [List.getElem?_append_left (by simpa [hl] using hi), List.getElem?_map, ex]
      rfl
  · rw [List.getElem?_append_right (by simpa using hi), List.getElem?_replicate] at e
    split at e
    · cases e; exact .inl rfl
    · cases e
section
variable {P : Program} {w : World} {K : PySem.W.Frag} {mg : Str → Option Value} {base : Heap}
theorem fn_sim {x q : Str} {st : Stmt} {fn : Addr} {fd : FuncData} {N ps : List Str} {k : Nat} {f : En → Ou} (F : L2.Fun K x q st fn fd) (S : FnScope N ps (defScope st))
    (hb : ∀ cdv A outer s H E hr, SSs (ctD P w K mg base N q (defScope st) fn cdv A outer s H E k hr) (defBody st) f) :
    FnOk P w K mg base (CX1 P w) (k + 1) fn fd ps (spF K (clOf mg) ps.length (runD N.length f)) := by
  refine F.okX S (fun vs H Q E ⟨ds, hl, _⟩ => hl) fun cdv A outer s H vs Q E hr ⟨ds, hl, r, W⟩ => ?_
  obtain ⟨t, h1, h2⟩ := hb cdv A outer s H E hr
  refine ⟨t, h1 (), h2 [] _ H _ _ _ (RR.start r) ?_⟩
  unfold runD at W
  cases e : f (startE N.length ds) with
  | nx ρ => rw [e] at W; exact fun σ' H' lab R => W .non H' R.old .non
  | rt d => rw [e] at W; exact fun v H' s r => W v H' s r
  | ex c => rw [e] at W; exact W
  | bk ρ => rw [e] at W; exact False.elim W
  | ct ρ => rw [e] at W; exact False.elim W
  | st => rw [e] at W; exact False.elim W
theorem fn_simE {x q : Str} {st : Stmt} {fn : Addr} {fd : FuncData} {N ps : List Str} {k n : Nat} {f : En → Ou} {FF : List D → Rs D} (F : L2.Fun K x q st fn fd) (S : FnScope N ps (defScope st))
    (hb : ∀ cdv A outer s H E hr, SSs (ctD P w K mg base N q (defScope st) fn cdv A outer s H E k hr) (defBody st) f) (hn : ps.length = n) (hF : runD N.length f = FF) :
    FnOk P w K mg base (CX1 P w) (k + 1) fn fd ps (spF K (clOf mg) n FF) := by
  subst hn hF
  exact fn_sim F S hb
end
end VL

set_option Elab.async false
set_option linter.all false
set_option maxRecDepth 100000
set_option maxHeartbeats 4000000
namespace VL
open PySem PySem.Spec PyProof.Rows L2
/-! ### what the operations do -/
theorem OpR.or {X : Cx} {f : Value → Value → Sem Value} {r r' : R2} (h : OpR X f r) (h' : OpR X f r') : OpR X f (fun x y H Q => r x y H Q ∨ r' x y H Q) := by
  intro pins s σ H x y v u Q I rx ry q
  rcases q with q | q
  · exact h pins s σ H x y v u Q I rx ry q
  · exact h' pins s σ H x y v u Q I rx ry q
theorem OpS.or {K : PySem.W.Frag} {r r' : R2} {fd fd' : D → D → Rs D} (h : OpS K r fd) (h' : OpS K r' fd') : OpS K (fun x y H Q => r x y H Q ∨ r' x y H Q) (fun d e => match fd d e with
    | .ok z => .ok z
    | _ => fd' d e) := by
  intro A x y d e H Q z rx ry ez q
  dsimp only at ez
  cases hd : fd d e with
  | ok w => rw [hd] at ez; cases ez; exact .inl (h A x y d e H Q _ rx ry hd q)
  | ex c => rw [hd] at ez; exact .inr (h' A x y d e H Q z rx ry ez q)
  | st => rw [hd] at ez; exact .inr (h' A x y d e H Q z rx ry ez q)
section
variable {K : PySem.W.Frag}
/-- ints in -/
def i2 (p : Int → Int → Bool) (g : Int → Int → D) : D → D → Rs D
  | .int i, .int j => if p i j = true then .ok (g i j) else .st
  | _, _ => .st
theorem os_int {c : Int → Int → Prop} {p : Int → Int → Bool} {g : Int → Int → Int} (hp : ∀ i j, p i j = true → c i j) : OpS K (rI c fun i j => .int (g i j)) (i2 p fun i j => .int (g i j)) := by
  intro A x y d e H Q z rx ry ez q
  unfold i2 at ez
  split at ez
  · rename_i i j
    split at ez
    · rename_i h
      cases ez
      cases rx
      cases ry
      exact ⟨i, j, rfl, rfl, hp i j h, q _ H (Same.refl H) (.int _)⟩
    · cases ez
  · cases ez
theorem os_int0 {g : Int → Int → Int} : OpS K (rI0 fun i j => .int (g i j)) (i2 (fun _ _ => true) fun i j => .int (g i j)) := by
  intro A x y d e H Q z rx ry ez q
  unfold i2 at ez
  split at ez
  · rename_i i j
    cases ez
    cases rx
    cases ry
    exact ⟨i, j, rfl, rfl, q _ H (Same.refl H) (.int _)⟩
  · cases ez
theorem os_bl0 {g : Int → Int → Bool} : OpS K (rI0 fun i j => .bl (g i j)) (i2 (fun _ _ => true) fun i j => .bl (g i j)) := by
  intro A x y d e H Q z rx ry ez q
  unfold i2 at ez
  split at ez
  · rename_i i j
    cases ez
    cases rx
    cases ry
    exact ⟨i, j, rfl, rfl, q _ H (Same.refl H) (.bl _)⟩
  · cases ez
theorem imm_i2 {p : Int → Int → Bool} {g : Int → Int → Int} : ∀ x y z, i2 p (fun i j => .int (g i j)) x y = .ok z → imm z = true := by
  intro x y z e
  unfold i2 at e
  split at e
  · split at e
    · cases e; rfl
    · cases e
  · cases e
theorem imm_b2 {p : Int → Int → Bool} {g : Int → Int → Bool} : ∀ x y z, i2 p (fun i j => .bl (g i j)) x y = .ok z → imm z = true := by
  intro x y z e
  unfold i2 at e
  split at e
  · split at e
    · cases e; rfl
    · cases e
  · cases e
/-- + : ints, lists, tuples -/
def addD : D → D → Rs D
  | .int i, .int j => .ok (.int (i + j))
  | .lst l, .lst m => if l.length + m.length ≤ sizeLine then .ok (.lst (l ++ m)) else .st
  | .tup l, .tup m => if l.length + m.length ≤ sizeLine then .ok (.tup (l ++ m)) else .st
  | _, _ => .st
def rCatV (K : PySem.W.Frag) : R2 := fun x y H Q => ∃ a b xs ys, x = .ref a ∧ y = .ref b ∧ SqT K H a xs ∧ SqT K H b ys ∧ xs.length + ys.length ≤ sizeLine ∧
  (xs = [] → Q (.ref b) H) ∧ (ys = [] → Q (.ref a) H) ∧ New H (.tup (xs ++ ys)) Q
theorem op_catV {X : Cx} : OpR X (binaryOp .Add) (rCatV X.K) := by
  intro pins s σ H x y v u Q I rx ry h
  obtain ⟨a, b, xs, ys, rfl, rfl, ha, hb, hz, q0, q1, q2⟩ := h
  by_cases hx : xs = []
  · subst hx
    cases rx
    cases ry
    obtain ⟨its, r1, p1, _⟩ := I.tuple ha
    obtain ⟨its2, r2, p2, _⟩ := I.tuple hb
    cases r1
    exact HT.cat_tup0 p1 p2 ⟨.ref b, H, I, rfl, q0 rfl⟩
  · exact op_catT pins s σ H _ _ v u Q I rx ry ⟨a, b, xs, ys, rfl, rfl, ha, hb, hx, hz, q1, fun _ p hp => q2.at hp⟩
def rAddV (K : PySem.W.Frag) : R2 := fun x y H Q => rI0 (fun i j => .int (i + j)) x y H Q ∨ (rCatL x y H Q ∨ rCatV K x y H Q)
theorem op_addV {X : Cx} : OpR X (binaryOp .Add) (rAddV X.K) := OpR.or op_add (OpR.or op_catL op_catV)
theorem os_add : OpS K (rAddV K) addD := by
  intro A x y d e H Q z rx ry ez q
  unfold addD at ez
  split at ez
  · cases ez; cases rx; cases ry; exact .inl ⟨_, _, rfl, rfl, q _ H (Same.refl H) (.int _)⟩
  · split at ez
    · rename_i hl
      cases ez
      cases rx with
      | lst h1 m1 r1 =>
        cases ry with
        | lst h2 m2 r2 =>
          refine .inr (.inl ⟨_, _, _, _, rfl, rfl, h1, h2, by rw [r1.length, r2.length]; exact hl, fun p H' s hp hn => q _ H' s (.lst hp (.inl hn) ?_)⟩)
          exact (((r1.wk fun _ _ _ z => z.1).append (r2.wk fun _ _ _ z => z.1)).wk (A' := fun q => (H q = none ∨ A q) ∧ q ≠ p) fun q o e z => ⟨.inr z, fun e' => by subst e'; rw [hn] at e; cases e⟩).up s
    · cases ez
  · split at ez
    · rename_i hl
      cases ez
      cases rx with
      | tup h1 r1 =>
        cases ry with
        | tup h2 r2 =>
          have r1' := r1.wk (A' := fun p => H p = none ∨ A p) fun _ _ _ z => .inr z
          have r2' := r2.wk (A' := fun p => H p = none ∨ A p) fun _ _ _ z => .inr z
          refine .inr (.inr ⟨_, _, _, _, rfl, rfl, h1, h2, by rw [r1.length, r2.length]; exact hl, fun e => ?_, fun e => ?_, fun p H' s hp hn => q _ H' s (.tup (SqT.of hp) ((r1'.append r2').up s))⟩)
          · subst e
            cases r1'
            exact q _ H (Same.refl H) (.tup h2 r2')
          · subst e
            cases r2'
            rw [List.append_nil] at q
            exact q _ H (Same.refl H) (.tup h1 r1')
    · cases ez
  · cases ez
/-- * : ints, a list times an int -/
def mulD : D → D → Rs D
  | .int i, .int j => if (decide (-(2 ^ 64) < i) && decide (i < 2 ^ 64)) || (decide (-(2 ^ 64) < j) && decide (j < 2 ^ 64)) then .ok (.int (i * j)) else .st
  | .lst l, .int k => if decide (-(2 ^ 63) ≤ k) && decide (k < 2 ^ 63) && decide (l.length * k.toNat ≤ sizeLine) && imms l then .ok (.lst (List.replicate k.toNat l).flatten) else .st
  | _, _ => .st
theorem Rps.rep {A : Addr → Prop} {H : Hp} {xs : List V} {ds : List D} (r : Rps K A H xs ds) : ∀ k : Nat, Rps K A H (List.replicate k xs).flatten (List.replicate k ds).flatten
  | 0 => .nil
  | k + 1 => by
    rw [List.replicate_succ, List.replicate_succ, List.flatten_cons, List.flatten_cons]
    exact r.append (Rps.rep r k)
def rMulV : R2 := fun x y H Q => rI CMul (fun i j => .int (i * j)) x y H Q ∨ rRep x y H Q
theorem op_mulV {X : Cx} : OpR X (binaryOp .Mult) rMulV := OpR.or op_mul op_rep
theorem os_mul : OpS K rMulV mulD := by
  intro A x y d e H Q z rx ry ez q
  unfold mulD at ez
  split at ez
  · split at ez
    · rename_i hc
      cases ez; cases rx; cases ry
      refine .inl ⟨_, _, rfl, rfl, ?_, q _ H (Same.refl H) (.int _)⟩
      simp only [Bool.or_eq_true, Bool.and_eq_true, decide_eq_true_eq] at hc
      exact hc
    · cases ez
  · split at ez
    · rename_i hc
      simp only [Bool.and_eq_true, decide_eq_true_eq] at hc
      cases ez
      cases rx with
      | lst h1 m1 r1 =>
        cases ry
        refine .inr ⟨_, _, _, rfl, rfl, h1, hc.1.1.1, hc.1.1.2, by rw [r1.length]; exact hc.1.2, fun p hp => q _ _ (same_new hp _) (.lst upd_same (.inl hp) ?_)⟩
        exact ((r1.rep _).wk (A' := fun q => (H q = none ∨ A q) ∧ q ≠ p) fun q o e z => ⟨.inr z.1, fun e' => by subst e'; rw [hp] at e; cases e⟩).up (same_new hp _)
    · cases ez
  · cases ez
/-- <, of ints and of tuples of ints -/
def intsOf : List D → Option (List Int)
  | [] => some []
  | .int i :: r => (intsOf r).map (i :: ·)
  | _ => none
theorem intsOf_some : ∀ {l : List D} {ns : List Int}, intsOf l = some ns → l = ns.map .int
  | [], ns, h => by cases h; rfl
  | .int i :: r, ns, h => by
    simp only [intsOf, Option.map_eq_some_iff] at h
    obtain ⟨ms, h1, rfl⟩ := h
    rw [intsOf_some h1]; rfl
  | .non :: _, _, h => by cases h
  | .bl _ :: _, _, h => by cases h
  | .str _ :: _, _, h => by cases h
  | .tup _ :: _, _, h => by cases h
  | .lst _ :: _, _, h => by cases h
  | .dct _ _ :: _, _, h => by cases h
  | .set _ :: _, _, h => by cases h
  | .scr _ :: _, _, h => by cases h
theorem intsOf_map : ∀ ns : List Int, intsOf (ns.map .int) = some ns
  | [] => rfl
  | n :: ns => by simp only [List.map_cons, intsOf, intsOf_map ns, Option.map_some]
def ltT (p : List Int → List Int → Bool) : D → D → Rs D
  | .tup l, .tup m => match intsOf l, intsOf m with
    | some ns, some ms => .ok (.bl (p ns ms))
    | _, _ => .st
  | _, _ => .st
theorem rp_ints {A : Addr → Prop} {H : Hp} {x : V} {l : List D} {ns : List Int} (r : Rp K A H x (.tup l)) (e : intsOf l = some ns) : ∃ a, x = .ref a ∧ SqT K H a (ns.map V.int) := by
  have := intsOf_some e
  subst this
  cases r with
  | tup h r =>
    have := r.ints_of
    subst this
    exact ⟨_, rfl, h⟩
theorem os_tupB {r : R2} {p : List Int → List Int → Bool} (hr : ∀ x y H Q, (∃ a b ns ms, x = .ref a ∧ y = .ref b ∧ SqT K H a (ns.map V.int) ∧ SqT K H b (ms.map V.int) ∧ Q (.bl (p ns ms)) H) → r x y H Q) : OpS K r (ltT p) := by
  intro A x y d e H Q z rx ry ez q
  unfold ltT at ez
  split at ez
  · split at ez
    · rename_i ns ms e1 e2
      cases ez
      obtain ⟨a, rfl, ha⟩ := rp_ints rx e1
      obtain ⟨b, rfl, hb⟩ := rp_ints ry e2
      exact hr _ _ _ _ ⟨a, b, ns, ms, rfl, rfl, ha, hb, q _ H (Same.refl H) (.bl _)⟩
    · cases ez
  · cases ez
def ltD : D → D → Rs D := fun d e => match i2 (fun _ _ => true) (fun i j => .bl (decide (i < j))) d e with
  | .ok z => .ok z
  | _ => ltT HT.lexLt d e
def leD : D → D → Rs D := fun d e => match i2 (fun _ _ => true) (fun i j => .bl (decide (i ≤ j))) d e with
  | .ok z => .ok z
  | _ => ltT HT.lexLe d e
def gtD : D → D → Rs D := i2 (fun _ _ => true) (fun i j => .bl (decide (j < i)))
def geD : D → D → Rs D := i2 (fun _ _ => true) (fun i j => .bl (decide (j ≤ i)))
theorem op_ltV {X : Cx} (hu : X.A.units < cLine) : OpR X (compareOp .Lt) (fun x y H Q => rI0 (fun i j => .bl (decide (i < j))) x y H Q ∨ rLtT X.K x y H Q) := OpR.or op_lt (op_ltT hu)
theorem op_leV {X : Cx} (hu : X.A.units < cLine) : OpR X (compareOp .LtE) (fun x y H Q => rI0 (fun i j => .bl (decide (i ≤ j))) x y H Q ∨ rLeT X.K x y H Q) := OpR.or op_le (op_leT hu)
theorem os_lt : OpS K (fun x y H Q => rI0 (fun i j => .bl (decide (i < j))) x y H Q ∨ rLtT K x y H Q) ltD := OpS.or os_bl0 (os_tupB fun _ _ _ _ h => h)
theorem os_le : OpS K (fun x y H Q => rI0 (fun i j => .bl (decide (i ≤ j))) x y H Q ∨ rLeT K x y H Q) leD := OpS.or os_bl0 (os_tupB fun _ _ _ _ h => h)
theorem imm_ltT {p : List Int → List Int → Bool} {x y z : D} (e : ltT p x y = .ok z) : imm z = true := by
  unfold ltT at e
  split at e
  · split at e
    · cases e; rfl
    · cases e
  · cases e
theorem imm_lt : ∀ x y z, ltD x y = .ok z → imm z = true := by
  intro x y z e
  unfold ltD at e
  split at e
  · rename_i w hw; cases e; exact imm_b2 _ _ _ hw
  · exact imm_ltT e
theorem imm_le : ∀ x y z, leD x y = .ok z → imm z = true := by
  intro x y z e
  unfold leD at e
  split at e
  · rename_i w hw; cases e; exact imm_b2 _ _ _ hw
  · exact imm_ltT e
/-- is, is not -/
def isD (neg : Bool) : D → D → Rs D
  | .bl a, .bl b => if neg then .st else .ok (.bl (a == b))
  | d, .non => match d with
    | .non => .ok (.bl (!neg))
    | _ => .ok (.bl neg)
  | _, _ => .st
theorem op_isV {X : Cx} : OpR X (compareOp .Is) (fun x y H Q => (∃ b c, x = .bl b ∧ y = .bl c ∧ Q (.bl (b == c)) H) ∨ (y = .non ∧ Q (.bl (decide (x = .non))) H)) := OpR.or op_is_bl op_isN
theorem rp_non {A : Addr → Prop} {H : Hp} {x : V} {d : D} (r : Rp K A H x d) (h : d ≠ .non) : x ≠ .non := by
  cases r with
  | non => exact absurd rfl h
  | _ => exact fun e => by cases e
theorem os_is : OpS K (fun x y H Q => (∃ b c, x = .bl b ∧ y = .bl c ∧ Q (.bl (b == c)) H) ∨ (y = .non ∧ Q (.bl (decide (x = .non))) H)) (isD false) := by
  intro A x y d e H Q z rx ry ez q
  unfold isD at ez
  split at ez
  · cases ez; cases rx; cases ry; exact .inl ⟨_, _, rfl, rfl, q _ H (Same.refl H) (.bl _)⟩
  · cases ry
    split at ez
    · cases ez; cases rx; exact .inr ⟨rfl, by rw [decide_eq_true rfl]; exact q _ H (Same.refl H) (.bl _)⟩
    · rename_i hn
      cases ez
      exact .inr ⟨rfl, by rw [decide_eq_false (rp_non rx hn)]; exact q _ H (Same.refl H) (.bl _)⟩
  · cases ez
theorem os_isnot : OpS K (fun x y H Q => y = .non ∧ Q (.bl (!decide (x = .non))) H) (isD true) := by
  intro A x y d e H Q z rx ry ez q
  unfold isD at ez
  split at ez
  · cases ez
  · cases ry
    split at ez
    · cases ez; cases rx; exact ⟨rfl, by rw [decide_eq_true rfl]; exact q _ H (Same.refl H) (.bl _)⟩
    · rename_i hn
      cases ez
      exact ⟨rfl, by rw [decide_eq_false (rp_non rx hn)]; exact q _ H (Same.refl H) (.bl _)⟩
  · cases ez
theorem imm_is {n : Bool} : ∀ x y z, isD n x y = .ok z → imm z = true := by
  intro x y z e
  unfold isD at e
  split at e
  · split at e
    · cases e
    · cases e; rfl
  · split at e <;> (cases e; rfl)
  · cases e
/-- - -/
def negD : D → Rs D
  | .int i => .ok (.int (-i))
  | _ => .st
theorem us_neg : UnS K (rU fun i => .int (-i)) negD := by
  intro A x d H Q z rx ez q
  cases rx with
  | int i => cases ez; exact ⟨i, rfl, q _ H (Same.refl H) (.int _)⟩
  | _ => cases ez
theorem imm_neg : ∀ x z, negD x = .ok z → imm z = true := by
  intro x z e
  cases x with
  | int i => cases e; rfl
  | _ => cases e
/-- t[i] -/
def atD (l : List D) (i : Int) : Rs D := match atI l i with
  | some d => .ok d
  | none => .st
def ixD : D → D → Rs D
  | .tup l, .int i => atD l i
  | .lst l, .int i => atD l i
  | .scr l, .int i => atD (l.map .int) i
  | _, _ => .st
theorem Rps.at {A : Addr → Prop} {H : Hp} {xs : List V} {ds : List D} {i : Int} {d : D} (r : Rps K A H xs ds) (e : atI ds i = some d) : ∃ x, atI xs i = some x ∧ Rp K A H x d := by
  unfold atI at e ⊢
  rw [r.length]
  cases h : ixN ds.length i with
  | none => rw [h] at e; cases e
  | some j =>
    rw [h] at e
    obtain ⟨x, e1, e2⟩ := r.getD (i := j) (d := d) e
    exact ⟨x, e1, e2⟩
theorem os_ix : OpS K (rIx K) ixD := by
  intro A x y d e H Q z rx ry ez q
  unfold ixD at ez
  split at ez
  · unfold atD at ez
    split at ez
    · rename_i w hw
      cases ez
      cases rx with
      | tup h r =>
        cases ry
        obtain ⟨v, e1, e2⟩ := r.at hw
        exact .inr (.inl ⟨_, _, _, v, rfl, rfl, h, e1, q v H (Same.refl H) (e2.wk fun _ _ _ z => .inr z)⟩)
    · cases ez
  · unfold atD at ez
    split at ez
    · rename_i w hw
      cases ez
      cases rx with
      | lst h m r =>
        cases ry
        obtain ⟨v, e1, e2⟩ := r.at hw
        exact .inl ⟨_, _, _, v, rfl, rfl, SqL.of h, e1, q v H (Same.refl H) (e2.wk fun _ _ _ z => .inr z.1)⟩
    · cases ez
  · unfold atD at ez
    split at ez
    · rename_i w hw
      cases ez
      cases rx with
      | scr h =>
        cases ry
        obtain ⟨v, e1, e2⟩ := (Rps.ints (K := K) (A := A) (H := H)).at hw
        exact .inl ⟨_, _, _, v, rfl, rfl, h.sq, e1, q v H (Same.refl H) (e2.wk fun _ _ _ z => .inr z)⟩
    · cases ez
  · cases ez
/-! ### builtins -/
def lenD : List D → Rs D
  | [.tup l] => .ok (.int l.length)
  | [.lst l] => .ok (.int l.length)
  | [.scr l] => .ok (.int l.length)
  | _ => .st
theorem cs_len : CallS K (fun xs H Q => ∃ p ys, xs = [.ref p] ∧ (SqL K H p ys ∨ SqT K H p ys) ∧ Q (.int ys.length) H) lenD := by
  intro A xs ds H Q z r ez q
  unfold lenD at ez
  split at ez
  · cases ez
    cases r with
    | cons h r => cases r; cases h with | tup h r => exact ⟨_, _, rfl, .inr h, by rw [r.length]; exact q _ H (Same.refl H) (.int _)⟩
  · cases ez
    cases r with
    | cons h r => cases r; cases h with | lst h m r => exact ⟨_, _, rfl, .inl (SqL.of h), by rw [r.length]; exact q _ H (Same.refl H) (.int _)⟩
  · cases ez
    cases r with
    | cons h r => cases r; cases h with | scr h => exact ⟨_, _, rfl, .inl h.sq, by rw [List.length_map]; exact q _ H (Same.refl H) (.int _)⟩
  · cases ez
theorem imm_len : ∀ x z, lenD x = .ok z → imm z = true := by
  intro x z e
  unfold lenD at e
  split at e <;> first | (cases e; rfl) | cases e
def tyD : D → String
  | .non => "NoneType" | .bl _ => "bool" | .int _ => "int" | .str _ => "str" | .tup _ => "tuple" | .lst _ => "list" | .dct _ _ => "dict" | .set _ => "set" | .scr _ => "script"
/-- isinstance(x, T): T stands in the text -/
def isiD (T : String) : D → Rs D := fun d => if isiOk (tyD d) T true = true then .ok (.bl true) else if isiOk (tyD d) T false = true then .ok (.bl false) else .st
def rIsiV (K : PySem.W.Frag) (T : String) : List V → Hp → VK → Prop := fun xs H Q => ∃ x d A b, xs = [x, .ty T] ∧ Rp K A H x d ∧ isiOk (tyD d) T b = true ∧ Q (.bl b) H
theorem call_isiV {X : Cx} {T : String} : CallR X (.builtin "isinstance") (rIsiV X.K T) := by
  intro pins s σ H xs us Q I rv h
  obtain ⟨x, d, A, b, rfl, rd, ok, q⟩ := h
  cases rd with
  | tup h r =>
    obtain ⟨u, w', rfl, ru, rw'⟩ := vals2 rv
    cases ru
    cases rw'
    obtain ⟨its, _, ⟨o, h1, h2, _⟩, _⟩ := I.tuple h
    exact PySem.W.kia_one PySem.W.kitx_tuple I.kIn ⟨o, h1, h2⟩ (kit_ok ok) (fun z => nomatch z) fun tk => ⟨.bl b, H, I.tok _, rfl, q⟩
  | set h m hS nd => cases b <;> simp [isiOk, tyD] at ok
  | scr h => cases b <;> simp [isiOk, tyD] at ok
  | non => exact call_isi pins s σ H _ us Q I rv ⟨_, T, _, b, rfl, .non, ok, q⟩
  | bl c => exact call_isi pins s σ H _ us Q I rv ⟨_, T, _, b, rfl, .bl c, ok, q⟩
  | int c => exact call_isi pins s σ H _ us Q I rv ⟨_, T, _, b, rfl, .int c, ok, q⟩
  | str c => exact call_isi pins s σ H _ us Q I rv ⟨_, T, _, b, rfl, .str c, ok, q⟩
  | lst h m r => exact call_isi pins s σ H _ us Q I rv ⟨_, T, _, b, rfl, .lst h, ok, q⟩
  | dK h m r => exact call_isi pins s σ H _ us Q I rv ⟨_, T, _, b, rfl, .dK h, ok, q⟩
  | dT h m r => exact call_isi pins s σ H _ us Q I rv ⟨_, T, _, b, rfl, .dT h, ok, q⟩
end
section
variable {C : Ct} {pos p p2 : Pos} {m : Mode} {a : Expr} {fa : En → Rs D}
/-- isinstance(a, T), T a name of a built-in type -/
theorem se_isi {x : Str} {T : String} (ha : SE C m a fa) (hg : ∀ i, Gl (C.X i) "isinstance") (hm : C.mg "isinstance" = none) (hv : bootBuiltins "isinstance" = some (.builtin "isinstance")) (hgT : ∀ i, Gl (C.X i) x) (hmT : C.mg x = none) (hvT : bootBuiltins x = some (.type T))
    (hn : x ≠ "__name__" := by decide) (hd : (x == ("__debug__" : Str)) = false := by decide)
    (he : ∀ i, starEach [a, .Name x p2] (C.X i).env = (false, eval a (C.X i).env) :: starEach [.Name x p2] (C.X i).env := by intro _; rfl) (hpl : ∀ i, (backTo pos (starEach [.Name x p2] (C.X i).env)).any (·.1) = false := by intro _; rfl) :
    SE C (some []) (.Call (.Name "isinstance" p) [a, .Name x p2] [] pos) (op1 (isiD T) fa) := by
  obtain ⟨t, h1, h2⟩ := ha
  refine ⟨tCB (rIsiV C.K T) (tCons t (tCons (tC (.ty T)) tNil)), fun i => ?_, fun τ σ H ρ lab Q R W => ?_⟩
  · rw [← C.hK i]
    exact pe_callB call_isiV (hg i) (by rw [(C.cx i).2.2.2.1]; exact hm) hv (pa_cons (h1 i) (pa_cons (pe_bltn (v := .ty T) (hgT i) (by rw [(C.cx i).2.2.2.1]; exact hmT) hvT rfl hn hd) pa_nil) (he i)) (by decide) (by decide) (he i) (hpl i)
  · refine h2 τ σ H ρ lab _ R (W.bd.imp fun d _ w x H1 s1 r1 => ?_)
    obtain ⟨z, ez, w⟩ := w.okD
    unfold isiD at ez
    split at ez
    · rename_i h; cases ez; exact ⟨x, d, _, true, rfl, r1, h, w _ H1 s1 (.bl _)⟩
    · split at ez
      · rename_i h; cases ez; exact ⟨x, d, _, false, rfl, r1, h, w _ H1 s1 (.bl _)⟩
      · cases ez
end
end VL

set_option Elab.async false
set_option linter.all false
set_option maxRecDepth 100000
set_option maxHeartbeats 4000000
namespace VL
open PySem PySem.Spec PyProof.Rows L2
/-! ### comprehensions -/
def toSh : Slot → Slot
  | .ow d => .sh d
  | .nw d => .sh d
  | .oz d => .sh d
  | .o2 l => .sh (.lst (l.map .lst))
  | s => s
def shE (ρ : En) : En := ρ.map toSh
/-- block slot i is the def's slot js[i] -/
def stV (js : List (Option Nat)) (σ : L2.St) : L2.St := js.map fun o => o.bind fun j => (σ[j]?).join
def stE (js : List (Option Nat)) (ρ : En) : En := js.map fun o => match o with
  | none => .no
  | some j => (ρ[j]?).getD .no
theorem rp_lab0 {K : PySem.W.Frag} {H : Hp} {lab : Lab} {i : Nat} {v : V} {s : Slot} (h : SlotOk K H lab i v s) : ∃ d, (s = .no ∨ toSh s = .sh d) ∧ (s = .no ∨ Rp K (fun _ => True) H v d) := by
  cases s with
  | no => exact ⟨.non, .inl rfl, .inl rfl⟩
  | sh d => exact ⟨d, .inr rfl, .inr (Rp.wk (fun _ _ _ _ => trivial) h)⟩
  | nw d => exact ⟨d, .inr rfl, .inr (Rp.wk (fun _ _ _ _ => trivial) h)⟩
  | ow d => exact ⟨d, .inr rfl, .inr (Rp.wk (fun _ _ _ _ => trivial) h.1)⟩
  | oz d => exact ⟨d, .inr rfl, .inr (Rp.wk (fun _ _ _ _ => trivial) (oz_rp h))⟩
  | o2 l => exact ⟨_, .inr rfl, .inr (Rp.wk (fun _ _ _ _ => trivial) (o2_rp h))⟩
/-- all names shared: labels are of no account -/
theorem RR.shE {K : PySem.W.Frag} {G : Gx} {τ : List (V × D)} {ρ : En} {σ : L2.St} {H : Hp} {lab : Lab} (R : RR K G τ ρ σ H lab) : RR K G τ (shE ρ) σ H (fun _ => (0, 0)) := by
  refine ⟨by unfold VL.shE; rw [List.length_map]; exact R.len, fun i s e => ?_, R.old, fun p hp => absurd rfl hp, fun q hq => (R.tm q hq).wk fun _ _ _ _ => Nat.zero_le _⟩
  unfold VL.shE at e
  rw [List.getElem?_map] at e
  cases e0 : ρ[i]? with
  | none => rw [e0] at e; cases e
  | some s0 =>
    rw [e0] at e
    cases e
    rcases R.sl i s0 e0 with rfl | ⟨v, ev, hv⟩
    · exact .inl rfl
    · obtain ⟨d, h1, h2⟩ := rp_lab0 hv
      rcases h1 with rfl | h1
      · exact .inl rfl
      · rcases h2 with rfl | h2
        · exact .inl rfl
        · exact .inr ⟨v, ev, by rw [h1]; exact h2.wk fun _ _ _ _ => Nat.zero_le _⟩
theorem stE_at {js : List (Option Nat)} {ρ : En} {i : Nat} {s : Slot} (e : (stE js ρ)[i]? = some s) : s = .no ∨ ∃ j, js[i]? = some (some j) ∧ ρ[j]? = some s := by
  unfold stE at e
  rw [List.getElem?_map] at e
  cases ej : js[i]? with
  | none => rw [ej] at e; cases e
  | some o =>
    rw [ej] at e
    cases o with
    | none => cases e; exact .inl rfl
    | some j =>
      cases er : ρ[j]? with
      | none => simp [er] at e; exact .inl e.symm
      | some s' => simp [er] at e; subst e; exact .inr ⟨j, rfl, er⟩
/-- the block's names at its entry; l: the list that is gathered -/
theorem RR.block {K : PySem.W.Frag} {G : Gx} {τ : List (V × D)} {ρ : En} {σ : L2.St} {H : Hp} {lab : Lab} {js : List (Option Nat)} {l : Addr} (R : RR K G τ (VL.shE ρ) σ H lab) (hz : ∀ p, (lab p).1 ≤ 1) (hl : H l = none) :
    RR K G τ (stE js (VL.shE ρ)) (stV js σ) H (fun p => if p = l then (2, 0) else (0, 0)) := by
  have nl : ∀ p o, H p = some o → p ≠ l := fun p o e z => by subst z; rw [hl] at e; cases e
  refine ⟨by unfold stE stV; rw [List.length_map, List.length_map], fun i s e => ?_, R.old, fun p hp => ?_, fun q hq => (R.tm q hq).wk fun p o e _ => by rw [if_neg (nl p o e)]; exact Nat.zero_le _⟩
  · rcases stE_at e with rfl | ⟨j, ej, es⟩
    · exact .inl rfl
    · rcases R.sl j s es with rfl | ⟨v, ev, hv⟩
      · exact .inl rfl
      · refine .inr ⟨v, ?_, ?_⟩
        · unfold stV
          rw [List.getElem?_map, ej]
          simp [ev]
        · unfold VL.shE at es
          rw [List.getElem?_map] at es
          cases e0 : ρ[j]? with
          | none => rw [e0] at es; cases es
          | some s0 =>
            rw [e0] at es
            cases es
            cases s0 with
            | no => trivial
            | oz d => exact Rp.wk (fun p o e _ => by show (if p = l then ((2, 0) : Nat × Nat) else (0, 0)).1 ≤ 1; rw [if_neg (nl p o e)]; exact Nat.zero_le _) hv
            | nw d => exact Rp.wk (fun p o e _ => by show (if p = l then ((2, 0) : Nat × Nat) else (0, 0)).1 ≤ 1; rw [if_neg (nl p o e)]; exact Nat.zero_le _) hv
            | sh d => exact Rp.wk (fun p o e _ => by show (if p = l then ((2, 0) : Nat × Nat) else (0, 0)).1 ≤ 1; rw [if_neg (nl p o e)]; exact Nat.zero_le _) hv
            | ow d => exact Rp.wk (fun p o e _ => by show (if p = l then ((2, 0) : Nat × Nat) else (0, 0)).1 ≤ 1; rw [if_neg (nl p o e)]; exact Nat.zero_le _) hv
            | o2 d => exact Rp.wk (fun p o e _ => by show (if p = l then ((2, 0) : Nat × Nat) else (0, 0)).1 ≤ 1; rw [if_neg (nl p o e)]; exact Nat.zero_le _) hv
  · by_cases hp' : p = l
    · subst hp'; exact R.old.free hl
    · exact absurd (show (if p = l then ((2, 0) : Nat × Nat) else (0, 0)).1 = 0 by rw [if_neg hp']) hp
def chkB (XN N : List Str) (js : List (Option Nat)) (ks : List Nat) (sc : Scope) : Bool := (List.range js.length).all fun i => match js[i]? with
  | some (some j) => match N[i]?, XN[j]? with
    | some x, some y => x == y && sc.names.lookup x == some .free && !ks.contains i
    | _, _ => false
  | _ => true
theorem blk_mk {X : Cx} {sc : Scope} {N : List Str} {js : List (Option Nat)} {ks : List Nat} (h1 : sc.kind = .function) (h2 : (sc.names.all fun y => y.2 != .cell) = true) (h3 : (sc.names.all fun y => y.2 != .local || sc.names.lookup y.1 == some .local) = true)
    (h4 : (sc.names.all fun y => y.2 != .free || (X.env.kindOf y.1 == some .cell || X.env.kindOf y.1 == some .free)) = true) (h5 : js.length = N.length) (h6 : chkB X.N N js ks sc = true) : BlkNames X sc N (stV js) ks := by
  refine ⟨h1, fun y hy => ?_, fun y hy e => ?_, fun y hy e => ?_, fun σ => by unfold stV; rw [List.length_map]; exact h5, fun σ i x v e1 e2 => ?_⟩
  · have := List.all_eq_true.mp h2 y hy
    simpa using this
  · have := List.all_eq_true.mp h3 y hy
    rw [e] at this
    simpa using this
  · have := List.all_eq_true.mp h4 y hy
    rw [e] at this
    simpa using this
  · unfold stV at e2
    rw [List.getElem?_map] at e2
    cases ej : js[i]? with
    | none => rw [ej] at e2; cases e2
    | some o =>
      rw [ej] at e2
      cases o with
      | none => cases e2
      | some j =>
        have hi : i < js.length := (List.getElem?_eq_some_iff.mp ej).1
        have := List.all_eq_true.mp h6 i (List.mem_range.mpr hi)
        rw [ej, e1] at this
        dsimp only at this
        cases ey : X.N[j]? with
        | none => rw [ey] at this; cases this
        | some y =>
          rw [ey] at this
          simp only [Bool.and_eq_true, beq_iff_eq, Bool.not_eq_true'] at this
          obtain ⟨⟨h, h'⟩, h''⟩ := this
          subst h
          refine ⟨h', fun hk => ?_, j, ey, ?_⟩
          · rw [List.contains_iff_mem.mpr hk] at h''; cases h''
          · simp only [Option.map_some, Option.bind_some, Option.some.injEq] at e2
            cases es : σ[j]? with
            | none => rw [es] at e2; cases e2
            | some w => rw [es] at e2; simp at e2; subst e2; rfl
/-- the contexts of a comprehension's block -/
abbrev Ct.blk (C : Ct) (sc : Scope) (N : List Str) : Ct where
  ι := C.ι × Addr × List Addr × Shared × Hp
  X := fun i => (C.X i.1).block sc i.2.1 N i.2.2.1 i.2.2.2.1 i.2.2.2.2
  prog := C.prog
  w := C.w
  K := C.K
  mg := C.mg
  base := C.base
  k := C.k
  G := { C.G with E := fun _ _ _ => False }
  cx := fun i => C.cx i.1
  calm := fun i => C.calm i.1
  room := fun i => C.room i.1
  own := fun i => PassesOwn.never
  pass := fun i pins σ H s e s' I h => by obtain ⟨_, _, _, _, _, _, _, _, _, _, _, _, _, hE⟩ := h; exact hE
  dOk := false
  dcx := fun h => absurd h Bool.false_ne_true
def lcL (ρ : En) (fg : D → En → Rs En) (ft : En → Rs Bool) (fe : En → Rs D) : List D → Rs (List D)
  | [] => .ok []
  | d :: ds => (fg d ρ).bd fun ρ1 => (ft ρ1).bd fun k => if k = true then (fe ρ1).bd fun y => (lcL ρ fg ft fe ds).bd fun ys => .ok (y :: ys) else lcL ρ fg ft fe ds
def lcD (fi : En → Rs (List D)) (js : List (Option Nat)) (fg : D → En → Rs En) (ft : En → Rs Bool) (fe : En → Rs D) : En → Rs D := fun ρ => (fi (shE ρ)).bd fun ds =>
  if ds.length < sizeLine then (match lcL (stE js (shE ρ)) fg ft fe ds with
    | .ok l => .ok (.lst l)
    | _ => .st) else .st
def SIfs (C : Ct) (ifs : List Expr) (f : En → Rs Bool) : Prop := ∃ t, (∀ i, PIfs (C.X i) ifs t) ∧ SimT C.K C.G t f
def yesT : En → Rs Bool := fun _ => .ok true
theorem sf_nil {C : Ct} : SIfs C [] yesT := ⟨_, fun _ => pf_nil, fun τ σ H ρ lab Q R W => W H (Same.refl H)⟩
theorem sf_one {C : Ct} {c : Expr} {f : En → Rs Bool} (h : ST C c f) : SIfs C [c] f := let ⟨t, h1, h2⟩ := h; ⟨t, fun i => pf_one (h1 i), h2⟩
theorem lcL_drop {ρ : En} {fg : D → En → Rs En} {ft : En → Rs Bool} {fe : En → Rs D} {d : D} {ds : List D} {l : List D} (h : lcL ρ fg ft fe (d :: ds) = .ok l) :
    ∃ ρ1 k, fg d ρ = .ok ρ1 ∧ ft ρ1 = .ok k ∧ ((k = true ∧ ∃ y ys, fe ρ1 = .ok y ∧ lcL ρ fg ft fe ds = .ok ys ∧ l = y :: ys) ∨ (k = false ∧ lcL ρ fg ft fe ds = .ok l)) := by
  unfold lcL at h
  obtain ⟨ρ1, e1, h⟩ := bd_eq_ok h
  obtain ⟨k, e2, h⟩ := bd_eq_ok h
  refine ⟨ρ1, k, e1, e2, ?_⟩
  cases k with
  | true =>
    rw [if_pos rfl] at h
    obtain ⟨y, e3, h⟩ := bd_eq_ok h
    obtain ⟨ys, e4, h⟩ := bd_eq_ok h
    cases h
    exact .inl ⟨rfl, y, ys, e3, e4, rfl⟩
  | false =>
    rw [if_neg Bool.false_ne_true] at h
    exact .inr ⟨rfl, h⟩
section
variable {K : PySem.W.Frag} {G : Gx} {wi : TI} {fi : En → Rs (List D)} {js : List (Option Nat)} {g : TG} {fg : D → En → Rs En} {tt : TT} {ft : En → Rs Bool} {te : TE} {fe : En → Rs D}
theorem sim_lc (hi : SimI K G wi fi) (hg : SimG K { G with E := fun _ _ _ => False } g fg) (ht : SimT K { G with E := fun _ _ _ => False } tt ft) (he : SimE K { G with E := fun _ _ _ => False } (some []) te fe) :
    SimE K G (some []) (tLC wi (stV js) g tt te) (lcD fi js fg ft fe) := by
  intro τ σ H ρ lab Q R W
  refine hi τ σ H _ _ _ R.shE (W.bd.imp fun ds _ w J H1 lab1 τ1 s1 _ R1 jl => ?_)
  intro l hl
  obtain ⟨hlen, out, hout, w⟩ : ds.length < sizeLine ∧ ∃ out, lcL (stE js (VL.shE ρ)) fg ft fe ds = .ok out ∧ QE K (some []) lab H Q (.lst out) := by
    by_cases hlen : ds.length < sizeLine
    · rw [if_pos hlen] at w
      cases hout : lcL (stE js (VL.shE ρ)) fg ft fe ds with
      | ok out => rw [hout] at w; exact ⟨hlen, out, rfl, w⟩
      | ex c => rw [hout] at w; exact False.elim w
      | st => rw [hout] at w; exact False.elim w
    · rw [if_neg hlen] at w
      exact False.elim w
  have R0 : RR K { G with E := fun _ _ _ => False } (τ1 ++ τ) (VL.shE ρ) σ H1 (fun _ => (0, 0)) := by
    refine ⟨R1.len, fun i s e => ?_, R1.old, fun p hp => absurd rfl hp, fun q hq => (R1.tm q hq).wk fun _ _ _ _ => Nat.zero_le _⟩
    rcases R1.sl i s e with rfl | ⟨v, ev, hv⟩
    · exact .inl rfl
    · obtain ⟨d, h1, h2⟩ := rp_lab0 hv
      unfold VL.shE at e
      rw [List.getElem?_map] at e
      cases e0 : ρ[i]? with
      | none => rw [e0] at e; cases e
      | some s0 =>
        rw [e0] at e
        cases e
        cases s0 with
        | no => exact .inl rfl
        | sh d => exact .inr ⟨v, ev, Rp.wk (fun _ _ _ _ => Nat.zero_le _) hv⟩
        | nw d => exact .inr ⟨v, ev, Rp.wk (fun _ _ _ _ => Nat.zero_le _) hv⟩
        | oz d => exact .inr ⟨v, ev, Rp.wk (fun _ _ _ _ => Nat.zero_le _) hv⟩
        | ow d => exact .inr ⟨v, ev, Rp.wk (fun _ _ _ _ => Nat.zero_le _) hv⟩
        | o2 d => exact .inr ⟨v, ev, Rp.wk (fun _ _ _ _ => Nat.zero_le _) hv⟩
  have RB := R0.block (js := js) (fun _ => Nat.zero_le _) hl
  have hHl : H l = none := s1.free hl
  have lab1l : ¬ ((fun p => if p = l then ((2, 0) : Nat × Nat) else (0, 0)) l).1 ≤ 1 := by simp
  -- what stays: all but the list that is gathered
  refine ⟨fun i n acc H2 => ∃ pre, n = ds.length - i ∧ i ≤ ds.length ∧ H2 l = some (.lst acc) ∧ RR K { G with E := fun _ _ _ => False } (τ1 ++ τ) (stE js (VL.shE ρ)) (stV js σ) H2 (fun p => if p = l then (2, 0) else (0, 0)) ∧ Same H H2 ∧ acc.length ≤ i ∧
    Rps K (fun p => H p = none ∧ p ≠ l) H2 acc pre ∧ ∃ post, lcL (stE js (VL.shE ρ)) fg ft fe (ds.drop i) = .ok post ∧ out = pre ++ post, ⟨ds.length, [], by omega, by omega, upd_same, RB.up (same_new hl _), s1.trans (same_new hl _), Nat.le_refl _, .nil, out, hout, rfl⟩, ?_⟩
  rintro i n acc H2 ⟨pre, rfl, hi, hH2, R2, s2, hacc, rpre, post, hpost, eout⟩
  refine ⟨hH2, by omega, ?_⟩
  have jj := jl _ H2 fun q hq => R2.tm q (List.mem_append_left _ hq)
  by_cases hlt : i < ds.length
  · obtain ⟨go, yl⟩ := (jj i).2 hlt
    refine .inr ⟨go, fun x H3 hy => ?_⟩
    obtain ⟨rfl, d, ed, rx⟩ := yl x H3 hy
    have ed2 : ds.drop i = d :: ds.drop (i + 1) := by
      rw [List.drop_eq_getElem_cons hlt]
      have := List.getElem?_eq_getElem hlt
      rw [ed] at this
      cases this
      rfl
    rw [ed2] at hpost
    obtain ⟨ρ1, k, e1, e2, e3⟩ := lcL_drop hpost
    refine hg (τ1 ++ τ) x d _ H3 _ _ _ ρ1 R2 rx e1 fun σ4 R4 => ?_
    refine ht (τ1 ++ τ) σ4 H3 ρ1 _ _ R4 ?_
    rw [e2]
    intro H5 s5
    rcases e3 with ⟨rfl, y, ys, e3, e4, rfl⟩ | ⟨rfl, e4⟩
    · rw [if_pos rfl]
      refine he (τ1 ++ τ) σ4 H5 ρ1 _ _ (R4.up s5) ?_
      rw [e3]
      intro v H6 s6 r6
      have hl6 : H6 l = some (.lst acc) := s6 _ _ (s5 _ _ hH2)
      have B : Butl l H6 (upd H6 l (.lst (acc ++ [v]))) := fun b o ne hb => by rw [upd_ne ne]; exact hb
      refine ⟨hl6, ds.length - (i + 1), by omega, pre ++ [y], rfl, hlt, upd_same, ?_, ?_, by rw [List.length_append]; simp; omega, ?_, ys, e4, by rw [eout]; simp⟩
      · have R6 := R2.up (s5.trans s6)
        refine ⟨R6.len, fun j s e => ?_, fun b o hb => ?_, R6.new, fun q hq => (R6.tm q hq).but B hl6 rfl lab1l⟩
        · rcases R6.sl j s e with z | ⟨u, e1, e2⟩
          · exact .inl z
          · refine .inr ⟨u, e1, ?_⟩
            rcases stE_at e with rfl | ⟨jx, ej, es⟩
            · trivial
            · unfold VL.shE at es
              rw [List.getElem?_map] at es
              cases e0 : ρ[jx]? with
              | none => rw [e0] at es; cases es
              | some s0 =>
                rw [e0] at es
                cases es
                cases s0 with
                | no => trivial
                | sh d => exact Rp.but B hl6 rfl lab1l e2
                | nw d => exact Rp.but B hl6 rfl lab1l e2
                | oz d => exact Rp.but B hl6 rfl lab1l e2
                | ow d => exact Rp.but B hl6 rfl lab1l e2
                | o2 d => exact Rp.but B hl6 rfl lab1l e2
        · have := R6.old b o hb
          exact B b o (fun z => by subst z; rw [R1.old.free hl] at hb; cases hb) this
      · exact fun b o hb => B b o (fun z => by subst z; rw [hHl] at hb; cases hb) (((s2.trans s5).trans s6) b o hb)
      · refine ((rpre.up (s5.trans s6)).append (.cons (r6.wk fun p o _ z => ?_) .nil)).but B hl6 rfl fun z => z.2 rfl
        rcases z with z | z
        · exact ⟨(s2.trans s5).free z, fun e => by subst e; rw [s5 _ _ hH2] at z; cases z⟩
        · cases z
    · rw [if_neg Bool.false_ne_true]
      exact ⟨ds.length - (i + 1), by omega, pre, rfl, hlt, s5 _ _ hH2, R2.up s5, s2.trans s5, by omega, rpre.up s5, post, e4, eout⟩
  · have ei : i = ds.length := by omega
    subst ei
    rw [List.drop_length] at hpost
    cases hpost
    rw [List.append_nil] at eout
    subst eout
    exact .inl ⟨(jj _).1 (Nat.le_refl _), w _ H2 s2 (.lst hH2 (.inl hHl) (rpre.wk fun p o _ z => ⟨.inl z.1, z.2⟩))⟩
end
section
variable {C : Ct} {pos : Pos} {elt tg iter : Expr} {ifs : List Expr} {sc : Scope} {N : List Str} {js : List (Option Nat)} {ks : List Nat} {fi : En → Rs (List D)} {fg : D → En → Rs En} {ft : En → Rs Bool} {fe : En → Rs D}
theorem se_lc (hB : ∀ i, BlkNames (C.X i) sc N (stV js) ks) (hi : SI C tg iter fi) (hg : SG (C.blk sc N) tg ks fg) (ht : SIfs (C.blk sc N) ifs ft) (he : SE (C.blk sc N) (some []) elt fe)
    (hs : ∀ i x, foldedSetIterable iter (C.X i).env x = pure x := by intro _ _; rfl) : SE C (some []) (.ListComp elt [⟨tg, iter, ifs, 0⟩] sc pos) (lcD fi js fg ft fe) := by
  obtain ⟨wi, i1, i2⟩ := hi
  obtain ⟨g, g1, g2, g3, g4⟩ := hg
  obtain ⟨tt, t1, t2⟩ := ht
  obtain ⟨te, e1, e2⟩ := he
  exact ⟨_, fun i => pe_lc (hB i) (C.calm i) (i1 i) (fun c fp s₀ H₀ => g1 (i, c, fp, s₀, H₀)) g3 (fun c fp s₀ H₀ => t1 (i, c, fp, s₀, H₀)) (fun c fp s₀ H₀ => e1 (i, c, fp, s₀, H₀)) (hs i), sim_lc i2 g2 t2 e2⟩
theorem sv_lc {i : Nat} {x : Str} {pos' spos : Pos} (nd : ∀ j, (C.X j).N.Nodup) (hB : ∀ i, BlkNames (C.X i) sc N (stV js) ks) (hi : SI C tg iter fi) (hg : SG (C.blk sc N) tg ks fg) (ht : SIfs (C.blk sc N) ifs ft) (he : SE (C.blk sc N) (some []) elt fe)
    (hN : ∀ j, (C.X j).N[i]? = some x := by intro _; rfl) (hx : ∀ j, Loc (C.X j).env.scope x := by intro _; first | exact Or.inl rfl | exact Or.inr rfl)
    (hsw : ∀ j, swapsWith (.ListComp elt [⟨tg, iter, ifs, 0⟩] sc pos) (some (.Name x pos')) spos.line (C.X j).env = pure true := by intro _; rfl)
    (hs : ∀ i x, foldedSetIterable iter (C.X i).env x = pure x := by intro _ _; rfl) (hf : ∀ j, (C.X j).fn x = true ∨ (C.X j).env.scope.names.lookup x = some .local := by intro _; first | exact .inl rfl | exact .inr rfl) :
    SV C i (.Assign [.Name x pos'] (.ListComp elt [⟨tg, iter, ifs, 0⟩] sc pos) spos) (some []) (lcD fi js fg ft fe) := by
  obtain ⟨wi, i1, i2⟩ := hi
  obtain ⟨g, g1, g2, g3, g4⟩ := hg
  obtain ⟨tt, t1, t2⟩ := ht
  obtain ⟨te, e1, e2⟩ := he
  exact ⟨_, fun j => ps_setLC (nd j) (hN j) (hx j) (hB j) (C.calm j) (i1 j) (fun c fp s₀ H₀ => g1 (j, c, fp, s₀, H₀)) g3 (fun c fp s₀ H₀ => t1 (j, c, fp, s₀, H₀)) (fun c fp s₀ H₀ => e1 (j, c, fp, s₀, H₀)) (hsw j) (hs j) (hf j), sim_lc i2 g2 t2 e2⟩
end
/-- the same, of names that hold what is shared: what is gathered may hold what is old -/
def puS : Slot → Slot
  | .sh d => .sh d
  | .nw d => .sh d
  | _ => .no
def puE (ρ : En) : En := ρ.map puS
def lcZ (fi : En → Rs (List D)) (js : List (Option Nat)) (fg : D → En → Rs En) (ft : En → Rs Bool) (fe : En → Rs D) : En → Rs D := fun ρ => (fi (puE ρ)).bd fun ds =>
  if ds.length < sizeLine then (match lcL (stE js (puE ρ)) fg ft fe ds with
    | .ok l => .ok (.lst l)
    | _ => .st) else .st
theorem RR.puE {K : PySem.W.Frag} {G : Gx} {τ : List (V × D)} {ρ : En} {σ : L2.St} {H : Hp} {lab : Lab} (R : RR K G τ ρ σ H lab) : RR K G τ (puE ρ) σ H lab := by
  refine ⟨by unfold VL.puE; rw [List.length_map]; exact R.len, fun i s e => ?_, R.old, R.new, R.tm⟩
  unfold VL.puE at e
  rw [List.getElem?_map] at e
  cases e0 : ρ[i]? with
  | none => rw [e0] at e; cases e
  | some s0 =>
    rw [e0] at e
    cases e
    rcases R.sl i s0 e0 with rfl | ⟨v, ev, hv⟩
    · exact .inl rfl
    · cases s0 with
      | sh d => exact .inr ⟨v, ev, hv⟩
      | nw d => exact .inr ⟨v, ev, Rp.wk (fun p o _ z => by rw [z]; exact Nat.le_refl 1) hv⟩
      | _ => exact .inl rfl
theorem pu_at {ρ : En} {i : Nat} {s : Slot} (e : (puE ρ)[i]? = some s) : s = .no ∨ ∃ d, s = .sh d := by
  unfold puE at e
  rw [List.getElem?_map] at e
  cases e0 : ρ[i]? with
  | none => rw [e0] at e; cases e
  | some s0 =>
    rw [e0] at e
    cases e
    cases s0 with
    | sh d => exact .inr ⟨d, rfl⟩
    | nw d => exact .inr ⟨d, rfl⟩
    | _ => exact .inl rfl
theorem pst_at {js : List (Option Nat)} {ρ : En} {i : Nat} {s : Slot} (e : (stE js (puE ρ))[i]? = some s) : s = .no ∨ ∃ d, s = .sh d := by
  rcases stE_at e with rfl | ⟨j, _, h⟩
  · exact .inl rfl
  · exact pu_at h
theorem stV_at {js : List (Option Nat)} {σ : L2.St} {i j : Nat} {v : V} (e : js[i]? = some (some j)) (ev : σ[j]? = some (some v)) : (stV js σ)[i]? = some (some v) := by
  unfold stV
  rw [List.getElem?_map, e]
  simp [ev]
theorem RR.blockZ {K : PySem.W.Frag} {G : Gx} {τ : List (V × D)} {ρ : En} {σ : L2.St} {H : Hp} {lab : Lab} {js : List (Option Nat)} {l : Addr} (R : RR K G τ (VL.puE ρ) σ H lab) (hl : H l = none) :
    RR K G τ (stE js (VL.puE ρ)) (stV js σ) H (fun p => if p = l then (2, 0) else lab p) := by
  have nl : ∀ p o, H p = some o → p ≠ l := fun p o e z => by subst z; rw [hl] at e; cases e
  have lw : ∀ {v : V} {d : D}, Rp K (fun p => (lab p).1 ≤ 1) H v d → Rp K (fun p => (if p = l then ((2, 0) : Nat × Nat) else lab p).1 ≤ 1) H v d := fun r => r.wk fun p o e z => by rw [if_neg (nl p o e)]; exact z
  refine ⟨by unfold stV stE; rw [List.length_map, List.length_map], fun i s e => ?_, R.old, fun p hp => ?_, fun q hq => lw (R.tm q hq)⟩
  · rcases stE_at e with rfl | ⟨j, ej, es⟩
    · exact .inl rfl
    · rcases pu_at es with rfl | ⟨d, rfl⟩
      · exact .inl rfl
      · rcases R.sl j _ es with z | ⟨v, ev, hv⟩
        · cases z
        · exact .inr ⟨v, stV_at ej ev, lw hv⟩
  · by_cases hp' : p = l
    · subst hp'; exact R.old.free hl
    · rw [if_neg hp'] at hp
      exact R.new p hp
section
variable {K : PySem.W.Frag} {G : Gx} {wi : TI} {fi : En → Rs (List D)} {js : List (Option Nat)} {g : TG} {fg : D → En → Rs En} {tt : TT} {ft : En → Rs Bool} {te : TE} {fe : En → Rs D} {m : Mode}
theorem sim_lcZ (hm : okS m = true) (hi : SimI K G wi fi) (hg : SimG K { G with E := fun _ _ _ => False } g fg) (ht : SimT K { G with E := fun _ _ _ => False } tt ft) (he : SimE K { G with E := fun _ _ _ => False } m te fe) :
    SimE K G (some [0, 1]) (tLC wi (stV js) g tt te) (lcZ fi js fg ft fe) := by
  intro τ σ H ρ lab Q R W
  refine hi τ σ H _ _ _ R.puE (W.bd.imp fun ds _ w J H1 lab1 τ1 s1 hlab R1 jl => ?_)
  intro l hl
  obtain ⟨hlen, out, hout, w⟩ : ds.length < sizeLine ∧ ∃ out, lcL (stE js (VL.puE ρ)) fg ft fe ds = .ok out ∧ QE K (some [0, 1]) lab H Q (.lst out) := by
    by_cases hlen : ds.length < sizeLine
    · rw [if_pos hlen] at w
      cases hout : lcL (stE js (VL.puE ρ)) fg ft fe ds with
      | ok out => rw [hout] at w; exact ⟨hlen, out, rfl, w⟩
      | ex c => rw [hout] at w; exact False.elim w
      | st => rw [hout] at w; exact False.elim w
    · rw [if_neg hlen] at w
      exact False.elim w
  have R0 : RR K { G with E := fun _ _ _ => False } (τ1 ++ τ) (VL.puE ρ) σ H1 lab1 := ⟨R1.len, R1.sl, R1.old, R1.new, R1.tm⟩
  have RB := R0.blockZ (js := js) hl
  have hHl : H l = none := s1.free hl
  have lab1l : ¬ ((fun p => if p = l then ((2, 0) : Nat × Nat) else lab1 p) l).1 ≤ 1 := by simp
  refine ⟨fun i n acc H2 => ∃ pre, n = ds.length - i ∧ i ≤ ds.length ∧ H2 l = some (.lst acc) ∧ RR K { G with E := fun _ _ _ => False } (τ1 ++ τ) (stE js (VL.puE ρ)) (stV js σ) H2 (fun p => if p = l then (2, 0) else lab1 p) ∧ Same H H2 ∧ acc.length ≤ i ∧
    Rps K (fun p => (H p = none ∨ (lab p).1 ≤ 1) ∧ p ≠ l) H2 acc pre ∧ ∃ post, lcL (stE js (VL.puE ρ)) fg ft fe (ds.drop i) = .ok post ∧ out = pre ++ post, ⟨ds.length, [], by omega, by omega, upd_same, RB.up (same_new hl _), s1.trans (same_new hl _), Nat.le_refl _, .nil, out, hout, rfl⟩, ?_⟩
  rintro i n acc H2 ⟨pre, rfl, hi, hH2, R2, s2, hacc, rpre, post, hpost, eout⟩
  refine ⟨hH2, by omega, ?_⟩
  have jj := jl _ H2 fun q hq => R2.tm q (List.mem_append_left _ hq)
  by_cases hlt : i < ds.length
  · obtain ⟨go, yl⟩ := (jj i).2 hlt
    refine .inr ⟨go, fun x H3 hy => ?_⟩
    obtain ⟨rfl, d, ed, rx⟩ := yl x H3 hy
    have ed2 : ds.drop i = d :: ds.drop (i + 1) := by
      rw [List.drop_eq_getElem_cons hlt]
      have := List.getElem?_eq_getElem hlt
      rw [ed] at this
      cases this
      rfl
    rw [ed2] at hpost
    obtain ⟨ρ1, k, e1, e2, e3⟩ := lcL_drop hpost
    refine hg (τ1 ++ τ) x d _ H3 _ _ _ ρ1 R2 rx e1 fun σ4 R4 => ?_
    refine ht (τ1 ++ τ) σ4 H3 ρ1 _ _ R4 ?_
    rw [e2]
    intro H5 s5
    rcases e3 with ⟨rfl, y, ys, e3, e4, rfl⟩ | ⟨rfl, e4⟩
    · rw [if_pos rfl]
      refine he (τ1 ++ τ) σ4 H5 ρ1 _ _ (R4.up s5) ?_
      rw [e3]
      intro v H6 s6 r6
      have hl6 : H6 l = some (.lst acc) := s6 _ _ (s5 _ _ hH2)
      have B : Butl l H6 (upd H6 l (.lst (acc ++ [v]))) := fun b o ne hb => by rw [upd_ne ne]; exact hb
      refine ⟨hl6, ds.length - (i + 1), by omega, pre ++ [y], rfl, hlt, upd_same, ?_, ?_, by rw [List.length_append]; simp; omega, ?_, ys, e4, by rw [eout]; simp⟩
      · have R6 := R2.up (s5.trans s6)
        refine ⟨R6.len, fun j s e => ?_, fun b o hb => ?_, R6.new, fun q hq => (R6.tm q hq).but B hl6 rfl lab1l⟩
        · rcases R6.sl j s e with z | ⟨u, e1, e2⟩
          · exact .inl z
          · rcases pst_at e with rfl | ⟨d, rfl⟩
            · exact .inl rfl
            · exact .inr ⟨u, e1, Rp.but B hl6 rfl lab1l e2⟩
        · have := R6.old b o hb
          exact B b o (fun z => by subst z; rw [R1.old.free hl] at hb; cases hb) this
      · exact fun b o hb => B b o (fun z => by subst z; rw [hHl] at hb; cases hb) (((s2.trans s5).trans s6) b o hb)
      · refine ((rpre.up (s5.trans s6)).append (.cons (r6.wk fun p o _ z => ?_) .nil)).but B hl6 rfl fun z => z.2 rfl
        rcases z with z | z
        · exact ⟨.inl ((s2.trans s5).free z), fun e => by subst e; rw [s5 _ _ hH2] at z; cases z⟩
        · have z1 := only_in hm _ z
          simp only [decide_eq_true_eq] at z1
          have hp : p ≠ l := fun e => by subst e; simp at z1
          rw [if_neg hp] at z1
          refine ⟨?_, hp⟩
          cases hH : H p with
          | none => exact .inl rfl
          | some o => rw [hlab p o hH] at z1; exact .inr z1
    · rw [if_neg Bool.false_ne_true]
      exact ⟨ds.length - (i + 1), by omega, pre, rfl, hlt, s5 _ _ hH2, R2.up s5, s2.trans s5, by omega, rpre.up s5, post, e4, eout⟩
  · have ei : i = ds.length := by omega
    subst ei
    rw [List.drop_length] at hpost
    cases hpost
    rw [List.append_nil] at eout
    subst eout
    refine .inl ⟨(jj _).1 (Nat.le_refl _), w _ H2 s2 (.lst hH2 (.inl hHl) (rpre.wk fun p o _ z => ⟨z.1.imp id fun q => ?_, z.2⟩))⟩
    show (lab p).1 ∈ [0, 1]
    have : (lab p).1 = 0 ∨ (lab p).1 = 1 := by omega
    rcases this with q | q <;> rw [q] <;> simp
end
section
variable {C : Ct} {pos : Pos} {elt tg iter : Expr} {ifs : List Expr} {sc : Scope} {N : List Str} {js : List (Option Nat)} {ks : List Nat} {fi : En → Rs (List D)} {fg : D → En → Rs En} {ft : En → Rs Bool} {fe : En → Rs D} {m : Mode}
theorem se_lcZ (hB : ∀ i, BlkNames (C.X i) sc N (stV js) ks) (hi : SI C tg iter fi) (hg : SG (C.blk sc N) tg ks fg) (ht : SIfs (C.blk sc N) ifs ft) (he : SE (C.blk sc N) m elt fe) (hm : okS m = true := by rfl)
    (hs : ∀ i x, foldedSetIterable iter (C.X i).env x = pure x := by intro _ _; rfl) : SE C (some [0, 1]) (.ListComp elt [⟨tg, iter, ifs, 0⟩] sc pos) (lcZ fi js fg ft fe) := by
  obtain ⟨wi, i1, i2⟩ := hi
  obtain ⟨g, g1, g2, g3, g4⟩ := hg
  obtain ⟨tt, t1, t2⟩ := ht
  obtain ⟨te, e1, e2⟩ := he
  exact ⟨_, fun i => pe_lc (hB i) (C.calm i) (i1 i) (fun c fp s₀ H₀ => g1 (i, c, fp, s₀, H₀)) g3 (fun c fp s₀ H₀ => t1 (i, c, fp, s₀, H₀)) (fun c fp s₀ H₀ => e1 (i, c, fp, s₀, H₀)) (hs i), sim_lcZ hm i2 g2 t2 e2⟩
end
end VL

set_option Elab.async false
set_option linter.all false
set_option maxRecDepth 100000
set_option maxHeartbeats 4000000
namespace VL
open PySem PySem.Spec PyProof.Rows L2
/-! ### a list that a name owns is changed -/
theorem RR.mut {K : PySem.W.Frag} {G : Gx} {τ : List (V × D)} {ρ : En} {σ : L2.St} {H H' : Hp} {lab : Lab} {i : Nat} {l : Addr} {v : V} {s' : Slot} {o : HO} (R : RR K G τ ρ σ H lab) (ev : σ[i]? = some (some v)) (hl : H l = some o) (ho : isMut o = true) (hlab : (lab l).1 = i + 2)
    (B : Butl l H H') (h' : SlotOk K H' lab i v s') : RR K G τ (ρ.set i s') σ H' lab := by
  refine ⟨by rw [List.length_set]; exact R.len, fun j x e => ?_, fun b u hb => B b u (fun z => ?_) (R.old b u hb), R.new, fun q hq => (R.tm q hq).but B hl ho fun z => by omega⟩
  · by_cases hj : i = j
    · subst hj
      have hi : i < ρ.length := by
        have := (List.getElem?_eq_some_iff.mp e).1
        rwa [List.length_set] at this
      rw [List.getElem?_set_self hi] at e
      cases e
      exact .inr ⟨v, ev, h'⟩
    · rw [List.getElem?_set_ne hj] at e
      rcases R.sl j x e with z | ⟨u, e1, e2⟩
      · exact .inl z
      · refine .inr ⟨u, e1, ?_⟩
        cases x with
        | no => trivial
        | sh d => exact Rp.but B hl ho (fun z => by omega) e2
        | nw d => exact Rp.but B hl ho (fun z => by omega) e2
        | ow d => exact ⟨Rp.but B hl ho (fun z => by omega) e2.1, e2.2⟩
        | oz d =>
          obtain ⟨a, xs, ds, q1, q2, q3, q4, q5⟩ := e2
          exact ⟨a, xs, ds, q1, q2, B a _ (fun z => by subst z; exact hj (by omega)) q3, q4, Rps.but B hl ho (fun z => by omega) q5⟩
        | o2 ll =>
          obtain ⟨a, xs, q1, q2, q3, q4, q5⟩ := e2
          refine ⟨a, xs, q1, B a _ (fun z => ?_) q2, q3, q4, fun jj y ds f1 f2 => (q5 jj y ds f1 f2).but B hl ho fun z => ?_⟩
          · rw [z] at q3; rw [q3] at hlab; exact hj (by simpa using hlab.symm)
          · rw [z] at hlab; exact hj (by simpa using hlab.symm)
  · subst z
    have := R.new b (by rw [hlab]; omega)
    rw [this] at hb
    cases hb
section
variable {C : Ct} {pos apos cpos p : Pos} {e a : Expr} {fe fa : En → Rs D} {i : Nat} {x : Str} {m : Mode}
/-- x.append(e) -/
def appS (i : Nat) (fe : En → Rs D) : En → Ou := fun ρ => match ρ[i]? with
  | some (.ow (.lst ds)) => (fe ρ).bo fun d => if ds.length < sizeLine then .nx (ρ.set i (.ow (.lst (ds ++ [d])))) else .st
  | _ => .st
theorem ss_append (i : Nat) (he : SE C m e fe) (hm : okN m = true := by rfl) (hN : ∀ j, (C.X j).N[i]? = some x := by intro _; rfl) (hv : ∀ j, Vis (C.X j).env.scope x := by intro _; first | exact Or.inl rfl | exact Or.inr (Or.inl rfl) | exact Or.inr (Or.inr rfl)) (hd : (x == ("__debug__" : Str)) = false := by decide)
    (hcd : (x == ("__classdict__" : Str)) = false := by decide) (hs1 : ∀ j, starEach [e] (C.X j).env = [(false, eval e (C.X j).env)] := by intro _; rfl)
    (hbase : ∀ j, attributeBase (.Name x p) "append" (C.X j).env (eval (.Name x p) (C.X j).env) = eval (.Name x p) (C.X j).env := by intro _; rfl)
    (hfew : ∀ j, ((backTo cpos (starEach [e] (C.X j).env)).all (fun x => !x.1) && (backToKw cpos (keywordEach [] (C.X j).env)).all (fun x => x.1.isSome) && decide ([e].length + ([] : List Keyword).length + (if ([] : List Keyword).isEmpty then 0 else 1) < 30)) = true := by intro _; rfl)
    (hline : (apos.endLine == cpos.line) = true := by rfl)
    (hsw : ∀ j, swapsWith (.Call (.Attribute (.Name x p) "append" apos) [e] [] cpos) none pos.line (C.X j).env = pure false := by intro _; rfl) :
    SS C (.Expr (.Call (.Attribute (.Name x p) "append" apos) [e] [] cpos) pos) (appS i fe) := by
  obtain ⟨t, h1, h2⟩ := he
  refine ⟨tDrop (tBM C.K "list" rAppendA (tVar i) (tCons t tNil)), fun j => ps_expr (by rw [← C.hK j]; exact pe_bm PySem.F.plainAttrs_list PySem.F.slot_list_append PySem.F.type_list_append mt_appendA (pe_var (hN j) (hv j) hd hcd) (pa_cons (h1 j) pa_nil (hs1 j)) (hbase j) (hfew j) hline (hs1 j) rfl) (hsw j), fun τ σ H ρ lab De R W => ?_⟩
  unfold appS at W
  cases es : ρ[i]? with
  | none => rw [es] at W; exact False.elim W
  | some s =>
    rw [es] at W
    split at W
    · rename_i ds hs
      cases hs
      rcases R.sl i _ es with z | ⟨v, ev, hv'⟩
      · cases z
      · obtain ⟨hv1, htop⟩ := hv'
        obtain ⟨a0, ea0, la0⟩ := htop rfl
        subst ea0
        cases hv1 with
        | lst h mm r =>
          rename_i xs
          refine ⟨.ref a0, ev, .inl ⟨rfl, xs, SqL.of h⟩, h2 τ σ H ρ lab _ R (W.bo.imp fun d _ w y H2 s2 r2 => ?_)⟩
          by_cases hz : ds.length < sizeLine
          · rw [if_pos hz] at w
            refine ⟨a0, xs, y, rfl, rfl, s2 _ _ h, by rw [r.length]; exact hz, fun H3 B h3 => ?_⟩
            obtain ⟨R', r'⟩ := R.fresh (P := fun k => k = 1) rfl (fun k hk => beq_iff_eq.mp (only_in hm k hk)) s2 r2
            have la : (newLab H 1 lab a0).1 = i + 2 := by rw [newLab_old h]; exact la0
            refine w σ H3 _ (R'.mut ev (s2 _ _ h) rfl la B ⟨.lst h3 (.inr la) ?_, fun _ => ⟨a0, rfl, la⟩⟩)
            have ra : Rps C.K (fun p => ((newLab H 1 lab p).1 = 1 ∨ (newLab H 1 lab p).1 = i + 2) ∧ p ≠ a0) H2 (xs ++ [y]) (ds ++ [d]) := by
              refine (r.mono s2 fun p o e z => ⟨by rw [newLab_old e]; exact z.1, z.2⟩).append (.cons (r'.wk fun p o e z => ⟨.inl z, fun q => ?_⟩) .nil)
              subst q
              rw [la] at z
              omega
            exact ra.but B (s2 _ _ h) rfl fun z => z.2 rfl
          · rw [if_neg hz] at w
            exact False.elim w
    · exact False.elim W
/-- x[k].append(e), x a list of lists of its own -/
def at2 (ll : List (List D)) : D → Option (Nat × List D)
  | .int n => (ixN ll.length n).bind fun j => (ll[j]?).map fun ds => (j, ds)
  | _ => none
def app2S (i : Nat) (fa fe : En → Rs D) : En → Ou := fun ρ => match ρ[i]? with
  | some (.o2 ll) => (fa ρ).bo fun k => match at2 ll k with
    | some (j, ds) => (fe ρ).bo fun d => if ds.length < sizeLine then .nx (ρ.set i (.o2 (ll.set j (ds ++ [d])))) else .st
    | none => .st
  | _ => .st
theorem at2_some {ll : List (List D)} {k : D} {j : Nat} {ds : List D} (h : at2 ll k = some (j, ds)) : ∃ n, k = .int n ∧ ixN ll.length n = some j ∧ ll[j]? = some ds := by
  cases k with
  | int n =>
    simp only [at2, Option.bind_eq_some_iff, Option.map_eq_some_iff] at h
    obtain ⟨j', h1, ds', h2, h3⟩ := h
    cases h3
    exact ⟨n, rfl, h1, h2⟩
  | _ => cases h
theorem ss_append2 (i : Nat) {p2 : Pos} (ha : SE C m a fa) (he : SE C (some []) e fe) (hN : ∀ j, (C.X j).N[i]? = some x := by intro _; rfl) (hv : ∀ j, Vis (C.X j).env.scope x := by intro _; first | exact Or.inl rfl | exact Or.inr (Or.inl rfl) | exact Or.inr (Or.inr rfl)) (hd : (x == ("__debug__" : Str)) = false := by decide)
    (hcd : (x == ("__classdict__" : Str)) = false := by decide) (hs1 : ∀ j, starEach [e] (C.X j).env = [(false, eval e (C.X j).env)] := by intro _; rfl) (hp : PlainIx a := by exact fun _ _ => rfl)
    (hbase : ∀ j, attributeBase (.Subscript (.Name x p) a p2) "append" (C.X j).env (eval (.Subscript (.Name x p) a p2) (C.X j).env) = eval (.Subscript (.Name x p) a p2) (C.X j).env := by intro _; rfl)
    (hfew : ∀ j, ((backTo cpos (starEach [e] (C.X j).env)).all (fun x => !x.1) && (backToKw cpos (keywordEach [] (C.X j).env)).all (fun x => x.1.isSome) && decide ([e].length + ([] : List Keyword).length + (if ([] : List Keyword).isEmpty then 0 else 1) < 30)) = true := by intro _; rfl)
    (hline : (apos.endLine == cpos.line) = true := by rfl)
    (hsw : ∀ j, swapsWith (.Call (.Attribute (.Subscript (.Name x p) a p2) "append" apos) [e] [] cpos) none pos.line (C.X j).env = pure false := by intro _; rfl) :
    SS C (.Expr (.Call (.Attribute (.Subscript (.Name x p) a p2) "append" apos) [e] [] cpos) pos) (app2S i fa fe) := by
  obtain ⟨t, h1, h2⟩ := he
  obtain ⟨ta, a1, a2⟩ := ha
  refine ⟨tDrop (tBM C.K "list" rAppendA (tOp (rIxL C.K) (tVar i) ta) (tCons t tNil)), fun j => ps_expr (by rw [← C.hK j]; exact pe_bm PySem.F.plainAttrs_list PySem.F.slot_list_append PySem.F.type_list_append mt_appendA (pe_ix ix_list (pe_var (hN j) (hv j) hd hcd) (a1 j) hp) (pa_cons (h1 j) pa_nil (hs1 j)) (hbase j) (hfew j) hline (hs1 j) rfl) (hsw j), fun τ σ H ρ lab De R W => ?_⟩
  unfold app2S at W
  cases es : ρ[i]? with
  | none => rw [es] at W; exact False.elim W
  | some s =>
    rw [es] at W
    cases s with
    | o2 ll =>
      dsimp only at W
      rcases R.sl i _ es with z | ⟨v, ev, top, xs, rfl, ht, hlt, hlen, hin⟩
      · cases z
      · refine ⟨.ref top, ev, a2 τ σ H ρ lab _ R (W.bo.imp fun k _ w kv H1 s1 r1 => ?_)⟩
        cases hk : at2 ll k with
        | none => rw [hk] at w; exact False.elim w
        | some q =>
          obtain ⟨j, ds⟩ := q
          rw [hk] at w
          dsimp only at w
          obtain ⟨n, rfl, hj, hds⟩ := at2_some hk
          cases r1
          have hjx : ∃ xj, xs[j]? = some xj := by
            have : j < xs.length := by rw [hlen]; exact (List.getElem?_eq_some_iff.mp hds).1
            exact ⟨_, List.getElem?_eq_getElem this⟩
          obtain ⟨xj, hxj⟩ := hjx
          have hr := hin j xj ds hxj hds
          cases hr with
          | lst hl ml rl =>
            rename_i l ys
            refine ⟨top, xs, n, .ref l, rfl, rfl, SqL.of (s1 _ _ ht), by unfold atI; rw [hlen, hj]; exact hxj, .inl ⟨rfl, ys, SqL.of (s1 _ _ hl)⟩, h2 τ σ H1 ρ lab _ (R.up s1) (w.bo.imp fun d _ w y H2 s2 r2 => ?_)⟩
            by_cases hz : ds.length < sizeLine
            · rw [if_pos hz] at w
              have s12 := s1.trans s2
              refine ⟨l, ys, y, rfl, rfl, s12 _ _ hl, by rw [rl.length]; exact hz, fun H3 B h3 => ?_⟩
              have ltop : l ≠ top := fun e => by rw [e, hlt] at ml; cases ml
              -- what is new belongs to the inner list j
              let lab' : Lab := fun p => match H1 p with
                | none => (i + 2, j + 1)
                | some _ => lab p
              have lo : ∀ {p o}, H1 p = some o → lab' p = lab p := fun {p o} e => by show (match H1 p with | none => _ | some _ => _) = _; rw [e]
              have ln : ∀ {p}, H1 p = none → lab' p = (i + 2, j + 1) := fun {p} e => by show (match H1 p with | none => _ | some _ => _) = _; rw [e]
              have R' : RR C.K C.G τ ρ σ H2 lab' := ((R.up s1).relab (fun p o e => lo e) fun p hp => by
                cases e : H1 p with
                | none => exact (R.old.trans s1).free e
                | some o => rw [lo e] at hp; exact R.new p hp).up s2
              have labl : lab' l = (i + 2, j + 1) := by rw [lo (s1 _ _ hl)]; exact ml
              refine w σ H3 lab' (R'.mut ev (s12 _ _ hl) rfl (by rw [labl]) B ⟨top, xs, rfl, B _ _ (Ne.symm ltop) (s12 _ _ ht), by rw [lo (s1 _ _ ht)]; exact hlt, by rw [List.length_set]; exact hlen, fun jj z dz f1 f2 => ?_⟩)
              by_cases hjj : j = jj
              · subst hjj
                rw [hxj] at f1
                cases f1
                rw [List.getElem?_set_self (List.getElem?_eq_some_iff.mp hds).1] at f2
                cases f2
                refine .lst h3 labl ?_
                have ra : Rps C.K (fun p => lab' p = (i + 2, j + 1) ∧ p ≠ l) H2 (ys ++ [y]) (ds ++ [d]) := by
                  refine (rl.mono s12 fun p o e z => ⟨by rw [lo (s1 _ _ e)]; exact z.1, z.2⟩).append (.cons (r2.wk fun p o e z => ?_) .nil)
                  rcases z with z | z
                  · exact ⟨ln z, fun q => by subst q; rw [s1 _ _ hl] at z; cases z⟩
                  · cases z
                exact ra.but B (s12 _ _ hl) rfl fun z => z.2 rfl
              · rw [List.getElem?_set_ne hjj] at f2
                refine ((hin jj z dz f1 f2).mono s12 (A' := fun p => lab' p = (i + 2, jj + 1)) fun p o e q => by rw [lo (s1 _ _ e)]; exact q).but B (s12 _ _ hl) rfl fun q => ?_
                rw [labl] at q
                simp only [Prod.mk.injEq] at q
                omega
            · rw [if_neg hz] at w
              exact False.elim w
    | _ => exact False.elim W
end
end VL

set_option Elab.async false
set_option linter.all false
set_option maxRecDepth 100000
set_option maxHeartbeats 4000000
namespace VL
open PySem PySem.Spec PyProof.Rows L2
/-! == AND != of things, at any depth; in, not in -/
mutual
def eqD : D → D → Bool
  | .non, .non => true
  | .bl a, .bl b => a == b
  | .bl a, .int b => (if a then 1 else 0) == b
  | .int a, .bl b => a == (if b then 1 else 0)
  | .int a, .int b => a == b
  | .str a, .str b => a == b
  | .tup l, .tup m => eqDs l m
  | .lst l, .lst m => eqDs l m
  | _, _ => false
def eqDs : List D → List D → Bool
  | [], [] => true
  | x :: xs, y :: ys => eqD x y && eqDs xs ys
  | _, _ => false
end
mutual
def depD : D → Nat
  | .tup l => depDs l + 1
  | .lst l => depDs l + 1
  | _ => 0
def depDs : List D → Nat
  | [] => 0
  | d :: r => max (depD d) (depDs r)
end
mutual
def noDct : D → Bool
  | .tup l => noDcts l
  | .lst l => noDcts l
  | .dct _ _ => false
  | .set _ => false
  | .scr _ => false
  | _ => true
def noDcts : List D → Bool
  | [] => true
  | d :: r => noDct d && noDcts r
end
mutual
theorem eqD_refl : ∀ d : D, noDct d = true → eqD d d = true
  | .non, _ => by simp [eqD]
  | .bl b, _ => by simp [eqD]
  | .int i, _ => by simp [eqD]
  | .str x, _ => by simp [eqD]
  | .tup l, h => by simp only [eqD]; exact eqDs_refl l (by simpa [noDct] using h)
  | .lst l, h => by simp only [eqD]; exact eqDs_refl l (by simpa [noDct] using h)
  | .dct _ _, h => by simp [noDct] at h
  | .set _, h => by simp [noDct] at h
  | .scr _, h => by simp [noDct] at h
theorem eqDs_refl : ∀ l : List D, noDcts l = true → eqDs l l = true
  | [], _ => by simp [eqDs]
  | d :: r, h => by
    simp only [noDcts, Bool.and_eq_true] at h
    simp only [eqDs, Bool.and_eq_true]
    exact ⟨eqD_refl d h.1, eqDs_refl r h.2⟩
end
/-- what stands in the heap as lists and tuples -/
structure SeqOk (K : PySem.W.Frag) (H : Hp) (s : Shared) : Prop where
  tup : ∀ {a : Addr} {xs : List V}, SqT K H a xs → ∃ its : List Value, Vals xs its ∧ s.heap.IsTuple a its.toArray
  lst : ∀ {a : Addr} {xs : List V}, H a = some (.lst xs) → ∃ its : List Value, Vals xs its ∧ s.heap.IsList a its.toArray
  inj : ∀ {a : Addr} {xs ys : List V}, SqT K H a xs → SqT K H a ys → xs = ys
  ne : ∀ {a : Addr} {xs ys : List V}, SqT K H a xs → H a = some (.lst ys) → False
theorem Inv.seqOk {X : Cx} {pins : List (Addr × Obj)} {σ : L2.St} {H : Hp} {s : Shared} (I : L2.Inv X pins σ H s) : SeqOk X.K H s where
  tup := fun h => let ⟨its, r, p, _⟩ := I.tuple h; ⟨its, r, p⟩
  lst := fun h => let ⟨its, r, p, _⟩ := I.list (SqL.of h); ⟨its, r, p.isList⟩
  inj := fun h h' => I.tuple_inj h h'
  ne := fun h h' => by
    obtain ⟨its, _, ⟨o, e, c, _⟩, _⟩ := I.tuple h
    obtain ⟨its2, _, ⟨o2, n2, e2, c2, _⟩, _⟩ := I.list (SqL.of h')
    rw [e] at e2
    cases e2
    rw [c] at c2
    injection c2 with c3
    exact absurd c3 (by decide)
section
variable {K : PySem.W.Frag} {H : Hp} {s : Shared}
mutual
theorem Rp.inj (ok : SeqOk K H s) : ∀ {A A' : Addr → Prop} {x : V} {d e : D}, Rp K A H x d → Rp K A' H x e → noDct d = true → noDct e = true → d = e
  | _, _, _, _, _, .non, h, _, _ => by cases h; rfl
  | _, _, _, _, _, .bl b, h, _, _ => by cases h; rfl
  | _, _, _, _, _, .int i, h, _, _ => by cases h; rfl
  | _, _, _, _, _, .str x, h, _, _ => by cases h; rfl
  | _, _, _, _, _, .tup ha r, h, n1, n2 => by
    cases h with
    | tup hb r' =>
      have e := ok.inj ha hb
      subst e
      rw [Rps.inj ok r r' (by simpa [noDct] using n1) (by simpa [noDct] using n2)]
    | lst hb _ _ => exact (ok.ne ha hb).elim
    | dK _ _ _ => simp [noDct] at n2
    | dT _ _ _ => simp [noDct] at n2
    | set _ _ _ _ => simp [noDct] at n2
    | scr _ => simp [noDct] at n2
  | _, _, _, _, _, .lst ha _ r, h, n1, n2 => by
    cases h with
    | tup hb r' => exact (ok.ne hb ha).elim
    | lst hb _ r' =>
      rw [ha] at hb
      cases hb
      rw [Rps.inj ok r r' (by simpa [noDct] using n1) (by simpa [noDct] using n2)]
    | dK _ _ _ => simp [noDct] at n2
    | dT _ _ _ => simp [noDct] at n2
    | set _ _ _ _ => simp [noDct] at n2
    | scr _ => simp [noDct] at n2
  | _, _, _, _, _, .dK _ _ _, _, n1, _ => by simp [noDct] at n1
  | _, _, _, _, _, .dT _ _ _, _, n1, _ => by simp [noDct] at n1
  | _, _, _, _, _, .set _ _ _ _, _, n1, _ => by simp [noDct] at n1
  | _, _, _, _, _, .scr _, _, n1, _ => by simp [noDct] at n1
theorem Rps.inj (ok : SeqOk K H s) : ∀ {A A' : Addr → Prop} {xs : List V} {ds es : List D}, Rps K A H xs ds → Rps K A' H xs es → noDcts ds = true → noDcts es = true → ds = es
  | _, _, _, _, _, .nil, h, _, _ => by cases h; rfl
  | _, _, _, _, _, .cons h r, h', n1, n2 => by
    cases h' with
    | cons k r' =>
      simp only [noDcts, Bool.and_eq_true] at n1 n2
      rw [Rp.inj ok h k n1.1 n2.1, Rps.inj ok r r' n1.2 n2.2]
end
end
theorem eqDs_all : ∀ (l m : List D), eqDs l m = ((List.range (min l.length m.length)).all (fun j => match l[j]?, m[j]? with | some a, some b => eqD a b | _, _ => true) && l.length == m.length)
  | [], [] => by simp [eqDs]
  | [], y :: ys => by simp [eqDs]
  | x :: xs, [] => by simp [eqDs]
  | x :: xs, y :: ys => by
    have ih := eqDs_all xs ys
    simp only [eqDs, ih, List.length_cons, Nat.succ_min_succ, List.range_succ_eq_map, List.all_cons, List.all_map, List.getElem?_cons_zero, Function.comp_def, List.getElem?_cons_succ, Nat.succ_eq_add_one, Nat.add_one_inj, Bool.and_assoc]
    congr 1
    congr 1
    simp
theorem depDs_mem : ∀ {l : List D} {d : D}, d ∈ l → depD d ≤ depDs l
  | x :: r, d, h => by
    simp only [depDs]
    rcases List.mem_cons.mp h with rfl | h
    · exact Nat.le_max_left _ _
    · exact Nat.le_trans (depDs_mem h) (Nat.le_max_right _ _)
theorem noDcts_mem : ∀ {l : List D} {d : D}, d ∈ l → noDcts l = true → noDct d = true
  | x :: r, d, h, n => by
    simp only [noDcts, Bool.and_eq_true] at n
    rcases List.mem_cons.mp h with rfl | h
    · exact n.1
    · exact noDcts_mem h n.2
theorem eqDs_range {ds es : List D} {n m : Nat} (hn : n = ds.length) (hm : m = es.length) : ((List.range (min n m)).all (fun j => match ds[j]?, es[j]? with | some a, some b => eqD a b | _, _ => true) && n == m) = eqDs ds es := by
  subst hn hm
  exact (eqDs_all ds es).symm
section
variable {K : PySem.W.Frag} {H : Hp} {s : Shared}
mutual
theorem eqAt_D (ok : SeqOk K H s) : ∀ {A1 A2 : Addr → Prop} {x y : V} {d e : D} (n : Nat) {A : Around} {u v : Value}, Rp K A1 H x d → Rp K A2 H y e → RelV x u → RelV y v → depD d ≤ n → noDct d = true → noDct e = true → A.units + n < cLine → SeqAt.EqAt A s u v (eqD d e)
  | _, _, _, _, _, _, n, A, u, v, r1, r2, ru, rv, hd, nd, ne, hu => by
    have hu0 : A.units < cLine := by omega
    cases r1 with
    | tup h1 q1 =>
      rename_i a xs ds
      cases ru
      obtain ⟨its, w1, t1⟩ := ok.tup h1
      cases r2 with
      | tup h2 q2 =>
        rename_i b ys es
        cases rv
        obtain ⟨its2, w2, t2⟩ := ok.tup h2
        by_cases hab : a = b
        · subst hab
          have e := Rp.inj ok (Rp.tup h1 q1) (Rp.tup h2 q2) nd ne
          rw [← e, eqD_refl _ nd]
          exact SeqAt.EqAt.same _
        · simp only [depD] at hd
          obtain ⟨k, rfl⟩ : ∃ k, n = k + 1 := ⟨n - 1, by omega⟩
          have z := SeqAt.RcAt.tuples t1 t2 hu0 (eqAts ok k q1 q2 w1 w2 (by omega) (by simpa [noDct] using nd) (by simpa [noDct] using ne) (by show A.units + 1 + k < cLine; omega))
          rw [eqDs_range (by rw [List.size_toArray, ← w1.length, q1.length]) (by rw [List.size_toArray, ← w2.length, q2.length])] at z
          simp only [eqD]
          exact SeqAt.EqAt.of_refs hab z
      | lst h2 mm2 q2 =>
        cases rv
        obtain ⟨its2, w2, t2⟩ := ok.lst h2
        simp only [eqD]
        exact SeqAt.EqAt.tuple_list t1 t2 hu0
      | dK _ _ _ => simp [noDct] at ne
      | dT _ _ _ => simp [noDct] at ne
      | set _ _ _ _ => simp [noDct] at ne
      | scr _ => simp [noDct] at ne
      | non => cases rv; simp only [eqD]; exact SeqAt.EqAt.tuple_none t1 hu0
      | bl b => cases rv; simp only [eqD]; exact SeqAt.EqAt.tuple_bool b t1 hu0
      | int i => obtain ⟨tk, rfl⟩ := rv; simp only [eqD]; exact SeqAt.EqAt.tuple_int i tk t1 hu0
      | str i => obtain ⟨tk, rfl⟩ := rv; simp only [eqD]; exact SeqAt.EqAt.tuple_str i tk t1 hu0
    | lst h1 mm1 q1 =>
      rename_i a xs ds
      cases ru
      obtain ⟨its, w1, t1⟩ := ok.lst h1
      cases r2 with
      | lst h2 mm2 q2 =>
        rename_i b ys es
        cases rv
        obtain ⟨its2, w2, t2⟩ := ok.lst h2
        by_cases hab : a = b
        · subst hab
          have e := Rp.inj ok (Rp.lst h1 mm1 q1) (Rp.lst h2 mm2 q2) nd ne
          rw [← e, eqD_refl _ nd]
          exact SeqAt.EqAt.same _
        · simp only [depD] at hd
          obtain ⟨k, rfl⟩ : ∃ k, n = k + 1 := ⟨n - 1, by omega⟩
          have l1 : its.toArray.size = ds.length := by rw [List.size_toArray, ← w1.length, q1.length]
          have l2 : its2.toArray.size = es.length := by rw [List.size_toArray, ← w2.length, q2.length]
          by_cases hl : its.toArray.size = its2.toArray.size
          · have z := SeqAt.RcAt.lists t1 t2 hl hu0 (eqAts ok k q1 q2 w1 w2 (by omega) (by simpa [noDct] using nd) (by simpa [noDct] using ne) (by show A.units + 1 + k < cLine; omega))
            have z' := eqDs_range (ds := ds) (es := es) l1 l2
            rw [← hl, Nat.min_self, beq_self_eq_true, Bool.and_true] at z'
            rw [z'] at z
            simp only [eqD]
            exact SeqAt.EqAt.of_refs hab z
          · have z := SeqAt.RcAt.lists_lengths t1 t2 (by simpa using hl) hu0
            have z' := eqDs_range (ds := ds) (es := es) l1 l2
            rw [beq_eq_false_iff_ne.mpr hl, Bool.and_false] at z'
            simp only [eqD]
            rw [← z']
            exact SeqAt.EqAt.of_refs hab z
      | tup h2 q2 =>
        cases rv
        obtain ⟨its2, w2, t2⟩ := ok.tup h2
        simp only [eqD]
        exact SeqAt.EqAt.list_tuple t1 t2 hu0
      | dK _ _ _ => simp [noDct] at ne
      | dT _ _ _ => simp [noDct] at ne
      | set _ _ _ _ => simp [noDct] at ne
      | scr _ => simp [noDct] at ne
      | non => cases rv; simp only [eqD]; exact SeqAt.EqAt.list_none t1 hu0
      | bl b => cases rv; simp only [eqD]; exact SeqAt.EqAt.list_bool b t1 hu0
      | int i => obtain ⟨tk, rfl⟩ := rv; simp only [eqD]; exact SeqAt.EqAt.list_int i tk t1 hu0
      | str i => obtain ⟨tk, rfl⟩ := rv; simp only [eqD]; exact SeqAt.EqAt.list_str i tk t1 hu0
    | dK _ _ _ => simp [noDct] at nd
    | dT _ _ _ => simp [noDct] at nd
    | set _ _ _ _ => simp [noDct] at nd
    | scr _ => simp [noDct] at nd
    | non =>
      cases ru
      cases r2 with
      | tup h2 q2 => cases rv; obtain ⟨_, _, t2⟩ := ok.tup h2; simp only [eqD]; exact SeqAt.EqAt.none_tuple t2 hu0
      | lst h2 mm2 q2 => cases rv; obtain ⟨_, _, t2⟩ := ok.lst h2; simp only [eqD]; exact SeqAt.EqAt.none_list t2 hu0
      | dK _ _ _ => simp [noDct] at ne
      | dT _ _ _ => simp [noDct] at ne
      | set _ _ _ _ => simp [noDct] at ne
      | scr _ => simp [noDct] at ne
      | non => cases rv; simp only [eqD]; exact SeqAt.EqAt.same _
      | bl b => cases rv; simp only [eqD]; exact SeqAt.EqAt.none_bool b
      | int i => obtain ⟨tk, rfl⟩ := rv; simp only [eqD]; exact SeqAt.EqAt.none_int i tk
      | str i => obtain ⟨tk, rfl⟩ := rv; simp only [eqD]; exact SeqAt.EqAt.none_str i tk
    | bl a =>
      cases ru
      cases r2 with
      | tup h2 q2 => cases rv; obtain ⟨_, _, t2⟩ := ok.tup h2; simp only [eqD]; exact SeqAt.EqAt.bool_tuple a t2 hu0
      | lst h2 mm2 q2 => cases rv; obtain ⟨_, _, t2⟩ := ok.lst h2; simp only [eqD]; exact SeqAt.EqAt.bool_list a t2 hu0
      | dK _ _ _ => simp [noDct] at ne
      | dT _ _ _ => simp [noDct] at ne
      | set _ _ _ _ => simp [noDct] at ne
      | scr _ => simp [noDct] at ne
      | non => cases rv; simp only [eqD]; exact SeqAt.EqAt.bool_none a
      | bl b => cases rv; simp only [eqD]; exact SeqAt.EqAt.bool_bool a b
      | int i => obtain ⟨tk, rfl⟩ := rv; simp only [eqD]; exact SeqAt.EqAt.bool_int a i tk
      | str i => obtain ⟨tk, rfl⟩ := rv; simp only [eqD]; exact SeqAt.EqAt.bool_str a i tk
    | int a =>
      obtain ⟨tu, rfl⟩ := ru
      cases r2 with
      | tup h2 q2 => cases rv; obtain ⟨_, _, t2⟩ := ok.tup h2; simp only [eqD]; exact SeqAt.EqAt.int_tuple a tu t2 hu0
      | lst h2 mm2 q2 => cases rv; obtain ⟨_, _, t2⟩ := ok.lst h2; simp only [eqD]; exact SeqAt.EqAt.int_list a tu t2 hu0
      | dK _ _ _ => simp [noDct] at ne
      | dT _ _ _ => simp [noDct] at ne
      | set _ _ _ _ => simp [noDct] at ne
      | scr _ => simp [noDct] at ne
      | non => cases rv; simp only [eqD]; exact SeqAt.EqAt.int_none a tu
      | bl b => cases rv; simp only [eqD]; exact SeqAt.EqAt.int_bool a tu b
      | int i => obtain ⟨tk, rfl⟩ := rv; simp only [eqD]; exact SeqAt.EqAt.int_int a tu i tk
      | str i => obtain ⟨tk, rfl⟩ := rv; simp only [eqD]; exact SeqAt.EqAt.int_str a tu i tk
    | str a =>
      obtain ⟨tu, rfl⟩ := ru
      cases r2 with
      | tup h2 q2 => cases rv; obtain ⟨_, _, t2⟩ := ok.tup h2; simp only [eqD]; exact SeqAt.EqAt.str_tuple a tu t2 hu0
      | lst h2 mm2 q2 => cases rv; obtain ⟨_, _, t2⟩ := ok.lst h2; simp only [eqD]; exact SeqAt.EqAt.str_list a tu t2 hu0
      | dK _ _ _ => simp [noDct] at ne
      | dT _ _ _ => simp [noDct] at ne
      | set _ _ _ _ => simp [noDct] at ne
      | scr _ => simp [noDct] at ne
      | non => cases rv; simp only [eqD]; exact SeqAt.EqAt.str_none a tu
      | bl b => cases rv; simp only [eqD]; exact SeqAt.EqAt.str_bool a tu b
      | int i => obtain ⟨tk, rfl⟩ := rv; simp only [eqD]; exact SeqAt.EqAt.str_int a tu i tk
      | str i => obtain ⟨tk, rfl⟩ := rv; simp only [eqD]; exact SeqAt.EqAt.str_str a tu i tk
  termination_by _ _ _ _ _ _ n => (n, 0)
theorem eqAts (ok : SeqOk K H s) : ∀ {A1 A2 : Addr → Prop} {xs ys : List V} {ds es : List D} (n : Nat) {A : Around} {us vs : List Value}, Rps K A1 H xs ds → Rps K A2 H ys es → Vals xs us → Vals ys vs → depDs ds ≤ n → noDcts ds = true → noDcts es = true → A.units + n < cLine →
    ∀ (j : Nat) (h1 : j < us.toArray.size) (h2 : j < vs.toArray.size), SeqAt.EqAt A s us.toArray[j] vs.toArray[j] (match ds[j]?, es[j]? with | some a, some b => eqD a b | _, _ => true)
  | _, _, xs, ys, ds, es, n, A, us, vs, q1, q2, w1, w2, hd, nd, ne, hu, j, h1, h2 => by
    have hj1 : j < us.length := by simpa using h1
    have hj2 : j < vs.length := by simpa using h2
    have hx : j < xs.length := by rw [w1.length]; exact hj1
    have hy : j < ys.length := by rw [w2.length]; exact hj2
    have ex := List.getElem?_eq_getElem hx
    have ey := List.getElem?_eq_getElem hy
    obtain ⟨d, ed, rd⟩ := q1.get ex
    obtain ⟨e, ee, re⟩ := q2.get ey
    obtain ⟨u, eu, ru⟩ := w1.get ex
    obtain ⟨v, ev, rv⟩ := w2.get ey
    have e1 : us.toArray[j] = u := by
      rw [List.getElem_toArray]
      exact Option.some.inj ((List.getElem?_eq_getElem hj1).symm.trans eu)
    have e2 : vs.toArray[j] = v := by
      rw [List.getElem_toArray]
      exact Option.some.inj ((List.getElem?_eq_getElem hj2).symm.trans ev)
    rw [e1, e2, ed, ee]
    exact eqAt_D ok n rd re ru rv (Nat.le_trans (depDs_mem (List.mem_of_getElem? ed)) hd) (noDcts_mem (List.mem_of_getElem? ed) nd) (noDcts_mem (List.mem_of_getElem? ee) ne) hu
  termination_by _ _ _ _ _ _ n => (n, 1)
end
/-- a == b, a != b of things -/
theorem rcAt_D (ok : SeqOk K H s) {A1 A2 : Addr → Prop} {x y : V} {d e : D} (n : Nat) {A : Around} {u v : Value} (r1 : Rp K A1 H x d) (r2 : Rp K A2 H y e) (ru : RelV x u) (rv : RelV y v) (hd : depD d ≤ n) (nd : noDct d = true) (ne : noDct e = true) (hu : A.units + n < cLine) :
    SeqAt.RcAt A s u v (eqD d e) ∧ SeqAt.RcNeAt A s u v (!eqD d e) := by
  have hu0 : A.units < cLine := by omega
  cases r1 with
  | tup h1 q1 =>
    rename_i a xs ds
    cases ru
    obtain ⟨its, w1, t1⟩ := ok.tup h1
    cases r2 with
    | tup h2 q2 =>
      rename_i b ys es
      cases rv
      obtain ⟨its2, w2, t2⟩ := ok.tup h2
      simp only [depD] at hd
      obtain ⟨k, rfl⟩ : ∃ k, n = k + 1 := ⟨n - 1, by omega⟩
      have he := eqAts ok (A := A.in1) k q1 q2 w1 w2 (by omega) (by simpa [noDct] using nd) (by simpa [noDct] using ne) (by show A.units + 1 + k < cLine; omega)
      have z := SeqAt.RcAt.tuples t1 t2 hu0 he
      have z2 := SeqAt.RcNeAt.tuples t1 t2 hu0 he
      rw [eqDs_range (by rw [List.size_toArray, ← w1.length, q1.length]) (by rw [List.size_toArray, ← w2.length, q2.length])] at z z2
      simp only [eqD]
      exact ⟨z, z2⟩
    | lst h2 mm2 q2 =>
      cases rv
      obtain ⟨its2, w2, t2⟩ := ok.lst h2
      simp only [eqD]
      exact ⟨SeqAt.RcAt.tuple_list t1 t2 hu0, SeqAt.RcNeAt.tuple_list t1 t2 hu0⟩
    | dK _ _ _ => simp [noDct] at ne
    | dT _ _ _ => simp [noDct] at ne
    | set _ _ _ _ => simp [noDct] at ne
    | scr _ => simp [noDct] at ne
    | non => cases rv; simp only [eqD]; exact ⟨SeqAt.RcAt.tuple_none t1 hu0, SeqAt.RcNeAt.tuple_none t1 hu0⟩
    | bl b => cases rv; simp only [eqD]; exact ⟨SeqAt.RcAt.tuple_bool b t1 hu0, SeqAt.RcNeAt.tuple_bool b t1 hu0⟩
    | int i => obtain ⟨tk, rfl⟩ := rv; simp only [eqD]; exact ⟨SeqAt.RcAt.tuple_int i tk t1 hu0, SeqAt.RcNeAt.tuple_int i tk t1 hu0⟩
    | str i => obtain ⟨tk, rfl⟩ := rv; simp only [eqD]; exact ⟨SeqAt.RcAt.tuple_str i tk t1 hu0, SeqAt.RcNeAt.tuple_str i tk t1 hu0⟩
  | lst h1 mm1 q1 =>
    rename_i a xs ds
    cases ru
    obtain ⟨its, w1, t1⟩ := ok.lst h1
    cases r2 with
    | lst h2 mm2 q2 =>
      rename_i b ys es
      cases rv
      obtain ⟨its2, w2, t2⟩ := ok.lst h2
      simp only [depD] at hd
      obtain ⟨k, rfl⟩ : ∃ k, n = k + 1 := ⟨n - 1, by omega⟩
      have l1 : its.toArray.size = ds.length := by rw [List.size_toArray, ← w1.length, q1.length]
      have l2 : its2.toArray.size = es.length := by rw [List.size_toArray, ← w2.length, q2.length]
      have z' := eqDs_range (ds := ds) (es := es) l1 l2
      by_cases hl : its.toArray.size = its2.toArray.size
      · have he := eqAts ok (A := A.in1) k q1 q2 w1 w2 (by omega) (by simpa [noDct] using nd) (by simpa [noDct] using ne) (by show A.units + 1 + k < cLine; omega)
        have z := SeqAt.RcAt.lists t1 t2 hl hu0 he
        have z2 := SeqAt.RcNeAt.lists t1 t2 hl hu0 he
        rw [← hl, Nat.min_self, beq_self_eq_true, Bool.and_true] at z'
        rw [z'] at z z2
        simp only [eqD]
        exact ⟨z, z2⟩
      · rw [beq_eq_false_iff_ne.mpr hl, Bool.and_false] at z'
        simp only [eqD]
        rw [← z']
        exact ⟨SeqAt.RcAt.lists_lengths t1 t2 (by simpa using hl) hu0, SeqAt.RcNeAt.lists_lengths t1 t2 (by simpa using hl) hu0⟩
    | tup h2 q2 =>
      cases rv
      obtain ⟨its2, w2, t2⟩ := ok.tup h2
      simp only [eqD]
      exact ⟨SeqAt.RcAt.list_tuple t1 t2 hu0, SeqAt.RcNeAt.list_tuple t1 t2 hu0⟩
    | dK _ _ _ => simp [noDct] at ne
    | dT _ _ _ => simp [noDct] at ne
    | set _ _ _ _ => simp [noDct] at ne
    | scr _ => simp [noDct] at ne
    | non => cases rv; simp only [eqD]; exact ⟨SeqAt.RcAt.list_none t1 hu0, SeqAt.RcNeAt.list_none t1 hu0⟩
    | bl b => cases rv; simp only [eqD]; exact ⟨SeqAt.RcAt.list_bool b t1 hu0, SeqAt.RcNeAt.list_bool b t1 hu0⟩
    | int i => obtain ⟨tk, rfl⟩ := rv; simp only [eqD]; exact ⟨SeqAt.RcAt.list_int i tk t1 hu0, SeqAt.RcNeAt.list_int i tk t1 hu0⟩
    | str i => obtain ⟨tk, rfl⟩ := rv; simp only [eqD]; exact ⟨SeqAt.RcAt.list_str i tk t1 hu0, SeqAt.RcNeAt.list_str i tk t1 hu0⟩
  | dK _ _ _ => simp [noDct] at nd
  | dT _ _ _ => simp [noDct] at nd
  | set _ _ _ _ => simp [noDct] at nd
  | scr _ => simp [noDct] at nd
  | non =>
    cases ru
    cases r2 with
    | tup h2 q2 => cases rv; obtain ⟨_, _, t2⟩ := ok.tup h2; simp only [eqD]; exact ⟨SeqAt.RcAt.none_tuple t2 hu0, SeqAt.RcNeAt.none_tuple t2 hu0⟩
    | lst h2 mm2 q2 => cases rv; obtain ⟨_, _, t2⟩ := ok.lst h2; simp only [eqD]; exact ⟨SeqAt.RcAt.none_list t2 hu0, SeqAt.RcNeAt.none_list t2 hu0⟩
    | dK _ _ _ => simp [noDct] at ne
    | dT _ _ _ => simp [noDct] at ne
    | set _ _ _ _ => simp [noDct] at ne
    | scr _ => simp [noDct] at ne
    | non => cases rv; simp only [eqD]; exact ⟨SeqAt.RcAt.none_none, SeqAt.RcNeAt.none_none⟩
    | bl b => cases rv; simp only [eqD]; exact ⟨SeqAt.RcAt.none_bool b, SeqAt.RcNeAt.none_bool b⟩
    | int i => obtain ⟨tk, rfl⟩ := rv; simp only [eqD]; exact ⟨SeqAt.RcAt.none_int i tk, SeqAt.RcNeAt.none_int i tk⟩
    | str i => obtain ⟨tk, rfl⟩ := rv; simp only [eqD]; exact ⟨SeqAt.RcAt.none_str i tk, SeqAt.RcNeAt.none_str i tk⟩
  | bl a =>
    cases ru
    cases r2 with
    | tup h2 q2 => cases rv; obtain ⟨_, _, t2⟩ := ok.tup h2; simp only [eqD]; exact ⟨SeqAt.RcAt.bool_tuple a t2 hu0, SeqAt.RcNeAt.bool_tuple a t2 hu0⟩
    | lst h2 mm2 q2 => cases rv; obtain ⟨_, _, t2⟩ := ok.lst h2; simp only [eqD]; exact ⟨SeqAt.RcAt.bool_list a t2 hu0, SeqAt.RcNeAt.bool_list a t2 hu0⟩
    | dK _ _ _ => simp [noDct] at ne
    | dT _ _ _ => simp [noDct] at ne
    | set _ _ _ _ => simp [noDct] at ne
    | scr _ => simp [noDct] at ne
    | non => cases rv; simp only [eqD]; exact ⟨SeqAt.RcAt.bool_none a, SeqAt.RcNeAt.bool_none a⟩
    | bl b => cases rv; simp only [eqD]; exact ⟨SeqAt.RcAt.bool_bool a b, SeqAt.RcNeAt.bool_bool a b⟩
    | int i => obtain ⟨tk, rfl⟩ := rv; simp only [eqD]; exact ⟨SeqAt.RcAt.bool_int a i tk, SeqAt.RcNeAt.bool_int a i tk⟩
    | str i => obtain ⟨tk, rfl⟩ := rv; simp only [eqD]; exact ⟨SeqAt.RcAt.bool_str a i tk, SeqAt.RcNeAt.bool_str a i tk⟩
  | int a =>
    obtain ⟨tu, rfl⟩ := ru
    cases r2 with
    | tup h2 q2 => cases rv; obtain ⟨_, _, t2⟩ := ok.tup h2; simp only [eqD]; exact ⟨SeqAt.RcAt.int_tuple a tu t2 hu0, SeqAt.RcNeAt.int_tuple a tu t2 hu0⟩
    | lst h2 mm2 q2 => cases rv; obtain ⟨_, _, t2⟩ := ok.lst h2; simp only [eqD]; exact ⟨SeqAt.RcAt.int_list a tu t2 hu0, SeqAt.RcNeAt.int_list a tu t2 hu0⟩
    | dK _ _ _ => simp [noDct] at ne
    | dT _ _ _ => simp [noDct] at ne
    | set _ _ _ _ => simp [noDct] at ne
    | scr _ => simp [noDct] at ne
    | non => cases rv; simp only [eqD]; exact ⟨SeqAt.RcAt.int_none a tu, SeqAt.RcNeAt.int_none a tu⟩
    | bl b => cases rv; simp only [eqD]; exact ⟨SeqAt.RcAt.int_bool a tu b, SeqAt.RcNeAt.int_bool a tu b⟩
    | int i => obtain ⟨tk, rfl⟩ := rv; simp only [eqD]; exact ⟨SeqAt.RcAt.int_int a tu i tk, SeqAt.RcNeAt.int_int a tu i tk⟩
    | str i => obtain ⟨tk, rfl⟩ := rv; simp only [eqD]; exact ⟨SeqAt.RcAt.int_str a tu i tk, SeqAt.RcNeAt.int_str a tu i tk⟩
  | str a =>
    obtain ⟨tu, rfl⟩ := ru
    cases r2 with
    | tup h2 q2 => cases rv; obtain ⟨_, _, t2⟩ := ok.tup h2; simp only [eqD]; exact ⟨SeqAt.RcAt.str_tuple a tu t2 hu0, SeqAt.RcNeAt.str_tuple a tu t2 hu0⟩
    | lst h2 mm2 q2 => cases rv; obtain ⟨_, _, t2⟩ := ok.lst h2; simp only [eqD]; exact ⟨SeqAt.RcAt.str_list a tu t2 hu0, SeqAt.RcNeAt.str_list a tu t2 hu0⟩
    | dK _ _ _ => simp [noDct] at ne
    | dT _ _ _ => simp [noDct] at ne
    | set _ _ _ _ => simp [noDct] at ne
    | scr _ => simp [noDct] at ne
    | non => cases rv; simp only [eqD]; exact ⟨SeqAt.RcAt.str_none a tu, SeqAt.RcNeAt.str_none a tu⟩
    | bl b => cases rv; simp only [eqD]; exact ⟨SeqAt.RcAt.str_bool a tu b, SeqAt.RcNeAt.str_bool a tu b⟩
    | int i => obtain ⟨tk, rfl⟩ := rv; simp only [eqD]; exact ⟨SeqAt.RcAt.str_int a tu i tk, SeqAt.RcNeAt.str_int a tu i tk⟩
    | str i => obtain ⟨tk, rfl⟩ := rv; simp only [eqD]; exact ⟨SeqAt.RcAt.str_str a tu i tk, SeqAt.RcNeAt.str_str a tu i tk⟩
end

section
variable {K : PySem.W.Frag} {H : Hp} {s : Shared}
open Classical in
/-- by a value, whether the thing that stands there equals d -/
noncomputable def eqOf (K : PySem.W.Frag) (H : Hp) (d : D) (u : Value) : Bool := if h : ∃ e, noDct e = true ∧ ∃ y, RelV y u ∧ Rp K (fun _ => True) H y e then eqD (choose h) d else false
theorem eqOf_of (ok : SeqOk K H s) {A : Addr → Prop} {d e : D} {y : V} {u : Value} (r : RelV y u) (h : Rp K A H y e) (ne : noDct e = true) : eqOf K H d u = eqD e d := by
  have hx : ∃ e, noDct e = true ∧ ∃ y, RelV y u ∧ Rp K (fun _ => True) H y e := ⟨e, ne, y, r, h.wk fun _ _ _ _ => trivial⟩
  unfold eqOf
  rw [dif_pos hx]
  obtain ⟨n', y', r', h'⟩ := Classical.choose_spec hx
  have e1 := RelV.inj r r'
  subst e1
  rw [Rp.inj ok h' h n' ne]
def inD (d : D) (es : List D) : Bool := es.any fun e => eqD e d
theorem any_eqOf (ok : SeqOk K H s) {d : D} : ∀ {A : Addr → Prop} {xs : List V} {es : List D} {us : List Value}, Rps K A H xs es → Vals xs us → noDcts es = true → us.any (eqOf K H d) = inD d es
  | _, _, _, _, .nil, .nil, _ => rfl
  | _, _, _, _, .cons h r, .cons k t, n => by
    simp only [noDcts, Bool.and_eq_true] at n
    unfold inD
    rw [List.any_cons, List.any_cons, eqOf_of ok k h n.1, any_eqOf ok r t n.2]
    rfl
theorem at_eqOf (ok : SeqOk K H s) {A0 : Addr → Prop} {d : D} {x : V} {v : Value} (rx : Rp K A0 H x d) (rv : RelV x v) {n : Nat} {A : Around} (hu : A.units + n < cLine) (nd : noDct d = true) : ∀ {A1 : Addr → Prop} {xs : List V} {es : List D} {us : List Value}, Rps K A1 H xs es → Vals xs us → depDs es ≤ n → noDcts es = true → ∀ u ∈ us, SeqAt.EqAt A s u v (eqOf K H d u)
  | _, _, _, _, .nil, .nil, _, _, u, hm => by cases hm
  | _, _, _, _, .cons h r, .cons k t, hd, ne, u, hm => by
    simp only [depDs] at hd
    simp only [noDcts, Bool.and_eq_true] at ne
    rcases List.mem_cons.mp hm with z | z
    · subst z
      rw [eqOf_of ok k h ne.1]
      exact eqAt_D ok n h rx k rv (Nat.le_trans (Nat.le_max_left _ _) hd) ne.1 nd hu
    · exact at_eqOf ok rx rv hu nd r t (Nat.le_trans (Nat.le_max_right _ _) hd) ne.2 u z
end
section
variable {X : Cx}
def rEqV (K : PySem.W.Frag) (neg : Bool) : R2 := fun x y H Q => ∃ A B d e, Rp K A H x d ∧ Rp K B H y e ∧ depD d ≤ 60 ∧ noDct d = true ∧ noDct e = true ∧ Q (.bl (if neg then !eqD d e else eqD d e)) H
theorem op_eqV (hu : X.A.units + 64 < cLine) : OpR X (compareOp .Eq) (rEqV X.K false) := by
  intro pins s σ H x y v u Q I rx ry h
  obtain ⟨A, B, d, e, r1, r2, hd, nd, ne, q⟩ := h
  exact (rcAt_D (Inv.seqOk I) 60 r1 r2 rx ry hd nd ne (by omega)).1 X.prog X.w X.xe _ ⟨.bl (eqD d e), H, I, rfl, q⟩
theorem op_neV (hu : X.A.units + 64 < cLine) : OpR X (compareOp .NotEq) (rEqV X.K true) := by
  intro pins s σ H x y v u Q I rx ry h
  obtain ⟨A, B, d, e, r1, r2, hd, nd, ne, q⟩ := h
  exact (rcAt_D (Inv.seqOk I) 60 r1 r2 rx ry hd nd ne (by omega)).2 X.prog X.w X.xe _ ⟨.bl (!eqD d e), H, I, rfl, q⟩
def rInV (K : PySem.W.Frag) (neg : Bool) : R2 := fun x y H Q => ∃ A B d a es, Rp K A H x d ∧ y = .ref a ∧ (Rp K B H (.ref a) (.lst es) ∨ Rp K B H (.ref a) (.tup es)) ∧ depDs es ≤ 60 ∧ noDct d = true ∧ noDcts es = true ∧ Q (.bl (if neg then !inD d es else inD d es)) H
theorem op_inV (hu : X.A.units + 64 < cLine) : OpR X (compareOp .In) (rInV X.K false) := by
  intro pins s σ H x y v u Q I rx ry h
  obtain ⟨A, B, d, a, es, rd, rfl, ra, hd, nd, ne, q⟩ := h
  cases ry
  have ok := Inv.seqOk I
  have hu1 : X.A.in1.units + 60 < cLine := by show X.A.units + 1 + 60 < cLine; omega
  rcases ra with ra | ra
  · cases ra with
    | lst ha _ r =>
      obtain ⟨its, rv, tl⟩ := ok.lst ha
      refine SeqAt.in_listAt (eqOf X.K H d) tl (fun w hw => at_eqOf ok rd rx hu1 nd r rv hd ne w (by simpa using hw)) ⟨.bl _, H, I, rfl, ?_⟩
      rw [show its.toArray.any (eqOf X.K H d) = its.any (eqOf X.K H d) by simp, any_eqOf ok r rv ne]
      exact q
  · cases ra with
    | tup ha r =>
      obtain ⟨its, rv, tl⟩ := ok.tup ha
      refine SeqAt.in_tupleAt (eqOf X.K H d) tl (fun w hw => at_eqOf ok rd rx hu1 nd r rv hd ne w (by simpa using hw)) ⟨.bl _, H, I, rfl, ?_⟩
      rw [show its.toArray.any (eqOf X.K H d) = its.any (eqOf X.K H d) by simp, any_eqOf ok r rv ne]
      exact q
theorem op_notInV (hu : X.A.units + 64 < cLine) : OpR X (compareOp .NotIn) (rInV X.K true) := by
  intro pins s σ H x y v u Q I rx ry h
  obtain ⟨A, B, d, a, es, rd, rfl, ra, hd, nd, ne, q⟩ := h
  cases ry
  have ok := Inv.seqOk I
  have hu1 : X.A.in1.units + 60 < cLine := by show X.A.units + 1 + 60 < cLine; omega
  rcases ra with ra | ra
  · cases ra with
    | lst ha _ r =>
      obtain ⟨its, rv, tl⟩ := ok.lst ha
      refine SeqAt.notIn_listAt (eqOf X.K H d) tl (fun w hw => at_eqOf ok rd rx hu1 nd r rv hd ne w (by simpa using hw)) ⟨.bl _, H, I, rfl, ?_⟩
      rw [show its.toArray.any (eqOf X.K H d) = its.any (eqOf X.K H d) by simp, any_eqOf ok r rv ne]
      exact q
  · cases ra with
    | tup ha r =>
      obtain ⟨its, rv, tl⟩ := ok.tup ha
      refine SeqAt.notIn_tupleAt (eqOf X.K H d) tl (fun w hw => at_eqOf ok rd rx hu1 nd r rv hd ne w (by simpa using hw)) ⟨.bl _, H, I, rfl, ?_⟩
      rw [show its.toArray.any (eqOf X.K H d) = its.any (eqOf X.K H d) by simp, any_eqOf ok r rv ne]
      exact q
end
section
variable {K : PySem.W.Frag}
def eqR (neg : Bool) : D → D → Rs D := fun d e => if decide (depD d ≤ 60) && noDct d && noDct e then .ok (.bl (if neg then !eqD d e else eqD d e)) else .st
def inR (neg : Bool) : D → D → Rs D := fun d e => match e with
  | .lst es => if decide (depDs es ≤ 60) && noDct d && noDcts es then .ok (.bl (if neg then !inD d es else inD d es)) else .st
  | .tup es => if decide (depDs es ≤ 60) && noDct d && noDcts es then .ok (.bl (if neg then !inD d es else inD d es)) else .st
  | _ => .st
theorem os_eq {n : Bool} : OpS K (rEqV K n) (eqR n) := by
  intro A x y d e H Q z rx ry ez q
  unfold eqR at ez
  split at ez
  · rename_i h
    simp only [Bool.and_eq_true, decide_eq_true_eq] at h
    cases ez
    exact ⟨A, A, d, e, rx, ry, h.1.1, h.1.2, h.2, q _ H (Same.refl H) (.bl _)⟩
  · cases ez
theorem os_in {n : Bool} : OpS K (rInV K n) (inR n) := by
  intro A x y d e H Q z rx ry ez q
  unfold inR at ez
  split at ez
  · split at ez
    · rename_i h
      simp only [Bool.and_eq_true, decide_eq_true_eq] at h
      cases ez
      cases ry with
      | lst ha mm r => exact ⟨A, A, d, _, _, rx, rfl, .inl (.lst ha mm r), h.1.1, h.1.2, h.2, q _ H (Same.refl H) (.bl _)⟩
    · cases ez
  · split at ez
    · rename_i h
      simp only [Bool.and_eq_true, decide_eq_true_eq] at h
      cases ez
      cases ry with
      | tup ha r => exact ⟨A, A, d, _, _, rx, rfl, .inr (.tup ha r), h.1.1, h.1.2, h.2, q _ H (Same.refl H) (.bl _)⟩
    · cases ez
  · cases ez
theorem imm_eq {n : Bool} : ∀ x y z, eqR n x y = .ok z → imm z = true := by
  intro x y z e
  unfold eqR at e
  split at e
  · cases e; rfl
  · cases e
theorem imm_in {n : Bool} : ∀ x y z, inR n x y = .ok z → imm z = true := by
  intro x y z e
  unfold inR at e
  split at e
  · split at e
    · cases e; rfl
    · cases e
  · split at e
    · cases e; rfl
    · cases e
  · cases e
end
end VL

set_option Elab.async false
set_option linter.all false
set_option maxRecDepth 100000
set_option maxHeartbeats 4000000
namespace VL
open PySem PySem.Spec PyProof.Rows L2
/-! ### further builtins -/
section
variable {K : PySem.W.Frag}
def boolsOf : List D → Option (List Bool)
  | [] => some []
  | .bl i :: r => (boolsOf r).map (i :: ·)
  | _ => none
theorem boolsOf_some : ∀ {l : List D} {ns : List Bool}, boolsOf l = some ns → l = ns.map .bl
  | [], ns, h => by cases h; rfl
  | .bl i :: r, ns, h => by
    simp only [boolsOf, Option.map_eq_some_iff] at h
    obtain ⟨ms, h1, rfl⟩ := h
    rw [boolsOf_some h1]; rfl
  | .non :: _, _, h => by cases h
  | .int _ :: _, _, h => by cases h
  | .str _ :: _, _, h => by cases h
  | .tup _ :: _, _, h => by cases h
  | .lst _ :: _, _, h => by cases h
  | .dct _ _ :: _, _, h => by cases h
  | .set _ :: _, _, h => by cases h
  | .scr _ :: _, _, h => by cases h
theorem boolsOf_map : ∀ ns : List Bool, boolsOf (ns.map .bl) = some ns
  | [] => rfl
  | n :: ns => by simp only [List.map_cons, boolsOf, boolsOf_map ns, Option.map_some]
theorem bools_are {X : Cx} : ∀ {bs : List Bool} {us : List Value}, Vals (bs.map V.bl) us → LSm.BoolsAre us bs
  | [], _, .nil => .nil
  | b :: bs, _, .cons r t => by
    have e : _ = Value.bool b := r
    subst e
    exact .cons b (bools_are (X := X) t)
theorem Rps.bools_of {A : Addr → Prop} {H : Hp} : ∀ {xs : List V} {bs : List Bool}, Rps K A H xs (bs.map D.bl) → xs = bs.map V.bl
  | _, [], .nil => rfl
  | _, n :: ns, .cons h r => by
    cases h
    rw [List.map_cons, Rps.bools_of r]
def allD (f : List Bool → Bool) : List D → Rs D
  | [.lst l] => match boolsOf l with
    | some bs => .ok (.bl (f bs))
    | none => .st
  | _ => .st
theorem call_all {X : Cx} (hc : X.calm = true) : CallR X (.builtin "all") (fun xs H Q => ∃ (p : Addr) (bs : List Bool), xs = [.ref p] ∧ H p = some (.lst (bs.map V.bl)) ∧ Q (.bl (bs.all id)) H) := by
  intro pins s σ H xs us Q I r h
  obtain ⟨p, bs, rfl, hp, q⟩ := h
  obtain ⟨u, rfl, ru⟩ := vals1 r
  cases ru
  obtain ⟨its, rv, pl, hz⟩ := I.list (SqL.of hp)
  have hb := bools_are (X := X) rv
  have hl := pl.isList
  have hlt : p < s.heap.objs.size := by obtain ⟨_, e, _⟩ := hl; exact Heap.lt_size e
  refine call_all_walk (wpAny_pyIter_list hl ?_)
  refine ⟨s.heap.objs.size, [s.heap.objs.size, p], [s.heap.objs.size], its.toArray.size, _, _, fun i => (bs[i]?).getD true, rfl, Walks.list (A := X.A.in1) (I.ok.hd hc) _ p (Nat.ne_of_lt hlt) its.toArray,
    ⟨⟨_, Heap.get?_push_size _ rfl, rfl, rfl⟩, hl.push _⟩, fun i v s' Q' E' hP hQ => ?_, fun h' tk hk => ?_⟩
  · obtain ⟨b, e, rfl⟩ := hb.get i v (by simpa using hP)
    simp only [e, Option.getD_some] at hQ
    exact wpAny_truthy_bool hQ
  · have e : ((List.range its.toArray.size).all fun i => (bs[i]?).getD true) = bs.all id := by
      rw [List.size_toArray, hb.length]; exact LSm.range_all bs
    rw [e]
    exact ⟨.bl _, H, I.kept (LSm.kept_iter hk), rfl, q⟩
theorem call_any {X : Cx} (hc : X.calm = true) : CallR X (.builtin "any") (fun xs H Q => ∃ (p : Addr) (bs : List Bool), xs = [.ref p] ∧ H p = some (.lst (bs.map V.bl)) ∧ Q (.bl (bs.any id)) H) := by
  intro pins s σ H xs us Q I r h
  obtain ⟨p, bs, rfl, hp, q⟩ := h
  obtain ⟨u, rfl, ru⟩ := vals1 r
  cases ru
  obtain ⟨its, rv, pl, hz⟩ := I.list (SqL.of hp)
  have hb := bools_are (X := X) rv
  have hl := pl.isList
  have hlt : p < s.heap.objs.size := by obtain ⟨_, e, _⟩ := hl; exact Heap.lt_size e
  refine call_any_walk (wpAny_pyIter_list hl ?_)
  refine ⟨s.heap.objs.size, [s.heap.objs.size, p], [s.heap.objs.size], its.toArray.size, _, _, fun i => (bs[i]?).getD false, rfl, Walks.list (A := X.A.in1) (I.ok.hd hc) _ p (Nat.ne_of_lt hlt) its.toArray,
    ⟨⟨_, Heap.get?_push_size _ rfl, rfl, rfl⟩, hl.push _⟩, fun i v s' Q' E' hP hQ => ?_, fun h' tk hk => ?_⟩
  · obtain ⟨b, e, rfl⟩ := hb.get i v (by simpa using hP)
    simp only [e, Option.getD_some] at hQ
    exact wpAny_truthy_bool hQ
  · have e : ((List.range its.toArray.size).any fun i => (bs[i]?).getD false) = bs.any id := by
      rw [List.size_toArray, hb.length]; exact LSm.range_any bs
    rw [e]
    exact ⟨.bl _, H, I.kept (LSm.kept_iter hk), rfl, q⟩
theorem cs_all {f : List Bool → Bool} : CallS K (fun xs H Q => ∃ (p : Addr) (bs : List Bool), xs = [.ref p] ∧ H p = some (.lst (bs.map V.bl)) ∧ Q (.bl (f bs)) H) (allD f) := by
  intro A xs ds H Q z r ez q
  unfold allD at ez
  split at ez
  · split at ez
    · rename_i l bs e
      cases ez
      have := boolsOf_some e
      subst this
      cases r with
      | cons h r =>
        cases r
        cases h with
        | lst h m r =>
          have := r.bools_of
          subst this
          exact ⟨_, bs, rfl, h, q _ H (Same.refl H) (.bl _)⟩
    · cases ez
  · cases ez
theorem imm_all {f : List Bool → Bool} : ∀ x z, allD f x = .ok z → imm z = true := by
  intro x z e
  unfold allD at e
  split at e
  · split at e
    · cases e; rfl
    · cases e
  · cases e
/-- min, max of two ints -/
def mmD (f : Int → Int → Int) : List D → Rs D
  | [.int i, .int j] => .ok (.int (f i j))
  | _ => .st
theorem cs_mm {f : Int → Int → Int} : CallS K (fun xs H Q => ∃ i j, xs = [.int i, .int j] ∧ Q (.int (f i j)) H) (mmD f) := by
  intro A xs ds H Q z r ez q
  unfold mmD at ez
  split at ez
  · cases ez
    cases r with
    | cons h r =>
      cases h
      cases r with
      | cons h r =>
        cases h
        cases r
        exact ⟨_, _, rfl, q _ H (Same.refl H) (.int _)⟩
  · cases ez
theorem imm_mm {f : Int → Int → Int} : ∀ x z, mmD f x = .ok z → imm z = true := by
  intro x z e
  unfold mmD at e
  split at e
  · cases e; rfl
  · cases e
/-- tuple(x), list(x) -/
def tupleD : List D → Rs D
  | [.lst l] => .ok (.tup l)
  | [.tup l] => .ok (.tup l)
  | _ => .st
def listD : List D → Rs D
  | [.lst l] => .ok (.lst l)
  | [.tup l] => .ok (.lst l)
  | _ => .st
theorem cs_tuple : CallS K (fun xs H Q => ∃ p ys, xs = [.ref p] ∧ ((SqL K H p ys ∧ ∀ l, H l = none → Q (.ref l) (upd H l (.tup ys))) ∨ (SqT K H p ys ∧ Q (.ref p) H))) tupleD := by
  intro A xs ds H Q z r ez q
  unfold tupleD at ez
  split at ez
  · cases ez
    cases r with
    | cons h r =>
      cases r
      cases h with
      | lst h m r => exact ⟨_, _, rfl, .inl ⟨SqL.of h, fun l hl => q _ _ (same_new hl _) (.tup (SqT.of upd_same) ((r.wk fun _ _ _ z => .inr z.1).up (same_new hl _)))⟩⟩
  · cases ez
    cases r with
    | cons h r =>
      cases r
      cases h with
      | tup h r => exact ⟨_, _, rfl, .inr ⟨h, q _ H (Same.refl H) (.tup h (r.wk fun _ _ _ z => .inr z))⟩⟩
  · cases ez
theorem cs_list : CallS K (fun xs H Q => ∃ p ys, xs = [.ref p] ∧ (SqL K H p ys ∨ SqT K H p ys) ∧ ∀ l, H l = none → Q (.ref l) (upd H l (.lst ys))) listD := by
  intro A xs ds H Q z r ez q
  unfold listD at ez
  split at ez
  · cases ez
    cases r with
    | cons h r =>
      cases r
      cases h with
      | lst h m r => exact ⟨_, _, rfl, .inl (SqL.of h), fun l hl => q _ _ (same_new hl _) (.lst upd_same (.inl hl) ((r.wk fun p o e z => ⟨.inr z.1, fun e' => by subst e'; rw [hl] at e; cases e⟩).up (same_new hl _)))⟩
  · cases ez
    cases r with
    | cons h r =>
      cases r
      cases h with
      | tup h r => exact ⟨_, _, rfl, .inr h, fun l hl => q _ _ (same_new hl _) (.lst upd_same (.inl hl) ((r.wk fun p o e z => ⟨.inr z, fun e' => by subst e'; rw [hl] at e; cases e⟩).up (same_new hl _)))⟩
  · cases ez
/-- str(n) -/
def strD : List D → Rs D
  | [.int i] => if i.natAbs.log2 < 1920 then .ok (.str (toString i)) else .st
  | _ => .st
theorem cs_str : CallS K (fun xs H Q => ∃ i, xs = [.int i] ∧ i.natAbs.log2 < 1920 ∧ Q (.str (toString i)) H) strD := by
  intro A xs ds H Q z r ez q
  unfold strD at ez
  split at ez
  · split at ez
    · rename_i h
      cases ez
      cases r with
      | cons h' r => cases h'; cases r; exact ⟨_, rfl, h, q _ H (Same.refl H) (.str _)⟩
    · cases ez
  · cases ez
end
/-! ### slices -/
def cutD (l : List D) (lo hi : Option Int) : List D := (l.drop (HT.sIx l.length 0 lo)).take (HT.sIx l.length l.length hi - HT.sIx l.length 0 lo)
theorem Rps.cut {K : PySem.W.Frag} {A : Addr → Prop} {H : Hp} {xs : List V} {ds : List D} (r : Rps K A H xs ds) (lo hi : Option Int) : Rps K A H (cutV xs lo hi) (cutD ds lo hi) := by
  unfold cutV cutD
  rw [r.length]
  exact (r.drop _).take _
def slD (d : D) (lo hi : Option Int) : Rs D := match d with
  | .tup l => .ok (.tup (cutD l lo hi))
  | .lst l => .ok (.lst (cutD l lo hi))
  | _ => .st
def rSlV (K : PySem.W.Frag) : V → Option Int → Option Int → Hp → VK → Prop := fun x lo hi H Q => (∃ a xs, x = .ref a ∧ SqT K H a xs ∧ ∀ c H', Same H H' → SqT K H' c (cutV xs lo hi) → Q (.ref c) H') ∨ rSlL K x lo hi H Q
theorem sl_tupV {X : Cx} : SlR X (fun x lo hi H Q => ∃ a xs, x = .ref a ∧ SqT X.K H a xs ∧ ∀ c H', Same H H' → SqT X.K H' c (cutV xs lo hi) → Q (.ref c) H') := by
  intro pins s σ H x v vl vu lo hi sl Q I rx hs pl pu h
  obtain ⟨a, xs, rfl, hx, q⟩ := h
  cases rx
  obtain ⟨its, r, ht, hz⟩ := I.tuple hx
  have hlen : its.toArray.size = xs.length := by rw [List.size_toArray]; exact r.length.symm
  refine ⟨"tuple", _, PyProof.Rows.slot_tuple_getitem.lookup, ht.typeIs, ?_⟩
  by_cases hw : HT.sIx xs.length 0 lo = 0 ∧ HT.sIx xs.length xs.length hi = xs.length
  · refine HT.getItem_tuple_all ht hs pl pu (by rw [hlen]; exact hw.1) (by rw [hlen]; exact hw.2) ⟨.ref a, H, I, rfl, q a H (Same.refl H) ?_⟩
    have : cutV xs lo hi = xs := by
      unfold cutV
      rw [hw.1, hw.2, List.drop_zero, Nat.sub_zero, List.take_length]
    rw [this]
    exact hx
  · refine HT.getItem_tuple_cut ht hs pl pu (by rw [hlen]; exact hw) ?_ (by rw [hlen]; exact hz)
    rw [hlen]
    refine ⟨.ref s.heap.objs.size, _, I.laid (t' := s.toks) (o := .tup (cutV xs lo hi)) (fun b ob q => Heap.get?_push_of_some _ q) (Nat.le_refl _) ?_, rfl, q _ _ (same_new (I.hok.fresh (Nat.le_refl _)) _) (SqT.of upd_same)⟩
    exact ⟨Nat.le_trans (cutV_length xs lo hi) hz, _, (r.drop (HT.sIx xs.length 0 lo)).take (HT.sIx xs.length xs.length hi - HT.sIx xs.length 0 lo), IsTup.new _ _⟩
theorem sl_V {X : Cx} : SlR X (rSlV X.K) := sl_tupV.or sl_list
section
variable {C : Ct} {pos p2 : Pos} {m m1 m2 : Mode} {a e : Expr} {fa fe : En → Rs D} {lo hi : Option Expr}
def SimO (K : PySem.W.Frag) (G : Gx) (t : TO) (f : En → Rs (Option Int)) : Prop := ∀ τ σ H ρ lab (Q : Option Int → Hp → Prop), RR K G τ ρ σ H lab → WR G (f ρ) (fun o => ∀ H', Same H H' → Q o H') → t σ H Q
def SO (C : Ct) (e : Option Expr) (f : En → Rs (Option Int)) : Prop := ∃ t, (∀ i, PO (C.X i) e t) ∧ SimO C.K C.G t f
def oNone : En → Rs (Option Int) := fun _ => .ok none
def oSome (fe : En → Rs D) : En → Rs (Option Int) := fun ρ => (fe ρ).bd fun d => match d with
  | .int i => .ok (some i)
  | _ => .st
theorem so_none : SO C none oNone := ⟨_, fun _ => po_none, fun τ σ H ρ lab Q R W => W H (Same.refl H)⟩
theorem so_some (h : SE C m e fe) : SO C (some e) (oSome fe) := by
  obtain ⟨t, h1, h2⟩ := h
  refine ⟨_, fun i => po_some (h1 i), fun τ σ H ρ lab Q R W => h2 τ σ H ρ lab _ R (W.bd.imp fun d _ w x H1 s r => ?_)⟩
  cases r with
  | int i => exact ⟨i, rfl, w H1 s⟩
  | _ => exact False.elim w
def sliceD (fa : En → Rs D) (fl fh : En → Rs (Option Int)) : En → Rs D := fun ρ => (fa ρ).bd fun d => (fl ρ).bd fun l => (fh ρ).bd fun h => okD (slD d l h)
theorem se_slice {fl fh : En → Rs (Option Int)} (ha : SE C m a fa) (hl : SO C lo fl) (hh : SO C hi fh) : SE C m (.Subscript a (.Slice lo hi none p2) pos) (sliceD fa fl fh) := by
  obtain ⟨t, h1, h2⟩ := ha
  obtain ⟨tl, l1, l2⟩ := hl
  obtain ⟨th, k1, k2⟩ := hh
  refine ⟨tSl (rSlV C.K) t tl th, fun i => by rw [← C.hK i]; exact pe_slice sl_V (h1 i) (l1 i) (k1 i), fun τ σ H ρ lab Q R W => h2 τ σ H ρ lab _ R (W.bd.imp fun d _ w x H1 s1 r1 => ?_)⟩
  refine l2 τ σ H1 ρ lab _ (R.up s1) (w.bd.imp fun ol _ w H2 s2 => ?_)
  refine k2 τ σ H2 ρ lab _ ((R.up s1).up s2) (w.bd.imp fun oh _ w H3 s3 => ?_)
  obtain ⟨z, ez, w⟩ := w.okD
  have s := s1.trans (s2.trans s3)
  have r3 := r1.up (s2.trans s3)
  cases d with
  | tup l =>
    cases ez
    cases r3 with
    | tup h r => exact .inl ⟨_, _, rfl, h, fun c H' s' hc => w _ H' (s.trans s') (.tup hc ((r.cut ol oh).up s'))⟩
  | lst l =>
    cases ez
    cases r3 with
    | lst h mm r =>
      exact .inr ⟨_, _, rfl, SqL.of h, fun p hp => w _ _ (s.trans (same_new hp _)) (.lst upd_same (.inl (s.free hp)) (((r.cut ol oh).wk fun q o e z => ⟨z.1, fun e' => by subst e'; rw [hp] at e; cases e⟩).up (same_new hp _)))⟩
  | _ => cases ez
/-- t[::-1] of a tuple -/
def revD : D → Rs D
  | .tup l => .ok (.tup l.reverse)
  | _ => .st
def tRevV (K : PySem.W.Frag) (te : TE) : TE := fun σ H Q => te σ H fun x H1 => ∃ a xs, x = .ref a ∧ SqT K H1 a xs ∧ ∀ c H', Same H1 H' → H' c = some (.tup xs.reverse) → Q (.ref c) H'
theorem pe_revV {X : Cx} {e : Expr} {te : TE} {pos p2 p3 p4 : Pos} {j : Nat} (he : PE X e te) : PE X (.Subscript e (.Slice none none (some (.UnaryOp .USub (.Constant (.int 1) j p3) p4)) p2) pos) (tRevV X.K te) := by
  intro pins s σ H Q I h
  refine Subscript_ (thn (he pins s σ H _ I h) fun v s1 ⟨x, H1, I1, r1, q1⟩ => ?_)
  obtain ⟨a, xs, rfl, hx, q⟩ := q1
  cases r1
  have hm : PE X (.UnaryOp .USub (.Constant (.int 1) j p3) p4) (tUn (rU fun i => .int (-i)) (tC (.int 1))) := pe_un un_neg pe_int
  refine wpAny_Slice ?_
  rw [evalPart_none]
  refine wpAny_pure (wpAny_pure ?_)
  rw [evalPart_some]
  refine thn (hm pins s1 σ H1 (fun z H2 => z = .int (-1) ∧ H2 = H1) I1 ⟨1, rfl, rfl, rfl⟩) fun u s2 ⟨z, H2, I2, r2, ez, eH⟩ => ?_
  subst ez eH
  obtain ⟨tk, rfl⟩ := r2
  have I4 : Inv X pins σ H2 { s2 with heap := s2.heap.push { cls := .type "slice", data := .fields #[.none, .none, .int (-1) tk] } } := I2.kept (t' := s2.toks) fun b ob q => Heap.get?_push_of_some _ q
  obtain ⟨its, r, ht, hz⟩ := I4.tuple hx
  have hlen : its.toArray.size = xs.length := by rw [List.size_toArray]; exact r.length.symm
  show wpAny (model X.prog X.w) X.A (subscriptTail e _ (.ref a) (.ref s2.heap.objs.size)) (EP X pins σ Q) X.xe _
  refine tail_any (ops := [.ref a, .ref s2.heap.objs.size]) ht.typeIs PyProof.Rows.slot_tuple_getitem.lookup ?_ (by with_unfolding_all rfl)
  refine HT.getItem_tuple_rev ht (Heap.IsSliceOf.new ..) ?_ (by rw [hlen]; exact hz)
  refine ⟨.ref _, _, I4.laid (t' := s2.toks) (o := .tup xs.reverse) (fun b ob q => Heap.get?_push_of_some _ q) (Nat.le_refl _) ?_, rfl, q _ _ (same_new (I4.hok.fresh (Nat.le_refl _)) _) upd_same⟩
  exact ⟨by rw [List.length_reverse]; exact hz, _, r.reverse, IsTup.new _ _⟩
theorem se_rev {j : Nat} {p3 p4 : Pos} (h : SE C m e fe) : SE C m (.Subscript e (.Slice none none (some (.UnaryOp .USub (.Constant (.int 1) j p3) p4)) p2) pos) (op1 revD fe) := by
  obtain ⟨t, h1, h2⟩ := h
  refine ⟨tRevV C.K t, fun i => by rw [← C.hK i]; exact pe_revV (h1 i), fun τ σ H ρ lab Q R W => h2 τ σ H ρ lab _ R (W.bd.imp fun d _ w x H1 s1 r1 => ?_)⟩
  obtain ⟨z, ez, w⟩ := w.okD
  cases d with
  | tup l =>
    cases ez
    cases r1 with
    | tup h r => exact ⟨_, _, rfl, h, fun c H' s hc => w _ H' (s1.trans s) (.tup (SqT.of hc) (r.reverse.up s))⟩
  | _ => cases ez
/-! ### x op= e, of ints -/
def augS (fd : D → D → Rs D) (i : Nat) (fe : En → Rs D) : En → Ou := fun ρ => (op2 fd (varD i) fe ρ).bo fun d => .nx (ρ.set i (.sh d))
theorem ss_aug {i : Nat} {x : Str} {op : Operator} {pos' : Pos} {f : Int → Int → Int} (nd : ∀ j, (C.X j).N.Nodup) (he : SE C m e fe) (ho : ∀ j, PIp (C.X j) op (ipI f)) (hN : ∀ j, (C.X j).N[i]? = some x := by intro _; rfl) (hx : ∀ j, Loc (C.X j).env.scope x := by intro _; first | exact Or.inl rfl | exact Or.inr rfl)
    (hf : ∀ j, (C.X j).fn x = true ∨ (C.X j).env.scope.names.lookup x = some .local := by intro _; first | exact .inl rfl | exact .inr rfl) : SS C (.AugAssign (.Name x pos') op e pos) (augS (i2 (fun _ _ => true) fun a b => .int (f a b)) i fe) := by
  obtain ⟨t, h1, h2⟩ := he
  refine ⟨_, fun j => ps_aug (nd j) (hN j) (hx j) (h1 j) (ho j) (hf j), fun τ σ H ρ lab De R W => ?_⟩
  have w0 := (WS.bo W).bd
  refine sim_var C.K C.G i τ σ H ρ lab (fun v H' => t σ H' fun y H1 => ipI f v y H1 fun z H2 => De.nx (σ.set i (some z)) H2) R (w0.imp fun d _ w v H' s r => h2 τ σ H' ρ lab _ (R.up s) (w.bd.imp fun e _ w y H1 s1 r1 => ?_))
  obtain ⟨z, ez, w⟩ := w.okD
  unfold i2 at ez
  split at ez
  · cases ez
    cases r
    cases r1
    exact ⟨_, _, rfl, rfl, w _ _ _ (((R.up s).up s1).put (s := .sh (.int _)) (Rp.int _))⟩
  · cases ez
end
end VL

set_option Elab.async false
set_option linter.all false
set_option maxRecDepth 100000
set_option maxHeartbeats 4000000
namespace VL
open PySem PySem.Spec PyProof.Rows L2
/-! ### the rules by name -/
section
variable {C : Ct} {pos p : Pos} {m m1 m2 m3 : Mode} {a b c e : Expr} {fa fb fc fe : En → Rs D} {ga : En → Rs (List D)} {es : List Expr}
theorem Ct.u0 (C : Ct) (i : C.ι) : (C.X i).A.units < cLine := (C.room i).units0
theorem Ct.u64 (C : Ct) (i : C.ι) : (C.X i).A.units + 64 < cLine := (C.room i).units
theorem Ct.ltR (C : Ct) (i : C.ι) : OpR (C.X i) (compareOp .Lt) (fun x y H Q => rI0 (fun i j => .bl (decide (i < j))) x y H Q ∨ rLtT C.K x y H Q) := by have h := op_ltV (X := C.X i) (C.u0 i); rw [C.hK i] at h; exact h
theorem Ct.leR (C : Ct) (i : C.ι) : OpR (C.X i) (compareOp .LtE) (fun x y H Q => rI0 (fun i j => .bl (decide (i ≤ j))) x y H Q ∨ rLeT C.K x y H Q) := by have h := op_leV (X := C.X i) (C.u0 i); rw [C.hK i] at h; exact h
theorem Ct.eqRl (C : Ct) (i : C.ι) : OpR (C.X i) (compareOp .Eq) (rEqV C.K false) := by have h := op_eqV (X := C.X i) (C.u64 i); rw [C.hK i] at h; exact h
theorem Ct.neRl (C : Ct) (i : C.ι) : OpR (C.X i) (compareOp .NotEq) (rEqV C.K true) := by have h := op_neV (X := C.X i) (C.u64 i); rw [C.hK i] at h; exact h
theorem Ct.inRl (C : Ct) (i : C.ι) : OpR (C.X i) (compareOp .In) (rInV C.K false) := by have h := op_inV (X := C.X i) (C.u64 i); rw [C.hK i] at h; exact h
theorem Ct.ninRl (C : Ct) (i : C.ι) : OpR (C.X i) (compareOp .NotIn) (rInV C.K true) := by have h := op_notInV (X := C.X i) (C.u64 i); rw [C.hK i] at h; exact h
theorem Ct.addR (C : Ct) (i : C.ι) : OpR (C.X i) (binaryOp .Add) (rAddV C.K) := by have h := op_addV (X := C.X i); rw [C.hK i] at h; exact h
def subD : D → D → Rs D := i2 (fun _ _ => true) fun i j => .int (i - j)
def fdivD : D → D → Rs D := i2 (fun _ j => decide (0 < j) && decide (j < 1073741824)) fun i j => .int (i / j)
def modD : D → D → Rs D := i2 (fun _ j => decide (0 < j)) fun i j => .int (i % j)
def powD : D → D → Rs D := i2 (fun i j => decide (0 ≤ j) && decide (j ≤ 1000000) && decide (i.natAbs < 2 ^ 64)) fun i j => .int (i ^ j.toNat)
theorem se_add (ha : SE C m1 a fa) (hb : SE C m2 b fb) : SE C (jn m1 m2) (.BinOp a .Add b pos) (op2 addD fa fb) := se_op C.addR os_add ha hb
theorem se_mul (ha : SE C m1 a fa) (hb : SE C m2 b fb) : SE C (jn m1 m2) (.BinOp a .Mult b pos) (op2 mulD fa fb) := se_op (fun _ => op_mulV) os_mul ha hb
theorem se_sub (ha : SE C m1 a fa) (hb : SE C m2 b fb) : SE C (some []) (.BinOp a .Sub b pos) (op2 subD fa fb) := se_cut (se_op (fun _ => op_sub) os_int0 ha hb) fun _ _ h => imm_op2 imm_i2 h
theorem se_fdiv (ha : SE C m1 a fa) (hb : SE C m2 b fb) : SE C (some []) (.BinOp a .FloorDiv b pos) (op2 fdivD fa fb) := se_cut (se_op (fun _ => op_fdiv) (os_int fun i j h => by simpa [CDiv] using h) ha hb) fun _ _ h => imm_op2 imm_i2 h
theorem se_mod (ha : SE C m1 a fa) (hb : SE C m2 b fb) : SE C (some []) (.BinOp a .Mod b pos) (op2 modD fa fb) := se_cut (se_op (fun _ => op_mod) (os_int fun i j h => by simpa using h) ha hb) fun _ _ h => imm_op2 imm_i2 h
theorem se_pow (ha : SE C m1 a fa) (hb : SE C m2 b fb) : SE C (some []) (.BinOp a .Pow b pos) (op2 powD fa fb) := se_cut (se_op (fun _ => op_pow) (os_int fun i j h => by simp only [Bool.and_eq_true, decide_eq_true_eq] at h; exact ⟨h.1.1, h.1.2, h.2⟩) ha hb) fun _ _ h => imm_op2 imm_i2 h
theorem se_neg (ha : SE C m a fa) : SE C (some []) (.UnaryOp .USub a pos) (op1 negD fa) := se_cut (se_un (fun _ => un_neg) us_neg ha) fun _ _ h => imm_op1 imm_neg h
theorem se_lt (ha : SE C m1 a fa) (hb : SE C m2 b fb) : SE C (some []) (.Compare a [.Lt] [b] pos) (op2 ltD fa fb) := se_cut (se_cmp C.ltR os_lt ha hb) fun _ _ h => imm_op2 imm_lt h
theorem se_le (ha : SE C m1 a fa) (hb : SE C m2 b fb) : SE C (some []) (.Compare a [.LtE] [b] pos) (op2 leD fa fb) := se_cut (se_cmp C.leR os_le ha hb) fun _ _ h => imm_op2 imm_le h
theorem se_gt (ha : SE C m1 a fa) (hb : SE C m2 b fb) : SE C (some []) (.Compare a [.Gt] [b] pos) (op2 gtD fa fb) := se_cut (se_cmp (fun _ => op_gt) os_bl0 ha hb) fun _ _ h => imm_op2 imm_b2 h
theorem se_ge (ha : SE C m1 a fa) (hb : SE C m2 b fb) : SE C (some []) (.Compare a [.GtE] [b] pos) (op2 geD fa fb) := se_cut (se_cmp (fun _ => op_ge) os_bl0 ha hb) fun _ _ h => imm_op2 imm_b2 h
theorem se_eq (ha : SE C m1 a fa) (hb : SE C m2 b fb) : SE C (some []) (.Compare a [.Eq] [b] pos) (op2 (eqR false) fa fb) := se_cut (se_cmp C.eqRl os_eq ha hb) fun _ _ h => imm_op2 imm_eq h
theorem se_ne (ha : SE C m1 a fa) (hb : SE C m2 b fb) : SE C (some []) (.Compare a [.NotEq] [b] pos) (op2 (eqR true) fa fb) := se_cut (se_cmp C.neRl os_eq ha hb) fun _ _ h => imm_op2 imm_eq h
theorem se_in (ha : SE C m1 a fa) (hb : SE C m2 b fb) (hm : behindInMarks .In b = false := by with_unfolding_all rfl) : SE C (some []) (.Compare a [.In] [b] pos) (op2 (inR false) fa fb) := se_cut (se_cmp C.inRl os_in ha hb hm) fun _ _ h => imm_op2 imm_in h
theorem se_nin (ha : SE C m1 a fa) (hb : SE C m2 b fb) (hm : behindInMarks .NotIn b = false := by with_unfolding_all rfl) : SE C (some []) (.Compare a [.NotIn] [b] pos) (op2 (inR true) fa fb) := se_cut (se_cmp C.ninRl os_in ha hb hm) fun _ _ h => imm_op2 imm_in h
theorem se_is (ha : SE C m1 a fa) (hb : SE C m2 b fb) : SE C (some []) (.Compare a [.Is] [b] pos) (op2 (isD false) fa fb) := se_cut (se_cmp (fun _ => op_isV) os_is ha hb) fun _ _ h => imm_op2 imm_is h
theorem se_isnot (ha : SE C m1 a fa) (hb : SE C m2 b fb) : SE C (some []) (.Compare a [.IsNot] [b] pos) (op2 (isD true) fa fb) := se_cut (se_cmp (fun _ => op_notN) os_isnot ha hb) fun _ _ h => imm_op2 imm_is h
theorem st_lt (ha : SE C m1 a fa) (hb : SE C m2 b fb) : ST C (.Compare a [.Lt] [b] pos) (tsb (op2 ltD fa fb)) := st_cmp C.ltR os_lt ha hb
theorem st_le (ha : SE C m1 a fa) (hb : SE C m2 b fb) : ST C (.Compare a [.LtE] [b] pos) (tsb (op2 leD fa fb)) := st_cmp C.leR os_le ha hb
theorem st_gt (ha : SE C m1 a fa) (hb : SE C m2 b fb) : ST C (.Compare a [.Gt] [b] pos) (tsb (op2 gtD fa fb)) := st_cmp (fun _ => op_gt) os_bl0 ha hb
theorem st_ge (ha : SE C m1 a fa) (hb : SE C m2 b fb) : ST C (.Compare a [.GtE] [b] pos) (tsb (op2 geD fa fb)) := st_cmp (fun _ => op_ge) os_bl0 ha hb
theorem st_eq (ha : SE C m1 a fa) (hb : SE C m2 b fb) : ST C (.Compare a [.Eq] [b] pos) (tsb (op2 (eqR false) fa fb)) := st_cmp C.eqRl os_eq ha hb
theorem st_ne (ha : SE C m1 a fa) (hb : SE C m2 b fb) : ST C (.Compare a [.NotEq] [b] pos) (tsb (op2 (eqR true) fa fb)) := st_cmp C.neRl os_eq ha hb
theorem st_in (ha : SE C m1 a fa) (hb : SE C m2 b fb) (hm : behindInMarks .In b = false := by with_unfolding_all rfl) : ST C (.Compare a [.In] [b] pos) (tsb (op2 (inR false) fa fb)) := st_cmp C.inRl os_in ha hb hm
theorem st_nin (ha : SE C m1 a fa) (hb : SE C m2 b fb) (hm : behindInMarks .NotIn b = false := by with_unfolding_all rfl) : ST C (.Compare a [.NotIn] [b] pos) (tsb (op2 (inR true) fa fb)) := st_cmp C.ninRl os_in ha hb hm
theorem st_is (ha : SE C m1 a fa) (hb : SE C m2 b fb) : ST C (.Compare a [.Is] [b] pos) (tsb (op2 (isD false) fa fb)) := st_cmp (fun _ => op_isV) os_is ha hb
theorem st_isnot (ha : SE C m1 a fa) (hb : SE C m2 b fb) : ST C (.Compare a [.IsNot] [b] pos) (tsb (op2 (isD true) fa fb)) := st_cmp (fun _ => op_notN) os_isnot ha hb
theorem se_lele (ha : SE C m1 a fa) (hb : SE C m2 b fb) (hc : SE C m3 c fc) (hm : lastMarks [.LtE, .LtE] [b, c] = false := by with_unfolding_all rfl) : SE C (some []) (.Compare a [.LtE, .LtE] [b, c] pos) (chD leD leD fa fb fc) := se_chain C.leR os_le C.leR os_le imm_le ha hb hc hm
theorem se_lelt (ha : SE C m1 a fa) (hb : SE C m2 b fb) (hc : SE C m3 c fc) (hm : lastMarks [.LtE, .Lt] [b, c] = false := by with_unfolding_all rfl) : SE C (some []) (.Compare a [.LtE, .Lt] [b, c] pos) (chD leD ltD fa fb fc) := se_chain C.leR os_le C.ltR os_lt imm_lt ha hb hc hm
theorem st_lele (ha : SE C m1 a fa) (hb : SE C m2 b fb) (hc : SE C m3 c fc) (hm : lastMarks [.LtE, .LtE] [b, c] = false := by with_unfolding_all rfl) : ST C (.Compare a [.LtE, .LtE] [b, c] pos) (tsb (chD leD leD fa fb fc)) := st_chain C.leR os_le C.leR os_le imm_le ha hb hc hm
theorem st_lelt (ha : SE C m1 a fa) (hb : SE C m2 b fb) (hc : SE C m3 c fc) (hm : lastMarks [.LtE, .Lt] [b, c] = false := by with_unfolding_all rfl) : ST C (.Compare a [.LtE, .Lt] [b, c] pos) (tsb (chD leD ltD fa fb fc)) := st_chain C.leR os_le C.ltR os_lt imm_lt ha hb hc hm
/-- the index is an int: the answer's parts are the left one's -/
theorem se_sub_ix (ha : SE C m1 a fa) (hb : SE C m2 b fb) (hp : PlainIx b := by exact fun _ _ => rfl) : SE C m1 (.Subscript a b pos) (op2 ixD fa fb) := by
  obtain ⟨t, h1, h2⟩ := ha
  obtain ⟨u, k1, k2⟩ := hb
  refine ⟨tOp (rIx C.K) t u, fun i => by rw [← C.hK i]; exact pe_ix ix_seq (h1 i) (k1 i) hp, fun τ σ H ρ lab Q R W => ?_⟩
  refine h2 τ σ H ρ lab _ R (W.bd.imp fun d _ w x H1 s1 r1 => ?_)
  refine k2 τ σ H1 ρ lab _ (R.up s1) (w.bd.imp fun e _ w y H2 s2 r2 => ?_)
  obtain ⟨z, ez, w⟩ := w.okD
  have hi : imm e = true := by
    unfold ixD at ez
    split at ez <;> first | rfl | cases ez
  refine os_ix (fpM m1 lab H) x y d e H2 Q z (r1.up s2) (r2.imm hi) ez fun v H' s r => w v H' ((s1.trans s2).trans s) (r.wk fun p o _ q => ?_)
  rcases q with q | q
  · exact .inl ((s1.trans s2).free q)
  · exact q
theorem se_len (hg : ∀ i, Gl (C.X i) "len") (hm : C.mg "len" = none) (ha : SA C m [a] ga) (he : ∀ i, starEach [a] (C.X i).env = [(false, eval a (C.X i).env)] := by intro _; rfl) : SE C (some []) (.Call (.Name "len" p) [a] [] pos) (opA lenD ga) :=
  se_cut (se_callB (fun i => by have h := call_len_seq (X := C.X i); rw [C.hK i] at h; exact h) cs_len hg hm PySem.boot_len ha (by decide) (by decide) he) fun _ _ h => imm_opA imm_len h
theorem se_all (hg : ∀ i, Gl (C.X i) "all") (hm : C.mg "all" = none) (hv : bootBuiltins "all" = some (.builtin "all")) (ha : SA C m [a] ga) (he : ∀ i, starEach [a] (C.X i).env = [(false, eval a (C.X i).env)] := by intro _; rfl) : SE C (some []) (.Call (.Name "all" p) [a] [] pos) (opA (allD fun bs => bs.all id) ga) :=
  se_cut (se_callB (fun i => call_all (C.calm i)) cs_all hg hm hv ha (by decide) (by decide) he) fun _ _ h => imm_opA imm_all h
theorem se_anyB (hg : ∀ i, Gl (C.X i) "any") (hm : C.mg "any" = none) (hv : bootBuiltins "any" = some (.builtin "any")) (ha : SA C m [a] ga) (he : ∀ i, starEach [a] (C.X i).env = [(false, eval a (C.X i).env)] := by intro _; rfl) : SE C (some []) (.Call (.Name "any" p) [a] [] pos) (opA (allD fun bs => bs.any id) ga) :=
  se_cut (se_callB (fun i => call_any (C.calm i)) cs_all hg hm hv ha (by decide) (by decide) he) fun _ _ h => imm_opA imm_all h
theorem se_min2 (hg : ∀ i, Gl (C.X i) "min") (hm : C.mg "min" = none) (hv : bootBuiltins "min" = some (.builtin "min")) (ha : SA C m [a, b] ga) (he : ∀ i, starEach [a, b] (C.X i).env = (false, eval a (C.X i).env) :: starEach [b] (C.X i).env := by intro _; rfl)
    (hpl : ∀ i, (backTo pos (starEach [b] (C.X i).env)).any (·.1) = false := by intro _; rfl) : SE C (some []) (.Call (.Name "min" p) [a, b] [] pos) (opA (mmD fun i j => if j < i then j else i) ga) :=
  se_cut (se_callB (fun i => call_min2 (C.calm i)) cs_mm hg hm hv ha (by decide) (by decide) he hpl) fun _ _ h => imm_opA imm_mm h
theorem se_max2 (hg : ∀ i, Gl (C.X i) "max") (hm : C.mg "max" = none) (hv : bootBuiltins "max" = some (.builtin "max")) (ha : SA C m [a, b] ga) (he : ∀ i, starEach [a, b] (C.X i).env = (false, eval a (C.X i).env) :: starEach [b] (C.X i).env := by intro _; rfl)
    (hpl : ∀ i, (backTo pos (starEach [b] (C.X i).env)).any (·.1) = false := by intro _; rfl) : SE C (some []) (.Call (.Name "max" p) [a, b] [] pos) (opA (mmD fun i j => if j > i then j else i) ga) :=
  se_cut (se_callB (fun i => call_max2 (C.calm i)) cs_mm hg hm hv ha (by decide) (by decide) he hpl) fun _ _ h => imm_opA imm_mm h
theorem se_tuple (hg : ∀ i, Gl (C.X i) "tuple") (hm : C.mg "tuple" = none) (hv : bootBuiltins "tuple" = some (.type "tuple")) (ha : SA C m [a] ga) (he : ∀ i, starEach [a] (C.X i).env = [(false, eval a (C.X i).env)] := by intro _; rfl) : SE C m (.Call (.Name "tuple" p) [a] [] pos) (opA tupleD ga) :=
  se_callT (fun i => by have h := call_tuple_of (X := C.X i); rw [C.hK i] at h; exact h) cs_tuple hg hm hv ha (by decide) (by decide) he
theorem se_list (hg : ∀ i, Gl (C.X i) "list") (hm : C.mg "list" = none) (hv : bootBuiltins "list" = some (.type "list")) (ha : SA C m [a] ga) (he : ∀ i, starEach [a] (C.X i).env = [(false, eval a (C.X i).env)] := by intro _; rfl) : SE C m (.Call (.Name "list" p) [a] [] pos) (opA listD ga) :=
  se_callT (fun i => by have h := call_list_of (X := C.X i); rw [C.hK i] at h; exact h) cs_list hg hm hv ha (by decide) (by decide) he
theorem imm_str : ∀ x z, strD x = .ok z → imm z = true := by
  intro x z e
  unfold strD at e
  split at e
  · split at e
    · cases e; rfl
    · cases e
  · cases e
theorem se_strI (hg : ∀ i, Gl (C.X i) "str") (hm : C.mg "str" = none) (hv : bootBuiltins "str" = some (.type "str")) (ha : SA C m [a] ga) (he : ∀ i, starEach [a] (C.X i).env = [(false, eval a (C.X i).env)] := by intro _; rfl) : SE C (some []) (.Call (.Name "str" p) [a] [] pos) (opA strD ga) :=
  se_cut (se_callT (fun i => call_str_int) cs_str hg hm hv ha (by decide) (by decide) he) fun _ _ h => imm_opA imm_str h
theorem imm_andD {f g : En → Rs D} (h : ∀ ρ d, g ρ = .ok d → imm d = true) : ∀ ρ d, andD f g ρ = .ok d → imm d = true := fun ρ d e => by
  obtain ⟨x, _, e⟩ := bd_eq_ok e
  split at e
  · exact h _ _ e
  · cases e; rfl
  · cases e
/-! ### tops that are new -/
/-- the answer's top is new where it may be changed -/
def OpF (K : PySem.W.Frag) (r : R2) (fd : D → D → Rs D) : Prop := ∀ (A : Addr → Prop) x y d e H (Q : VK) z, Rp K A H x d → Rp K A H y e → fd d e = .ok z → (∀ v H', Same H H' → Rp K (fun p => H p = none ∨ A p) H' v z → topN H v z → Q v H') → r x y H Q
theorem of_add {K : PySem.W.Frag} : OpF K (rAddV K) addD := by
  intro A x y d e H Q z rx ry ez q
  cases z with
  | lst l =>
    unfold addD at ez
    split at ez
    · cases ez
    · split at ez
      · rename_i hl
        cases ez
        cases rx with
        | lst h1 m1 r1 =>
          cases ry with
          | lst h2 m2 r2 =>
            refine .inr (.inl ⟨_, _, _, _, rfl, rfl, h1, h2, by rw [r1.length, r2.length]; exact hl, fun p H' s hp hn => q _ H' s (.lst hp (.inl hn) ?_) fun _ => ⟨p, rfl, hn⟩⟩)
            exact (((r1.wk fun _ _ _ z => z.1).append (r2.wk fun _ _ _ z => z.1)).wk (A' := fun q => (H q = none ∨ A q) ∧ q ≠ p) fun q o e z => ⟨.inr z, fun e' => by subst e'; rw [hn] at e; cases e⟩).up s
      · cases ez
    · split at ez <;> cases ez
    · cases ez
  | dct ks vs =>
    unfold addD at ez
    split at ez
    · cases ez
    · split at ez <;> cases ez
    · split at ez <;> cases ez
    · cases ez
  | set l =>
    unfold addD at ez
    split at ez
    · cases ez
    · split at ez <;> cases ez
    · split at ez <;> cases ez
    · cases ez
  | _ => exact os_add A x y d e H Q _ rx ry ez fun v H' s r => q v H' s r fun hm => by cases hm
theorem sf_add (ha : SE C m1 a fa) (hb : SE C m2 b fb) : SF C (jn m1 m2) (.BinOp a .Add b pos) (op2 addD fa fb) := by
  obtain ⟨t, h1, h2⟩ := ha
  obtain ⟨u, k1, k2⟩ := hb
  refine ⟨_, fun i => pe_op (C.addR i) (h1 i) (k1 i), ?_⟩
  intro τ σ H ρ lab Q R W
  refine h2 τ σ H ρ lab _ R (W.bd.imp fun d _ w x H1 s1 r1 => ?_)
  refine k2 τ σ H1 ρ lab _ (R.up s1) (w.bd.imp fun e _ w y H2 s2 r2 => ?_)
  obtain ⟨z, ez, w⟩ := w.okD
  refine of_add (fpM (jn m1 m2) lab H) x y d e H2 Q z (r1.mono s2 fun p o _ q => fpM_l q) (r2.wk fun p o _ q => fpM_r (fpM_back s1 q)) ez fun v H' s r ht => w v H' ((s1.trans s2).trans s) (r.wk fun p o _ q => ?_) fun hm => ?_
  · rcases q with q | q
    · exact .inl ((s1.trans s2).free q)
    · exact q
  · obtain ⟨a, e1, e2⟩ := ht hm
    exact ⟨a, e1, (s1.trans s2).free e2⟩
/-- the last line: from the law's function to its def's promise -/
def spLaw (K : PySem.W.Frag) : Sp := fun vs H Q E => ∃ a ns, vs = [.ref a] ∧ ScrOk K H a ns ∧ ns.length ≤ 63 ∧ ∀ H', Q (.bl true) H'
theorem law_imp {K : PySem.W.Frag} {cl : Str → Addr} {F : List D → Rs D} (h : ∀ ns : List Int, ns.length ≤ 63 → F [.scr ns] = .ok (.bl true)) : ∀ vs H Q E, spLaw K vs H Q E → spF K cl 1 F vs H Q E := by
  rintro vs H Q E ⟨a, ns, rfl, hs, hl, q⟩
  refine ⟨[.scr ns], rfl, .cons (.scr hs) .nil, ?_⟩
  rw [h ns hl]
  intro v H' s r
  cases r
  exact q H'
theorem scr_of {K : PySem.W.Frag} {H : Hp} {a : Addr} {ns : List Int} (hO : Only H) (h : SqL K H a (ns.map V.int)) : ScrOk K H a ns := by
  rcases h with (h | ⟨o, h⟩) | h
  · rcases hO a with z | ⟨o, xs, z⟩
    · rw [h] at z; cases z
    · rw [h] at z; cases z
  · exact .inl ⟨o, h⟩
  · exact .inr h
end
end VL

set_option Elab.async false
set_option linter.all false
set_option maxRecDepth 100000
set_option maxHeartbeats 4000000
namespace VL
open PySem PySem.Spec PyProof.Rows L2
/-! ### more changes of lists that a name owns: pop, extend -/
def rExtendA : V → List V → Hp → VK → Prop := fun x vs H Q => ∃ l b xs zs, x = .ref l ∧ vs = [.ref b] ∧ H l = some (.lst xs) ∧ H b = some (.lst zs) ∧ xs.length + zs.length ≤ sizeLine ∧ ∀ H', Butl l H H' → H' l = some (.lst (xs ++ zs)) → Q .non H'
theorem mt_extendA {X : Cx} : MtM X "list.extend" rExtendA := fun pins s σ H x xs v us Q I rx rv ⟨l, b, ys, zs, e1, e2, h, h2, z, n⟩ =>
  mt_extend pins s σ H x xs v us Q I rx rv ⟨l, b, ys, zs, e1, e2, h, h2, z, n _ (fun b o ne hb => by rw [upd_ne ne]; exact hb) upd_same⟩
def rPopA : V → List V → Hp → VK → Prop := fun x vs H Q => ∃ l xs y, x = .ref l ∧ vs = [] ∧ H l = some (.lst xs) ∧ xs[xs.length - 1]? = some y ∧ ∀ H', Butl l H H' → H' l = some (.lst xs.dropLast) → Q y H'
theorem mt_popA {X : Cx} : MtM X "list.pop" rPopA := fun pins s σ H x xs v us Q I rx rv ⟨l, ys, y, e1, e2, h, z, n⟩ =>
  mt_pop pins s σ H x xs v us Q I rx rv ⟨l, ys, y, e1, e2, h, z, n _ (fun b o ne hb => by rw [upd_ne ne]; exact hb) upd_same⟩
theorem Rps.dropLast {K : PySem.W.Frag} {A : Addr → Prop} {H : Hp} {xs : List V} {ds : List D} (r : Rps K A H xs ds) : Rps K A H xs.dropLast ds.dropLast := by
  rw [List.dropLast_eq_take, List.dropLast_eq_take, r.length]
  exact r.take _
section
variable {C : Ct} {pos apos cpos p : Pos} {e tg : Expr} {fe : En → Rs D} {fg : D → En → Rs En} {i : Nat} {x : Str} {m : Mode} {ks : List Nat}
/-- x.append(e), what is within may be old -/
def appZ (i : Nat) (fe : En → Rs D) : En → Ou := fun ρ => match ρ[i]? with
  | some (.oz (.lst ds)) => (fe ρ).bo fun d => if ds.length < sizeLine then .nx (ρ.set i (.oz (.lst (ds ++ [d])))) else .st
  | _ => .st
theorem ss_appendZ (i : Nat) (he : SE C m e fe) (hm : okS m = true := by rfl) (hN : ∀ j, (C.X j).N[i]? = some x := by intro _; rfl) (hv : ∀ j, Vis (C.X j).env.scope x := by intro _; first | exact Or.inl rfl | exact Or.inr (Or.inl rfl) | exact Or.inr (Or.inr rfl)) (hd : (x == ("__debug__" : Str)) = false := by decide)
    (hcd : (x == ("__classdict__" : Str)) = false := by decide) (hs1 : ∀ j, starEach [e] (C.X j).env = [(false, eval e (C.X j).env)] := by intro _; rfl)
    (hbase : ∀ j, attributeBase (.Name x p) "append" (C.X j).env (eval (.Name x p) (C.X j).env) = eval (.Name x p) (C.X j).env := by intro _; rfl)
    (hfew : ∀ j, ((backTo cpos (starEach [e] (C.X j).env)).all (fun x => !x.1) && (backToKw cpos (keywordEach [] (C.X j).env)).all (fun x => x.1.isSome) && decide ([e].length + ([] : List Keyword).length + (if ([] : List Keyword).isEmpty then 0 else 1) < 30)) = true := by intro _; rfl)
    (hline : (apos.endLine == cpos.line) = true := by rfl)
    (hsw : ∀ j, swapsWith (.Call (.Attribute (.Name x p) "append" apos) [e] [] cpos) none pos.line (C.X j).env = pure false := by intro _; rfl) :
    SS C (.Expr (.Call (.Attribute (.Name x p) "append" apos) [e] [] cpos) pos) (appZ i fe) := by
  obtain ⟨t, h1, h2⟩ := he
  refine ⟨tDrop (tBM C.K "list" rAppendA (tVar i) (tCons t tNil)), fun j => ps_expr (by rw [← C.hK j]; exact pe_bm PySem.F.plainAttrs_list PySem.F.slot_list_append PySem.F.type_list_append mt_appendA (pe_var (hN j) (hv j) hd hcd) (pa_cons (h1 j) pa_nil (hs1 j)) (hbase j) (hfew j) hline (hs1 j) rfl) (hsw j), fun τ σ H ρ lab De R W => ?_⟩
  unfold appZ at W
  cases es : ρ[i]? with
  | none => rw [es] at W; exact False.elim W
  | some s =>
    rw [es] at W
    split at W
    · rename_i ds hs
      cases hs
      rcases R.sl i _ es with z | ⟨v, ev, a0, xs, ds', rfl, hds, h, la0, r⟩
      · cases z
      · cases hds
        refine ⟨.ref a0, ev, .inl ⟨rfl, xs, SqL.of h⟩, h2 τ σ H ρ lab _ R (W.bo.imp fun d _ w y H2 s2 r2 => ?_)⟩
        by_cases hz : ds.length < sizeLine
        · rw [if_pos hz] at w
          refine ⟨a0, xs, y, rfl, rfl, s2 _ _ h, by rw [r.length]; exact hz, fun H3 B h3 => ?_⟩
          obtain ⟨R', r'⟩ := R.shared hm s2 r2
          have la : (newLab H 1 lab a0).1 = i + 2 := by rw [newLab_old h]; exact la0
          refine w σ H3 _ (R'.mut ev (s2 _ _ h) rfl la B ⟨a0, _, _, rfl, rfl, h3, la, ?_⟩)
          have ra : Rps C.K (fun p => (newLab H 1 lab p).1 ≤ 1) H2 (xs ++ [y]) (ds ++ [d]) :=
            (r.mono s2 fun p o e z => by rw [newLab_old e]; exact z).append (.cons r' .nil)
          exact ra.but B (s2 _ _ h) rfl fun z => by omega
        · rw [if_neg hz] at w
          exact False.elim w
    · exact False.elim W
/-- x.extend(e) -/
def extL (ds : List D) (k : List D → Ou) : D → Ou
  | .lst es => if ds.length + es.length ≤ sizeLine then k (ds ++ es) else .st
  | _ => .st
def extS (i : Nat) (fe : En → Rs D) : En → Ou := fun ρ => match ρ[i]? with
  | some (.ow (.lst ds)) => (fe ρ).bo (extL ds fun l => .nx (ρ.set i (.ow (.lst l))))
  | _ => .st
def extZ (i : Nat) (fe : En → Rs D) : En → Ou := fun ρ => match ρ[i]? with
  | some (.oz (.lst ds)) => (fe ρ).bo (extL ds fun l => .nx (ρ.set i (.oz (.lst l))))
  | _ => .st
theorem ss_extendZ (i : Nat) (he : SE C m e fe) (hm : okS m = true := by rfl) (hN : ∀ j, (C.X j).N[i]? = some x := by intro _; rfl) (hv : ∀ j, Vis (C.X j).env.scope x := by intro _; first | exact Or.inl rfl | exact Or.inr (Or.inl rfl) | exact Or.inr (Or.inr rfl)) (hd : (x == ("__debug__" : Str)) = false := by decide)
    (hcd : (x == ("__classdict__" : Str)) = false := by decide) (hs1 : ∀ j, starEach [e] (C.X j).env = [(false, eval e (C.X j).env)] := by intro _; rfl)
    (hbase : ∀ j, attributeBase (.Name x p) "extend" (C.X j).env (eval (.Name x p) (C.X j).env) = eval (.Name x p) (C.X j).env := by intro _; rfl)
    (hfew : ∀ j, ((backTo cpos (starEach [e] (C.X j).env)).all (fun x => !x.1) && (backToKw cpos (keywordEach [] (C.X j).env)).all (fun x => x.1.isSome) && decide ([e].length + ([] : List Keyword).length + (if ([] : List Keyword).isEmpty then 0 else 1) < 30)) = true := by intro _; rfl)
    (hline : (apos.endLine == cpos.line) = true := by rfl)
    (hsw : ∀ j, swapsWith (.Call (.Attribute (.Name x p) "extend" apos) [e] [] cpos) none pos.line (C.X j).env = pure false := by intro _; rfl) :
    SS C (.Expr (.Call (.Attribute (.Name x p) "extend" apos) [e] [] cpos) pos) (extZ i fe) := by
  obtain ⟨t, h1, h2⟩ := he
  refine ⟨tDrop (tBM C.K "list" rExtendA (tVar i) (tCons t tNil)), fun j => ps_expr (by rw [← C.hK j]; exact pe_bm PySem.F.plainAttrs_list PySem.F.slot_list_extend PySem.F.type_list_extend mt_extendA (pe_var (hN j) (hv j) hd hcd) (pa_cons (h1 j) pa_nil (hs1 j)) (hbase j) (hfew j) hline (hs1 j) rfl) (hsw j), fun τ σ H ρ lab De R W => ?_⟩
  unfold extZ at W
  cases es : ρ[i]? with
  | none => rw [es] at W; exact False.elim W
  | some s =>
    rw [es] at W
    split at W
    · rename_i ds hs
      cases hs
      rcases R.sl i _ es with z | ⟨v, ev, a0, xs, ds', rfl, hds, h, la0, r⟩
      · cases z
      · cases hds
        refine ⟨.ref a0, ev, .inl ⟨rfl, xs, SqL.of h⟩, h2 τ σ H ρ lab _ R (W.bo.imp fun d _ w y H2 s2 r2 => ?_)⟩
        cases d with
        | lst es' =>
          dsimp only [extL] at w
          by_cases hz : ds.length + es'.length ≤ sizeLine
          · rw [if_pos hz] at w
            obtain ⟨R', r'⟩ := R.shared hm s2 r2
            cases r' with
            | lst hb mb rb =>
              rename_i b zs
              refine ⟨a0, b, xs, zs, rfl, rfl, s2 _ _ h, hb, by rw [r.length, rb.length]; exact hz, fun H3 B h3 => ?_⟩
              have la : (newLab H 1 lab a0).1 = i + 2 := by rw [newLab_old h]; exact la0
              refine w σ H3 _ (R'.mut ev (s2 _ _ h) rfl la B ⟨a0, _, _, rfl, rfl, h3, la, ?_⟩)
              have ra : Rps C.K (fun p => (newLab H 1 lab p).1 ≤ 1) H2 (xs ++ zs) (ds ++ es') :=
                (r.mono s2 fun p o e z => by rw [newLab_old e]; exact z).append (rb.wk fun p o e z => z.1)
              exact ra.but B (s2 _ _ h) rfl fun z => by omega
          · rw [if_neg hz] at w
            exact False.elim w
        | _ => exact False.elim w
    · exact False.elim W
theorem ss_extend (i : Nat) (he : SE C m e fe) (hm : okN m = true := by rfl) (hN : ∀ j, (C.X j).N[i]? = some x := by intro _; rfl) (hv : ∀ j, Vis (C.X j).env.scope x := by intro _; first | exact Or.inl rfl | exact Or.inr (Or.inl rfl) | exact Or.inr (Or.inr rfl)) (hd : (x == ("__debug__" : Str)) = false := by decide)
    (hcd : (x == ("__classdict__" : Str)) = false := by decide) (hs1 : ∀ j, starEach [e] (C.X j).env = [(false, eval e (C.X j).env)] := by intro _; rfl)
    (hbase : ∀ j, attributeBase (.Name x p) "extend" (C.X j).env (eval (.Name x p) (C.X j).env) = eval (.Name x p) (C.X j).env := by intro _; rfl)
    (hfew : ∀ j, ((backTo cpos (starEach [e] (C.X j).env)).all (fun x => !x.1) && (backToKw cpos (keywordEach [] (C.X j).env)).all (fun x => x.1.isSome) && decide ([e].length + ([] : List Keyword).length + (if ([] : List Keyword).isEmpty then 0 else 1) < 30)) = true := by intro _; rfl)
    (hline : (apos.endLine == cpos.line) = true := by rfl)
    (hsw : ∀ j, swapsWith (.Call (.Attribute (.Name x p) "extend" apos) [e] [] cpos) none pos.line (C.X j).env = pure false := by intro _; rfl) :
    SS C (.Expr (.Call (.Attribute (.Name x p) "extend" apos) [e] [] cpos) pos) (extS i fe) := by
  obtain ⟨t, h1, h2⟩ := he
  refine ⟨tDrop (tBM C.K "list" rExtendA (tVar i) (tCons t tNil)), fun j => ps_expr (by rw [← C.hK j]; exact pe_bm PySem.F.plainAttrs_list PySem.F.slot_list_extend PySem.F.type_list_extend mt_extendA (pe_var (hN j) (hv j) hd hcd) (pa_cons (h1 j) pa_nil (hs1 j)) (hbase j) (hfew j) hline (hs1 j) rfl) (hsw j), fun τ σ H ρ lab De R W => ?_⟩
  unfold extS at W
  cases es : ρ[i]? with
  | none => rw [es] at W; exact False.elim W
  | some s =>
    rw [es] at W
    split at W
    · rename_i ds hs
      cases hs
      rcases R.sl i _ es with z | ⟨v, ev, hv'⟩
      · cases z
      · obtain ⟨hv1, htop⟩ := hv'
        obtain ⟨a0, ea0, la0⟩ := htop rfl
        subst ea0
        cases hv1 with
        | lst h mm r =>
          rename_i xs
          refine ⟨.ref a0, ev, .inl ⟨rfl, xs, SqL.of h⟩, h2 τ σ H ρ lab _ R (W.bo.imp fun d _ w y H2 s2 r2 => ?_)⟩
          cases d with
          | lst es' =>
            dsimp only [extL] at w
            by_cases hz : ds.length + es'.length ≤ sizeLine
            · rw [if_pos hz] at w
              obtain ⟨R', r'⟩ := R.fresh (P := fun k => k = 1) rfl (fun k hk => beq_iff_eq.mp (only_in hm k hk)) s2 r2
              have la : (newLab H 1 lab a0).1 = i + 2 := by rw [newLab_old h]; exact la0
              cases r' with
              | lst hb mb rb =>
                rename_i b zs
                refine ⟨a0, b, xs, zs, rfl, rfl, s2 _ _ h, hb, by rw [r.length, rb.length]; exact hz, fun H3 B h3 => ?_⟩
                refine w σ H3 _ (R'.mut ev (s2 _ _ h) rfl la B ⟨.lst h3 (.inr la) ?_, fun _ => ⟨a0, rfl, la⟩⟩)
                have ra : Rps C.K (fun p => ((newLab H 1 lab p).1 = 1 ∨ (newLab H 1 lab p).1 = i + 2) ∧ p ≠ a0) H2 (xs ++ zs) (ds ++ es') := by
                  refine (r.mono s2 fun p o e z => ⟨by rw [newLab_old e]; exact z.1, z.2⟩).append (rb.wk fun p o e z => ⟨.inl z.1, fun q => ?_⟩)
                  subst q
                  have z1 : (newLab H 1 lab p).1 = 1 := z.1
                  omega
                exact ra.but B (s2 _ _ h) rfl fun z => z.2 rfl
            · rw [if_neg hz] at w
              exact False.elim w
          | _ => exact False.elim w
    · exact False.elim W
/-- targets = x.pop() -/
def popL (i : Nat) (fg : D → En → Rs En) (ρ : En) (ds : List D) : Ou := match ds.getLast? with
  | some d => match fg d (ρ.set i (.oz (.lst ds.dropLast))) with
    | .ok ρ' => .nx ρ'
    | _ => .st
  | none => .st
def popZ (i : Nat) (fg : D → En → Rs En) : En → Ou := fun ρ => match ρ[i]? with
  | some (.oz (.lst ds)) => popL i fg ρ ds
  | _ => .st
theorem ss_popZ (i : Nat) (hg : SG C tg ks fg) (hN : ∀ j, (C.X j).N[i]? = some x := by intro _; rfl) (hv : ∀ j, Vis (C.X j).env.scope x := by intro _; first | exact Or.inl rfl | exact Or.inr (Or.inl rfl) | exact Or.inr (Or.inr rfl)) (hd : (x == ("__debug__" : Str)) = false := by decide)
    (hcd : (x == ("__classdict__" : Str)) = false := by decide)
    (hbase : ∀ j, attributeBase (.Name x p) "pop" (C.X j).env (eval (.Name x p) (C.X j).env) = eval (.Name x p) (C.X j).env := by intro _; rfl)
    (hline : (apos.endLine == cpos.line) = true := by rfl)
    (hs : ∀ j, swapsWithSole [tg] (.Call (.Attribute (.Name x p) "pop" apos) [] [] cpos) pos.line (C.X j).env = pure false := by intro _; rfl) (hw : ∀ j, swappedStores [tg] (.Call (.Attribute (.Name x p) "pop" apos) [] [] cpos) (C.X j).env = pure none := by intro _; rfl)
    (h1 : ∀ j, (assignEach [tg] (C.X j).env).map (·.2) = [assign tg (C.X j).env] := by intro _; rfl) :
    SS C (.Assign [tg] (.Call (.Attribute (.Name x p) "pop" apos) [] [] cpos) pos) (popZ i fg) := by
  obtain ⟨g, q1, q2, _, _⟩ := hg
  refine ⟨tAsg (tBM0 C.K "list" rPopA (tVar i)) g, fun j => ps_asg (by rw [← C.hK j]; exact pe_bm0 PySem.F.plainAttrs_list PySem.F.slot_list_pop PySem.F.type_list_pop mt_popA (pe_var (hN j) (hv j) hd hcd) (hbase j) hline) (q1 j) (hs j) (hw j) (h1 j), fun τ σ H ρ lab De R W => ?_⟩
  unfold popZ at W
  cases es : ρ[i]? with
  | none => rw [es] at W; exact False.elim W
  | some s =>
    rw [es] at W
    split at W
    · rename_i ds hs
      cases hs
      rcases R.sl i _ es with z | ⟨v, ev, a0, xs, ds', rfl, hds, h, la0, r⟩
      · cases z
      · cases hds
        unfold popL at W
        cases hlast : ds.getLast? with
        | none => rw [hlast] at W; exact False.elim W
        | some d =>
          rw [hlast] at W
          dsimp only at W
          rw [List.getLast?_eq_getElem?, ← r.length] at hlast
          obtain ⟨y, hy, ry⟩ := r.getD hlast
          refine ⟨.ref a0, ev, .inl ⟨rfl, xs, SqL.of h⟩, a0, xs, y, rfl, rfl, h, hy, fun H3 B h3 => ?_⟩
          have R3 := R.mut ev h rfl la0 B (s' := .oz (.lst ds.dropLast)) ⟨a0, _, _, rfl, rfl, h3, la0, (r.dropLast).but B h rfl fun z => by omega⟩
          cases hgd : fg d (ρ.set i (.oz (.lst ds.dropLast))) with
          | ok ρ' => rw [hgd] at W; exact q2 τ y d σ H3 _ _ _ ρ' R3 (ry.but B h rfl fun z => by omega) hgd fun σ' R2 => W σ' H3 _ R2
          | ex c => rw [hgd] at W; exact False.elim W
          | st => rw [hgd] at W; exact False.elim W
    · exact False.elim W
end
end VL

set_option Elab.async false
set_option linter.all false
set_option maxRecDepth 100000
set_option maxHeartbeats 4000000
namespace VL
open PySem PySem.Spec PyProof.Rows L2
/-! ### sum, max, min of a list of ints; a tuple times an int -/
section
variable {K : PySem.W.Frag}
theorem ints_toks : ∀ {ns : List Int} {us : List Value}, Vals (ns.map V.int) us → ∃ ts : List (Int × Tok), us = ts.map (fun q => Value.int q.1 q.2) ∧ ts.map Prod.fst = ns
  | [], _, .nil => ⟨[], rfl, rfl⟩
  | n :: ns, _, .cons r t => by
    obtain ⟨tk, e⟩ : ∃ tk, _ = Value.int n tk := r
    obtain ⟨ts, e1, e2⟩ := ints_toks t
    subst e
    exact ⟨(n, tk) :: ts, by rw [e1]; rfl, by rw [← e2]; rfl⟩
theorem call_sumL {X : Cx} (hc : X.calm = true) : CallR X (.builtin "sum") (fun xs H Q => ∃ (p : Addr) (ns : List Int), xs = [.ref p] ∧ H p = some (.lst (ns.map V.int)) ∧ Q (.int ns.sum) H) := by
  intro pins s σ H xs us Q I r h
  obtain ⟨p, ns, rfl, hp, q⟩ := h
  obtain ⟨u, rfl, ru⟩ := vals1 r
  cases ru
  obtain ⟨its, rv, pl, hz⟩ := I.list (SqL.of hp)
  obtain ⟨ts, rfl, rfl⟩ := ints_toks rv
  refine sum_intListG (xs := ts.toArray) (I.ok.hd hc) (by have := pl.isList; simpa [intItems] using this) fun h' tk t' hk => ?_
  refine ⟨.int (ts.map Prod.fst).sum, H, I.kept hk, ⟨t', ?_⟩, q⟩
  rw [preSum_eq, List.take_of_length_le (by simp)]
theorem call_maxL {X : Cx} (hc : X.calm = true) : CallR X (.builtin "max") (fun xs H Q => ∃ (p : Addr) (ns : List Int) (m : Int), xs = [.ref p] ∧ H p = some (.lst (ns.map V.int)) ∧ ns.max? = some m ∧ Q (.int m) H) := by
  intro pins s σ H xs us Q I r h
  obtain ⟨p, ns, m, rfl, hp, hm, q⟩ := h
  obtain ⟨u, rfl, ru⟩ := vals1 r
  cases ru
  obtain ⟨its, rv, pl, hz⟩ := I.list (SqL.of hp)
  obtain ⟨ts, rfl, rfl⟩ := ints_toks rv
  have hsz : 0 < ts.toArray.size := by
    cases ts with
    | nil => cases hm
    | cons a b => simp
  refine max_intList (xs := ts.toArray) (I.ok.hd hc) (by have := pl.isList; simpa [intItems] using this) hsz fun v h' tk hv hk => ?_
  obtain ⟨t, rfl⟩ := intItems_at hv
  obtain ⟨h1, h2⟩ := argBest_gt (numAt ts.toArray) (ts.toArray.size - 1)
  have hM : (ts.map Prod.fst).max? = some (numAt ts.toArray (argBest (fun i j => decide (numAt ts.toArray i > numAt ts.toArray j)) (ts.toArray.size - 1))) := by
    rw [List.max?_eq_some_iff]
    refine ⟨?_, fun a ha => ?_⟩
    · rw [numAt_eq]; exact getD_mem (by rw [List.length_map]; simp at h1 hsz ⊢; omega)
    · obtain ⟨j, hj, rfl⟩ := mem_getD ha
      have := h2 j (by rw [List.length_map] at hj; simp; omega)
      rw [numAt_eq] at this
      exact this
  rw [hm] at hM
  injection hM with hM
  exact ⟨.int m, H, I.kept hk, ⟨t, by rw [hM]⟩, q⟩
theorem call_minL {X : Cx} (hc : X.calm = true) : CallR X (.builtin "min") (fun xs H Q => ∃ (p : Addr) (ns : List Int) (m : Int), xs = [.ref p] ∧ H p = some (.lst (ns.map V.int)) ∧ ns.min? = some m ∧ Q (.int m) H) := by
  intro pins s σ H xs us Q I r h
  obtain ⟨p, ns, m, rfl, hp, hm, q⟩ := h
  obtain ⟨u, rfl, ru⟩ := vals1 r
  cases ru
  obtain ⟨its, rv, pl, hz⟩ := I.list (SqL.of hp)
  obtain ⟨ts, rfl, rfl⟩ := ints_toks rv
  have hsz : 0 < ts.toArray.size := by
    cases ts with
    | nil => cases hm
    | cons a b => simp
  refine min_intList (xs := ts.toArray) (I.ok.hd hc) (by have := pl.isList; simpa [intItems] using this) hsz fun v h' tk hv hk => ?_
  obtain ⟨t, rfl⟩ := intItems_at hv
  obtain ⟨h1, h2⟩ := argBest_lt (numAt ts.toArray) (ts.toArray.size - 1)
  have hM : (ts.map Prod.fst).min? = some (numAt ts.toArray (argBest (fun i j => decide (numAt ts.toArray i < numAt ts.toArray j)) (ts.toArray.size - 1))) := by
    rw [List.min?_eq_some_iff]
    refine ⟨?_, fun a ha => ?_⟩
    · rw [numAt_eq]; exact getD_mem (by rw [List.length_map]; simp at h1 hsz ⊢; omega)
    · obtain ⟨j, hj, rfl⟩ := mem_getD ha
      have := h2 j (by rw [List.length_map] at hj; simp; omega)
      rw [numAt_eq _ j] at this
      exact this
  rw [hm] at hM
  injection hM with hM
  exact ⟨.int m, H, I.kept hk, ⟨t, by rw [hM]⟩, q⟩
/-- of a list of ints, something of these -/
def numsD (f : List Int → Option Int) : List D → Rs D
  | [.lst l] => match intsOf l with
    | some ns => match f ns with
      | some m => .ok (.int m)
      | none => .st
    | none => .st
  | _ => .st
theorem cs_nums {f : List Int → Option Int} : CallS K (fun xs H Q => ∃ (p : Addr) (ns : List Int) (m : Int), xs = [.ref p] ∧ H p = some (.lst (ns.map V.int)) ∧ f ns = some m ∧ Q (.int m) H) (numsD f) := by
  intro A xs ds H Q z r ez q
  unfold numsD at ez
  split at ez
  · split at ez
    · rename_i l ns e
      split at ez
      · rename_i m em
        cases ez
        have := intsOf_some e
        subst this
        cases r with
        | cons h r =>
          cases r
          cases h with
          | lst h _ r =>
            have := r.ints_of
            subst this
            exact ⟨_, ns, m, rfl, h, em, q _ H (Same.refl H) (.int _)⟩
      · cases ez
    · cases ez
  · cases ez
theorem imm_nums {f : List Int → Option Int} : ∀ x z, numsD f x = .ok z → imm z = true := by
  intro x z e
  unfold numsD at e
  split at e
  · split at e
    · split at e
      · cases e; rfl
      · cases e
    · cases e
  · cases e
end
section
variable {C : Ct} {pos p : Pos} {a : Expr} {ga : En → Rs (List D)} {m : Mode}
theorem se_sumL (hg : ∀ i, Gl (C.X i) "sum") (hm : C.mg "sum" = none) (hv : bootBuiltins "sum" = some (.builtin "sum")) (ha : SA C m [a] ga) (he : ∀ i, starEach [a] (C.X i).env = [(false, eval a (C.X i).env)] := by intro _; rfl) : SE C (some []) (.Call (.Name "sum" p) [a] [] pos) (opA (numsD fun ns => some ns.sum) ga) :=
  se_cut (se_callB (fun i => (call_sumL (C.calm i)).weaken fun xs H Q ⟨p, ns, m, e1, e2, e3, q⟩ => ⟨p, ns, e1, e2, by cases e3; exact q⟩) cs_nums hg hm hv ha (by decide) (by decide) he) fun _ _ h => imm_opA imm_nums h
theorem se_maxL (hg : ∀ i, Gl (C.X i) "max") (hm : C.mg "max" = none) (hv : bootBuiltins "max" = some (.builtin "max")) (ha : SA C m [a] ga) (he : ∀ i, starEach [a] (C.X i).env = [(false, eval a (C.X i).env)] := by intro _; rfl) : SE C (some []) (.Call (.Name "max" p) [a] [] pos) (opA (numsD List.max?) ga) :=
  se_cut (se_callB (fun i => call_maxL (C.calm i)) cs_nums hg hm hv ha (by decide) (by decide) he) fun _ _ h => imm_opA imm_nums h
theorem se_minL (hg : ∀ i, Gl (C.X i) "min") (hm : C.mg "min" = none) (hv : bootBuiltins "min" = some (.builtin "min")) (ha : SA C m [a] ga) (he : ∀ i, starEach [a] (C.X i).env = [(false, eval a (C.X i).env)] := by intro _; rfl) : SE C (some []) (.Call (.Name "min" p) [a] [] pos) (opA (numsD List.min?) ga) :=
  se_cut (se_callB (fun i => call_minL (C.calm i)) cs_nums hg hm hv ha (by decide) (by decide) he) fun _ _ h => imm_opA imm_nums h
end
end VL

set_option Elab.async false
set_option linter.all false
set_option maxRecDepth 100000
set_option maxHeartbeats 4000000
namespace VL
open PySem PySem.Spec PyProof.Rows L2
theorem tmul_no : fillsNumberSlot (.type "tuple") "mul" = pure false :=
  PySem.fillsNumberSlot_seq (id := "tuple.__mul__") (r := some (.builtin "tuple.__rmul__")) F.slot_tuple_mul.lookup (by decide +kernel) F.slot_tuple_rmul.lookup (by decide +kernel)
theorem tmul_seq : seqRepeat? (.type "tuple") = pure (some (.builtin "tuple.__mul__")) := by
  unfold seqRepeat?
  rw [PySem.seqSlot_of (T := "tuple") (name := "__mul__") (id := "tuple.__mul__") F.slot_tuple_mul.lookup (by decide +kernel)]
  rw [PySem.seqSlot_of (T := "tuple") (name := "__rmul__") (id := "tuple.__rmul__") F.slot_tuple_rmul.lookup (by decide +kernel)]
  rfl
theorem tmul_int (k : Int) (t : Tok) (a : Addr) (its : Array Value) (n : Nat) (dd : Option Addr) (sl : Array (Option Value)) :
    Meets (Builtin.«int.__rmul__» ⟨[.int k t, .ref a], []⟩) (fun _ R s => s.heap.get? a = some { cls := .type "tuple", dict := dd, data := .seq its n, slots := sl } ∧ R (.ok (.ret Value.notImplemented)) s) := by
  refine .of_wp fun P w A R s h => ?_
  obtain ⟨_, _, _, _, _⟩ := s
  obtain ⟨hl, h⟩ := h
  wp_walk
  exact ⟨_, rfl, h⟩
theorem tmul_tup (k : Int) (t : Tok) (a : Addr) (l : List Value) (n : Nat) (dd : Option Addr) (sl : Array (Option Value)) (h1 : 1 < k) (h2 : k < 2 ^ 63) (hz : l.length * k.toNat ≤ sizeLine) (he : l.isEmpty = false) :
    Meets (Builtin.«tuple.__mul__» ⟨[.ref a, .int k t], []⟩) (fun _ R s => s.heap.get? a = some { cls := .type "tuple", dict := dd, data := .seq l.toArray n, slots := sl } ∧
      R (.ok (.ret (Value.ref s.heap.objs.size))) { s with heap := s.heap.push { cls := Value.type "tuple", data := Data.seq (List.replicate k.toNat l).flatten.toArray } }) := by
  have hs : (l.length : Int) * k ≤ sizeLine := by
    have : ((l.length * k.toNat : Nat) : Int) = (l.length : Int) * k := by
      rw [Int.natCast_mul, Int.toNat_of_nonneg (by omega)]
    rw [← this]
    exact Int.ofNat_le.mpr hz
  have hb : (sizeLine : Int) ≤ (2 ^ 63 - 1) / 8 := by decide
  have c0 : ¬ (decide (k < -2 ^ 63) || decide (k ≥ 2 ^ 63)) = true := by simp; omega
  have c1 : ¬ (l.toArray.isEmpty || k == 1) = true := by simp only [List.isEmpty_toArray, he]; simp; omega
  have c2 : ¬ (decide (k ≤ 0) || l.toArray.isEmpty) = true := by simp only [List.isEmpty_toArray, he]; simp; omega
  have c3 : ¬ ((l.toArray.size : Int) * k > (2 ^ 63 - 1) / 8) := by rw [List.size_toArray]; omega
  have c4 : ¬ Builtin.Tuple.tupleTooMany ((l.toArray.size : Int) * k) = true := by rw [List.size_toArray]; unfold Builtin.Tuple.tupleTooMany; simp [sizeLine] at hs ⊢; omega
  have ef : List.foldl (fun x1 x2 => x1 ++ x2) #[] (List.replicate k.toNat l.toArray) = (List.replicate k.toNat l).flatten.toArray := by
    have := foldl_rep l k.toNat []
    simpa using this
  have c5 : ¬ ((List.replicate k.toNat l).flatten.toArray.size > sizeLine) := by rw [List.size_toArray, len_rep, Nat.mul_comm]; omega
  refine .of_wp fun P w A R s h => ?_
  obtain ⟨_, _, _, _, _⟩ := s
  obtain ⟨hl, h⟩ := h
  wp_walk
  rw [if_neg c0]
  wp_walk
  try rw [if_neg c1]
  wp_walk
  try rw [if_neg c2]
  wp_walk
  try rw [if_neg c3]
  wp_walk
  try rw [if_neg c4]
  try rw [ef]
  wp_walk
  try rw [if_neg c5]
  wp_walk
  exact ⟨_, rfl, h⟩
/-- a tuple times an int of two or more -/
def rRepT (K : PySem.W.Frag) : R2 := fun x y H Q => ∃ a k xs, x = .ref a ∧ y = .int k ∧ SqT K H a xs ∧ 1 < k ∧ k < 2 ^ 63 ∧ xs ≠ [] ∧ xs.length * k.toNat ≤ sizeLine ∧ New H (.tup (List.replicate k.toNat xs).flatten) Q
theorem op_repT {X : Cx} : OpR X (binaryOp .Mult) (rRepT X.K) := by
  intro pins s σ H x y v u Q I rx ry h
  obtain ⟨a, k, xs, rfl, rfl, ha, h1, h2, hne, hz, q⟩ := h
  cases rx
  obtain ⟨t, rfl⟩ := ry
  obtain ⟨its, r, p1, _⟩ := I.tuple ha
  obtain ⟨⟨cls, dd, data, sl⟩, ho, hc, n, hd⟩ := id p1
  simp only at hc hd
  subst hc hd
  have hl : its.length * k.toNat ≤ sizeLine := by rw [← r.length]; exact hz
  have he : its.isEmpty = false := by
    cases its with
    | nil => exact absurd (r.nil_iff.mp rfl) hne
    | cons _ _ => rfl
  refine wpAny_binaryOp_repeat_ref (T := "tuple") (U := "int") (by decide) ⟨_, ho, rfl⟩ (fun s' => typeIs_int s' k t) tmul_no F.fills_int_mul F.slot_int_rmul tmul_seq F.slot_int_index.lookup
    (call_meets F.slot_int_rmul (typeIs_int s k t) F.entry_int_rmul (F.args_int_rmul_2 _ _) (tmul_int k t a its.toArray n dd sl)
      ⟨ho, rfl, ⟨_, ho, rfl⟩, call_meets F.slot_tuple_mul ⟨_, ho, rfl⟩ F.entry_tuple_mul (F.args_tuple_mul_2 _ _) (tmul_tup k t a its n dd sl h1 h2 hl he) ⟨ho, ?_⟩⟩)
  refine ⟨.ref s.heap.objs.size, _, I.laid (t' := s.toks) (o := .tup (List.replicate k.toNat xs).flatten) (fun b ob q => Heap.get?_push_of_some _ q) (Nat.le_refl _) ?_, rfl, q.at (I.hok.fresh (Nat.le_refl _))⟩
  exact ⟨by rw [len_rep, Nat.mul_comm]; exact hz, _, r.rep k.toNat, IsTup.new _ _⟩
def mulT : D → D → Rs D
  | .tup l, .int k => if decide (1 < k) && decide (k < 2 ^ 63) && !l.isEmpty && decide (l.length * k.toNat ≤ sizeLine) then .ok (.tup (List.replicate k.toNat l).flatten) else .st
  | _, _ => .st
theorem os_mulT {K : PySem.W.Frag} : OpS K (rRepT K) mulT := by
  intro A x y d e H Q z rx ry ez q
  unfold mulT at ez
  split at ez
  · split at ez
    · rename_i hc
      simp only [Bool.and_eq_true, decide_eq_true_eq, Bool.not_eq_true'] at hc
      obtain ⟨⟨⟨c1, c2⟩, c3⟩, c4⟩ := hc
      cases ez; cases ry
      cases rx with
      | tup h r =>
        refine ⟨_, _, _, rfl, rfl, h, c1, c2, fun e => ?_, by rw [r.length]; exact c4, fun p H' s hp hn => q _ H' s (.tup (SqT.of hp) ?_)⟩
        · subst e
          cases r
          cases c3
        · exact ((Rps.rep r _).up s).wk fun _ _ _ z => .inr z
    · cases ez
  · cases ez
section
variable {C : Ct} {pos : Pos} {a b : Expr} {fa fb : En → Rs D} {m1 m2 : Mode}
theorem se_mulT (ha : SE C m1 a fa) (hb : SE C m2 b fb) : SE C (jn m1 m2) (.BinOp a .Mult b pos) (op2 mulT fa fb) := se_op (fun i => by rw [← C.hK i]; exact op_repT) os_mulT ha hb
end
/-- what tells nothing is kept by anything -/
theorem fn_stuck {P : Program} {w : World} {K : PySem.W.Frag} {mg : Str → Option Value} {base : Heap} {CX : CXT} {k n : Nat} {fn : Addr} {fd : FuncData} {ps : List Str} {cl : Str → Addr} : FnOk P w K mg base CX k fn fd ps (spF K cl n fun _ => .st) := by
  constructor
  · rintro vs H Q E ⟨_, _, _, h⟩
    exact False.elim h
  · intros
    rename_i h
    obtain ⟨_, _, _, h⟩ := h
    exact False.elim h
end VL

set_option Elab.async false
set_option linter.all false
set_option maxRecDepth 100000
set_option maxHeartbeats 4000000
namespace VL
open PySem PySem.Spec PyProof.Rows L2
/-! ### how the plain functions are reckoned -/
section
variable {ρ : En} {i : Nat} {f g : En → Rs D} {fb gb : En → Rs Bool} {ga : En → Rs (List D)} {u v : En → Ou} {d e : D}
@[simp] theorem varD_ap : varD i ρ = match ρ[i]? with
  | some (.sh d) => .ok d
  | some (.nw d) => .ok d
  | some (.ow d) => .ok d
  | some (.oz d) => .ok d
  | some (.o2 l) => .ok (.lst (l.map .lst))
  | _ => .st := by_def rfl
@[simp] theorem varS_ap : varS i ρ = match ρ[i]? with
  | some (.sh d) => .ok d
  | some (.nw d) => .ok d
  | _ => .st := by_def rfl
@[simp] theorem varN_ap : varN i ρ = match ρ[i]? with
  | some (.nw d) => .ok d
  | _ => .st := by_def rfl
@[simp] theorem varO_ap : varO i ρ = match ρ[i]? with
  | some (.ow d) => .ok d
  | some (.o2 l) => .ok (.lst (l.map .lst))
  | _ => .st := by_def rfl
@[simp] theorem cD_ap : cD d ρ = .ok d := by_def rfl
@[simp] theorem nilA_ap : nilA ρ = .ok [] := by_def rfl
@[simp] theorem consA_ap : consA f ga ρ = (f ρ).bd fun d => (ga ρ).bd fun ds => .ok (d :: ds) := by_def rfl
@[simp] theorem szl : sizeLine = 16777216 := sizeLine_eq
@[simp] theorem tupD_ap : tupD ga ρ = (ga ρ).bd fun ds => if ds.length ≤ 16777216 then .ok (.tup ds) else .st := by unfold tupD; rw [szl]
@[simp] theorem lstD_ap : lstD ga ρ = (ga ρ).bd fun ds => if ds.length ≤ 16777216 then .ok (.lst ds) else .st := by unfold lstD; rw [szl]
@[simp] theorem okD_ok : okD (.ok d) = .ok d := by_def rfl
@[simp] theorem okD_st : okD .st = .st := by_def rfl
@[simp] theorem op2_ap {fd : D → D → Rs D} : op2 fd f g ρ = (f ρ).bd fun x => (g ρ).bd fun y => okD (fd x y) := by_def rfl
@[simp] theorem op1_ap {fd : D → Rs D} : op1 fd f ρ = (f ρ).bd fun x => okD (fd x) := by_def rfl
@[simp] theorem opA_ap {fd : List D → Rs D} : opA fd ga ρ = (ga ρ).bd fun x => okD (fd x) := by_def rfl
@[simp] theorem callD_ap {F : List D → Rs D} : callD F ga ρ = (ga ρ).bd F := by_def rfl
def andR (d : D) (r : Rs D) : Rs D := match d with
  | .bl true => r
  | .bl false => .ok (.bl false)
  | _ => .st
def orR (d : D) (r : Rs D) : Rs D := match d with
  | .bl false => r
  | .bl true => .ok (.bl true)
  | _ => .st
@[simp] theorem andR_bl {b : Bool} {r : Rs D} : andR (.bl b) r = if b = true then r else .ok (.bl false) := by cases b <;> rfl
@[simp] theorem orR_bl {b : Bool} {r : Rs D} : orR (.bl b) r = if b = true then .ok (.bl true) else r := by cases b <;> rfl
@[simp] theorem andD_ap : andD f g ρ = (f ρ).bd fun d => andR d (g ρ) := by_def rfl
@[simp] theorem orD_ap : orD f g ρ = (f ρ).bd fun d => orR d (g ρ) := by_def rfl
@[simp] theorem notD_bl {b : Bool} : notD (.bl b) = .ok (.bl (!b)) := by_def rfl
@[simp] theorem ifD_ap : ifD fb f g ρ = (fb ρ).bd fun k => if k = true then f ρ else g ρ := by_def rfl
def chR (d : D) (r : Rs D) : Rs D := match d with
  | .bl true => r
  | .bl false => .ok (.bl false)
  | _ => .st
@[simp] theorem chR_bl {b : Bool} {r : Rs D} : chR (.bl b) r = if b = true then r else .ok (.bl false) := by cases b <;> rfl
@[simp] theorem chD_ap {fd fd' : D → D → Rs D} {h : En → Rs D} : chD fd fd' f g h ρ = (f ρ).bd fun x => (g ρ).bd fun y => (okD (fd x y)).bd fun z => chR z ((h ρ).bd fun w => okD (fd' y w)) := by_def rfl
@[simp] theorem truD_bl {b : Bool} : truD (.bl b) = .ok b := by_def rfl
@[simp] theorem truD_int {n : Int} : truD (.int n) = .ok (n != 0) := by_def rfl
@[simp] theorem truD_tup {l : List D} : truD (.tup l) = .ok (!l.isEmpty) := by_def rfl
@[simp] theorem truD_lst {l : List D} : truD (.lst l) = .ok (!l.isEmpty) := by_def rfl
@[simp] theorem truD_non : truD .non = .ok false := by_def rfl
@[simp] theorem blD_bl {b : Bool} : blD (.bl b) = .ok b := by_def rfl
@[simp] theorem tst_ap : tst f ρ = (f ρ).bd truD := by_def rfl
@[simp] theorem tsb_ap : tsb f ρ = (f ρ).bd blD := by_def rfl
@[simp] theorem andT_ap : andT fb gb ρ = (fb ρ).bd fun k => if k = true then gb ρ else .ok false := by_def rfl
@[simp] theorem orT_ap : orT fb gb ρ = (fb ρ).bd fun k => if k = true then .ok true else gb ρ := by_def rfl
@[simp] theorem notT_ap : notT fb ρ = (fb ρ).bd fun k => .ok (!k) := by_def rfl
@[simp] theorem seqS_ap : seqS u v ρ = (u ρ).sq v := by_def rfl
@[simp] theorem retS_ap : retS f ρ = (f ρ).bo .rt := by_def rfl
@[simp] theorem dropS_ap : dropS f ρ = (f ρ).bo fun _ => .nx ρ := by_def rfl
@[simp] theorem ifS_ap : ifS fb u v ρ = (fb ρ).bo fun k => if k = true then u ρ else v ρ := by_def rfl
@[simp] theorem setS_ap : setS i f ρ = (f ρ).bo fun d => .nx (ρ.set i (.sh d)) := by_def rfl
@[simp] theorem setN_ap : setN i f ρ = (f ρ).bo fun d => .nx (ρ.set i (.nw d)) := by_def rfl
@[simp] theorem setO_ap : setO i f ρ = (f ρ).bo fun d => .nx (ρ.set i (.ow d)) := by_def rfl
def zSet (ρ : En) (i : Nat) : D → Ou
  | .lst ds => .nx (ρ.set i (.oz (.lst ds)))
  | _ => .st
@[simp] theorem zSet_l (ρ : En) (i : Nat) (ds : List D) : zSet ρ i (.lst ds) = .nx (ρ.set i (.oz (.lst ds))) := by_def rfl
@[simp] theorem setZ_ap : setZ i f ρ = (f ρ).bo (zSet ρ i) := by
  unfold setZ; congr 1
@[simp] theorem gnm_ap : gnm i d ρ = .ok (ρ.set i (.sh d)) := by_def rfl
@[simp] theorem gnil_nil : gnil [] ρ = .ok ρ := by_def rfl
@[simp] theorem gcons_cons {a : D → En → Rs En} {b : List D → En → Rs En} {ds : List D} : gcons a b (d :: ds) ρ = (a d ρ).bd (b ds) := by_def rfl
@[simp] theorem gtup_tup {n : Nat} {b : List D → En → Rs En} {ds : List D} : gtup n b (.tup ds) ρ = if ds.length = n then b ds ρ else .st := by_def rfl
def nxO (r : Rs En) : Ou := match r with
  | .ok ρ => .nx ρ
  | _ => .st
@[simp] theorem nxO_ok : nxO (.ok ρ) = .nx ρ := by_def rfl
@[simp] theorem asgS_ap {a : D → En → Rs En} : asgS f a ρ = (f ρ).bo fun d => nxO (a d ρ) := by_def rfl
@[simp] theorem itD_tup {l : List D} : itD (.tup l) = .ok l := by_def rfl
@[simp] theorem itD_lst {l : List D} : itD (.lst l) = .ok l := by_def rfl
@[simp] theorem itD_scr {l : List Int} : itD (.scr l) = .ok (l.map .int) := by_def rfl
@[simp] theorem itrD_ap : itrD f ρ = (f ρ).bd itD := by_def rfl
@[simp] theorem forS_ap {a : D → En → Rs En} : forS ga a u ρ = (ga ρ).bo fun ds => forL a u ds ρ := by_def rfl
@[simp] theorem forL_nil {a : D → En → Rs En} : forL a u [] ρ = .nx ρ := by_def rfl
/-- what goes on behind a turn -/
def Ou.tn (o : Ou) (k : En → Ou) : Ou := match o with
  | .nx ρ2 => k ρ2
  | .ct ρ2 => k ρ2
  | .bk ρ2 => .nx ρ2
  | o => o
@[simp] theorem tn_nx {k : En → Ou} : (Ou.nx ρ).tn k = k ρ := by_def rfl
@[simp] theorem tn_ct {k : En → Ou} : (Ou.ct ρ).tn k = k ρ := by_def rfl
@[simp] theorem tn_bk {k : En → Ou} : (Ou.bk ρ).tn k = .nx ρ := by_def rfl
@[simp] theorem tn_rt {k : En → Ou} : (Ou.rt d).tn k = .rt d := by_def rfl
@[simp] theorem tn_ex {k : En → Ou} {c : Str} : (Ou.ex c).tn k = .ex c := by_def rfl
@[simp] theorem tn_st {k : En → Ou} : Ou.st.tn k = .st := by_def rfl
def okE (r : Rs En) (k : En → Ou) : Ou := match r with
  | .ok ρ => k ρ
  | _ => .st
@[simp] theorem okE_ok {k : En → Ou} : okE (.ok ρ) k = k ρ := by_def rfl
theorem forL_cons {a : D → En → Rs En} {ds : List D} : forL a u (d :: ds) ρ = okE (a d ρ) fun ρ1 => (u ρ1).tn (forL a u ds) := by
  unfold forL
  cases a d ρ with
  | ok ρ1 => simp only [okE_ok]; cases u ρ1 <;> rfl
  | ex c => rfl
  | st => rfl
@[simp] theorem oNone_ap : oNone ρ = .ok none := by_def rfl
@[simp] theorem oSome_ap : oSome f ρ = (f ρ).bd fun d => match d with
  | .int i => .ok (some i)
  | _ => .st := by_def rfl
@[simp] theorem sliceD_ap {a b : En → Rs (Option Int)} : sliceD f a b ρ = (f ρ).bd fun d => (a ρ).bd fun l => (b ρ).bd fun h => okD (slD d l h) := by_def rfl
@[simp] theorem slD_tup {l : List D} {a b : Option Int} : slD (.tup l) a b = .ok (.tup (cutD l a b)) := by_def rfl
@[simp] theorem slD_lst {l : List D} {a b : Option Int} : slD (.lst l) a b = .ok (.lst (cutD l a b)) := by_def rfl
@[simp] theorem revD_tup {l : List D} : revD (.tup l) = .ok (.tup l.reverse) := by_def rfl
@[simp] theorem immD_ap : immD f ρ = (f ρ).bd gImm := by_def rfl
@[simp] theorem frzS_ap : frzS i u ρ = u (frz i ρ) := by_def rfl
@[simp] theorem rngA_ap {r : List D → Rs (List D)} : rngA r ga ρ = (ga ρ).bd r := by_def rfl
@[simp] theorem raiseS_ap {x : Str} : raiseS x ga ρ = (ga ρ).bo fun ds => if ds.length ≤ 16777216 then .ex x else .st := by unfold raiseS; rw [szl]
@[simp] theorem yesT_ap : yesT ρ = .ok true := by_def rfl
end
section
variable {d e : D} {i j : Int} {l m : List D}
theorem gImm_of (h : imm d = true) : gImm d = .ok d := by unfold gImm; rw [if_pos h]
@[simp] theorem gImm_int : gImm (.int i) = .ok (.int i) := by_def rfl
@[simp] theorem gImm_bl {b : Bool} : gImm (.bl b) = .ok (.bl b) := by_def rfl
@[simp] theorem gImm_non : gImm .non = .ok .non := by_def rfl
@[simp] theorem gImm_str {x : Str} : gImm (.str x) = .ok (.str x) := by_def rfl
@[simp] theorem gImm_scr {x : List Int} : gImm (.scr x) = .ok (.scr x) := by_def rfl
@[simp] theorem addD_int : addD (.int i) (.int j) = .ok (.int (i + j)) := by_def rfl
@[simp] theorem addD_lst : addD (.lst l) (.lst m) = if l.length + m.length ≤ 16777216 then .ok (.lst (l ++ m)) else .st := by unfold addD; rw [szl]
@[simp] theorem addD_tup : addD (.tup l) (.tup m) = if l.length + m.length ≤ 16777216 then .ok (.tup (l ++ m)) else .st := by unfold addD; rw [szl]
@[simp] theorem subD_int : subD (.int i) (.int j) = .ok (.int (i - j)) := by_def rfl
theorem fdivD_int (h0 : 0 < j) (h1 : j < 1073741824) : fdivD (.int i) (.int j) = .ok (.int (i / j)) := by unfold fdivD i2; dsimp only; rw [if_pos (by simp [h0, h1])]
theorem modD_int (h0 : 0 < j) : modD (.int i) (.int j) = .ok (.int (i % j)) := by unfold modD i2; dsimp only; rw [if_pos (by simp [h0])]
theorem mulD_l (h0 : -(2 ^ 64) < i) (h1 : i < 2 ^ 64) : mulD (.int i) (.int j) = .ok (.int (i * j)) := by unfold mulD; dsimp only; rw [if_pos (by simp only [Bool.or_eq_true, Bool.and_eq_true, decide_eq_true_eq]; exact .inl ⟨h0, h1⟩)]
theorem mulD_r (h0 : -(2 ^ 64) < j) (h1 : j < 2 ^ 64) : mulD (.int i) (.int j) = .ok (.int (i * j)) := by unfold mulD; dsimp only; rw [if_pos (by simp only [Bool.or_eq_true, Bool.and_eq_true, decide_eq_true_eq]; exact .inr ⟨h0, h1⟩)]
@[simp] theorem negD_int : negD (.int i) = .ok (.int (-i)) := by_def rfl
@[simp] theorem ltD_int : ltD (.int i) (.int j) = .ok (.bl (decide (i < j))) := by_def rfl
@[simp] theorem leD_int : leD (.int i) (.int j) = .ok (.bl (decide (i ≤ j))) := by_def rfl
@[simp] theorem gtD_int : gtD (.int i) (.int j) = .ok (.bl (decide (j < i))) := by_def rfl
@[simp] theorem geD_int : geD (.int i) (.int j) = .ok (.bl (decide (j ≤ i))) := by_def rfl
theorem ltD_tup (ns ms : List Int) : ltD (.tup (ns.map .int)) (.tup (ms.map .int)) = .ok (.bl (HT.lexLt ns ms)) := by
  unfold ltD ltT i2
  simp only [intsOf_map]
theorem leD_tup (ns ms : List Int) : leD (.tup (ns.map .int)) (.tup (ms.map .int)) = .ok (.bl (HT.lexLe ns ms)) := by
  unfold leD ltT i2
  simp only [intsOf_map]
@[simp] theorem lenD_tup : lenD [.tup l] = .ok (.int l.length) := by_def rfl
@[simp] theorem lenD_lst : lenD [.lst l] = .ok (.int l.length) := by_def rfl
@[simp] theorem lenD_scr {x : List Int} : lenD [.scr x] = .ok (.int x.length) := by_def rfl
@[simp] theorem tupleD_lst : tupleD [.lst l] = .ok (.tup l) := by_def rfl
@[simp] theorem tupleD_tup : tupleD [.tup l] = .ok (.tup l) := by_def rfl
@[simp] theorem listD_lst : listD [.lst l] = .ok (.lst l) := by_def rfl
@[simp] theorem listD_tup : listD [.tup l] = .ok (.lst l) := by_def rfl
@[simp] theorem mmD_int {f : Int → Int → Int} : mmD f [.int i, .int j] = .ok (.int (f i j)) := by_def rfl
@[simp] theorem ixD_tup : ixD (.tup l) (.int i) = atD l i := by_def rfl
@[simp] theorem ixD_lst : ixD (.lst l) (.int i) = atD l i := by_def rfl
@[simp] theorem ixD_scr {x : List Int} : ixD (.scr x) (.int i) = atD (x.map .int) i := by_def rfl
theorem atD_nat {k : Nat} (h : l[k]? = some d) : atD l (k : Int) = .ok d := by
  have hk := (List.getElem?_eq_some_iff.mp h).1
  unfold atD atI ixN
  rw [if_pos (by omega), if_pos (by omega)]
  simp [h]
theorem atD_in (h0 : 0 ≤ i) (h1 : i < l.length) : ∃ d, atD l i = .ok d ∧ d ∈ l ∧ l[i.toNat]? = some d := by
  have hk : i.toNat < l.length := by omega
  have e := List.getElem?_eq_getElem hk
  refine ⟨_, ?_, List.getElem_mem hk, e⟩
  have := atD_nat e
  rwa [Int.toNat_of_nonneg h0] at this
@[simp] theorem atD_0 {r : List D} : atD (d :: r) 0 = .ok d := atD_nat (k := 0) rfl
@[simp] theorem atD_1 {r : List D} : atD (d :: e :: r) 1 = .ok e := atD_nat (k := 1) rfl
@[simp] theorem eqR_int {n : Bool} : eqR n (.int i) (.int j) = .ok (.bl (if n then !(i == j) else i == j)) := by_def rfl
@[simp] theorem eqR_bl {n a b : Bool} : eqR n (.bl a) (.bl b) = .ok (.bl (if n then !(a == b) else a == b)) := by_def rfl
@[simp] theorem isD_bl {a b : Bool} : isD false (.bl a) (.bl b) = .ok (.bl (a == b)) := by_def rfl
/-- things that isinstance knows -/
def knd : D → Bool
  | .set _ => false
  | .scr _ => false
  | _ => true
theorem isiD_eq {T : String} (hT : T ∈ ["bool", "int", "str", "list", "tuple", "dict"]) (h : knd d = true) : isiD T d = .ok (.bl (isiT (tyD d) T)) := by
  have ht : tyD d ∈ ["NoneType", "bool", "int", "str", "list", "tuple", "dict"] := by cases d <;> simp_all [tyD, knd]
  unfold isiD isiOk
  cases e : isiT (tyD d) T <;> simp [ht, hT]
def isIntB : D → Bool
  | .int _ => true
  | .bl _ => true
  | _ => false
def isBlB : D → Bool
  | .bl _ => true
  | _ => false
def isTupB : D → Bool
  | .tup _ => true
  | _ => false
theorem isi_int (h : knd d = true) : isiD "int" d = .ok (.bl (isIntB d)) := by
  rw [isiD_eq (by simp) h]
  cases d <;> first | rfl | (simp [knd] at h)
theorem isi_bool (h : knd d = true) : isiD "bool" d = .ok (.bl (isBlB d)) := by
  rw [isiD_eq (by simp) h]
  cases d <;> first | rfl | (simp [knd] at h)
theorem isi_tuple (h : knd d = true) : isiD "tuple" d = .ok (.bl (isTupB d)) := by
  rw [isiD_eq (by simp) h]
  cases d <;> first | rfl | (simp [knd] at h)
@[simp] theorem isi_tuple_tup : isiD "tuple" (.tup l) = .ok (.bl true) := isi_tuple rfl
@[simp] theorem isi_tuple_lst : isiD "tuple" (.lst l) = .ok (.bl false) := isi_tuple rfl
@[simp] theorem isi_tuple_int : isiD "tuple" (.int i) = .ok (.bl false) := isi_tuple rfl
@[simp] theorem isi_tuple_non : isiD "tuple" .non = .ok (.bl false) := isi_tuple rfl
@[simp] theorem isi_int_int : isiD "int" (.int i) = .ok (.bl true) := isi_int rfl
@[simp] theorem isi_bool_int : isiD "bool" (.int i) = .ok (.bl false) := isi_bool rfl
@[simp] theorem isi_bool_bl {b : Bool} : isiD "bool" (.bl b) = .ok (.bl true) := isi_bool rfl
end
@[simp] theorem runD_ap {n : Nat} {u : En → Ou} {ds : List D} : runD n u ds = match u (startE n ds) with
  | .nx _ => .ok .non
  | .rt d => .ok d
  | .ex c => .ex c
  | _ => .st := by_def rfl
theorem rng1_ok {j : Int} (h0 : -(2 ^ 62) ≤ j) (h1 : j < 2 ^ 62) : rng1 [.int j] = .ok (rngD 0 j) := by unfold rng1; dsimp only; rw [if_pos ⟨h0, h1⟩]
theorem rng2_ok {i j : Int} (h0 : -(2 ^ 62) ≤ i) (h1 : i < 2 ^ 62) (h2 : -(2 ^ 62) ≤ j) (h3 : j < 2 ^ 62) : rng2 [.int i, .int j] = .ok (rngD i j) := by unfold rng2; dsimp only; rw [if_pos ⟨⟨h0, h1⟩, h2, h3⟩]
theorem mem_rngD {lo hi : Int} {d : D} : d ∈ rngD lo hi ↔ ∃ k : Int, d = .int k ∧ lo ≤ k ∧ k < hi := by
  unfold rngD
  rw [List.mem_map]
  constructor
  · rintro ⟨n, hn, rfl⟩
    have := List.mem_range.mp hn
    exact ⟨lo + n, rfl, by omega, by omega⟩
  · rintro ⟨k, rfl, h1, h2⟩
    exact ⟨(k - lo).toNat, List.mem_range.mpr (by omega), by congr 1; omega⟩
/-- a loop by its invariant: I i holds ahead of turn i -/
theorem forL_inv {a : D → En → Rs En} {u : En → Ou} {ds : List D} (I : Nat → En → Prop) (hs : ∀ (i : Nat) d ρ, ds[i]? = some d → I i ρ → ∃ ρ2, okE (a d ρ) (fun ρ1 => u ρ1) = .nx ρ2 ∧ I (i + 1) ρ2) {ρ : En} (h0 : I 0 ρ) : ∃ ρ', forL a u ds ρ = .nx ρ' ∧ I ds.length ρ' := by
  have go : ∀ (n : Nat) (ρ : En), n ≤ ds.length → I (ds.length - n) ρ → ∃ ρ', forL a u (ds.drop (ds.length - n)) ρ = .nx ρ' ∧ I ds.length ρ' := by
    intro n
    induction n with
    | zero => intro ρ _ h; exact ⟨ρ, by rw [Nat.sub_zero, List.drop_length]; rfl, h⟩
    | succ n ih =>
      intro ρ hn h
      have hlt : ds.length - (n + 1) < ds.length := by omega
      rw [List.drop_eq_getElem_cons hlt, forL_cons]
      obtain ⟨ρ2, e, h2⟩ := hs _ _ ρ (List.getElem?_eq_getElem hlt) h
      rw [show ds.length - (n + 1) + 1 = ds.length - n by omega] at h2 ⊢
      cases ea : a ds[ds.length - (n + 1)] ρ with
      | ok ρ1 =>
        rw [ea] at e
        simp only [okE_ok] at e ⊢
        rw [e, tn_nx]
        exact ih ρ2 (by omega) h2
      | ex c => rw [ea] at e; cases e
      | st => rw [ea] at e; cases e
  have := go ds.length ρ (Nat.le_refl _) (by rw [Nat.sub_self]; exact h0)
  rwa [Nat.sub_self, List.drop_zero] at this
end VL

set_option Elab.async false
set_option linter.all false
set_option maxRecDepth 100000
set_option maxHeartbeats 4000000
namespace VL.My
open PySem L2
def k_ONE : D := (.tup [(.str "one")])
/-- is_put_together(thing): names 0:thing, owners [], new [] -/
def d_is_put_together : En → Ou :=
    (seqS (ifS (orT (notT (tst (op1 (isiD "tuple") (varS 0)))) (orT (tsb (op2 (eqR true) (opA lenD (consA (varS 0) nilA)) (cD (.int 2)))) (tsb (op2 (inR true) (op2 ixD (varS 0) (cD (.int 0))) (tupD (consA (cD (.str "beside")) (consA (cD (.str "across")) nilA)))))))
      (retS (cD (.bl false)))
      Ou.nx)
    (retS (andD (op1 (isiD "tuple") (op2 ixD (varS 0) (cD (.int 1)))) (op2 geD (opA lenD (consA (op2 ixD (varS 0) (cD (.int 1))) nilA)) (cD (.int 2))))))
def F_is_put_together : List D → Rs D := runD 1 d_is_put_together
/-- _law_cell_at(_law_script, _law_k): names 0:_law_script 1:_law_k, owners [], new [] -/
def d_law_cell_at : En → Ou :=
    (seqS (ifS (tsb (op2 ltD (varS 1) (opA lenD (consA (varS 0) nilA))))
      (retS (op2 ixD (immD (varS 0)) (varS 1)))
      Ou.nx)
    (retS (cD (.int 0))))
def F_law_cell_at : List D → Rs D := runD 2 d_law_cell_at
/-- _law_draw(_law_cell, _law_k, _law_bound): names 0:_law_cell 1:_law_k 2:_law_bound 3:_law_left 4:_law_j 5:_law_stir, owners [], new [] -/
def d_law_draw : En → Ou :=
    (seqS (ifS (tsb (op2 geD (varS 0) (op2 powD (cD (.int 10)) (cD (.int 18)))))
      (seqS (setS 3 (varS 0))
      (seqS (forS (rngA rng1 (consA (varS 1) nilA)) (gnm 4)
        (seqS (ifS (tsb (op2 (eqR false) (varS 3) (cD (.int 0))))
          (retS (cD (.int 0)))
          Ou.nx)
        (setS 3 (op2 fdivD (varS 3) (varS 2)))))
      (retS (op2 modD (varS 3) (varS 2)))))
      Ou.nx)
    (seqS (setS 5 (op2 modD (op2 mulD (op2 addD (op2 addD (op2 modD (varS 0) (cD (.int 1000000007))) (op2 mulD (cD (.int 1009)) (varS 1))) (cD (.int 17))) (cD (.int 69621))) (cD (.int 2147483647))))
    (seqS (setS 5 (op2 modD (op2 addD (op2 addD (op2 mulD (varS 5) (varS 5)) (op2 mulD (cD (.int 40503)) (varS 1))) (cD (.int 5))) (cD (.int 2147483629))))
    (retS (op2 modD (op2 fdivD (op2 modD (op2 mulD (varS 5) (cD (.int 48271))) (cD (.int 2147483647))) (cD (.int 32))) (varS 2))))))
def F_law_draw : List D → Rs D := runD 6 d_law_draw
/-- is_plan(thing): names 0:thing 1:left 2:ones 3:here 4:deep, owners ['left'], new [] -/
def d_is_plan : En → Ou :=
    (seqS (setZ 1 (lstD (consA (tupD (consA (varS 0) (consA (cD (.int 1)) nilA))) nilA)))
    (seqS (setS 2 (cD (.int 0)))
    (seqS (whileS (tst (varD 1))
      (seqS (popZ 1 (gtup 2 (gcons (gnm 3) (gcons (gnm 4) gnil))))
      (seqS (ifS (tsb (op2 (eqR false) (varS 3) (cD k_ONE)))
        (augS (i2 (fun _ _ => true) fun a b => .int (a + b)) 2 (cD (.int 1)))
        (ifS (tst (callD F_is_put_together (consA (varS 3) nilA)))
          (extZ 1 (lcZ (itrD (op2 ixD (varS 3) (cD (.int 1)))) [none, some 4] (gnm 0) yesT (tupD (consA (varS 0) (consA (op2 addD (varS 1) (cD (.int 1))) nilA)))))
          (retS (cD (.bl false)))))
      (ifS (orT (tsb (op2 gtD (varS 2) (cD (.int 40)))) (tsb (op2 gtD (varS 4) (cD (.int 24)))))
        (retS (cD (.bl false)))
        Ou.nx))))
    (retS (cD (.bl true))))))
def F_is_plan : List D → Rs D := runD 5 d_is_plan
/-- _law_plan(_law_cell, _law_at, _law_many): names 0:_law_cell 1:_law_at 2:_law_many 3:_law_some 4:_law_turn 5:_law_wide 6:_law_first 7:_law_word, owners [], new ['_law_some', '_law_word'] -/
def d_law_plan : En → Ou :=
    (seqS (setN 3 (op2 mulD (lstD (consA (tupD (consA (cD (.str "one")) nilA)) nilA)) (immD (varS 2))))
    (seqS (forS (rngA rng1 (consA (varS 2) nilA)) (gnm 4)
      (ifS (tsb (op2 gtD (opA lenD (consA (varN 3) nilA)) (cD (.int 1))))
        (seqS (setS 5 (op2 addD (cD (.int 2)) (callD F_law_draw (consA (varS 0) (consA (op2 addD (varS 1) (op2 mulD (cD (.int 3)) (varS 4))) (consA (cD (.int 3)) nilA))))))
        (seqS (setS 6 (callD F_law_draw (consA (varS 0) (consA (op2 addD (op2 addD (varS 1) (op2 mulD (cD (.int 3)) (varS 4))) (cD (.int 1))) (consA (opA (mmD fun i j => if j > i then j else i) (consA (cD (.int 1)) (consA (op2 addD (op2 subD (opA lenD (consA (varN 3) nilA)) (varS 5)) (cD (.int 1))) nilA))) nilA)))))
        (seqS (setN 7 (op2 ixD (lstD (consA (cD (.str "beside")) (consA (cD (.str "across")) nilA))) (callD F_law_draw (consA (varS 0) (consA (op2 addD (op2 addD (varS 1) (op2 mulD (cD (.int 3)) (varS 4))) (cD (.int 2))) (consA (cD (.int 2)) nilA))))))
        (setN 3 (op2 addD (op2 addD (sliceD (varN 3) oNone (oSome (varS 6))) (lstD (consA (tupD (consA (varN 7) (consA (opA tupleD (consA (sliceD (varN 3) (oSome (varS 6)) (oSome (op2 addD (varS 6) (varS 5)))) nilA)) nilA))) nilA))) (sliceD (varN 3) (oSome (op2 addD (varS 6) (varS 5))) oNone))))))
        Ou.nx))
    (retS (op2 ixD (varN 3) (cD (.int 0))))))
def F_law_plan : List D → Rs D := runD 8 d_law_plan
/-- _law_deep(_law_cell, _law_many): names 0:_law_cell 1:_law_many 2:_law_found 3:_law_k 4:_law_word, owners [], new ['_law_found', '_law_word'] -/
def d_law_deep : En → Ou :=
    (seqS (setN 2 (tupD (consA (cD (.str "one")) nilA)))
    (seqS (forS (rngA rng1 (consA (op2 subD (varS 1) (cD (.int 1))) nilA)) (gnm 3)
      (seqS (setN 4 (op2 ixD (lstD (consA (cD (.str "beside")) (consA (cD (.str "across")) nilA))) (callD F_law_draw (consA (varS 0) (consA (op2 addD (cD (.int 8200)) (varS 3)) (consA (cD (.int 2)) nilA))))))
      (setN 2 (op2 ixD (lstD (consA (tupD (consA (varN 4) (consA (tupD (consA (varN 2) (consA (tupD (consA (cD (.str "one")) nilA)) nilA))) nilA))) (consA (tupD (consA (varN 4) (consA (tupD (consA (tupD (consA (cD (.str "one")) nilA)) (consA (varN 2) nilA))) nilA))) nilA))) (callD F_law_draw (consA (varS 0) (consA (op2 addD (cD (.int 8300)) (varS 3)) (consA (cD (.int 2)) nilA))))))))
    (retS (varN 2))))
def F_law_deep : List D → Rs D := runD 5 d_law_deep
/-- _law_looks_so(_law_thing), by itself: names 0:_law_thing 1:_law_some, owners [], new ['_law_some'] -/
def d_law_looks_so (R : List D → Rs D) : En → Ou :=
    (seqS (ifS (tsb (op2 (eqR false) (varS 0) (tupD (consA (cD (.str "one")) nilA))))
      (retS (tupD (consA (cD (.int 1)) (consA (cD (.int 1)) nilA))))
      Ou.nx)
    (seqS (ifS (orT (notT (tst (op1 (isiD "tuple") (varS 0)))) (orT (tsb (op2 (eqR true) (opA lenD (consA (varS 0) nilA)) (cD (.int 2)))) (tsb (op2 (inR true) (op2 ixD (varS 0) (cD (.int 0))) (lstD (consA (cD (.str "beside")) (consA (cD (.str "across")) nilA)))))))
      (retS (cD .non))
      Ou.nx)
    (seqS (ifS (orT (notT (tst (op1 (isiD "tuple") (op2 ixD (varS 0) (cD (.int 1)))))) (tsb (op2 ltD (opA lenD (consA (op2 ixD (varS 0) (cD (.int 1))) nilA)) (cD (.int 2)))))
      (retS (cD .non))
      Ou.nx)
    (seqS (setN 1 (lcD (itrD (op2 ixD (varS 0) (cD (.int 1)))) [none] (gnm 0) yesT (callD R (consA (varS 0) nilA))))
    (seqS (ifS (tsb (op2 (inR false) (cD .non) (varN 1)))
      (retS (cD .non))
      Ou.nx)
    (retS (tupD (consA (op2 addD (cD (.int 1)) (opA (numsD List.max?) (consA (lcD (itrD (varS 1)) [none] (gnm 0) yesT (op2 ixD (immD (varS 0)) (cD (.int 0)))) nilA))) (consA (opA (numsD fun ns => some ns.sum) (consA (lcD (itrD (varS 1)) [none] (gnm 0) yesT (op2 ixD (immD (varS 0)) (cD (.int 1)))) nilA)) nilA)))))))))
def R_law_looks_so : Nat → List D → Rs D
  | 0 => fun _ => .st
  | n + 1 => runD 2 (d_law_looks_so (R_law_looks_so n))
def F_law_looks_so : List D → Rs D := R_law_looks_so 64
/-- _law_is_plan(_law_thing): names 0:_law_thing 1:_law_found, owners [], new [] -/
def d_law_is_plan : En → Ou :=
    (seqS (setS 1 (callD F_law_looks_so (consA (varS 0) nilA)))
    (retS (andD (op2 (isD true) (varS 1) (cD .non)) (andD (op2 leD (op2 ixD (varS 1) (cD (.int 0))) (cD (.int 24))) (op2 leD (op2 ixD (varS 1) (cD (.int 1))) (cD (.int 40)))))))
def F_law_is_plan : List D → Rs D := runD 2 d_law_is_plan
/-- _law_bent(_law_cell, _law_at, _law_plan_here), by itself: names 0:_law_cell 1:_law_at 2:_law_plan_here 3:_law_k 4:_law_some, owners [], new ['_law_some'] -/
def d_law_bent (R : List D → Rs D) : En → Ou :=
    (seqS (ifS (andT (tsb (op2 (eqR false) (opA lenD (consA (varS 2) nilA)) (cD (.int 2)))) (tsb (op2 gtD (callD F_law_draw (consA (varS 0) (consA (varS 1) (consA (cD (.int 4)) nilA)))) (cD (.int 0)))))
      (seqS (setS 3 (callD F_law_draw (consA (varS 0) (consA (op2 addD (varS 1) (cD (.int 1))) (consA (opA lenD (consA (op2 ixD (varS 2) (cD (.int 1))) nilA)) nilA)))))
      (retS (tupD (consA (op2 ixD (immD (varS 2)) (cD (.int 0))) (consA (op2 addD (op2 addD (sliceD (op2 ixD (immD (varS 2)) (cD (.int 1))) oNone (oSome (varS 3))) (tupD (consA (callD R (consA (varS 0) (consA (op2 addD (varS 1) (cD (.int 2))) (consA (op2 ixD (op2 ixD (varS 2) (cD (.int 1))) (varS 3)) nilA)))) nilA))) (sliceD (op2 ixD (immD (varS 2)) (cD (.int 1))) (oSome (op2 addD (varS 3) (cD (.int 1)))) oNone)) nilA)))))
      Ou.nx)
    (seqS (setN 4 (lstD (consA (tupD (consA (cD (.str "two")) nilA)) (consA (lstD (consA (cD (.str "one")) nilA)) (consA (cD (.str "one")) (consA (tupD (consA (cD (.str "one")) (consA (tupD nilA) nilA))) (consA (cD .non) (consA (cD (.int 0)) (consA (tupD nilA) (consA (tupD (consA (cD (.str "One")) nilA)) (consA (tupD (consA (cD (.str "one")) (consA (cD (.str "one")) nilA))) (consA (tupD (consA (cD (.str "beside")) (consA (tupD (consA (tupD (consA (cD (.str "one")) nilA)) nilA)) nilA))) nilA))))))))))))
    (seqS (setN 4 (op2 addD (varN 4) (lstD (consA (tupD (consA (cD (.str "across")) (consA (lstD (consA (tupD (consA (cD (.str "one")) nilA)) (consA (tupD (consA (cD (.str "one")) nilA)) nilA))) nilA))) (consA (tupD (consA (cD (.str "along")) (consA (tupD (consA (tupD (consA (cD (.str "one")) nilA)) (consA (tupD (consA (cD (.str "one")) nilA)) nilA))) nilA))) (consA (tupD (consA (cD (.str "beside")) (consA (tupD nilA) (consA (tupD nilA) nilA)))) (consA (tupD (consA (tupD (consA (cD (.str "one")) nilA)) nilA)) nilA)))))))
    (seqS (setN 4 (op2 addD (varN 4) (lstD (consA (tupD (consA (cD (.str "beside")) (consA (tupD (consA (tupD (consA (cD (.str "one")) nilA)) (consA (tupD (consA (cD (.str "one")) nilA)) nilA))) nilA))) (consA (tupD (consA (cD (.bl true)) nilA)) (consA (tupD (consA (cD (.str "beside")) nilA)) (consA (tupD (consA (cD (.str "across")) (consA (tupD nilA) nilA))) (consA (tupD (consA (tupD (consA (cD (.str "one")) nilA)) (consA (cD (.str "across")) nilA))) nilA))))))))
    (retS (op2 ixD (varN 4) (callD F_law_draw (consA (varS 0) (consA (op2 addD (varS 1) (cD (.int 1))) (consA (cD (.int 19)) nilA))))))))))
def R_law_bent : Nat → List D → Rs D
  | 0 => fun _ => .st
  | n + 1 => runD 5 (d_law_bent (R_law_bent n))
def F_law_bent : List D → Rs D := R_law_bent 64
/-- law(_law_script): names 0:_law_script 1:_law_k 2:_law_cell 3:_law_plan_here 4:_law_other 5:_law_things 6:_law_thing 7:_law_found, owners ['_law_things'], new [] -/
def d_law : En → Ou :=
    (seqS (forS (rngA rng1 (consA (opA (mmD fun i j => if j > i then j else i) (consA (cD (.int 1)) (consA (opA (mmD fun i j => if j < i then j else i) (consA (opA lenD (consA (varS 0) nilA)) (consA (cD (.int 8)) nilA))) nilA))) nilA)) (gnm 1)
      (seqS (setS 2 (callD F_law_cell_at (consA (varS 0) (consA (varS 1) nilA))))
      (seqS (setS 3 (callD F_law_plan (consA (varS 2) (consA (cD (.int 5000)) (consA (op2 addD (cD (.int 1)) (callD F_law_draw (consA (varS 2) (consA (cD (.int 0)) (consA (cD (.int 24)) nilA))))) nilA)))))
      (seqS (setS 4 (callD F_law_plan (consA (varS 2) (consA (cD (.int 6000)) (consA (op2 addD (cD (.int 1)) (callD F_law_draw (consA (varS 2) (consA (cD (.int 1)) (consA (cD (.int 20)) nilA))))) nilA)))))
      (seqS (setO 5 (lstD (consA (immD (varS 3)) (consA (callD F_law_bent (consA (varS 2) (consA (cD (.int 7000)) (consA (varS 3) nilA)))) (consA (callD F_law_bent (consA (op2 addD (varS 2) (cD (.int 1))) (consA (cD (.int 7000)) (consA (varS 3) nilA)))) (consA (tupD (consA (cD (.str "across")) (consA (tupD (consA (immD (varS 3)) (consA (immD (varS 4)) nilA))) nilA))) nilA))))))
      (seqS (setO 5 (op2 addD (varO 5) (lstD (consA (tupD (consA (cD (.str "beside")) (consA (tupD (consA (immD (varS 4)) (consA (immD (varS 3)) nilA))) nilA))) (consA (callD F_law_deep (consA (varS 2) (consA (op2 addD (cD (.int 23)) (callD F_law_draw (consA (varS 2) (consA (cD (.int 8000)) (consA (cD (.int 4)) nilA))))) nilA))) nilA)))))
      (seqS (appS 5 (tupD (consA (cD (.str "across")) (consA (op2 mulT (tupD (consA (tupD (consA (cD (.str "one")) nilA)) nilA)) (op2 addD (cD (.int 39)) (callD F_law_draw (consA (varS 2) (consA (cD (.int 8001)) (consA (cD (.int 4)) nilA)))))) nilA))))
      (frzS 5 (forS (itrD (varS 5)) (gnm 6)
        (seqS (setS 7 (callD F_is_plan (consA (varS 6) nilA)))
        (ifS (orT (notT (tst (op1 (isiD "bool") (varS 7)))) (tsb (op2 (eqR true) (varS 7) (callD F_law_is_plan (consA (varS 6) nilA)))))
          (retS (cD (.bl false)))
          Ou.nx)))))))))))
    (retS (andD (op2 (isD false) (callD F_is_plan (consA (tupD (consA (cD (.str "one")) nilA)) nilA)) (cD (.bl true))) (op2 (isD false) (callD F_is_plan (consA (tupD (consA (cD (.str "across")) (consA (tupD (consA (tupD (consA (cD (.str "one")) nilA)) (consA (tupD (consA (cD (.str "one")) nilA)) nilA))) nilA))) nilA)) (cD (.bl true))))))
def F_law : List D → Rs D := runD 8 d_law
end VL.My

set_option Elab.async false
set_option linter.all false
set_option maxRecDepth 100000
set_option maxHeartbeats 4000000
namespace VL.My
open PySem L2
/-! ### plans, looked at plainly -/
theorem eqR_no {n : Bool} {d e : D} (h1 : depD d ≤ 60) (h2 : noDct d = true) (h3 : noDct e = true) : eqR n d e = .ok (.bl (if n then !eqD d e else eqD d e)) := by
  unfold eqR; rw [if_pos (by simp [h1, h2, h3])]
theorem inR_tup {n : Bool} {d : D} {es : List D} (h1 : depDs es ≤ 60) (h2 : noDct d = true) (h3 : noDcts es = true) : inR n d (.tup es) = .ok (.bl (if n then !inD d es else inD d es)) := by
  unfold inR; dsimp only; rw [if_pos (by simp [h1, h2, h3])]
theorem inR_lst {n : Bool} {d : D} {es : List D} (h1 : depDs es ≤ 60) (h2 : noDct d = true) (h3 : noDcts es = true) : inR n d (.lst es) = .ok (.bl (if n then !inD d es else inD d es)) := by
  unfold inR; dsimp only; rw [if_pos (by simp [h1, h2, h3])]
theorem knd_no {d : D} (h : noDct d = true) : knd d = true := by cases d <;> simp_all [noDct, knd]
/-- a word of a plan -/
def wordB : D → Bool
  | .str s => s == "beside" || s == "across"
  | _ => false
theorem in_word (d : D) : inD d [.str "beside", .str "across"] = wordB d := by
  unfold inD
  cases d with
  | str s => simp [eqD, wordB, BEq.comm]
  | _ => simp [eqD, wordB]
def putB : D → Bool
  | .tup [w, .tup ys] => wordB w && decide (2 ≤ ys.length)
  | _ => false
theorem put_eq {x : D} (h : noDct x = true) : F_is_put_together [x] = .ok (.bl (putB x)) := by
  cases x with
  | tup l =>
    match l, h with
    | [], h => simp [F_is_put_together, d_is_put_together, startE, putB]
    | [x], h => simp [F_is_put_together, d_is_put_together, startE, putB]
    | x :: y :: z :: r, h =>
      have e : ¬ ((r.length : Int) + 1 + 1 + 1 = 2) := by omega
      simp [F_is_put_together, d_is_put_together, startE, putB, e]
    | [w, y], h =>
      simp only [noDct, noDcts, Bool.and_eq_true] at h
      have hi : inR true w (.tup [.str "beside", .str "across"]) = .ok (.bl (!wordB w)) := by
        rw [inR_tup (by decide) h.1 rfl, in_word]; rfl
      cases c : wordB w with
      | false => 
        rw [c] at hi
        simp [F_is_put_together, d_is_put_together, startE, hi]
        cases y <;> simp [putB, c]
      | true =>
        rw [c] at hi
        simp [F_is_put_together, d_is_put_together, startE, hi, isi_tuple (knd_no h.2.1)]
        cases y with
        | tup ys => simp [isTupB, putB, c]; omega
        | _ => simp [isTupB, putB]
  | _ => simp [F_is_put_together, d_is_put_together, startE, isi_tuple (knd_no h), isTupB, putB]
def oneB (x : D) : Bool := eqD x k_ONE
theorem one_eq {x : D} (h : oneB x = true) : x = k_ONE := by
  unfold oneB k_ONE at h
  cases x with
  | tup l =>
    match l with
    | [] => simp [eqD, eqDs] at h
    | [a] =>
      cases a with
      | str s => simp [eqD, eqDs] at h; subst h; rfl
      | _ => simp [eqD, eqDs] at h
    | a :: b :: r => simp [eqD, eqDs] at h
  | _ => simp [eqD] at h
mutual
/-- how deep, and how many ones -/
def lk : D → Option (Nat × Nat)
  | .tup [.str s] => if s == "one" then some (1, 1) else none
  | .tup [.str w, .tup ys] => if (w == "beside" || w == "across") && decide (2 ≤ ys.length) then (lks ys).map fun q => (q.1 + 1, q.2) else none
  | _ => none
def lks : List D → Option (Nat × Nat)
  | [] => some (0, 0)
  | y :: ys => (lk y).bind fun p => (lks ys).map fun q => (max p.1 q.1, p.2 + q.2)
end
mutual
def nd : D → Nat
  | .tup l => nds l + 1
  | .lst l => nds l + 1
  | _ => 1
def nds : List D → Nat
  | [] => 0
  | y :: ys => nd y + nds ys
end
theorem nd_pos : ∀ x : D, 1 ≤ nd x := by
  intro x
  cases x <;> simp [nd]
theorem lk_one : lk k_ONE = some (1, 1) := by simp [k_ONE, lk]
theorem put_form {x : D} (h : putB x = true) : ∃ w ys, x = .tup [.str w, .tup ys] ∧ 2 ≤ ys.length ∧ lk x = (lks ys).map fun q => (q.1 + 1, q.2) := by
  cases x with
  | tup l =>
    match l with
    | [] => simp [putB] at h
    | [a] => simp [putB] at h
    | [a, b] =>
      cases b with
      | tup ys =>
        cases a with
        | str w =>
          simp [putB, wordB] at h
          exact ⟨w, ys, rfl, h.2, by simp [lk, h]⟩
        | _ => simp [putB, wordB] at h
      | _ => simp [putB] at h
    | a :: b :: c :: r => simp [putB] at h
  | _ => simp [putB] at h
theorem lk_none {x : D} (h1 : oneB x = false) (h2 : putB x = false) : lk x = none := by
  cases x with
  | tup l =>
    match l with
    | [] => simp [lk]
    | [a] =>
      cases a with
      | str s => simp [oneB, k_ONE, eqD, eqDs] at h1; simp [lk, h1]
      | _ => simp [lk]
    | [a, b] =>
      cases a with
      | str w =>
        cases b with
        | tup ys => simp [putB, wordB] at h2; simp [lk]; intro a b; have := h2 a; omega
        | _ => simp [lk]
      | _ => simp [lk]
    | a :: b :: c :: r => clear h1 h2; cases a <;> cases b <;> rfl
  | _ => simp [lk]
theorem lk_pos {x : D} {a b : Nat} (h : lk x = some (a, b)) : 1 ≤ a := by
  cases c1 : oneB x with
  | true => rw [one_eq c1, lk_one] at h; cases h; omega
  | false =>
    cases c2 : putB x with
    | false => rw [lk_none c1 c2] at h; cases h
    | true =>
      obtain ⟨w, ys, _, _, e⟩ := put_form c2
      rw [e] at h
      cases hl : lks ys with
      | none => rw [hl] at h; cases h
      | some q => rw [hl] at h; cases h; omega
/-! ### the stack of is_plan -/
def pr (p : D × Int) : D := .tup [p.1, .int p.2]
def tot : List (D × Int) → Option Nat
  | [] => some 0
  | p :: r => (lk p.1).bind fun q => if p.2 + (q.1 : Int) ≤ 25 then (tot r).map (· + q.2) else none
theorem tot_app (rs : List (D × Int)) : ∀ qs, tot (qs ++ rs) = (tot qs).bind fun a => (tot rs).map fun b => a + b
  | [] => by cases h : tot rs <;> simp [tot, h]
  | p :: r => by
    have ih := tot_app rs r
    simp only [List.cons_append, tot]
    cases lk p.1 with
    | none => rfl
    | some q =>
      simp only [Option.bind_some]
      by_cases c : p.2 + (q.1 : Int) ≤ 25
      · rw [if_pos c, if_pos c, ih]
        cases tot r with
        | none => rfl
        | some a =>
          cases tot rs with
          | none => rfl
          | some b => simp; omega
      · rw [if_neg c, if_neg c]; rfl
theorem tot_lks {e : Int} (he : e ≤ 25) : ∀ ys : List D, tot (ys.map fun y => (y, e)) = (lks ys).bind fun q => if e + (q.1 : Int) ≤ 25 then some q.2 else none
  | [] => by simp [tot, lks, he]
  | y :: ys => by
    have ih := tot_lks he ys
    simp only [List.map_cons, tot, lks]
    cases hy : lk y with
    | none => rfl
    | some p =>
      obtain ⟨a, b⟩ := p
      simp only [Option.bind_some]
      rw [ih]
      cases hl : lks ys with
      | none => simp
      | some q =>
        obtain ⟨c, d⟩ := q
        simp only [Option.bind_some, Option.map_some]
        by_cases h1 : e + (a : Int) ≤ 25
        · rw [if_pos h1]
          by_cases h2 : e + (c : Int) ≤ 25
          · rw [if_pos h2, if_pos (by omega)]; simp; omega
          · rw [if_neg h2, if_neg (by omega)]; rfl
        · rw [if_neg h1, if_neg (by omega)]
theorem nd_put {w : Str} {ys : List D} : nd (.tup [.str w, .tup ys]) = nds ys + 3 := by simp [nd, nds]; omega
def nst : List (D × Int) → Nat
  | [] => 0
  | p :: r => nd p.1 + nst r
theorem nst_app (rs : List (D × Int)) : ∀ qs, nst (qs ++ rs) = nst qs + nst rs
  | [] => by simp [nst]
  | p :: r => by simp [nst, nst_app rs r]; omega
theorem nst_map (e : Int) : ∀ ys : List D, nst (ys.map fun y => (y, e)) = nds ys
  | [] => rfl
  | y :: ys => by simp [nst, nds, nst_map e ys]
theorem len_nds : ∀ ys : List D, ys.length ≤ nds ys
  | [] => by simp
  | y :: ys => by have := len_nds ys; have := nd_pos y; simp [nds]; omega
theorem len_nst : ∀ ys : List (D × Int), ys.length ≤ nst ys
  | [] => by simp
  | y :: ys => by have := len_nst ys; have := nd_pos y.1; simp [nst]; omega
/-- what may be looked at -/
def Sm (x : D) : Prop := noDct x = true ∧ depD x ≤ 60
theorem sm_in : ∀ {ys : List D} {y : D}, y ∈ ys → noDcts ys = true → noDct y = true ∧ depD y ≤ depDs ys
  | z :: ys, y, h, n => by
    simp only [noDcts, Bool.and_eq_true] at n
    simp only [depDs]
    rcases List.mem_cons.mp h with rfl | h
    · exact ⟨n.1, Nat.le_max_left _ _⟩
    · have := sm_in h n.2
      exact ⟨this.1, Nat.le_trans this.2 (Nat.le_max_right _ _)⟩
theorem sm_put {w : Str} {ys : List D} (h : Sm (.tup [.str w, .tup ys])) : ∀ y ∈ ys, Sm y := by
  intro y hy
  obtain ⟨h1, h2⟩ := h
  simp only [noDct, noDcts, Bool.and_eq_true, depD, depDs] at h1 h2
  have := sm_in hy h1.2.1
  exact ⟨this.1, by omega⟩
def cW : En → Rs Bool := tst (varD 1)
def uW : En → Ou := (seqS (popZ 1 (gtup 2 (gcons (gnm 3) (gcons (gnm 4) gnil))))
      (seqS (ifS (tsb (op2 (eqR false) (varS 3) (cD k_ONE)))
        (augS (i2 (fun _ _ => true) fun a b => .int (a + b)) 2 (cD (.int 1)))
        (ifS (tst (callD F_is_put_together (consA (varS 3) nilA)))
          (extZ 1 (lcZ (itrD (op2 ixD (varS 3) (cD (.int 1)))) [none, some 4] (gnm 0) yesT (tupD (consA (varS 0) (consA (op2 addD (varS 1) (cD (.int 1))) nilA)))))
          (retS (cD (.bl false)))))
      (ifS (orT (tsb (op2 gtD (varS 2) (cD (.int 40)))) (tsb (op2 gtD (varS 4) (cD (.int 24)))))
        (retS (cD (.bl false)))
        Ou.nx)))
theorem lcL_push (e : Int) : ∀ ys : List D, lcL [.no, .sh (.int e)] (gnm 0) yesT (tupD (consA (varS 0) (consA (op2 addD (varS 1) (cD (.int 1))) nilA))) ys = .ok (ys.map fun y => pr (y, e + 1))
  | [] => rfl
  | y :: ys => by
    rw [lcL]
    simp [lcL_push e ys, pr]
/-- one turn -/
theorem turn {x0 : D} {qs : List (D × Int)} {p : D × Int} {ones : Int} {s3 s4 : Slot} (hs : Sm p.1) (hn : nst qs + nd p.1 < 100000) (h40 : ones ≤ 40) :
    (oneB p.1 = true ∧ ones + 1 ≤ 40 ∧ p.2 ≤ 24 ∧ uW [.sh x0, .oz (.lst ((qs ++ [p]).map pr)), .sh (.int ones), s3, s4] = .nx [.sh x0, .oz (.lst (qs.map pr)), .sh (.int (ones + 1)), .sh p.1, .sh (.int p.2)]) ∨
    (∃ w ys, p.1 = .tup [.str w, .tup ys] ∧ lk p.1 = ((lks ys).map fun q => (q.1 + 1, q.2)) ∧ p.2 ≤ 24 ∧ uW [.sh x0, .oz (.lst ((qs ++ [p]).map pr)), .sh (.int ones), s3, s4] = .nx [.sh x0, .oz (.lst ((qs ++ ys.map fun y => (y, p.2 + 1)).map pr)), .sh (.int ones), .sh p.1, .sh (.int p.2)]) ∨
    (uW [.sh x0, .oz (.lst ((qs ++ [p]).map pr)), .sh (.int ones), s3, s4] = .rt (.bl false) ∧ (lk p.1 = none ∨ 24 < p.2 ∨ oneB p.1 = true ∧ 40 < ones + 1)) := by
  obtain ⟨x, e⟩ := p
  have hpop : popZ 1 (gtup 2 (gcons (gnm 3) (gcons (gnm 4) gnil))) [.sh x0, .oz (.lst ((qs ++ [(x, e)]).map pr)), .sh (.int ones), s3, s4] = .nx [.sh x0, .oz (.lst (qs.map pr)), .sh (.int ones), .sh x, .sh (.int e)] := by
    simp [popZ, popL, pr]
  have heq := eqR_no (n := false) (e := k_ONE) hs.2 hs.1 rfl
  have hput := put_eq hs.1
  dsimp only at hs hn heq hput ⊢
  cases c1 : oneB x with
  | true =>
    have c1' : eqD x k_ONE = true := c1
    by_cases hA : ones + 1 ≤ 40 ∧ e ≤ 24
    · refine .inl ⟨rfl, hA.1, hA.2, ?_⟩
      have a1 : ¬ (40 < ones + 1) := by omega
      have a2 : ¬ (24 < e) := by omega
      unfold uW; rw [seqS_ap, hpop, sq_nx]; simp [heq, c1', augS, i2, a1, a2]
    · refine .inr (.inr ⟨?_, ?_⟩)
      · by_cases a1 : 40 < ones + 1
        · unfold uW; rw [seqS_ap, hpop, sq_nx]; simp [heq, c1', augS, i2, a1]
        · have a2 : 24 < e := by omega
          unfold uW; rw [seqS_ap, hpop, sq_nx]; simp [heq, c1', augS, i2, a1, a2]
      · by_cases a1 : 40 < ones + 1
        · exact .inr (.inr ⟨rfl, a1⟩)
        · exact .inr (.inl (by show 24 < e; omega))
  | false =>
    have c1' : eqD x k_ONE = false := c1
    cases c2 : putB x with
    | false =>
      refine .inr (.inr ⟨?_, .inl (lk_none c1 c2)⟩)
      unfold uW; rw [seqS_ap, hpop, sq_nx]; simp [heq, c1', hput, c2]
    | true =>
      obtain ⟨w, ys, rfl, h2, hl⟩ := put_form c2
      have hz : qs.length + ys.length ≤ 16777216 := by
        have h1 := len_nst qs
        have h3 := len_nds ys
        have h4 : nd (.tup [.str w, .tup ys]) = nds ys + 3 := nd_put
        omega
      have hz2 : ys.length < 16777216 := by
        have h3 := len_nds ys
        have h4 : nd (.tup [.str w, .tup ys]) = nds ys + 3 := nd_put
        omega
      have hlc : lcZ (itrD (op2 ixD (varS 3) (cD (.int 1)))) [none, some 4] (gnm 0) yesT (tupD (consA (varS 0) (consA (op2 addD (varS 1) (cD (.int 1))) nilA))) [.sh x0, .oz (.lst (qs.map pr)), .sh (.int ones), .sh (.tup [.str w, .tup ys]), .sh (.int e)] = .ok (.lst (ys.map fun y => pr (y, e + 1))) := by
        have := lcL_push e ys
        simp [lcZ, puE, puS, stE, hz2, this]
      by_cases a2 : 24 < e
      · refine .inr (.inr ⟨?_, .inr (.inl a2)⟩)
        have a1 : ¬ (40 < ones) := by omega
        unfold uW; rw [seqS_ap, hpop, sq_nx]; simp [heq, c1', hput, c2, extZ, hlc, extL, hz, a1, a2]
      · refine .inr (.inl ⟨w, ys, rfl, hl, by show e ≤ 24; omega, ?_⟩)
        have a1 : ¬ (40 < ones) := by omega
        unfold uW; rw [seqS_ap, hpop, sq_nx]; simp [heq, c1', hput, c2, extZ, hlc, extL, hz, a1, a2]
theorem tot1 (p : D × Int) : tot [p] = (lk p.1).bind fun q => if p.2 + (q.1 : Int) ≤ 25 then some q.2 else none := by
  simp only [tot]
  cases lk p.1 with
  | none => rfl
  | some q =>
    simp only [Option.bind_some]
    by_cases h : p.2 + (q.1 : Int) ≤ 25
    · rw [if_pos h, if_pos h]; simp
    · rw [if_neg h, if_neg h]
def Gd (ps : List (D × Int)) (ones : Int) : Prop := ∃ t : Nat, tot ps = some t ∧ ones + t ≤ 40
theorem loop {x0 : D} : ∀ (n : Nat) (ps : List (D × Int)) (ones : Int) (s3 s4 : Slot), nst ps < n → nst ps < 100000 → (∀ p ∈ ps, Sm p.1) → ones ≤ 40 →
    (Gd ps ones ∧ ∃ ρ', itW cW uW n [.sh x0, .oz (.lst (ps.map pr)), .sh (.int ones), s3, s4] = .nx ρ') ∨ (¬ Gd ps ones ∧ itW cW uW n [.sh x0, .oz (.lst (ps.map pr)), .sh (.int ones), s3, s4] = .rt (.bl false))
  | 0, ps, ones, s3, s4, h, _, _, _ => absurd h (Nat.not_lt_zero _)
  | n + 1, ps, ones, s3, s4, h, h5, hS, h40 => by
    rcases List.eq_nil_or_concat ps with rfl | ⟨qs, p, rfl⟩
    · refine .inl ⟨⟨0, rfl, by simpa using h40⟩, [.sh x0, .oz (.lst []), .sh (.int ones), s3, s4], ?_⟩
      rw [itW]
      simp [cW]
    · rw [List.concat_eq_append] at *
      have hc : cW [.sh x0, .oz (.lst ((qs ++ [p]).map pr)), .sh (.int ones), s3, s4] = .ok true := by simp [cW]
      have hn := nst_app [p] qs
      have hnp : nst [p] = nd p.1 := by simp [nst]
      have hp := nd_pos p.1
      have ht := tot_app [p] qs
      have hq : ∀ q ∈ qs, Sm q.1 := fun q hq => hS q (List.mem_append_left _ hq)
      rw [itW, hc]
      simp only [bo_ok, if_true]
      rcases turn (x0 := x0) (qs := qs) (s3 := s3) (s4 := s4) (hS p (by simp)) (by omega) h40 with ⟨c1, a1, a2, e⟩ | ⟨w, ys, ep, el, a2, e⟩ | ⟨e, c⟩
      · rw [e]
        have ih := loop (x0 := x0) n qs (ones + 1) (.sh p.1) (.sh (.int p.2)) (by omega) (by omega) hq a1
        have h1 : tot [p] = some 1 := by
          rw [tot1, one_eq c1, lk_one]
          simp only [Option.bind_some]
          rw [if_pos (by omega)]
        have hiff : Gd (qs ++ [p]) ones ↔ Gd qs (ones + 1) := by
          unfold Gd
          rw [ht, h1]
          cases tot qs with
          | none => simp
          | some a => simp; omega
        rcases ih with ⟨g, ρ', e2⟩ | ⟨g, e2⟩
        · exact .inl ⟨hiff.mpr g, ρ', e2⟩
        · exact .inr ⟨fun z => g (hiff.mp z), e2⟩
      · rw [e]
        have hsz : nd p.1 = nds ys + 3 := by rw [ep]; exact nd_put
        have hn2 := nst_app (ys.map fun y => (y, p.2 + 1)) qs
        rw [nst_map] at hn2
        have hS2 : ∀ q ∈ qs ++ ys.map (fun y => (y, p.2 + 1)), Sm q.1 := by
          intro q hq2
          rcases List.mem_append.mp hq2 with z | z
          · exact hq q z
          · obtain ⟨y, hy, rfl⟩ := List.mem_map.mp z
            have := hS p (by simp)
            rw [ep] at this
            exact sm_put this y hy
        have ih := loop (x0 := x0) n (qs ++ ys.map fun y => (y, p.2 + 1)) ones (.sh p.1) (.sh (.int p.2)) (by omega) (by omega) hS2 h40
        have h1 : tot [p] = tot (ys.map fun y => (y, p.2 + 1)) := by
          rw [tot1, tot_lks (by omega), el]
          cases lks ys with
          | none => rfl
          | some q =>
            simp only [Option.map_some, Option.bind_some]
            by_cases z : p.2 + 1 + (q.1 : Int) ≤ 25
            · rw [if_pos z, if_pos (by simp; omega)]
            · rw [if_neg z, if_neg (by simp; omega)]
        have hiff : Gd (qs ++ [p]) ones ↔ Gd (qs ++ ys.map fun y => (y, p.2 + 1)) ones := by
          unfold Gd
          rw [ht, h1, ← tot_app]
        rcases ih with ⟨g, ρ', e2⟩ | ⟨g, e2⟩
        · exact .inl ⟨hiff.mpr g, ρ', e2⟩
        · exact .inr ⟨fun z => g (hiff.mp z), e2⟩
      · rw [e]
        refine .inr ⟨?_, rfl⟩
        rintro ⟨t, h1, h2⟩
        rw [ht] at h1
        rcases c with c | c | ⟨c, c'⟩
        · rw [tot1, c] at h1
          cases hq2 : tot qs <;> simp [hq2] at h1
        · have : tot [p] = none := by
            rw [tot1]
            cases hl : lk p.1 with
            | none => rfl
            | some q =>
              have := lk_pos (a := q.1) (b := q.2) hl
              simp only [Option.bind_some]
              rw [if_neg (by omega)]
          rw [this] at h1
          cases hq2 : tot qs <;> simp [hq2] at h1
        · rw [tot1, one_eq c, lk_one] at h1
          cases hq2 : tot qs with
          | none => simp [hq2] at h1
          | some a =>
            rw [hq2] at h1
            simp only [Option.bind_some] at h1
            split at h1
            · simp at h1; omega
            · simp at h1
def planB (x : D) : Bool := match lk x with
  | some q => decide (q.1 ≤ 24) && decide (q.2 ≤ 40)
  | none => false
theorem plan_eq {x : D} (hs : Sm x) (hn : nd x < 90000) : F_is_plan [x] = .ok (.bl (planB x)) := by
  have hl := loop (x0 := x) fuel [(x, 1)] 0 .no .no (by simp [nst, fuel]; omega) (by simp [nst]; omega) (by simpa using hs) (by omega)
  have hg : Gd [(x, 1)] 0 ↔ planB x = true := by
    unfold Gd planB
    rw [tot1]
    cases lk x with
    | none => simp
    | some q =>
      simp only [Option.bind_some]
      by_cases z : (1 : Int) + (q.1 : Int) ≤ 25
      · rw [if_pos z]; simp; omega
      · rw [if_neg z]; simp; omega
  have h1 : whileS cW uW [.sh x, .oz (.lst [pr (x, 1)]), .sh (.int 0), .no, .no] = itW cW uW fuel [.sh x, .oz (.lst ([(x, (1 : Int))].map pr)), .sh (.int 0), .no, .no] := rfl
  have hd : d_is_plan = seqS (setZ 1 (lstD (consA (tupD (consA (varS 0) (consA (cD (.int 1)) nilA))) nilA))) (seqS (setS 2 (cD (.int 0))) (seqS (whileS cW uW) (retS (cD (.bl true))))) := rfl
  rcases hl with ⟨g, ρ', e⟩ | ⟨g, e⟩
  · have e' : whileS cW uW [.sh x, .oz (.lst [.tup [x, .int 1]]), .sh (.int 0), .no, .no] = .nx ρ' := e
    simp [F_is_plan, hd, startE, e', hg.mp g]
  · have e' : whileS cW uW [.sh x, .oz (.lst [.tup [x, .int 1]]), .sh (.int 0), .no, .no] = .rt (.bl false) := e
    have : planB x = false := by
      cases c : planB x with
      | false => rfl
      | true => exact absurd (hg.mpr c) g
    simp [F_is_plan, hd, startE, e', this]
end VL.My

set_option Elab.async false
set_option linter.all false
set_option maxRecDepth 100000
set_option maxHeartbeats 4000000
namespace VL.My
open PySem L2
/-! ### the law's own look -/
def tD (q : Nat × Nat) : D := .tup [.int q.1, .int q.2]
def ans (x : D) : D := match lk x with
  | some q => tD q
  | none => .non
def mx : List (Nat × Nat) → Nat
  | [] => 0
  | q :: r => max q.1 (mx r)
def sm : List (Nat × Nat) → Nat
  | [] => 0
  | q :: r => q.2 + sm r
theorem lks_some : ∀ {ys : List D} {q : Nat × Nat}, lks ys = some q → ∃ ps : List (Nat × Nat), ys.map ans = ps.map tD ∧ ps.length = ys.length ∧ q = (mx ps, sm ps)
  | [], q, h => by simp [lks] at h; exact ⟨[], rfl, rfl, h.symm⟩
  | y :: ys, q, h => by
    simp only [lks] at h
    cases hy : lk y with
    | none => rw [hy] at h; cases h
    | some p =>
      rw [hy] at h
      simp only [Option.bind_some] at h
      cases hl : lks ys with
      | none => rw [hl] at h; cases h
      | some z =>
        rw [hl] at h
        simp only [Option.map_some, Option.some.injEq] at h
        obtain ⟨ps, e1, e2, e3⟩ := lks_some hl
        refine ⟨p :: ps, ?_, by simp [e2], ?_⟩
        · rw [List.map_cons, List.map_cons, e1]
          simp [ans, hy]
        · rw [← h, e3]; rfl
theorem lks_none : ∀ {ys : List D}, lks ys = none → ∃ y ∈ ys, lk y = none
  | [], h => by simp [lks] at h
  | y :: ys, h => by
    simp only [lks] at h
    cases hy : lk y with
    | none => exact ⟨y, by simp, hy⟩
    | some p =>
      rw [hy] at h
      simp only [Option.bind_some] at h
      cases hl : lks ys with
      | none => obtain ⟨z, hz, e⟩ := lks_none hl; exact ⟨z, List.mem_cons_of_mem _ hz, e⟩
      | some z => rw [hl] at h; cases h
theorem le_mx : ∀ {ps : List (Nat × Nat)} {q}, q ∈ ps → q.1 ≤ mx ps
  | p :: r, q, h => by
    simp only [mx]
    rcases List.mem_cons.mp h with rfl | h
    · omega
    · have := le_mx h; omega
theorem mx_mem : ∀ {ps : List (Nat × Nat)}, ps ≠ [] → ∃ q ∈ ps, q.1 = mx ps
  | [p], _ => ⟨p, by simp, by simp [mx]⟩
  | p :: q :: r, _ => by
    obtain ⟨z, hz, e⟩ := mx_mem (ps := q :: r) (by simp)
    by_cases c : p.1 ≤ mx (q :: r)
    · exact ⟨z, List.mem_cons_of_mem _ hz, by rw [e]; show _ = max p.1 (mx (q :: r)); omega⟩
    · exact ⟨p, by simp, by show p.1 = max p.1 (mx (q :: r)); omega⟩
theorem mx_max {ps : List (Nat × Nat)} (h : ps ≠ []) : (ps.map fun q => ((q.1 : Nat) : Int)).max? = some (mx ps : Int) := by
  rw [List.max?_eq_some_iff]
  constructor
  · obtain ⟨q, hq, e⟩ := mx_mem h
    exact List.mem_map.mpr ⟨q, hq, by rw [e]⟩
  · intro b hb
    obtain ⟨q, hq, rfl⟩ := List.mem_map.mp hb
    have := le_mx hq
    omega
theorem sm_sum : ∀ ps : List (Nat × Nat), (ps.map fun q => ((q.2 : Nat) : Int)).sum = (sm ps : Int)
  | [] => rfl
  | q :: r => by simp [sm, sm_sum r]
theorem lcD_of {fi : En → Rs (List D)} {js : List (Option Nat)} {fg : D → En → Rs En} {ft : En → Rs Bool} {fe : En → Rs D} {ρ : En} {ds l : List D} (h1 : fi (shE ρ) = .ok ds) (h2 : ds.length < 16777216) (h3 : lcL (stE js (shE ρ)) fg ft fe ds = .ok l) : lcD fi js fg ft fe ρ = .ok (.lst l) := by
  unfold lcD
  rw [h1, bd_ok, if_pos (by rw [szl]; exact h2), h3]
theorem lcL_call {R : List D → Rs D} : ∀ {ys : List D}, (∀ y ∈ ys, R [y] = .ok (ans y)) → lcL [.no] (gnm 0) yesT (callD R (consA (varS 0) nilA)) ys = .ok (ys.map ans)
  | [], _ => rfl
  | y :: ys, h => by
    rw [lcL]
    have ih := lcL_call (ys := ys) fun z hz => h z (List.mem_cons_of_mem _ hz)
    simp [h y (by simp), ih]
theorem imm_tD (q : Nat × Nat) : imm (tD q) = true := rfl
theorem lcL_fst : ∀ (ps : List (Nat × Nat)), lcL [.no] (gnm 0) yesT (op2 ixD (immD (varS 0)) (cD (.int 0))) (ps.map tD) = .ok ((ps.map fun q => ((q.1 : Nat) : Int)).map D.int)
  | [] => rfl
  | q :: r => by
    rw [List.map_cons, lcL]
    simp only [gnm_ap, bd_ok, yesT_ap, if_true, lcL_fst r]
    have hg : gImm (.tup [.int q.1, .int q.2]) = .ok (.tup [.int q.1, .int q.2]) := gImm_of rfl
    simp [hg, tD]
theorem lcL_snd : ∀ (ps : List (Nat × Nat)), lcL [.no] (gnm 0) yesT (op2 ixD (immD (varS 0)) (cD (.int 1))) (ps.map tD) = .ok ((ps.map fun q => ((q.2 : Nat) : Int)).map D.int)
  | [] => rfl
  | q :: r => by
    rw [List.map_cons, lcL]
    simp only [gnm_ap, bd_ok, yesT_ap, if_true, lcL_snd r]
    have hg : gImm (.tup [.int q.1, .int q.2]) = .ok (.tup [.int q.1, .int q.2]) := gImm_of rfl
    simp [hg, tD]
theorem numsD_map {f : List Int → Option Int} {ns : List Int} {m : Int} (h : f ns = some m) : numsD f [.lst (ns.map .int)] = .ok (.int m) := by
  unfold numsD
  dsimp only
  rw [intsOf_map]
  dsimp only
  rw [h]
theorem ans_dep : ∀ ys : List D, depDs (ys.map ans) ≤ 1 ∧ noDcts (ys.map ans) = true
  | [] => ⟨by simp [depDs], rfl⟩
  | y :: ys => by
    have ih := ans_dep ys
    simp only [List.map_cons, depDs, noDcts]
    cases h : lk y with
    | none => simp [ans, h, depD, noDct, ih]
    | some q => simp [ans, h, tD, depD, depDs, noDct, noDcts, ih]
theorem in_none (ys : List D) : inD .non (ys.map ans) = true ↔ ∃ y ∈ ys, lk y = none := by
  unfold inD
  rw [List.any_eq_true]
  constructor
  · rintro ⟨e, he, h⟩
    obtain ⟨y, hy, rfl⟩ := List.mem_map.mp he
    refine ⟨y, hy, ?_⟩
    cases hl : lk y with
    | none => rfl
    | some q => simp [ans, hl, tD, eqD] at h
  · rintro ⟨y, hy, h⟩
    exact ⟨ans y, List.mem_map_of_mem hy, by simp [ans, h, eqD]⟩
theorem looks_eq : ∀ (n : Nat) (x : D), Sm x → depD x < n → nd x < 90000 → R_law_looks_so n [x] = .ok (ans x)
  | 0, x, _, h, _ => absurd h (Nat.not_lt_zero _)
  | n + 1, x, hs, hd, hn => by
    have heq : eqR false x (.tup [.str "one"]) = .ok (.bl (oneB x)) := eqR_no (n := false) (e := k_ONE) hs.2 hs.1 rfl
    cases c1 : oneB x with
    | true =>
      rw [c1] at heq
      have ea : ans x = .tup [.int 1, .int 1] := by rw [one_eq c1]; simp [ans, lk_one, tD]
      rw [ea]
      simp [R_law_looks_so, d_law_looks_so, startE, heq]
    | false =>
      rw [c1] at heq
      cases c2 : putB x with
      | false =>
        have ea : ans x = .non := by simp [ans, lk_none c1 c2]
        rw [ea]
        cases x with
        | tup l =>
          match l, hs, c2, heq with
          | [], hs, c2, heq => simp [R_law_looks_so, d_law_looks_so, startE, heq]
          | [x], hs, c2, heq => simp [R_law_looks_so, d_law_looks_so, startE, heq]
          | x :: y :: z :: r, hs, c2, heq =>
            have e : ¬ ((r.length : Int) + 1 + 1 + 1 = 2) := by omega
            simp [R_law_looks_so, d_law_looks_so, startE, heq, e]
          | [w, y], hs, c2, heq =>
            obtain ⟨h, _⟩ := hs
            simp only [noDct, noDcts, Bool.and_eq_true] at h
            have hi : inR true w (.lst [.str "beside", .str "across"]) = .ok (.bl (!wordB w)) := by
              rw [inR_lst (by decide) h.1 rfl, in_word]; rfl
            cases c : wordB w with
            | false =>
              rw [c] at hi
              simp [R_law_looks_so, d_law_looks_so, startE, heq, hi]
            | true =>
              rw [c] at hi
              cases y with
              | tup ys =>
                have hl : (ys.length : Int) < 2 := by simp [putB, c] at c2; omega
                simp [R_law_looks_so, d_law_looks_so, startE, heq, hi, hl]
              | _ => simp [R_law_looks_so, d_law_looks_so, startE, heq, hi, isi_tuple (knd_no h.2.1), isTupB]
        | _ => simp [R_law_looks_so, d_law_looks_so, startE, heq, isi_tuple (knd_no hs.1), isTupB]
      | true =>
        obtain ⟨w, ys, rfl, h2, hl⟩ := put_form c2
        have hw : wordB (.str w) = true := by simp [putB] at c2; exact c2.1
        have hi : inR true (.str w) (.lst [.str "beside", .str "across"]) = .ok (.bl false) := by
          rw [inR_lst (by decide) rfl rfl, in_word, hw]; rfl
        have hsy := sm_put hs
        have h4 : nd (.tup [.str w, .tup ys]) = nds ys + 3 := nd_put
        have h3 := len_nds ys
        have hz : ys.length < 16777216 := by omega
        have hrec : ∀ y ∈ ys, R_law_looks_so n [y] = .ok (ans y) := by
          intro y hy
          have hdy : depD y + 2 ≤ depD (.tup [.str w, .tup ys]) := by
            have h1 := hs.1
            simp only [noDct, noDcts, Bool.and_eq_true] at h1
            have := (sm_in hy h1.2.1).2
            simp only [depD, depDs]
            omega
          have hny : nd y ≤ nds ys := by
            clear hn h3 h4 hz hl h2 hi hw c2 heq c1 hs hd hsy hdy
            induction ys with
            | nil => cases hy
            | cons z zs ih =>
              simp only [nds]
              rcases List.mem_cons.mp hy with rfl | hy
              · omega
              · have := ih hy; omega
          exact looks_eq n y (hsy y hy) (by omega) (by omega)
        have hl2 : ¬ ((ys.length : Int) < 2) := by omega
        have e1 : lcD (itrD (op2 ixD (varS 0) (cD (.int 1)))) [none] (gnm 0) yesT (callD (R_law_looks_so n) (consA (varS 0) nilA)) [.sh (.tup [.str w, .tup ys]), .no] = .ok (.lst (ys.map ans)) :=
          lcD_of (ds := ys) (by simp [shE, toSh]) hz (lcL_call hrec)
        have had := ans_dep ys
        have e2 : inR false .non (.lst (ys.map ans)) = .ok (.bl (inD .non (ys.map ans))) := by
          rw [inR_lst (by omega) rfl had.2]; rfl
        cases hk : lks ys with
        | none =>
          have e3 := (in_none ys).mpr (lks_none hk)
          rw [e3] at e2
          have ea : ans (.tup [.str w, .tup ys]) = .non := by simp [ans, hl, hk]
          rw [ea]
          simp [R_law_looks_so, d_law_looks_so, startE, heq, hi, hl2, e1, e2]
        | some q =>
          obtain ⟨ps, p1, p2, p3⟩ := lks_some hk
          have e3 : inD .non (ys.map ans) = false := by
            rw [p1]
            unfold inD
            rw [List.any_eq_false]
            intro e he
            obtain ⟨z, _, rfl⟩ := List.mem_map.mp he
            simp [tD, eqD]
          rw [e3] at e2
          have hne : ps ≠ [] := by rintro rfl; simp at p2; omega
          have ea : ans (.tup [.str w, .tup ys]) = tD (mx ps + 1, sm ps) := by simp [ans, hl, hk, p3]
          have f1 : lcD (itrD (varS 1)) [none] (gnm 0) yesT (op2 ixD (immD (varS 0)) (cD (.int 0))) [.sh (.tup [.str w, .tup ys]), .nw (.lst (ys.map ans))] = .ok (.lst ((ps.map fun q => ((q.1 : Nat) : Int)).map D.int)) :=
            lcD_of (ds := ps.map tD) (by simp [shE, toSh, p1]) (by simp; omega) (lcL_fst ps)
          have f2 : lcD (itrD (varS 1)) [none] (gnm 0) yesT (op2 ixD (immD (varS 0)) (cD (.int 1))) [.sh (.tup [.str w, .tup ys]), .nw (.lst (ys.map ans))] = .ok (.lst ((ps.map fun q => ((q.2 : Nat) : Int)).map D.int)) :=
            lcD_of (ds := ps.map tD) (by simp [shE, toSh, p1]) (by simp; omega) (lcL_snd ps)
          have g1 := numsD_map (f := List.max?) (mx_max hne)
          have g2 := numsD_map (f := fun ns => some ns.sum) (ns := ps.map fun q => ((q.2 : Nat) : Int)) (m := sm ps) (by rw [sm_sum])
          rw [ea]
          simp [-List.map_map, R_law_looks_so, d_law_looks_so, startE, heq, hi, hl2, e1, e2, f1, f2, g1, g2, tD]
          omega
theorem law_plan_eq {x : D} (hs : Sm x) (hn : nd x < 90000) : F_law_is_plan [x] = .ok (.bl (planB x)) := by
  have h : F_law_looks_so [x] = .ok (ans x) := looks_eq 64 x hs (by have := hs.2; omega) hn
  unfold planB
  cases hk : lk x with
  | none =>
    have ea : ans x = .non := by simp [ans, hk]
    rw [ea] at h
    have hi : isD true .non .non = .ok (.bl false) := rfl
    simp [F_law_is_plan, d_law_is_plan, startE, h, hi]
  | some q =>
    have ea : ans x = .tup [.int q.1, .int q.2] := by simp [ans, hk, tD]
    rw [ea] at h
    have hi : isD true (.tup [.int q.1, .int q.2]) .non = .ok (.bl true) := rfl
    simp [F_law_is_plan, d_law_is_plan, startE, h, hi]
    by_cases c : q.1 ≤ 24
    · have c' : (q.1 : Int) ≤ 24 := by omega
      simp [c, c']
      omega
    · have c' : ¬ (q.1 : Int) ≤ 24 := by omega
      simp [c, c']
end VL.My

set_option Elab.async false
set_option linter.all false
set_option maxRecDepth 100000
set_option maxHeartbeats 4000000
namespace VL.My
open PySem L2
/-! ### draws -/
theorem draw_loop {b : Int} (hb : 0 < b) (hb2 : b < 1073741824) {c : Int} {k : Int} : ∀ (ds : List D) (x : Int) (s : Slot), (∀ d ∈ ds, ∃ n : Int, d = .int n) → 
    (∃ y s', forL (gnm 4) (seqS (ifS (tsb (op2 (eqR false) (varS 3) (cD (.int 0)))) (retS (cD (.int 0))) Ou.nx) (setS 3 (op2 fdivD (varS 3) (varS 2)))) ds [.sh (.int c), .sh (.int k), .sh (.int b), .sh (.int x), s, .no] = .nx [.sh (.int c), .sh (.int k), .sh (.int b), .sh (.int y), s', .no]) ∨
    forL (gnm 4) (seqS (ifS (tsb (op2 (eqR false) (varS 3) (cD (.int 0)))) (retS (cD (.int 0))) Ou.nx) (setS 3 (op2 fdivD (varS 3) (varS 2)))) ds [.sh (.int c), .sh (.int k), .sh (.int b), .sh (.int x), s, .no] = .rt (.int 0)
  | [], x, s, _ => .inl ⟨x, s, rfl⟩
  | d :: ds, x, s, h => by
    have ih := draw_loop hb hb2 (c := c) (k := k) ds (x / b) (.sh d) fun e he => h e (List.mem_cons_of_mem _ he)
    rw [forL_cons]
    by_cases hx : x = 0
    · subst hx
      right
      simp
    · simp [hx, fdivD_int hb hb2]
      exact ih
theorem draw_ok {c k b : Int} (hk0 : 0 ≤ k) (hk1 : k < 2 ^ 40) (hb : 0 < b) (hb2 : b < 1073741824) : ∃ r : Int, F_law_draw [.int c, .int k, .int b] = .ok (.int r) ∧ 0 ≤ r ∧ r < b := by
  have hp : powD (.int 10) (.int 18) = .ok (.int 1000000000000000000) := rfl
  by_cases hc : (1000000000000000000 : Int) ≤ c
  · have hr := rng1_ok (j := k) (by omega) (by omega)
    have hl := draw_loop hb hb2 (c := c) (k := k) (rngD 0 k) c .no fun d hd => let ⟨n, e, _⟩ := mem_rngD.mp hd; ⟨n, e⟩
    rcases hl with ⟨y, s', e⟩ | e
    · refine ⟨y % b, ?_, Int.emod_nonneg _ (by omega), Int.emod_lt_of_pos _ hb⟩
      simp [F_law_draw, d_law_draw, startE, hp, hc, hr, e, modD_int hb]
    · refine ⟨0, ?_, by omega, hb⟩
      simp [F_law_draw, d_law_draw, startE, hp, hc, hr, e]
  · have s1 : ∀ z : Int, 0 ≤ z % 2147483647 ∧ z % 2147483647 < 2147483647 := fun z => ⟨Int.emod_nonneg _ (by decide), Int.emod_lt_of_pos _ (by decide)⟩
    have s2 : ∀ z : Int, 0 ≤ z % 2147483629 ∧ z % 2147483629 < 2147483629 := fun z => ⟨Int.emod_nonneg _ (by decide), Int.emod_lt_of_pos _ (by decide)⟩
    have m1 : ∀ z, mulD (.int 1009) (.int z) = .ok (.int (1009 * z)) := fun z => mulD_l (by decide) (by decide)
    have m2 : ∀ z, mulD (.int z) (.int 69621) = .ok (.int (z * 69621)) := fun z => mulD_r (by decide) (by decide)
    have m3 : ∀ z, mulD (.int 40503) (.int z) = .ok (.int (40503 * z)) := fun z => mulD_l (by decide) (by decide)
    have m4 : ∀ z, mulD (.int z) (.int 48271) = .ok (.int (z * 48271)) := fun z => mulD_r (by decide) (by decide)
    have m5 : ∀ z : Int, mulD (.int (z % 2147483647)) (.int (z % 2147483647)) = .ok (.int (z % 2147483647 * (z % 2147483647))) := fun z => mulD_l (by have := s1 z; omega) (by have := s1 z; omega)
    have d1 : ∀ z, modD (.int z) (.int 1000000007) = .ok (.int (z % 1000000007)) := fun z => modD_int (by decide)
    have d2 : ∀ z, modD (.int z) (.int 2147483647) = .ok (.int (z % 2147483647)) := fun z => modD_int (by decide)
    have d3 : ∀ z, modD (.int z) (.int 2147483629) = .ok (.int (z % 2147483629)) := fun z => modD_int (by decide)
    have d4 : ∀ z, fdivD (.int z) (.int 32) = .ok (.int (z / 32)) := fun z => fdivD_int (by decide) (by decide)
    have d5 : ∀ z, modD (.int z) (.int b) = .ok (.int (z % b)) := fun z => modD_int hb
    simp [F_law_draw, d_law_draw, startE, hp, hc, m1, m2, m3, m4, m5, d1, d2, d3, d4, d5, -Int.emod_emod_of_dvd]
    exact ⟨Int.emod_nonneg _ (by omega), Int.emod_lt_of_pos _ hb⟩
theorem draw_in {c k b : Int} (hk0 : 0 ≤ k) (hk1 : k < 2 ^ 40) (hb : 0 < b) (hb2 : b < 1073741824) : ∃ r : Nat, F_law_draw [.int c, .int k, .int b] = .ok (.int r) ∧ (r : Int) < b := by
  obtain ⟨r, e, h0, h1⟩ := draw_ok (c := c) hk0 hk1 hb hb2
  exact ⟨r.toNat, by rw [Int.toNat_of_nonneg h0]; exact e, by omega⟩
/-- a web as it is drawn -/
theorem cell_ok {ns : List Int} {k : Int} (h : 0 ≤ k) : ∃ c : Int, F_law_cell_at [.scr ns, .int k] = .ok (.int c) := by
  by_cases hk : k < ns.length
  · obtain ⟨d, e, hm, _⟩ := atD_in (l := ns.map .int) (i := k) h (by simpa using hk)
    obtain ⟨c, _, rfl⟩ := List.mem_map.mp hm
    exact ⟨c, by simp [F_law_cell_at, d_law_cell_at, startE, hk, e]⟩
  · exact ⟨0, by simp [F_law_cell_at, d_law_cell_at, startE, hk]⟩
end VL.My

set_option Elab.async false
set_option linter.all false
set_option maxRecDepth 100000
set_option maxHeartbeats 4000000
namespace VL.My
open PySem L2
/-! ### drawn plans -/
theorem cut_to (l : List D) (f : Nat) : cutD l none (some (f : Int)) = l.take f := by
  unfold cutD
  rw [HT.sIx_nat, HT.sIx_none, List.drop_zero, Nat.sub_zero]
  by_cases h : f ≤ l.length
  · rw [Nat.min_eq_left h]
  · rw [Nat.min_eq_right (by omega), List.take_of_length_le (Nat.le_refl _), List.take_of_length_le (by omega)]
theorem cut_from (l : List D) (f : Nat) : cutD l (some (f : Int)) none = l.drop f := by
  unfold cutD
  rw [HT.sIx_nat, HT.sIx_none]
  by_cases h : f ≤ l.length
  · rw [Nat.min_eq_left h, List.take_of_length_le (by simp)]
  · rw [Nat.min_eq_right (by omega), List.drop_of_length_le (by omega : l.length ≤ f)]
    simp
theorem cut_mid (l : List D) (f w : Nat) (h : f ≤ l.length) : cutD l (some (f : Int)) (some ((f + w : Nat) : Int)) = (l.drop f).take w := by
  unfold cutD
  rw [HT.sIx_nat, HT.sIx_nat, Nat.min_eq_left h]
  by_cases h2 : f + w ≤ l.length
  · rw [Nat.min_eq_left h2, Nat.add_sub_cancel_left]
  · rw [Nat.min_eq_right (by omega), List.take_of_length_le (by simp), List.take_of_length_le (by simp; omega)]
mutual
/-- the form of a plan -/
def plB : D → Bool
  | .tup [.str _] => true
  | .tup [.str _, .tup ys] => !ys.isEmpty && plBs ys
  | _ => false
def plBs : List D → Bool
  | [] => true
  | y :: ys => plB y && plBs ys
end
theorem plBs_app : ∀ (l m : List D), plBs (l ++ m) = (plBs l && plBs m)
  | [], m => by simp [plBs]
  | y :: l, m => by simp [plBs, plBs_app l m, Bool.and_assoc]
theorem nds_app : ∀ (l m : List D), nds (l ++ m) = nds l + nds m
  | [], m => by simp [nds]
  | y :: l, m => by simp [nds, nds_app l m]; omega
theorem dep_app : ∀ (l m : List D), depDs (l ++ m) = max (depDs l) (depDs m)
  | [], m => by simp [depDs]
  | y :: l, m => by simp [depDs, dep_app l m, Nat.max_assoc]
theorem noD_app : ∀ (l m : List D), noDcts (l ++ m) = (noDcts l && noDcts m)
  | [], m => by simp [noDcts]
  | y :: l, m => by simp [noDcts, noD_app l m, Bool.and_assoc]
theorem pl_form {x : D} (h : plB x = true) : (∃ s, x = .tup [.str s]) ∨ ∃ w ys, x = .tup [.str w, .tup ys] ∧ ys ≠ [] ∧ plBs ys = true := by
  cases x with
  | tup l =>
    match l with
    | [] => simp [plB] at h
    | [a] =>
      cases a with
      | str s => exact .inl ⟨s, rfl⟩
      | _ => simp [plB] at h
    | [a, b] =>
      cases a with
      | str w =>
        cases b with
        | tup ys =>
          simp [plB] at h
          exact .inr ⟨w, ys, rfl, by simpa using h.1, h.2⟩
        | _ => simp [plB] at h
      | _ => simp [plB] at h
    | a :: b :: c :: r => exfalso; revert h; cases a <;> cases b <;> intro h <;> cases h
  | _ => simp [plB] at h
mutual
theorem pl_imm : ∀ (x : D), plB x = true → imm x = true ∧ noDct x = true
  | .tup [.str s], _ => ⟨rfl, rfl⟩
  | .tup [.str w, .tup ys], h => by
    simp only [plB, Bool.and_eq_true] at h
    have := pls_imm ys h.2
    exact ⟨by simp [imm, imms, this.1], by simp [noDct, noDcts, this.2]⟩
  | .non, h => by simp [plB] at h
  | .bl _, h => by simp [plB] at h
  | .int _, h => by simp [plB] at h
  | .str _, h => by simp [plB] at h
  | .lst _, h => by simp [plB] at h
  | .dct _ _, h => by simp [plB] at h
  | .set _, h => by simp [plB] at h
  | .scr _, h => by simp [plB] at h
  | .tup [], h => by simp [plB] at h
  | .tup [.non], h => by cases h
  | .tup [.bl _], h => by cases h
  | .tup [.int _], h => by cases h
  | .tup [.tup _], h => by cases h
  | .tup [.lst _], h => by cases h
  | .tup [.dct _ _], h => by cases h
  | .tup [.set _], h => by cases h
  | .tup [.scr _], h => by cases h
  | .tup (a :: b :: c :: r), h => by exfalso; revert h; cases a <;> cases b <;> intro h <;> cases h
  | .tup [a, b], h => by
    rcases pl_form h with ⟨s, e⟩ | ⟨w, ys, e, h1, h2⟩
    · cases e
    · cases e
      have := pls_imm ys h2
      exact ⟨by simp [imm, imms, this.1], by simp [noDct, noDcts, this.2]⟩
theorem pls_imm : ∀ (l : List D), plBs l = true → imms l = true ∧ noDcts l = true
  | [], _ => ⟨rfl, rfl⟩
  | y :: ys, h => by
    simp only [plBs, Bool.and_eq_true] at h
    have h1 := pl_imm y h.1
    have h2 := pls_imm ys h.2
    exact ⟨by simp [imms, h1.1, h2.1], by simp [noDcts, h1.2, h2.2]⟩
end
theorem rep_one (m : Nat) : plBs (List.replicate m k_ONE) = true ∧ nds (List.replicate m k_ONE) = 2 * m ∧ depDs (List.replicate m k_ONE) ≤ 1 := by
  induction m with
  | zero => exact ⟨rfl, rfl, by simp [depDs]⟩
  | succ m ih =>
    rw [List.replicate_succ]
    refine ⟨by simp only [plBs, ih.1, Bool.and_true]; rfl, ?_, ?_⟩
    · simp only [nds, ih.2.1]; simp [k_ONE, nd, nds]; omega
    · simp only [depDs]; have := ih.2.2; have : depD k_ONE = 1 := by simp [k_ONE, depD, depDs]
      omega
theorem flat_one (m : Nat) : (List.replicate m [k_ONE]).flatten = List.replicate m k_ONE := by
  induction m with
  | zero => rfl
  | succ m ih => rw [List.replicate_succ, List.flatten_cons, ih]; rfl
theorem merge {L : List D} {f w : Nat} {s : Str} {i m : Nat} (hf : f < L.length) (hw : 1 ≤ w) (h1 : plBs L = true) (h2 : nds L ≤ 2 * m + 3 * i) (h3 : depDs L ≤ 1 + 2 * i) :
    let L2 := L.take f ++ [.tup [.str s, .tup ((L.drop f).take w)]] ++ L.drop (f + w)
    L2 ≠ [] ∧ plBs L2 = true ∧ nds L2 ≤ 2 * m + 3 * (i + 1) ∧ depDs L2 ≤ 1 + 2 * (i + 1) := by
  have e : L = L.take f ++ ((L.drop f).take w ++ L.drop (f + w)) := by
    rw [← List.drop_drop, List.take_append_drop, List.take_append_drop]
  have hne : (L.drop f).take w ≠ [] := by
    intro z
    have := congrArg List.length z
    simp at this
    omega
  rw [e, plBs_app, plBs_app] at h1
  rw [e, nds_app, nds_app] at h2
  rw [e, dep_app, dep_app] at h3
  simp only [Bool.and_eq_true] at h1
  refine ⟨by simp, ?_, ?_, ?_⟩
  · rw [plBs_app, plBs_app]
    simp [plBs, plB, h1, hne]
  · rw [nds_app, nds_app]
    simp [nds, nd]
    omega
  · rw [dep_app, dep_app]
    simp [depDs, depD]
    omega
end VL.My

set_option Elab.async false
set_option linter.all false
set_option maxRecDepth 100000
set_option maxHeartbeats 4000000
namespace VL.My
open PySem L2
theorem rngD_get {lo hi : Int} {i : Nat} {d : D} (h : (rngD lo hi)[i]? = some d) : d = .int (lo + i) ∧ lo + i < hi := by
  unfold rngD at h
  rw [List.getElem?_map] at h
  by_cases hi2 : i < (hi - lo).toNat
  · rw [List.getElem?_range hi2] at h
    cases h
    exact ⟨rfl, by omega⟩
  · rw [List.getElem?_eq_none (by simpa using hi2)] at h
    cases h
def uP : En → Ou := (ifS (tsb (op2 gtD (opA lenD (consA (varN 3) nilA)) (cD (.int 1))))
        (seqS (setS 5 (op2 addD (cD (.int 2)) (callD F_law_draw (consA (varS 0) (consA (op2 addD (varS 1) (op2 mulD (cD (.int 3)) (varS 4))) (consA (cD (.int 3)) nilA))))))
        (seqS (setS 6 (callD F_law_draw (consA (varS 0) (consA (op2 addD (op2 addD (varS 1) (op2 mulD (cD (.int 3)) (varS 4))) (cD (.int 1))) (consA (opA (mmD fun i j => if j > i then j else i) (consA (cD (.int 1)) (consA (op2 addD (op2 subD (opA lenD (consA (varN 3) nilA)) (varS 5)) (cD (.int 1))) nilA))) nilA)))))
        (seqS (setN 7 (op2 ixD (lstD (consA (cD (.str "beside")) (consA (cD (.str "across")) nilA))) (callD F_law_draw (consA (varS 0) (consA (op2 addD (op2 addD (varS 1) (op2 mulD (cD (.int 3)) (varS 4))) (cD (.int 2))) (consA (cD (.int 2)) nilA))))))
        (setN 3 (op2 addD (op2 addD (sliceD (varN 3) oNone (oSome (varS 6))) (lstD (consA (tupD (consA (varN 7) (consA (opA tupleD (consA (sliceD (varN 3) (oSome (varS 6)) (oSome (op2 addD (varS 6) (varS 5)))) nilA)) nilA))) nilA))) (sliceD (varN 3) (oSome (op2 addD (varS 6) (varS 5))) oNone))))))
        Ou.nx)
theorem plan_step {c a : Int} {L : List D} {i m : Nat} {s5 s6 s7 : Slot} {mm : D} (ha : 0 ≤ a) (ha2 : a < 100000) (hi : i < 24) (hm : m ≤ 24) (hne : L ≠ []) (h1 : plBs L = true) (h2 : nds L ≤ 2 * m + 3 * i) (h3 : depDs L ≤ 1 + 2 * i) :
    ∃ L2 t5 t6 t7, uP [.sh (.int c), .sh (.int a), .sh mm, .nw (.lst L), .sh (.int i), s5, s6, s7] = .nx [.sh (.int c), .sh (.int a), .sh mm, .nw (.lst L2), .sh (.int i), t5, t6, t7] ∧ L2 ≠ [] ∧ plBs L2 = true ∧ nds L2 ≤ 2 * m + 3 * (i + 1) ∧ depDs L2 ≤ 1 + 2 * (i + 1) := by
  have hlen := len_nds L
  by_cases hl : 1 < L.length
  · have hl' : (1 : Int) < L.length := by omega
    have hm3 : mulD (.int 3) (.int (i : Int)) = .ok (.int (3 * (i : Int))) := mulD_l (by decide) (by decide)
    obtain ⟨r, er, hr⟩ := draw_in (c := c) (k := a + 3 * (i : Int)) (b := 3) (by omega) (by omega) (by omega) (by omega)
    let B : Int := if (L.length : Int) - (2 + (r : Int)) + 1 > 1 then (L.length : Int) - (2 + (r : Int)) + 1 else 1
    have hB : 0 < B ∧ B < L.length := by
      by_cases z : (L.length : Int) - (2 + (r : Int)) + 1 > 1
      · have : B = (L.length : Int) - (2 + (r : Int)) + 1 := if_pos z
        omega
      · have : B = 1 := if_neg z
        omega
    obtain ⟨f, ef, hf⟩ := draw_in (c := c) (k := a + 3 * (i : Int) + 1) (b := B) (by omega) (by omega) hB.1 (by omega)
    obtain ⟨q, eq, hq⟩ := draw_in (c := c) (k := a + 3 * (i : Int) + 2) (b := 2) (by omega) (by omega) (by omega) (by omega)
    obtain ⟨wd, ew, mw, _⟩ := atD_in (l := [D.str "beside", D.str "across"]) (i := (q : Int)) (by omega) (by simpa using hq)
    obtain ⟨s, rfl⟩ : ∃ s, wd = .str s := by
      simp at mw
      rcases mw with rfl | rfl
      · exact ⟨_, rfl⟩
      · exact ⟨_, rfl⟩
    have hfl : f < L.length := by omega
    have ec1 : cutD L none (some (f : Int)) = L.take f := cut_to L f
    have ec2 : cutD L (some (f : Int)) (some ((f : Int) + (2 + (r : Int)))) = (L.drop f).take (2 + r) := by
      have := cut_mid L f (2 + r) (by omega)
      rw [← this]
      congr 2
    have ec3 : cutD L (some ((f : Int) + (2 + (r : Int)))) none = L.drop (f + (2 + r)) := by
      have := cut_from L (f + (2 + r))
      rw [← this]
      congr 2
    have mg := merge (s := s) hfl (by omega : 1 ≤ 2 + r) h1 h2 h3
    have z1 : min f L.length + 1 ≤ 16777216 := by omega
    have z2 : min f L.length + (1 + (L.length - (f + (2 + r)))) ≤ 16777216 := by omega
    refine ⟨_, .sh (.int (2 + (r : Int))), .sh (.int f), .nw (.str s), ?_, mg⟩
    have ef' : F_law_draw [.int c, .int (a + 3 * (i : Int) + 1), .int (if (L.length : Int) - (2 + (r : Int)) + 1 > 1 then (L.length : Int) - (2 + (r : Int)) + 1 else 1)] = .ok (.int f) := ef
    simp only [gt_iff_lt] at ef'
    simp [uP, hl', hm3, er, ef', eq, ew, ec1, ec2, ec3]
    rw [if_pos (by omega)]
    simp
    rw [if_pos (by omega)]
    simp
  · refine ⟨L, s5, s6, s7, ?_, hne, h1, by omega, by omega⟩
    have hl' : ¬ (1 : Int) < L.length := by omega
    simp [uP, hl']
theorem mul_ones (m : Nat) (h : m ≤ 24) : mulD (.lst [.tup [.str "one"]]) (.int (m : Int)) = .ok (.lst (List.replicate m k_ONE)) := by
  unfold mulD
  dsimp only
  rw [if_pos (by simp [imms, imm, sizeLine]; omega), Int.toNat_natCast]
  have := flat_one m
  unfold k_ONE at this ⊢
  rw [this]
theorem law_plan_ok {c a : Int} {m : Nat} (ha : 0 ≤ a) (ha2 : a < 100000) (hm0 : 1 ≤ m) (hm : m ≤ 24) : ∃ p, F_law_plan [.int c, .int a, .int m] = .ok p ∧ plB p = true ∧ nd p ≤ 200 ∧ depD p ≤ 49 := by
  have hr := rng1_ok (j := (m : Int)) (by omega) (by omega)
  have h1 := rep_one m
  obtain ⟨ρ', e, L, t4, t5, t6, t7, rfl, hne, g1, g2, g3⟩ := forL_inv (a := gnm 4) (u := uP) (ds := rngD 0 (m : Int))
    (fun i ρ => ∃ L t4 t5 t6 t7, ρ = [.sh (.int c), .sh (.int a), .sh (.int m), .nw (.lst L), t4, t5, t6, t7] ∧ L ≠ [] ∧ plBs L = true ∧ nds L ≤ 2 * m + 3 * i ∧ depDs L ≤ 1 + 2 * i)
    (by
      rintro i d ρ hd ⟨L, t4, t5, t6, t7, rfl, hne, g1, g2, g3⟩
      obtain ⟨rfl, hlt⟩ := rngD_get hd
      obtain ⟨L2, q5, q6, q7, e, z⟩ := plan_step (c := c) (i := i) (s5 := t5) (s6 := t6) (s7 := t7) (mm := .int m) ha ha2 (by omega) hm hne g1 g2 g3
      refine ⟨_, ?_, L2, .sh (.int i), q5, q6, q7, rfl, z⟩
      simp [e])
    (ρ := [.sh (.int c), .sh (.int a), .sh (.int m), .nw (.lst (List.replicate m k_ONE)), .no, .no, .no, .no])
    ⟨_, _, _, _, _, rfl, by simp; omega, h1.1, by omega, h1.2.2⟩
  have hlen : (rngD 0 (m : Int)).length = m := by simp [rngD]
  rw [hlen] at g2 g3
  have hd : d_law_plan = seqS (setN 3 (op2 mulD (lstD (consA (tupD (consA (cD (.str "one")) nilA)) nilA)) (immD (varS 2)))) (seqS (forS (rngA rng1 (consA (varS 2) nilA)) (gnm 4) uP) (retS (op2 ixD (varN 3) (cD (.int 0))))) := rfl
  cases L with
  | nil => exact absurd rfl hne
  | cons x r =>
    simp only [plBs, Bool.and_eq_true] at g1
    simp only [nds] at g2
    simp only [depDs] at g3
    refine ⟨x, ?_, g1.1, by omega, by omega⟩
    simp [F_law_plan, hd, startE, mul_ones m hm, hr, e]
/-! ### plans with something otherwise -/
end VL.My

set_option Elab.async false
set_option linter.all false
set_option maxRecDepth 100000
set_option maxHeartbeats 4000000
namespace VL.My
open PySem L2
def odd : List D := [(.tup [(.str "two")]), (.lst [(.str "one")]), (.str "one"), (.tup [(.str "one"), (.tup [])]), .non, (.int 0), (.tup []), (.tup [(.str "One")]), (.tup [(.str "one"), (.str "one")]), (.tup [(.str "beside"), (.tup [(.tup [(.str "one")])])]), (.tup [(.str "across"), (.lst [(.tup [(.str "one")]), (.tup [(.str "one")])])]), (.tup [(.str "along"), (.tup [(.tup [(.str "one")]), (.tup [(.str "one")])])]), (.tup [(.str "beside"), (.tup []), (.tup [])]), (.tup [(.tup [(.str "one")])]), (.tup [(.str "beside"), (.tup [(.tup [(.str "one")]), (.tup [(.str "one")])])]), (.tup [(.bl true)]), (.tup [(.str "beside")]), (.tup [(.str "across"), (.tup [])]), (.tup [(.tup [(.str "one")]), (.str "across")])]
theorem odd_ok : ∀ d ∈ odd, noDct d = true ∧ nd d ≤ 20 ∧ depD d ≤ 3 := by
  intro d hd
  simp only [odd, List.mem_cons, List.not_mem_nil, or_false] at hd
  rcases hd with rfl | rfl | rfl | rfl | rfl | rfl | rfl | rfl | rfl | rfl | rfl | rfl | rfl | rfl | rfl | rfl | rfl | rfl | rfl <;> simp [noDct, noDcts, nd, nds, depD, depDs]
theorem bent_ok : ∀ (n : Nat) (c a : Int) (x : D), plB x = true → depD x < n → 0 ≤ a → a + 2 * (n : Int) < 1000000 → nd x ≤ 1000 →
    ∃ y, R_law_bent n [.int c, .int a, x] = .ok y ∧ noDct y = true ∧ nd y ≤ nd x + 20 ∧ depD y ≤ depD x + 2
  | 0, c, a, x, _, h, _, _, _ => absurd h (Nat.not_lt_zero _)
  | n + 1, c, a, x, hp, hd, ha, ha2, hn => by
    obtain ⟨q, eq, hq⟩ := draw_in (c := c) (k := a + 1) (b := 19) (by omega) (by omega) (by omega) (by omega)
    obtain ⟨y, ey, my, _⟩ := atD_in (l := odd) (i := (q : Int)) (by omega) (by simpa [odd] using hq)
    have hy := odd_ok y my
    have hx1 : 1 ≤ depD x := by
      rcases pl_form hp with ⟨s, rfl⟩ | ⟨w, ys, rfl, _, _⟩ <;> simp [depD]
    unfold odd at ey
    rcases pl_form hp with ⟨s, rfl⟩ | ⟨w, ys, rfl, hne, hys⟩
    · refine ⟨y, ?_, hy.1, by omega, by omega⟩
      simp [R_law_bent, d_law_bent, startE, eq, ey]
    · obtain ⟨r, er, hr⟩ := draw_in (c := c) (k := a) (b := 4) (by omega) (by omega) (by omega) (by omega)
      by_cases h0 : 0 < (r : Int)
      · have h4 : nd (.tup [.str w, .tup ys]) = nds ys + 3 := nd_put
        have h3 := len_nds ys
        have hpos : 0 < ys.length := List.length_pos_iff.mpr hne
        obtain ⟨k, ek, hk⟩ := draw_in (c := c) (k := a + 1) (b := (ys.length : Int)) (by omega) (by omega) (by omega) (by omega)
        have hk' : k < ys.length := by omega
        have esp : ys = ys.take k ++ ([ys[k]] ++ ys.drop (k + 1)) := by
          rw [List.singleton_append, ← List.drop_eq_getElem_cons hk', List.take_append_drop]
        have ez : atD ys (k : Int) = .ok ys[k] := atD_nat (List.getElem?_eq_getElem hk')
        have s1 := hys
        have s2 : nds ys = _ := congrArg nds esp
        have s3 : depDs ys = _ := congrArg depDs esp
        have s4 := (pl_imm _ hp).2
        simp only [noDct, noDcts, Bool.and_eq_true] at s4
        have s5 := s4.2.1
        rw [esp, plBs_app, plBs_app] at s1
        rw [esp, noD_app, noD_app] at s5
        rw [nds_app, nds_app] at s2
        rw [dep_app, dep_app] at s3
        simp only [plBs, noDcts, Bool.and_eq_true] at s1 s5
        simp only [nds] at s2
        simp only [depDs] at s3
        have hdx : depD (.tup [.str w, .tup ys]) = depDs ys + 2 := by simp [depD, depDs]
        obtain ⟨z, e, z1, z2, z3⟩ := bent_ok n c (a + 2) ys[k] s1.2.1.1 (by omega) (by omega) (by omega) (by omega)
        refine ⟨.tup [.str w, .tup (ys.take k ++ [z] ++ ys.drop (k + 1))], ?_, ?_, ?_, ?_⟩
        · have hg : gImm (.tup [.str w, .tup ys]) = .ok (.tup [.str w, .tup ys]) := gImm_of (pl_imm _ hp).1
          have c1 : cutD ys none (some (k : Int)) = ys.take k := cut_to ys k
          have c2 : cutD ys (some ((k : Int) + 1)) none = ys.drop (k + 1) := cut_from ys (k + 1)
          have w1 : min k ys.length + 1 ≤ 16777216 := by omega
          have w2 : min k ys.length + 1 + (ys.length - (k + 1)) ≤ 16777216 := by omega
          have h0n : 0 < r := by omega
          simp [R_law_bent, d_law_bent, startE, er, h0, h0n, ek, hg, ez, e, c1, c2, w1, w2]
        · simp only [noDct, noDcts, noD_app, Bool.and_eq_true]
          exact ⟨trivial, ⟨⟨s5.1, z1, trivial⟩, s5.2.2⟩, trivial⟩
        · simp only [nd, nds, nds_app]
          omega
        · rw [hdx]
          simp only [depD, depDs, dep_app]
          omega
      · have h0' : r = 0 := by omega
        subst h0'
        refine ⟨y, ?_, hy.1, by omega, by omega⟩
        simp [R_law_bent, d_law_bent, startE, er, eq, ey]
/-! ### deep ones -/
theorem deep_ok {c : Int} {m : Nat} (hm0 : 1 ≤ m) (hm : m ≤ 26) : ∃ y, F_law_deep [.int c, .int m] = .ok y ∧ noDct y = true ∧ nd y ≤ 200 ∧ depD y ≤ 51 := by
  have hr := rng1_ok (j := (m : Int) - 1) (by omega) (by omega)
  let uD : En → Ou := (seqS (setN 4 (op2 ixD (lstD (consA (cD (.str "beside")) (consA (cD (.str "across")) nilA))) (callD F_law_draw (consA (varS 0) (consA (op2 addD (cD (.int 8200)) (varS 3)) (consA (cD (.int 2)) nilA))))))
      (setN 2 (op2 ixD (lstD (consA (tupD (consA (varN 4) (consA (tupD (consA (varN 2) (consA (tupD (consA (cD (.str "one")) nilA)) nilA))) nilA))) (consA (tupD (consA (varN 4) (consA (tupD (consA (tupD (consA (cD (.str "one")) nilA)) (consA (varN 2) nilA))) nilA))) nilA))) (callD F_law_draw (consA (varS 0) (consA (op2 addD (cD (.int 8300)) (varS 3)) (consA (cD (.int 2)) nilA)))))))
  obtain ⟨ρ', e, x, t3, t4, rfl, g1, g2, g3, g4⟩ := forL_inv (a := gnm 3) (u := uD) (ds := rngD 0 ((m : Int) - 1))
    (fun i ρ => ∃ x t3 t4, ρ = [.sh (.int c), .sh (.int m), .nw x, t3, t4] ∧ noDct x = true ∧ nd x ≤ 2 + 6 * i ∧ depD x ≤ 1 + 2 * i ∧ 1 ≤ depD x)
    (by
      rintro i d ρ hd ⟨x, t3, t4, rfl, g1, g2, g3, g4⟩
      obtain ⟨rfl, hlt⟩ := rngD_get hd
      obtain ⟨q, eq, hq⟩ := draw_in (c := c) (k := 8200 + (0 + (i : Int))) (b := 2) (by omega) (by omega) (by omega) (by omega)
      obtain ⟨r, er, hr⟩ := draw_in (c := c) (k := 8300 + (0 + (i : Int))) (b := 2) (by omega) (by omega) (by omega) (by omega)
      obtain ⟨wd, ew, mw, _⟩ := atD_in (l := [D.str "beside", D.str "across"]) (i := (q : Int)) (by omega) (by simpa using hq)
      obtain ⟨s, rfl⟩ : ∃ s, wd = .str s := by
        simp at mw
        rcases mw with rfl | rfl
        · exact ⟨_, rfl⟩
        · exact ⟨_, rfl⟩
      obtain ⟨y, ey, my, _⟩ := atD_in (l := [D.tup [.str s, .tup [x, .tup [.str "one"]]], D.tup [.str s, .tup [.tup [.str "one"], x]]]) (i := (r : Int)) (by omega) (by simpa using hr)
      have hy : noDct y = true ∧ nd y ≤ nd x + 6 ∧ depD y ≤ depD x + 2 ∧ 1 ≤ depD y := by
        simp at my
        have := nd_pos x
        rcases my with rfl | rfl
        · simp [noDct, noDcts, nd, nds, depD, depDs, g1]; omega
        · simp [noDct, noDcts, nd, nds, depD, depDs, g1]; omega
      refine ⟨[.sh (.int c), .sh (.int m), .nw y, .sh (.int (0 + (i : Int))), .nw (.str s)], ?_, y, _, _, rfl, hy.1, by omega, by omega, hy.2.2.2⟩
      simp only [Int.zero_add] at eq er ⊢
      simp [uD, eq, er, ew, ey])
    (ρ := [.sh (.int c), .sh (.int m), .nw k_ONE, .no, .no])
    ⟨_, _, _, rfl, rfl, by simp [k_ONE, nd, nds], by simp [k_ONE, depD, depDs], by simp [k_ONE, depD]⟩
  have hlen : (rngD 0 ((m : Int) - 1)).length = m - 1 := by simp [rngD]
  rw [hlen] at g2 g3
  have hdd : d_law_deep = seqS (setN 2 (tupD (consA (cD (.str "one")) nilA))) (seqS (forS (rngA rng1 (consA (op2 subD (varS 1) (cD (.int 1))) nilA)) (gnm 3) uD) (retS (varN 2))) := rfl
  refine ⟨x, ?_, g1, by omega, by omega⟩
  unfold k_ONE at e
  simp [F_law_deep, hdd, startE, hr, e]
end VL.My

set_option Elab.async false
set_option linter.all false
set_option maxRecDepth 100000
set_option maxHeartbeats 4000000
namespace VL.My
open PySem L2
def uI : En → Ou := (seqS (setS 7 (callD F_is_plan (consA (varS 6) nilA)))
        (ifS (orT (notT (tst (op1 (isiD "bool") (varS 7)))) (tsb (op2 (eqR true) (varS 7) (callD F_law_is_plan (consA (varS 6) nilA)))))
          (retS (cD (.bl false)))
          Ou.nx))
def uL : En → Ou :=
      (seqS (setS 2 (callD F_law_cell_at (consA (varS 0) (consA (varS 1) nilA))))
      (seqS (setS 3 (callD F_law_plan (consA (varS 2) (consA (cD (.int 5000)) (consA (op2 addD (cD (.int 1)) (callD F_law_draw (consA (varS 2) (consA (cD (.int 0)) (consA (cD (.int 24)) nilA))))) nilA)))))
      (seqS (setS 4 (callD F_law_plan (consA (varS 2) (consA (cD (.int 6000)) (consA (op2 addD (cD (.int 1)) (callD F_law_draw (consA (varS 2) (consA (cD (.int 1)) (consA (cD (.int 20)) nilA))))) nilA)))))
      (seqS (setO 5 (lstD (consA (immD (varS 3)) (consA (callD F_law_bent (consA (varS 2) (consA (cD (.int 7000)) (consA (varS 3) nilA)))) (consA (callD F_law_bent (consA (op2 addD (varS 2) (cD (.int 1))) (consA (cD (.int 7000)) (consA (varS 3) nilA)))) (consA (tupD (consA (cD (.str "across")) (consA (tupD (consA (immD (varS 3)) (consA (immD (varS 4)) nilA))) nilA))) nilA))))))
      (seqS (setO 5 (op2 addD (varO 5) (lstD (consA (tupD (consA (cD (.str "beside")) (consA (tupD (consA (immD (varS 4)) (consA (immD (varS 3)) nilA))) nilA))) (consA (callD F_law_deep (consA (varS 2) (consA (op2 addD (cD (.int 23)) (callD F_law_draw (consA (varS 2) (consA (cD (.int 8000)) (consA (cD (.int 4)) nilA))))) nilA))) nilA)))))
      (seqS (appS 5 (tupD (consA (cD (.str "across")) (consA (op2 mulT (tupD (consA (tupD (consA (cD (.str "one")) nilA)) nilA)) (op2 addD (cD (.int 39)) (callD F_law_draw (consA (varS 2) (consA (cD (.int 8001)) (consA (cD (.int 4)) nilA)))))) nilA))))
      (frzS 5 (forS (itrD (varS 5)) (gnm 6)
        uI))))))))
def Good (x : D) : Prop := Sm x ∧ nd x < 90000
theorem things_ok {a b c e f : Slot} {xs : List D} (h : ∀ x ∈ xs, Good x) (s6 s7 : Slot) : ∃ t6 t7, forL (gnm 6) uI xs [a, b, c, e, f, .nw (.lst xs), s6, s7] = .nx [a, b, c, e, f, .nw (.lst xs), t6, t7] := by
  obtain ⟨ρ', e3, t6, t7, rfl⟩ := forL_inv (a := gnm 6) (u := uI) (ds := xs) (fun _ ρ => ∃ t6 t7, ρ = [a, b, c, e, f, .nw (.lst xs), t6, t7]) (by
      rintro i d ρ hd ⟨t6, t7, rfl⟩
      have hg := h d (List.mem_of_getElem? hd)
      have e1 := plan_eq hg.1 hg.2
      have e2 := law_plan_eq hg.1 hg.2
      exact ⟨[a, b, c, e, f, .nw (.lst xs), .sh d, .sh (.bl (planB d))], by simp [uI, e1, e2], _, _, rfl⟩) (ρ := [a, b, c, e, f, .nw (.lst xs), s6, s7]) ⟨s6, s7, rfl⟩
  exact ⟨t6, t7, e3⟩
theorem mul_wide (m : Nat) (h : 2 ≤ m) (h2 : m ≤ 100) : mulT (.tup [.tup [.str "one"]]) (.int (m : Int)) = .ok (.tup (List.replicate m k_ONE)) := by
  unfold mulT
  dsimp only
  rw [if_pos (by simp [sizeLine]; omega), Int.toNat_natCast]
  have := flat_one m
  unfold k_ONE at this ⊢
  rw [this]
theorem law_turn {ns : List Int} {k : Int} (hk : 0 ≤ k) (s2 s3 s4 s5 s6 s7 : Slot) : ∃ t2 t3 t4 t5 t6 t7, uL [.sh (.scr ns), .sh (.int k), s2, s3, s4, s5, s6, s7] = .nx [.sh (.scr ns), .sh (.int k), t2, t3, t4, t5, t6, t7] := by
  obtain ⟨c, ec⟩ := cell_ok (ns := ns) (k := k) hk
  obtain ⟨r1, er1, hr1⟩ := draw_in (c := c) (k := 0) (b := 24) (by decide) (by decide) (by decide) (by decide)
  obtain ⟨r2, er2, hr2⟩ := draw_in (c := c) (k := 1) (b := 20) (by decide) (by decide) (by decide) (by decide)
  obtain ⟨r3, er3, hr3⟩ := draw_in (c := c) (k := 8000) (b := 4) (by decide) (by decide) (by decide) (by decide)
  obtain ⟨r4, er4, hr4⟩ := draw_in (c := c) (k := 8001) (b := 4) (by decide) (by decide) (by decide) (by decide)
  obtain ⟨p, ep, p1, p2, p3⟩ := law_plan_ok (c := c) (a := 5000) (m := 1 + r1) (by decide) (by decide) (by omega) (by omega)
  rw [show ((1 + r1 : Nat) : Int) = 1 + (r1 : Int) by omega] at ep
  obtain ⟨o, eo, o1, o2, o3⟩ := law_plan_ok (c := c) (a := 6000) (m := 1 + r2) (by decide) (by decide) (by omega) (by omega)
  rw [show ((1 + r2 : Nat) : Int) = 1 + (r2 : Int) by omega] at eo
  obtain ⟨b1, eb1, b11, b12, b13⟩ := bent_ok 64 c 7000 p p1 (by omega) (by decide) (by decide) (by omega)
  obtain ⟨b2, eb2, b21, b22, b23⟩ := bent_ok 64 (c + 1) 7000 p p1 (by omega) (by decide) (by decide) (by omega)
  have eb1' : F_law_bent [.int c, .int 7000, p] = .ok b1 := eb1
  have eb2' : F_law_bent [.int (c + 1), .int 7000, p] = .ok b2 := eb2
  obtain ⟨d, ed, d1, d2, d3⟩ := deep_ok (c := c) (m := 23 + r3) (by omega) (by omega)
  rw [show ((23 + r3 : Nat) : Int) = 23 + (r3 : Int) by omega] at ed
  have em := mul_wide (39 + r4) (by omega) (by omega)
  rw [show ((39 + r4 : Nat) : Int) = 39 + (r4 : Int) by omega] at em
  have hp := pl_imm p p1
  have ho := pl_imm o o1
  have gp : gImm p = .ok p := gImm_of hp.1
  have go : gImm o = .ok o := gImm_of ho.1
  have hw := rep_one (39 + r4)
  have gd : ∀ x ∈ [p, b1, b2, .tup [.str "across", .tup [p, o]], .tup [.str "beside", .tup [o, p]], d, .tup [.str "across", .tup (List.replicate (39 + r4) k_ONE)]], Good x := by
    intro x hx
    simp only [List.mem_cons, List.not_mem_nil, or_false] at hx
    rcases hx with rfl | rfl | rfl | rfl | rfl | rfl | rfl
    · exact ⟨⟨hp.2, by omega⟩, by omega⟩
    · exact ⟨⟨b11, by omega⟩, by omega⟩
    · exact ⟨⟨b21, by omega⟩, by omega⟩
    · exact ⟨⟨by simp [noDct, noDcts, hp.2, ho.2], by simp [depD, depDs]; omega⟩, by simp [nd, nds]; omega⟩
    · exact ⟨⟨by simp [noDct, noDcts, hp.2, ho.2], by simp [depD, depDs]; omega⟩, by simp [nd, nds]; omega⟩
    · exact ⟨⟨d1, by omega⟩, by omega⟩
    · have hn := (pls_imm _ hw.1).2
      exact ⟨⟨by simp only [noDct, noDcts, hn]; rfl, by simp only [depD, depDs]; have := hw.2.2; omega⟩, by simp only [nd, nds, hw.2.1]; omega⟩
  obtain ⟨t6, t7, ef⟩ := things_ok (a := .sh (.scr ns)) (b := .sh (.int k)) (c := .sh (.int c)) (e := .sh p) (f := .sh o) gd s6 s7
  refine ⟨.sh (.int c), .sh p, .sh o, .nw (.lst [p, b1, b2, .tup [.str "across", .tup [p, o]], .tup [.str "beside", .tup [o, p]], d, .tup [.str "across", .tup (List.replicate (39 + r4) k_ONE)]]), t6, t7, ?_⟩
  simp [uL, ec, er1, er2, er3, er4, ep, eo, eb1', eb2', ed, em, gp, go, appS, frz, ef]
theorem law_true (ns : List Int) (hn : ns.length ≤ 63) : F_law [.scr ns] = .ok (.bl true) := by
  have w1 : F_is_plan [.tup [.str "one"]] = .ok (.bl true) := by
    rw [plan_eq ⟨rfl, by decide⟩ (by decide)]
    have : lk (.tup [.str "one"]) = some (1, 1) := lk_one
    simp [planB, this]
  have w2 : F_is_plan [.tup [.str "across", .tup [.tup [.str "one"], .tup [.str "one"]]]] = .ok (.bl true) := by
    rw [plan_eq ⟨rfl, by decide⟩ (by decide)]
    have : lk (.tup [.str "across", .tup [.tup [.str "one"], .tup [.str "one"]]]) = some (2, 2) := by simp [lk, lks]
    simp [planB, this]
  generalize hm : (if (if 8 < (ns.length : Int) then (8 : Int) else ns.length) > 1 then (if 8 < (ns.length : Int) then (8 : Int) else ns.length) else 1) = m
  have hmb : -(2 ^ 62) ≤ m ∧ m < 2 ^ 62 := by subst hm; constructor <;> (repeat' split) <;> omega
  have hr := rng1_ok hmb.1 hmb.2
  obtain ⟨ρ', e, s1, s2, s3, s4, s5, s6, s7, rfl⟩ := forL_inv (a := gnm 1) (u := uL) (ds := rngD 0 m) (fun _ ρ => ∃ s1 s2 s3 s4 s5 s6 s7, ρ = [.sh (.scr ns), s1, s2, s3, s4, s5, s6, s7]) (by
      rintro i d ρ hd ⟨s1, s2, s3, s4, s5, s6, s7, rfl⟩
      obtain ⟨rfl, hlt⟩ := rngD_get hd
      obtain ⟨t2, t3, t4, t5, t6, t7, et⟩ := law_turn (ns := ns) (k := 0 + (i : Int)) (by omega) s2 s3 s4 s5 s6 s7
      refine ⟨_, ?_, .sh (.int (0 + (i : Int))), t2, t3, t4, t5, t6, t7, rfl⟩
      rw [gnm_ap, okE_ok]
      exact et) (ρ := [.sh (.scr ns), .no, .no, .no, .no, .no, .no, .no]) ⟨_, _, _, _, _, _, _, rfl⟩
  have st : startE 8 [.scr ns] = [.sh (.scr ns), .no, .no, .no, .no, .no, .no, .no] := rfl
  have hd : d_law = seqS (forS (rngA rng1 (consA (opA (mmD fun i j => if j > i then j else i) (consA (cD (.int 1)) (consA (opA (mmD fun i j => if j < i then j else i) (consA (opA lenD (consA (varS 0) nilA)) (consA (cD (.int 8)) nilA))) nilA))) nilA)) (gnm 1) uL)
    (retS (andD (op2 (isD false) (callD F_is_plan (consA (tupD (consA (cD (.str "one")) nilA)) nilA)) (cD (.bl true))) (op2 (isD false) (callD F_is_plan (consA (tupD (consA (cD (.str "across")) (consA (tupD (consA (tupD (consA (cD (.str "one")) nilA)) (consA (tupD (consA (cD (.str "one")) nilA)) nilA))) nilA))) nilA)) (cD (.bl true))))) := rfl
  simp only [F_law, hd, runD_ap, st]
  simp [hm, hr, e, w1, w2]
end VL.My

set_option Elab.async false
set_option linter.all false
set_option maxRecDepth 100000
set_option maxHeartbeats 4000000
namespace VL.My
open PySem L2
/-! ### the text by places -/
def top (i : Nat) : Stmt := PySem.Challenge.pw_fewways_k41_plans_looked_at.main.body.getD i (.Pass ⟨0, 0, 0, 0⟩)
abbrev s_is_put_together : Stmt := top 6
abbrev s_is_plan : Stmt := top 7
abbrev s_law_cell_at : Stmt := top 9
abbrev s_law_draw : Stmt := top 10
abbrev s_law_plan : Stmt := top 11
abbrev s_law_looks_so : Stmt := top 12
abbrev s_law_is_plan : Stmt := top 13
abbrev s_law_bent : Stmt := top 14
abbrev s_law_deep : Stmt := top 15
abbrev s_law : Stmt := top 16
theorem sc_is_put_together : FnScope ["thing"] ["thing"] (defScope s_is_put_together) := ⟨rfl, rfl, rfl, by decide +kernel, rfl, by decide +kernel, by decide +kernel⟩
theorem sc_is_plan : FnScope ["thing", "left", "ones", "here", "deep"] ["thing"] (defScope s_is_plan) := ⟨rfl, rfl, rfl, by decide +kernel, rfl, by decide +kernel, by decide +kernel⟩
theorem sc_law_cell_at : FnScope ["_law_script", "_law_k"] ["_law_script", "_law_k"] (defScope s_law_cell_at) := ⟨rfl, rfl, rfl, by decide +kernel, rfl, by decide +kernel, by decide +kernel⟩
theorem sc_law_draw : FnScope ["_law_cell", "_law_k", "_law_bound", "_law_left", "_law_j", "_law_stir"] ["_law_cell", "_law_k", "_law_bound"] (defScope s_law_draw) := ⟨rfl, rfl, rfl, by decide +kernel, rfl, by decide +kernel, by decide +kernel⟩
theorem sc_law_plan : FnScope ["_law_cell", "_law_at", "_law_many", "_law_some", "_law_turn", "_law_wide", "_law_first", "_law_word"] ["_law_cell", "_law_at", "_law_many"] (defScope s_law_plan) := ⟨rfl, rfl, rfl, by decide +kernel, rfl, by decide +kernel, by decide +kernel⟩
theorem sc_law_looks_so : FnScope ["_law_thing", "_law_some"] ["_law_thing"] (defScope s_law_looks_so) := ⟨rfl, rfl, rfl, by decide +kernel, rfl, by decide +kernel, by decide +kernel⟩
theorem sc_law_is_plan : FnScope ["_law_thing", "_law_found"] ["_law_thing"] (defScope s_law_is_plan) := ⟨rfl, rfl, rfl, by decide +kernel, rfl, by decide +kernel, by decide +kernel⟩
theorem sc_law_bent : FnScope ["_law_cell", "_law_at", "_law_plan_here", "_law_k", "_law_some"] ["_law_cell", "_law_at", "_law_plan_here"] (defScope s_law_bent) := ⟨rfl, rfl, rfl, by decide +kernel, rfl, by decide +kernel, by decide +kernel⟩
theorem sc_law_deep : FnScope ["_law_cell", "_law_many", "_law_found", "_law_k", "_law_word"] ["_law_cell", "_law_many"] (defScope s_law_deep) := ⟨rfl, rfl, rfl, by decide +kernel, rfl, by decide +kernel, by decide +kernel⟩
theorem sc_law : FnScope ["_law_script", "_law_k", "_law_cell", "_law_plan_here", "_law_other", "_law_things", "_law_thing", "_law_found"] ["_law_script"] (defScope s_law) := ⟨rfl, rfl, rfl, by decide +kernel, rfl, by decide +kernel, by decide +kernel⟩
/-! ### the top -/
structure Adr where
  f_is_put_together : Addr
  d_is_put_together : FuncData
  f_is_plan : Addr
  d_is_plan : FuncData
  f_law_cell_at : Addr
  d_law_cell_at : FuncData
  f_law_draw : Addr
  d_law_draw : FuncData
  f_law_plan : Addr
  d_law_plan : FuncData
  f_law_looks_so : Addr
  d_law_looks_so : FuncData
  f_law_is_plan : Addr
  d_law_is_plan : FuncData
  f_law_bent : Addr
  d_law_bent : FuncData
  f_law_deep : Addr
  d_law_deep : FuncData
  f_law : Addr
  d_law : FuncData
  u_ONE : Value
  v_ONE : V
  u_BESIDE : Value
  u_ACROSS : Value
  u_MOST_ONES : Value
  u_MOST_DEEP : Value
structure Txt (K : PySem.W.Frag) (mg : Str → Option Value) (t : Adr) : Prop where
  F_is_put_together : L2.Fun K "is_put_together" "is_put_together" s_is_put_together t.f_is_put_together t.d_is_put_together
  m_is_put_together : mg "is_put_together" = some (.ref t.f_is_put_together)
  b_is_put_together : L2.Binds K t.d_is_put_together ["thing"] []
  F_is_plan : L2.Fun K "is_plan" "is_plan" s_is_plan t.f_is_plan t.d_is_plan
  m_is_plan : mg "is_plan" = some (.ref t.f_is_plan)
  b_is_plan : L2.Binds K t.d_is_plan ["thing"] []
  F_law_cell_at : L2.Fun K "_law_cell_at" "_law_cell_at" s_law_cell_at t.f_law_cell_at t.d_law_cell_at
  m_law_cell_at : mg "_law_cell_at" = some (.ref t.f_law_cell_at)
  b_law_cell_at : L2.Binds K t.d_law_cell_at ["_law_script", "_law_k"] []
  F_law_draw : L2.Fun K "_law_draw" "_law_draw" s_law_draw t.f_law_draw t.d_law_draw
  m_law_draw : mg "_law_draw" = some (.ref t.f_law_draw)
  b_law_draw : L2.Binds K t.d_law_draw ["_law_cell", "_law_k", "_law_bound"] []
  F_law_plan : L2.Fun K "_law_plan" "_law_plan" s_law_plan t.f_law_plan t.d_law_plan
  m_law_plan : mg "_law_plan" = some (.ref t.f_law_plan)
  b_law_plan : L2.Binds K t.d_law_plan ["_law_cell", "_law_at", "_law_many"] []
  F_law_looks_so : L2.Fun K "_law_looks_so" "_law_looks_so" s_law_looks_so t.f_law_looks_so t.d_law_looks_so
  m_law_looks_so : mg "_law_looks_so" = some (.ref t.f_law_looks_so)
  b_law_looks_so : L2.Binds K t.d_law_looks_so ["_law_thing"] []
  F_law_is_plan : L2.Fun K "_law_is_plan" "_law_is_plan" s_law_is_plan t.f_law_is_plan t.d_law_is_plan
  m_law_is_plan : mg "_law_is_plan" = some (.ref t.f_law_is_plan)
  b_law_is_plan : L2.Binds K t.d_law_is_plan ["_law_thing"] []
  F_law_bent : L2.Fun K "_law_bent" "_law_bent" s_law_bent t.f_law_bent t.d_law_bent
  m_law_bent : mg "_law_bent" = some (.ref t.f_law_bent)
  b_law_bent : L2.Binds K t.d_law_bent ["_law_cell", "_law_at", "_law_plan_here"] []
  F_law_deep : L2.Fun K "_law_deep" "_law_deep" s_law_deep t.f_law_deep t.d_law_deep
  m_law_deep : mg "_law_deep" = some (.ref t.f_law_deep)
  b_law_deep : L2.Binds K t.d_law_deep ["_law_cell", "_law_many"] []
  F_law : L2.Fun K "law" "law" s_law t.f_law t.d_law
  m_law : mg "law" = some (.ref t.f_law)
  b_law : L2.Binds K t.d_law ["_law_script"] []
  g_ONE : mg "ONE" = some t.u_ONE
  r_ONE : RelV t.v_ONE t.u_ONE
  k_ONE : ∀ A H, Rp K A H t.v_ONE k_ONE
  g_BESIDE : mg "BESIDE" = some t.u_BESIDE
  r_BESIDE : RelV (.str "beside") t.u_BESIDE
  g_ACROSS : mg "ACROSS" = some t.u_ACROSS
  r_ACROSS : RelV (.str "across") t.u_ACROSS
  g_MOST_ONES : mg "MOST_ONES" = some t.u_MOST_ONES
  r_MOST_ONES : RelV (.int 40) t.u_MOST_ONES
  g_MOST_DEEP : mg "MOST_DEEP" = some t.u_MOST_DEEP
  r_MOST_DEEP : RelV (.int 24) t.u_MOST_DEEP
  n_bool : mg "bool" = none
  n_isinstance : mg "isinstance" = none
  n_len : mg "len" = none
  n_max : mg "max" = none
  n_min : mg "min" = none
  n_range : mg "range" = none
  n_sum : mg "sum" = none
  n_tuple : mg "tuple" = none
theorem boot_bool' : bootBuiltins "bool" = some (.type "bool") := by decide +kernel
theorem boot_isinstance' : bootBuiltins "isinstance" = some (.builtin "isinstance") := by decide +kernel
theorem boot_len' : bootBuiltins "len" = some (.builtin "len") := by decide +kernel
theorem boot_max' : bootBuiltins "max" = some (.builtin "max") := by decide +kernel
theorem boot_min' : bootBuiltins "min" = some (.builtin "min") := by decide +kernel
theorem boot_sum' : bootBuiltins "sum" = some (.builtin "sum") := by decide +kernel
theorem boot_tuple' : bootBuiltins "tuple" = some (.type "tuple") := by decide +kernel
section
variable {P : Program} {w : World} {K : PySem.W.Frag} {mg : Str → Option Value} {base : Heap} {t : Adr}
theorem b_is_put_together (T : Txt K mg t) (cdv A outer s H E hr) : SSs (ctD P w K mg base ["thing"] "is_put_together" (defScope s_is_put_together) t.f_is_put_together cdv A outer s H E 0 hr) (defBody s_is_put_together) d_is_put_together :=
    (sss_cons (ss_if (SW.st (sw_or (st_not (st_val (se_isi (se_varS 0) (fun _ => rfl) T.n_isinstance boot_isinstance' (fun _ => rfl) T.n_tuple boot_tuple'))) (sw_or (st_ne (se_len (fun _ => rfl) T.n_len (sa_cons (se_varS 0) sa_nil)) se_int) (sw_or1 (st_nin (se_sub_ix (se_varS 0) se_int) (se_tup (sa_cons (se_glob (fun _ => rfl) T.g_BESIDE T.r_BESIDE (fun _ _ => .str _)) (sa_cons (se_glob (fun _ => rfl) T.g_ACROSS T.r_ACROSS (fun _ _ => .str _)) sa_nil))))))))
      (sss_one (ss_ret se_bl))
      sss_nil)
    (sss_one (ss_ret (se_and (se_isi (se_sub_ix (se_varS 0) se_int) (fun _ => rfl) T.n_isinstance boot_isinstance' (fun _ => rfl) T.n_tuple boot_tuple') (se_one (se_ge (se_len (fun _ => rfl) T.n_len (sa_cons (se_sub_ix (se_varS 0) se_int) sa_nil)) se_int))))))
theorem ok_is_put_together (T : Txt K mg t) : FnOk P w K mg base (CX1 P w) 1 t.f_is_put_together t.d_is_put_together ["thing"] (spF K (clOf mg) 1 F_is_put_together) :=
  fn_simE (N := ["thing"]) (ps := ["thing"]) (k := 0) (f := d_is_put_together) T.F_is_put_together sc_is_put_together (fun cdv A outer s H E hr => b_is_put_together T cdv A outer s H E hr) rfl rfl
theorem b_law_cell_at (T : Txt K mg t) (cdv A outer s H E hr) : SSs (ctD P w K mg base ["_law_script", "_law_k"] "_law_cell_at" (defScope s_law_cell_at) t.f_law_cell_at cdv A outer s H E 0 hr) (defBody s_law_cell_at) d_law_cell_at :=
    (sss_cons (ss_if (st_lt (se_varS 1) (se_len (fun _ => rfl) T.n_len (sa_cons (se_varS 0) sa_nil)))
      (sss_one (ss_ret (se_sub_ix (se_imm (se_varS 0)) (se_varS 1))))
      sss_nil)
    (sss_one (ss_ret se_int)))
theorem ok_law_cell_at (T : Txt K mg t) : FnOk P w K mg base (CX1 P w) 1 t.f_law_cell_at t.d_law_cell_at ["_law_script", "_law_k"] (spF K (clOf mg) 2 F_law_cell_at) :=
  fn_simE (N := ["_law_script", "_law_k"]) (ps := ["_law_script", "_law_k"]) (k := 0) (f := d_law_cell_at) T.F_law_cell_at sc_law_cell_at (fun cdv A outer s H E hr => b_law_cell_at T cdv A outer s H E hr) rfl rfl
theorem b_law_draw (T : Txt K mg t) (cdv A outer s H E hr) : SSs (ctD P w K mg base ["_law_cell", "_law_k", "_law_bound", "_law_left", "_law_j", "_law_stir"] "_law_draw" (defScope s_law_draw) t.f_law_draw cdv A outer s H E 0 hr) (defBody s_law_draw) d_law_draw :=
    (sss_cons (ss_if (st_ge (se_varS 0) (se_pow se_int se_int))
      (sss_cons (ss_setS (i := 3) (sv_e (i := 3) (fun _ => sc_law_draw.nd) (se_varS 0)))
      (sss_cons (ss_for (si_rng1 (sa_cons (se_varS 1) sa_nil) (fun _ => rfl) T.n_range) (sg_name (i := 4) (ks := [4]) (fun _ => sc_law_draw.nd) (by decide))
        (sss_cons (ss_if (st_eq (se_varS 3) se_int)
          (sss_one (ss_ret se_int))
          sss_nil)
        (sss_one (ss_setS (i := 3) (sv_e (i := 3) (fun _ => sc_law_draw.nd) (se_fdiv (se_varS 3) (se_varS 2)))))))
      (sss_one (ss_ret (se_mod (se_varS 3) (se_varS 2))))))
      sss_nil)
    (sss_cons (ss_setS (i := 5) (sv_e (i := 5) (fun _ => sc_law_draw.nd) (se_mod (se_mul (se_add (se_add (se_mod (se_varS 0) se_int) (se_mul se_int (se_varS 1))) se_int) se_int) se_int)))
    (sss_cons (ss_setS (i := 5) (sv_e (i := 5) (fun _ => sc_law_draw.nd) (se_mod (se_add (se_add (se_mul (se_varS 5) (se_varS 5)) (se_mul se_int (se_varS 1))) se_int) se_int)))
    (sss_one (ss_ret (se_mod (se_fdiv (se_mod (se_mul (se_varS 5) se_int) se_int) se_int) (se_varS 2)))))))
theorem ok_law_draw (T : Txt K mg t) : FnOk P w K mg base (CX1 P w) 1 t.f_law_draw t.d_law_draw ["_law_cell", "_law_k", "_law_bound"] (spF K (clOf mg) 3 F_law_draw) :=
  fn_simE (N := ["_law_cell", "_law_k", "_law_bound", "_law_left", "_law_j", "_law_stir"]) (ps := ["_law_cell", "_law_k", "_law_bound"]) (k := 0) (f := d_law_draw) T.F_law_draw sc_law_draw (fun cdv A outer s H E hr => b_law_draw T cdv A outer s H E hr) rfl rfl
theorem b_is_plan (T : Txt K mg t) (cdv A outer s H E hr) : SSs (ctD P w K mg base ["thing", "left", "ones", "here", "deep"] "is_plan" (defScope s_is_plan) t.f_is_plan cdv A outer s H E 1 hr) (defBody s_is_plan) d_is_plan :=
    (sss_cons (ss_setZ (i := 1) (svf_e (i := 1) (fun _ => sc_is_plan.nd) (sf_lst (sa_cons (se_tup (sa_cons (se_varS 0) (sa_cons se_int sa_nil))) sa_nil))))
    (sss_cons (ss_setS (i := 2) (sv_e (i := 2) (fun _ => sc_is_plan.nd) se_int))
    (sss_cons (ss_while (st_val (se_var 1))
      (sss_cons (ss_popZ 1 (sg_tup (n := 2) (sgs_cons (sg_name (i := 3) (ks := [3, 4]) (fun _ => sc_is_plan.nd) (by decide)) (sgs_cons (sg_name (i := 4) (ks := [3, 4]) (fun _ => sc_is_plan.nd) (by decide)) sgs_nil))))
      (sss_cons (ss_if (st_eq (se_varS 3) (se_glob (fun _ => rfl) T.g_ONE T.r_ONE T.k_ONE))
        (sss_one (ss_aug (i := 2) (fun _ => sc_is_plan.nd) se_int (fun _ => ip_add)))
        (sss_one (ss_if (st_val (se_call (ok_is_put_together T) (Nat.le_of_ble_eq_true rfl) (fun _ => rfl) T.m_is_put_together T.F_is_put_together.kp T.b_is_put_together (sa_cons (se_varS 3) sa_nil) (len_cons (fun _ _ h => len_nil h))))
          (sss_one (ss_extendZ 1 (se_lcZ (N := ["inner", "deep"]) (js := [none, some 4]) (ks := [0]) (fun _ => blk_mk rfl rfl rfl rfl rfl rfl) (si_seq (se_sub_ix (se_varS 3) se_int)) (sg_name (i := 0) (ks := [0]) (fun _ => (by decide +kernel : List.Nodup (["inner", "deep"] : List Str))) (by decide)) sf_nil (se_tup (sa_cons (se_varS 0) (sa_cons (se_add (se_varS 1) se_int) sa_nil))))))
          (sss_one (ss_ret se_bl)))))
      (sss_one (ss_if (SW.st (sw_or (st_gt (se_varS 2) (se_glob (fun _ => rfl) T.g_MOST_ONES T.r_MOST_ONES (fun _ _ => .int _))) (sw_or1 (st_gt (se_varS 4) (se_glob (fun _ => rfl) T.g_MOST_DEEP T.r_MOST_DEEP (fun _ _ => .int _))))))
        (sss_one (ss_ret se_bl))
        sss_nil)))))
    (sss_one (ss_ret se_bl)))))
theorem ok_is_plan (T : Txt K mg t) : FnOk P w K mg base (CX1 P w) 2 t.f_is_plan t.d_is_plan ["thing"] (spF K (clOf mg) 1 F_is_plan) :=
  fn_simE (N := ["thing", "left", "ones", "here", "deep"]) (ps := ["thing"]) (k := 1) (f := d_is_plan) T.F_is_plan sc_is_plan (fun cdv A outer s H E hr => b_is_plan T cdv A outer s H E hr) rfl rfl
theorem b_law_plan (T : Txt K mg t) (cdv A outer s H E hr) : SSs (ctD P w K mg base ["_law_cell", "_law_at", "_law_many", "_law_some", "_law_turn", "_law_wide", "_law_first", "_law_word"] "_law_plan" (defScope s_law_plan) t.f_law_plan cdv A outer s H E 1 hr) (defBody s_law_plan) d_law_plan :=
    (sss_cons (ss_setN (i := 3) (sv_e (i := 3) (fun _ => sc_law_plan.nd) (se_mul (se_lst (sa_cons (se_tup (sa_cons se_str sa_nil)) sa_nil)) (se_imm (se_varS 2)))))
    (sss_cons (ss_for (si_rng1 (sa_cons (se_varS 2) sa_nil) (fun _ => rfl) T.n_range) (sg_name (i := 4) (ks := [4]) (fun _ => sc_law_plan.nd) (by decide))
      (sss_one (ss_if (st_gt (se_len (fun _ => rfl) T.n_len (sa_cons (se_varN 3) sa_nil)) se_int)
        (sss_cons (ss_setS (i := 5) (sv_e (i := 5) (fun _ => sc_law_plan.nd) (se_add se_int (se_call (ok_law_draw T) (Nat.le_of_ble_eq_true rfl) (fun _ => rfl) T.m_law_draw T.F_law_draw.kp T.b_law_draw (sa_cons (se_varS 0) (sa_cons (se_add (se_varS 1) (se_mul se_int (se_varS 4))) (sa_cons se_int sa_nil))) (len_cons (len_cons (len_cons (fun _ _ h => len_nil h))))))))
        (sss_cons (ss_setS (i := 6) (sv_e (i := 6) (fun _ => sc_law_plan.nd) (se_call (ok_law_draw T) (Nat.le_of_ble_eq_true rfl) (fun _ => rfl) T.m_law_draw T.F_law_draw.kp T.b_law_draw (sa_cons (se_varS 0) (sa_cons (se_add (se_add (se_varS 1) (se_mul se_int (se_varS 4))) se_int) (sa_cons (se_max2 (fun _ => rfl) T.n_max boot_max' (sa_cons se_int (sa_cons (se_add (se_sub (se_len (fun _ => rfl) T.n_len (sa_cons (se_varN 3) sa_nil)) (se_varS 5)) se_int) sa_nil))) sa_nil))) (len_cons (len_cons (len_cons (fun _ _ h => len_nil h)))))))
        (sss_cons (ss_setN (i := 7) (sv_e (i := 7) (fun _ => sc_law_plan.nd) (se_sub_ix (se_lst (sa_cons se_str (sa_cons se_str sa_nil))) (se_call (ok_law_draw T) (Nat.le_of_ble_eq_true rfl) (fun _ => rfl) T.m_law_draw T.F_law_draw.kp T.b_law_draw (sa_cons (se_varS 0) (sa_cons (se_add (se_add (se_varS 1) (se_mul se_int (se_varS 4))) se_int) (sa_cons se_int sa_nil))) (len_cons (len_cons (len_cons (fun _ _ h => len_nil h))))))))
        (sss_one (ss_setN (i := 3) (sv_e (i := 3) (fun _ => sc_law_plan.nd) (se_add (se_add (se_slice (se_varN 3) so_none (so_some (se_varS 6))) (se_lst (sa_cons (se_tup (sa_cons (se_varN 7) (sa_cons (se_tuple (fun _ => rfl) T.n_tuple boot_tuple' (sa_cons (se_slice (se_varN 3) (so_some (se_varS 6)) (so_some (se_add (se_varS 6) (se_varS 5)))) sa_nil)) sa_nil))) sa_nil))) (se_slice (se_varN 3) (so_some (se_add (se_varS 6) (se_varS 5))) so_none))))))))
        sss_nil)))
    (sss_one (ss_ret (se_sub_ix (se_varN 3) se_int)))))
theorem ok_law_plan (T : Txt K mg t) : FnOk P w K mg base (CX1 P w) 2 t.f_law_plan t.d_law_plan ["_law_cell", "_law_at", "_law_many"] (spF K (clOf mg) 3 F_law_plan) :=
  fn_simE (N := ["_law_cell", "_law_at", "_law_many", "_law_some", "_law_turn", "_law_wide", "_law_first", "_law_word"]) (ps := ["_law_cell", "_law_at", "_law_many"]) (k := 1) (f := d_law_plan) T.F_law_plan sc_law_plan (fun cdv A outer s H E hr => b_law_plan T cdv A outer s H E hr) rfl rfl
theorem b_law_deep (T : Txt K mg t) (cdv A outer s H E hr) : SSs (ctD P w K mg base ["_law_cell", "_law_many", "_law_found", "_law_k", "_law_word"] "_law_deep" (defScope s_law_deep) t.f_law_deep cdv A outer s H E 1 hr) (defBody s_law_deep) d_law_deep :=
    (sss_cons (ss_setN (i := 2) (sv_e (i := 2) (fun _ => sc_law_deep.nd) (se_tup (sa_cons se_str sa_nil))))
    (sss_cons (ss_for (si_rng1 (sa_cons (se_sub (se_varS 1) se_int) sa_nil) (fun _ => rfl) T.n_range) (sg_name (i := 3) (ks := [3]) (fun _ => sc_law_deep.nd) (by decide))
      (sss_cons (ss_setN (i := 4) (sv_e (i := 4) (fun _ => sc_law_deep.nd) (se_sub_ix (se_lst (sa_cons se_str (sa_cons se_str sa_nil))) (se_call (ok_law_draw T) (Nat.le_of_ble_eq_true rfl) (fun _ => rfl) T.m_law_draw T.F_law_draw.kp T.b_law_draw (sa_cons (se_varS 0) (sa_cons (se_add se_int (se_varS 3)) (sa_cons se_int sa_nil))) (len_cons (len_cons (len_cons (fun _ _ h => len_nil h))))))))
      (sss_one (ss_setN (i := 2) (sv_e (i := 2) (fun _ => sc_law_deep.nd) (se_sub_ix (se_lst (sa_cons (se_tup (sa_cons (se_varN 4) (sa_cons (se_tup (sa_cons (se_varN 2) (sa_cons (se_tup (sa_cons se_str sa_nil)) sa_nil))) sa_nil))) (sa_cons (se_tup (sa_cons (se_varN 4) (sa_cons (se_tup (sa_cons (se_tup (sa_cons se_str sa_nil)) (sa_cons (se_varN 2) sa_nil))) sa_nil))) sa_nil))) (se_call (ok_law_draw T) (Nat.le_of_ble_eq_true rfl) (fun _ => rfl) T.m_law_draw T.F_law_draw.kp T.b_law_draw (sa_cons (se_varS 0) (sa_cons (se_add se_int (se_varS 3)) (sa_cons se_int sa_nil))) (len_cons (len_cons (len_cons (fun _ _ h => len_nil h)))))))))))
    (sss_one (ss_ret (se_varN 2)))))
theorem ok_law_deep (T : Txt K mg t) : FnOk P w K mg base (CX1 P w) 2 t.f_law_deep t.d_law_deep ["_law_cell", "_law_many"] (spF K (clOf mg) 2 F_law_deep) :=
  fn_simE (N := ["_law_cell", "_law_many", "_law_found", "_law_k", "_law_word"]) (ps := ["_law_cell", "_law_many"]) (k := 1) (f := d_law_deep) T.F_law_deep sc_law_deep (fun cdv A outer s H E hr => b_law_deep T cdv A outer s H E hr) rfl rfl
theorem b_law_looks_so (T : Txt K mg t) {R : List D → Rs D} {k : Nat} (hk : 1 ≤ k) (hR : FnOk P w K mg base (CX1 P w) k t.f_law_looks_so t.d_law_looks_so ["_law_thing"] (spF K (clOf mg) 1 R)) (cdv A outer s H E hr) : SSs (ctD P w K mg base ["_law_thing", "_law_some"] "_law_looks_so" (defScope s_law_looks_so) t.f_law_looks_so cdv A outer s H E k hr) (defBody s_law_looks_so) (d_law_looks_so R) :=
    (sss_cons (ss_if (st_eq (se_varS 0) (se_tup (sa_cons se_str sa_nil)))
      (sss_one (ss_ret (se_tup (sa_cons se_int (sa_cons se_int sa_nil)))))
      sss_nil)
    (sss_cons (ss_if (SW.st (sw_or (st_not (st_val (se_isi (se_varS 0) (fun _ => rfl) T.n_isinstance boot_isinstance' (fun _ => rfl) T.n_tuple boot_tuple'))) (sw_or (st_ne (se_len (fun _ => rfl) T.n_len (sa_cons (se_varS 0) sa_nil)) se_int) (sw_or1 (st_nin (se_sub_ix (se_varS 0) se_int) (se_lst (sa_cons se_str (sa_cons se_str sa_nil))))))))
      (sss_one (ss_ret se_non))
      sss_nil)
    (sss_cons (ss_if (SW.st (sw_or (st_not (st_val (se_isi (se_sub_ix (se_varS 0) se_int) (fun _ => rfl) T.n_isinstance boot_isinstance' (fun _ => rfl) T.n_tuple boot_tuple'))) (sw_or1 (st_lt (se_len (fun _ => rfl) T.n_len (sa_cons (se_sub_ix (se_varS 0) se_int) sa_nil)) se_int))))
      (sss_one (ss_ret se_non))
      sss_nil)
    (sss_cons (ss_setN (i := 1) (sv_lc (N := ["_law_one"]) (js := [none]) (ks := [0]) (fun _ => sc_law_looks_so.nd) (fun _ => blk_mk rfl rfl rfl rfl rfl rfl) (si_seq (se_sub_ix (se_varS 0) se_int)) (sg_name (i := 0) (ks := [0]) (fun _ => (by decide +kernel : List.Nodup (["_law_one"] : List Str))) (by decide)) sf_nil (se_call hR (Nat.le_refl _) (fun _ => rfl) T.m_law_looks_so T.F_law_looks_so.kp T.b_law_looks_so (sa_cons (se_varS 0) sa_nil) (len_cons (fun _ _ h => len_nil h)))))
    (sss_cons (ss_if (st_in se_non (se_varN 1))
      (sss_one (ss_ret se_non))
      sss_nil)
    (sss_one (ss_ret (se_tup (sa_cons (se_add se_int (se_maxL (fun _ => rfl) T.n_max boot_max' (sa_cons (se_lc (N := ["_law_one"]) (js := [none]) (ks := [0]) (fun _ => blk_mk rfl rfl rfl rfl rfl rfl) (si_seq (se_varS 1)) (sg_name (i := 0) (ks := [0]) (fun _ => (by decide +kernel : List.Nodup (["_law_one"] : List Str))) (by decide)) sf_nil (se_sub_ix (se_imm (se_varS 0)) se_int)) sa_nil))) (sa_cons (se_sumL (fun _ => rfl) T.n_sum boot_sum' (sa_cons (se_lc (N := ["_law_one"]) (js := [none]) (ks := [0]) (fun _ => blk_mk rfl rfl rfl rfl rfl rfl) (si_seq (se_varS 1)) (sg_name (i := 0) (ks := [0]) (fun _ => (by decide +kernel : List.Nodup (["_law_one"] : List Str))) (by decide)) sf_nil (se_sub_ix (se_imm (se_varS 0)) se_int)) sa_nil)) sa_nil))))))))))
theorem okR_law_looks_so (T : Txt K mg t) : ∀ n, FnOk P w K mg base (CX1 P w) (1 + n) t.f_law_looks_so t.d_law_looks_so ["_law_thing"] (spF K (clOf mg) 1 (R_law_looks_so n))
  | 0 => fn_stuck
  | n + 1 => fn_simE (N := ["_law_thing", "_law_some"]) (ps := ["_law_thing"]) (k := 1 + n) (f := d_law_looks_so (R_law_looks_so n)) T.F_law_looks_so sc_law_looks_so (fun cdv A outer s H E hr => b_law_looks_so T (Nat.le_add_right _ _) (okR_law_looks_so T n) cdv A outer s H E hr) rfl rfl
theorem ok_law_looks_so (T : Txt K mg t) : FnOk P w K mg base (CX1 P w) 65 t.f_law_looks_so t.d_law_looks_so ["_law_thing"] (spF K (clOf mg) 1 F_law_looks_so) := okR_law_looks_so T 64
theorem b_law_is_plan (T : Txt K mg t) (cdv A outer s H E hr) : SSs (ctD P w K mg base ["_law_thing", "_law_found"] "_law_is_plan" (defScope s_law_is_plan) t.f_law_is_plan cdv A outer s H E 65 hr) (defBody s_law_is_plan) d_law_is_plan :=
    (sss_cons (ss_setS (i := 1) (sv_e (i := 1) (fun _ => sc_law_is_plan.nd) (se_call (ok_law_looks_so T) (Nat.le_of_ble_eq_true rfl) (fun _ => rfl) T.m_law_looks_so T.F_law_looks_so.kp T.b_law_looks_so (sa_cons (se_varS 0) sa_nil) (len_cons (fun _ _ h => len_nil h)))))
    (sss_one (ss_ret (se_and (se_isnot (se_varS 1) se_non) (se_and (se_le (se_sub_ix (se_varS 1) se_int) se_int) (se_one (se_le (se_sub_ix (se_varS 1) se_int) se_int)))))))
theorem ok_law_is_plan (T : Txt K mg t) : FnOk P w K mg base (CX1 P w) 66 t.f_law_is_plan t.d_law_is_plan ["_law_thing"] (spF K (clOf mg) 1 F_law_is_plan) :=
  fn_simE (N := ["_law_thing", "_law_found"]) (ps := ["_law_thing"]) (k := 65) (f := d_law_is_plan) T.F_law_is_plan sc_law_is_plan (fun cdv A outer s H E hr => b_law_is_plan T cdv A outer s H E hr) rfl rfl
theorem b_law_bent (T : Txt K mg t) {R : List D → Rs D} {k : Nat} (hk : 2 ≤ k) (hR : FnOk P w K mg base (CX1 P w) k t.f_law_bent t.d_law_bent ["_law_cell", "_law_at", "_law_plan_here"] (spF K (clOf mg) 3 R)) (cdv A outer s H E hr) : SSs (ctD P w K mg base ["_law_cell", "_law_at", "_law_plan_here", "_law_k", "_law_some"] "_law_bent" (defScope s_law_bent) t.f_law_bent cdv A outer s H E k hr) (defBody s_law_bent) (d_law_bent R) :=
    (sss_cons (ss_if (SW.st (sw_and (st_eq (se_len (fun _ => rfl) T.n_len (sa_cons (se_varS 2) sa_nil)) se_int) (sw_and1 (st_gt (se_call (ok_law_draw T) (Nat.le_trans (Nat.le_of_ble_eq_true rfl) hk) (fun _ => rfl) T.m_law_draw T.F_law_draw.kp T.b_law_draw (sa_cons (se_varS 0) (sa_cons (se_varS 1) (sa_cons se_int sa_nil))) (len_cons (len_cons (len_cons (fun _ _ h => len_nil h))))) se_int))))
      (sss_cons (ss_setS (i := 3) (sv_e (i := 3) (fun _ => sc_law_bent.nd) (se_call (ok_law_draw T) (Nat.le_trans (Nat.le_of_ble_eq_true rfl) hk) (fun _ => rfl) T.m_law_draw T.F_law_draw.kp T.b_law_draw (sa_cons (se_varS 0) (sa_cons (se_add (se_varS 1) se_int) (sa_cons (se_len (fun _ => rfl) T.n_len (sa_cons (se_sub_ix (se_varS 2) se_int) sa_nil)) sa_nil))) (len_cons (len_cons (len_cons (fun _ _ h => len_nil h)))))))
      (sss_one (ss_ret (se_tup (sa_cons (se_sub_ix (se_imm (se_varS 2)) se_int) (sa_cons (se_add (se_add (se_slice (se_sub_ix (se_imm (se_varS 2)) se_int) so_none (so_some (se_varS 3))) (se_tup (sa_cons (se_call hR (Nat.le_refl _) (fun _ => rfl) T.m_law_bent T.F_law_bent.kp T.b_law_bent (sa_cons (se_varS 0) (sa_cons (se_add (se_varS 1) se_int) (sa_cons (se_sub_ix (se_sub_ix (se_varS 2) se_int) (se_varS 3)) sa_nil))) (len_cons (len_cons (len_cons (fun _ _ h => len_nil h))))) sa_nil))) (se_slice (se_sub_ix (se_imm (se_varS 2)) se_int) (so_some (se_add (se_varS 3) se_int)) so_none)) sa_nil))))))
      sss_nil)
    (sss_cons (ss_setN (i := 4) (sv_e (i := 4) (fun _ => sc_law_bent.nd) (se_lst (sa_cons (se_tup (sa_cons se_str sa_nil)) (sa_cons (se_lst (sa_cons se_str sa_nil)) (sa_cons se_str (sa_cons (se_tup (sa_cons se_str (sa_cons (se_tup sa_nil) sa_nil))) (sa_cons se_non (sa_cons se_int (sa_cons (se_tup sa_nil) (sa_cons (se_tup (sa_cons se_str sa_nil)) (sa_cons (se_tup (sa_cons se_str (sa_cons se_str sa_nil))) (sa_cons (se_tup (sa_cons se_str (sa_cons (se_tup (sa_cons (se_tup (sa_cons se_str sa_nil)) sa_nil)) sa_nil))) sa_nil)))))))))))))
    (sss_cons (ss_setN (i := 4) (sv_e (i := 4) (fun _ => sc_law_bent.nd) (se_add (se_varN 4) (se_lst (sa_cons (se_tup (sa_cons se_str (sa_cons (se_lst (sa_cons (se_tup (sa_cons se_str sa_nil)) (sa_cons (se_tup (sa_cons se_str sa_nil)) sa_nil))) sa_nil))) (sa_cons (se_tup (sa_cons se_str (sa_cons (se_tup (sa_cons (se_tup (sa_cons se_str sa_nil)) (sa_cons (se_tup (sa_cons se_str sa_nil)) sa_nil))) sa_nil))) (sa_cons (se_tup (sa_cons se_str (sa_cons (se_tup sa_nil) (sa_cons (se_tup sa_nil) sa_nil)))) (sa_cons (se_tup (sa_cons (se_tup (sa_cons se_str sa_nil)) sa_nil)) sa_nil))))))))
    (sss_cons (ss_setN (i := 4) (sv_e (i := 4) (fun _ => sc_law_bent.nd) (se_add (se_varN 4) (se_lst (sa_cons (se_tup (sa_cons se_str (sa_cons (se_tup (sa_cons (se_tup (sa_cons se_str sa_nil)) (sa_cons (se_tup (sa_cons se_str sa_nil)) sa_nil))) sa_nil))) (sa_cons (se_tup (sa_cons se_bl sa_nil)) (sa_cons (se_tup (sa_cons se_str sa_nil)) (sa_cons (se_tup (sa_cons se_str (sa_cons (se_tup sa_nil) sa_nil))) (sa_cons (se_tup (sa_cons (se_tup (sa_cons se_str sa_nil)) (sa_cons se_str sa_nil))) sa_nil)))))))))
    (sss_one (ss_ret (se_sub_ix (se_varN 4) (se_call (ok_law_draw T) (Nat.le_trans (Nat.le_of_ble_eq_true rfl) hk) (fun _ => rfl) T.m_law_draw T.F_law_draw.kp T.b_law_draw (sa_cons (se_varS 0) (sa_cons (se_add (se_varS 1) se_int) (sa_cons se_int sa_nil))) (len_cons (len_cons (len_cons (fun _ _ h => len_nil h))))))))))))
theorem okR_law_bent (T : Txt K mg t) : ∀ n, FnOk P w K mg base (CX1 P w) (2 + n) t.f_law_bent t.d_law_bent ["_law_cell", "_law_at", "_law_plan_here"] (spF K (clOf mg) 3 (R_law_bent n))
  | 0 => fn_stuck
  | n + 1 => fn_simE (N := ["_law_cell", "_law_at", "_law_plan_here", "_law_k", "_law_some"]) (ps := ["_law_cell", "_law_at", "_law_plan_here"]) (k := 2 + n) (f := d_law_bent (R_law_bent n)) T.F_law_bent sc_law_bent (fun cdv A outer s H E hr => b_law_bent T (Nat.le_add_right _ _) (okR_law_bent T n) cdv A outer s H E hr) rfl rfl
theorem ok_law_bent (T : Txt K mg t) : FnOk P w K mg base (CX1 P w) 66 t.f_law_bent t.d_law_bent ["_law_cell", "_law_at", "_law_plan_here"] (spF K (clOf mg) 3 F_law_bent) := okR_law_bent T 64
theorem b_law (T : Txt K mg t) (cdv A outer s H E hr) : SSs (ctD P w K mg base ["_law_script", "_law_k", "_law_cell", "_law_plan_here", "_law_other", "_law_things", "_law_thing", "_law_found"] "law" (defScope s_law) t.f_law cdv A outer s H E 66 hr) (defBody s_law) d_law :=
    (sss_cons (ss_for (si_rng1 (sa_cons (se_max2 (fun _ => rfl) T.n_max boot_max' (sa_cons se_int (sa_cons (se_min2 (fun _ => rfl) T.n_min boot_min' (sa_cons (se_len (fun _ => rfl) T.n_len (sa_cons (se_varS 0) sa_nil)) (sa_cons se_int sa_nil))) sa_nil))) sa_nil) (fun _ => rfl) T.n_range) (sg_name (i := 1) (ks := [1]) (fun _ => sc_law.nd) (by decide))
      (sss_cons (ss_setS (i := 2) (sv_e (i := 2) (fun _ => sc_law.nd) (se_call (ok_law_cell_at T) (Nat.le_of_ble_eq_true rfl) (fun _ => rfl) T.m_law_cell_at T.F_law_cell_at.kp T.b_law_cell_at (sa_cons (se_varS 0) (sa_cons (se_varS 1) sa_nil)) (len_cons (len_cons (fun _ _ h => len_nil h))))))
      (sss_cons (ss_setS (i := 3) (sv_e (i := 3) (fun _ => sc_law.nd) (se_call (ok_law_plan T) (Nat.le_of_ble_eq_true rfl) (fun _ => rfl) T.m_law_plan T.F_law_plan.kp T.b_law_plan (sa_cons (se_varS 2) (sa_cons se_int (sa_cons (se_add se_int (se_call (ok_law_draw T) (Nat.le_of_ble_eq_true rfl) (fun _ => rfl) T.m_law_draw T.F_law_draw.kp T.b_law_draw (sa_cons (se_varS 2) (sa_cons se_int (sa_cons se_int sa_nil))) (len_cons (len_cons (len_cons (fun _ _ h => len_nil h)))))) sa_nil))) (len_cons (len_cons (len_cons (fun _ _ h => len_nil h)))))))
      (sss_cons (ss_setS (i := 4) (sv_e (i := 4) (fun _ => sc_law.nd) (se_call (ok_law_plan T) (Nat.le_of_ble_eq_true rfl) (fun _ => rfl) T.m_law_plan T.F_law_plan.kp T.b_law_plan (sa_cons (se_varS 2) (sa_cons se_int (sa_cons (se_add se_int (se_call (ok_law_draw T) (Nat.le_of_ble_eq_true rfl) (fun _ => rfl) T.m_law_draw T.F_law_draw.kp T.b_law_draw (sa_cons (se_varS 2) (sa_cons se_int (sa_cons se_int sa_nil))) (len_cons (len_cons (len_cons (fun _ _ h => len_nil h)))))) sa_nil))) (len_cons (len_cons (len_cons (fun _ _ h => len_nil h)))))))
      (sss_cons (ss_setO (i := 5) (svf_e (i := 5) (fun _ => sc_law.nd) (sf_lst (sa_cons (se_imm (se_varS 3)) (sa_cons (se_call (ok_law_bent T) (Nat.le_of_ble_eq_true rfl) (fun _ => rfl) T.m_law_bent T.F_law_bent.kp T.b_law_bent (sa_cons (se_varS 2) (sa_cons se_int (sa_cons (se_varS 3) sa_nil))) (len_cons (len_cons (len_cons (fun _ _ h => len_nil h))))) (sa_cons (se_call (ok_law_bent T) (Nat.le_of_ble_eq_true rfl) (fun _ => rfl) T.m_law_bent T.F_law_bent.kp T.b_law_bent (sa_cons (se_add (se_varS 2) se_int) (sa_cons se_int (sa_cons (se_varS 3) sa_nil))) (len_cons (len_cons (len_cons (fun _ _ h => len_nil h))))) (sa_cons (se_tup (sa_cons se_str (sa_cons (se_tup (sa_cons (se_imm (se_varS 3)) (sa_cons (se_imm (se_varS 4)) sa_nil))) sa_nil))) sa_nil)))))))
      (sss_cons (ss_setO (i := 5) (svf_e (i := 5) (fun _ => sc_law.nd) (sf_add (se_varO 5) (se_lst (sa_cons (se_tup (sa_cons se_str (sa_cons (se_tup (sa_cons (se_imm (se_varS 4)) (sa_cons (se_imm (se_varS 3)) sa_nil))) sa_nil))) (sa_cons (se_call (ok_law_deep T) (Nat.le_of_ble_eq_true rfl) (fun _ => rfl) T.m_law_deep T.F_law_deep.kp T.b_law_deep (sa_cons (se_varS 2) (sa_cons (se_add se_int (se_call (ok_law_draw T) (Nat.le_of_ble_eq_true rfl) (fun _ => rfl) T.m_law_draw T.F_law_draw.kp T.b_law_draw (sa_cons (se_varS 2) (sa_cons se_int (sa_cons se_int sa_nil))) (len_cons (len_cons (len_cons (fun _ _ h => len_nil h)))))) sa_nil)) (len_cons (len_cons (fun _ _ h => len_nil h)))) sa_nil))))))
      (sss_cons (ss_append 5 (se_tup (sa_cons se_str (sa_cons (se_mulT (se_tup (sa_cons (se_tup (sa_cons se_str sa_nil)) sa_nil)) (se_add se_int (se_call (ok_law_draw T) (Nat.le_of_ble_eq_true rfl) (fun _ => rfl) T.m_law_draw T.F_law_draw.kp T.b_law_draw (sa_cons (se_varS 2) (sa_cons se_int (sa_cons se_int sa_nil))) (len_cons (len_cons (len_cons (fun _ _ h => len_nil h))))))) sa_nil))))
      (sss_frz 5 (sss_one (ss_for (si_seq (se_varS 5)) (sg_name (i := 6) (ks := [6]) (fun _ => sc_law.nd) (by decide))
        (sss_cons (ss_setS (i := 7) (sv_e (i := 7) (fun _ => sc_law.nd) (se_call (ok_is_plan T) (Nat.le_of_ble_eq_true rfl) (fun _ => rfl) T.m_is_plan T.F_is_plan.kp T.b_is_plan (sa_cons (se_varS 6) sa_nil) (len_cons (fun _ _ h => len_nil h)))))
        (sss_one (ss_if (SW.st (sw_or (st_not (st_val (se_isi (se_varS 7) (fun _ => rfl) T.n_isinstance boot_isinstance' (fun _ => rfl) T.n_bool boot_bool'))) (sw_or1 (st_ne (se_varS 7) (se_call (ok_law_is_plan T) (Nat.le_of_ble_eq_true rfl) (fun _ => rfl) T.m_law_is_plan T.F_law_is_plan.kp T.b_law_is_plan (sa_cons (se_varS 6) sa_nil) (len_cons (fun _ _ h => len_nil h)))))))
          (sss_one (ss_ret se_bl))
          sss_nil)))))))))))))
    (sss_one (ss_ret (se_and (se_is (se_call (ok_is_plan T) (Nat.le_of_ble_eq_true rfl) (fun _ => rfl) T.m_is_plan T.F_is_plan.kp T.b_is_plan (sa_cons (se_tup (sa_cons se_str sa_nil)) sa_nil) (len_cons (fun _ _ h => len_nil h))) se_bl) (se_one (se_is (se_call (ok_is_plan T) (Nat.le_of_ble_eq_true rfl) (fun _ => rfl) T.m_is_plan T.F_is_plan.kp T.b_is_plan (sa_cons (se_tup (sa_cons se_str (sa_cons (se_tup (sa_cons (se_tup (sa_cons se_str sa_nil)) (sa_cons (se_tup (sa_cons se_str sa_nil)) sa_nil))) sa_nil))) sa_nil) (len_cons (fun _ _ h => len_nil h))) se_bl))))))
theorem ok_law (T : Txt K mg t) : FnOk P w K mg base (CX1 P w) 67 t.f_law t.d_law ["_law_script"] (spF K (clOf mg) 1 F_law) :=
  fn_simE (N := ["_law_script", "_law_k", "_law_cell", "_law_plan_here", "_law_other", "_law_things", "_law_thing", "_law_found"]) (ps := ["_law_script"]) (k := 66) (f := d_law) T.F_law sc_law (fun cdv A outer s H E hr => b_law T cdv A outer s H E hr) rfl rfl
end
end VL.My

set_option Elab.async false
set_option linter.all false
set_option maxRecDepth 100000
set_option maxHeartbeats 4000000
namespace VL.My
open PySem L2
theorem txt_mk {K : PySem.W.Frag} {h : Heap} {mg : Str → Option Value} {f0 : Addr} {od0 an0 : Option Addr} {sl0 : Array (Option Value)} {oc0 kV0 dc0 pm0 cd0 ct0 : Value} {f1 : Addr} {od1 an1 : Option Addr} {sl1 : Array (Option Value)} {oc1 kV1 dc1 pm1 cd1 ct1 : Value} {f2 : Addr} {od2 an2 : Option Addr} {sl2 : Array (Option Value)} {oc2 kV2 dc2 pm2 cd2 ct2 : Value} {f3 : Addr} {od3 an3 : Option Addr} {sl3 : Array (Option Value)} {oc3 kV3 dc3 pm3 cd3 ct3 : Value} {f4 : Addr} {od4 an4 : Option Addr} {sl4 : Array (Option Value)} {oc4 kV4 dc4 pm4 cd4 ct4 : Value} {f5 : Addr} {od5 an5 : Option Addr} {sl5 : Array (Option Value)} {oc5 kV5 dc5 pm5 cd5 ct5 : Value} {f6 : Addr} {od6 an6 : Option Addr} {sl6 : Array (Option Value)} {oc6 kV6 dc6 pm6 cd6 ct6 : Value} {f7 : Addr} {od7 an7 : Option Addr} {sl7 : Array (Option Value)} {oc7 kV7 dc7 pm7 cd7 ct7 : Value} {f8 : Addr} {od8 an8 : Option Addr} {sl8 : Array (Option Value)} {oc8 kV8 dc8 pm8 cd8 ct8 : Value} {f9 : Addr} {od9 an9 : Option Addr} {sl9 : Array (Option Value)} {oc9 kV9 dc9 pm9 cd9 ct9 : Value} {qc_ONE : Addr} {qd_ONE : Option Addr} {qs_ONE : Array (Option Value)} {qn_ONE : Nat} {tk_ONE_0 : Tok} {tk_BESIDE : Tok} {tk_ACROSS : Tok} {tk_MOST_ONES : Tok} {tk_MOST_DEEP : Tok} (X : K.In h) (G : h.Ns mainGlobals mg)
    (a0 : PySem.W.nsIn K mainGlobals "is_put_together" = some (some (.ref f0)))
    (l0 : K.lookup f0 = some ⟨oc0, od0, .func (PySem.W.fnOf "is_put_together" "is_put_together" (defArgs s_is_put_together) (defBody s_is_put_together) (defScope s_is_put_together) .none kV0 dc0 pm0 an0 cd0 ct0), sl0⟩)
    (c0 : PySem.W.codeIn K cd0 "is_put_together" = true)
    (k0 : PySem.W.keepIn K (.ref f0) = true)
    (a1 : PySem.W.nsIn K mainGlobals "is_plan" = some (some (.ref f1)))
    (l1 : K.lookup f1 = some ⟨oc1, od1, .func (PySem.W.fnOf "is_plan" "is_plan" (defArgs s_is_plan) (defBody s_is_plan) (defScope s_is_plan) .none kV1 dc1 pm1 an1 cd1 ct1), sl1⟩)
    (c1 : PySem.W.codeIn K cd1 "is_plan" = true)
    (k1 : PySem.W.keepIn K (.ref f1) = true)
    (a2 : PySem.W.nsIn K mainGlobals "_law_cell_at" = some (some (.ref f2)))
    (l2 : K.lookup f2 = some ⟨oc2, od2, .func (PySem.W.fnOf "_law_cell_at" "_law_cell_at" (defArgs s_law_cell_at) (defBody s_law_cell_at) (defScope s_law_cell_at) .none kV2 dc2 pm2 an2 cd2 ct2), sl2⟩)
    (c2 : PySem.W.codeIn K cd2 "_law_cell_at" = true)
    (k2 : PySem.W.keepIn K (.ref f2) = true)
    (a3 : PySem.W.nsIn K mainGlobals "_law_draw" = some (some (.ref f3)))
    (l3 : K.lookup f3 = some ⟨oc3, od3, .func (PySem.W.fnOf "_law_draw" "_law_draw" (defArgs s_law_draw) (defBody s_law_draw) (defScope s_law_draw) .none kV3 dc3 pm3 an3 cd3 ct3), sl3⟩)
    (c3 : PySem.W.codeIn K cd3 "_law_draw" = true)
    (k3 : PySem.W.keepIn K (.ref f3) = true)
    (a4 : PySem.W.nsIn K mainGlobals "_law_plan" = some (some (.ref f4)))
    (l4 : K.lookup f4 = some ⟨oc4, od4, .func (PySem.W.fnOf "_law_plan" "_law_plan" (defArgs s_law_plan) (defBody s_law_plan) (defScope s_law_plan) .none kV4 dc4 pm4 an4 cd4 ct4), sl4⟩)
    (c4 : PySem.W.codeIn K cd4 "_law_plan" = true)
    (k4 : PySem.W.keepIn K (.ref f4) = true)
    (a5 : PySem.W.nsIn K mainGlobals "_law_looks_so" = some (some (.ref f5)))
    (l5 : K.lookup f5 = some ⟨oc5, od5, .func (PySem.W.fnOf "_law_looks_so" "_law_looks_so" (defArgs s_law_looks_so) (defBody s_law_looks_so) (defScope s_law_looks_so) .none kV5 dc5 pm5 an5 cd5 ct5), sl5⟩)
    (c5 : PySem.W.codeIn K cd5 "_law_looks_so" = true)
    (k5 : PySem.W.keepIn K (.ref f5) = true)
    (a6 : PySem.W.nsIn K mainGlobals "_law_is_plan" = some (some (.ref f6)))
    (l6 : K.lookup f6 = some ⟨oc6, od6, .func (PySem.W.fnOf "_law_is_plan" "_law_is_plan" (defArgs s_law_is_plan) (defBody s_law_is_plan) (defScope s_law_is_plan) .none kV6 dc6 pm6 an6 cd6 ct6), sl6⟩)
    (c6 : PySem.W.codeIn K cd6 "_law_is_plan" = true)
    (k6 : PySem.W.keepIn K (.ref f6) = true)
    (a7 : PySem.W.nsIn K mainGlobals "_law_bent" = some (some (.ref f7)))
    (l7 : K.lookup f7 = some ⟨oc7, od7, .func (PySem.W.fnOf "_law_bent" "_law_bent" (defArgs s_law_bent) (defBody s_law_bent) (defScope s_law_bent) .none kV7 dc7 pm7 an7 cd7 ct7), sl7⟩)
    (c7 : PySem.W.codeIn K cd7 "_law_bent" = true)
    (k7 : PySem.W.keepIn K (.ref f7) = true)
    (a8 : PySem.W.nsIn K mainGlobals "_law_deep" = some (some (.ref f8)))
    (l8 : K.lookup f8 = some ⟨oc8, od8, .func (PySem.W.fnOf "_law_deep" "_law_deep" (defArgs s_law_deep) (defBody s_law_deep) (defScope s_law_deep) .none kV8 dc8 pm8 an8 cd8 ct8), sl8⟩)
    (c8 : PySem.W.codeIn K cd8 "_law_deep" = true)
    (k8 : PySem.W.keepIn K (.ref f8) = true)
    (a9 : PySem.W.nsIn K mainGlobals "law" = some (some (.ref f9)))
    (l9 : K.lookup f9 = some ⟨oc9, od9, .func (PySem.W.fnOf "law" "law" (defArgs s_law) (defBody s_law) (defScope s_law) .none kV9 dc9 pm9 an9 cd9 ct9), sl9⟩)
    (c9 : PySem.W.codeIn K cd9 "law" = true)
    (k9 : PySem.W.keepIn K (.ref f9) = true)
    (g_ONE : PySem.W.nsIn K mainGlobals "ONE" = some (some (.ref qc_ONE)))
    (h_ONE : K.lookup qc_ONE = some ⟨.type "tuple", qd_ONE, .seq #[.str "one" tk_ONE_0] qn_ONE, qs_ONE⟩)
    (g_BESIDE : PySem.W.nsIn K mainGlobals "BESIDE" = some (some (.str "beside" tk_BESIDE)))
    (g_ACROSS : PySem.W.nsIn K mainGlobals "ACROSS" = some (some (.str "across" tk_ACROSS)))
    (g_MOST_ONES : PySem.W.nsIn K mainGlobals "MOST_ONES" = some (some (.int 40 tk_MOST_ONES)))
    (g_MOST_DEEP : PySem.W.nsIn K mainGlobals "MOST_DEEP" = some (some (.int 24 tk_MOST_DEEP)))
    (z_bool : PySem.W.nsIn K mainGlobals "bool" = some none)
    (z_isinstance : PySem.W.nsIn K mainGlobals "isinstance" = some none)
    (z_len : PySem.W.nsIn K mainGlobals "len" = some none)
    (z_max : PySem.W.nsIn K mainGlobals "max" = some none)
    (z_min : PySem.W.nsIn K mainGlobals "min" = some none)
    (z_range : PySem.W.nsIn K mainGlobals "range" = some none)
    (z_sum : PySem.W.nsIn K mainGlobals "sum" = some none)
    (z_tuple : PySem.W.nsIn K mainGlobals "tuple" = some none) :
    ∃ t, Txt K mg t := by
  have F0 := fun_mk (st := s_is_put_together) l0 c0 k0
  have B0 := F0.binds (ps := ["thing"]) fun _ _ _ _ _ _ us hl => match us, hl with | [_], _ => rfl
  have F1 := fun_mk (st := s_is_plan) l1 c1 k1
  have B1 := F1.binds (ps := ["thing"]) fun _ _ _ _ _ _ us hl => match us, hl with | [_], _ => rfl
  have F2 := fun_mk (st := s_law_cell_at) l2 c2 k2
  have B2 := F2.binds (ps := ["_law_script", "_law_k"]) fun _ _ _ _ _ _ us hl => match us, hl with | [_, _], _ => rfl
  have F3 := fun_mk (st := s_law_draw) l3 c3 k3
  have B3 := F3.binds (ps := ["_law_cell", "_law_k", "_law_bound"]) fun _ _ _ _ _ _ us hl => match us, hl with | [_, _, _], _ => rfl
  have F4 := fun_mk (st := s_law_plan) l4 c4 k4
  have B4 := F4.binds (ps := ["_law_cell", "_law_at", "_law_many"]) fun _ _ _ _ _ _ us hl => match us, hl with | [_, _, _], _ => rfl
  have F5 := fun_mk (st := s_law_looks_so) l5 c5 k5
  have B5 := F5.binds (ps := ["_law_thing"]) fun _ _ _ _ _ _ us hl => match us, hl with | [_], _ => rfl
  have F6 := fun_mk (st := s_law_is_plan) l6 c6 k6
  have B6 := F6.binds (ps := ["_law_thing"]) fun _ _ _ _ _ _ us hl => match us, hl with | [_], _ => rfl
  have F7 := fun_mk (st := s_law_bent) l7 c7 k7
  have B7 := F7.binds (ps := ["_law_cell", "_law_at", "_law_plan_here"]) fun _ _ _ _ _ _ us hl => match us, hl with | [_, _, _], _ => rfl
  have F8 := fun_mk (st := s_law_deep) l8 c8 k8
  have B8 := F8.binds (ps := ["_law_cell", "_law_many"]) fun _ _ _ _ _ _ us hl => match us, hl with | [_, _], _ => rfl
  have F9 := fun_mk (st := s_law) l9 c9 k9
  have B9 := F9.binds (ps := ["_law_script"]) fun _ _ _ _ _ _ us hl => match us, hl with | [_], _ => rfl
  exact ⟨⟨f0, _, f1, _, f2, _, f3, _, f4, _, f5, _, f6, _, f7, _, f8, _, f9, _, _, .ref qc_ONE, _, _, _, _⟩, ⟨F0, PySem.W.mg_of X G a0, B0, F1, PySem.W.mg_of X G a1, B1, F2, PySem.W.mg_of X G a2, B2, F3, PySem.W.mg_of X G a3, B3, F4, PySem.W.mg_of X G a4, B4, F5, PySem.W.mg_of X G a5, B5, F6, PySem.W.mg_of X G a6, B6, F7, PySem.W.mg_of X G a7, B7, F8, PySem.W.mg_of X G a8, B8, F9, PySem.W.mg_of X G a9, B9, PySem.W.mg_of X G g_ONE, rfl, fun A H => .tup (show SqT K H qc_ONE [V.str "one"] from .inr ⟨_, _, _, h_ONE, rfl, rfl, (by show 1 ≤ sizeLine; decide), (.cons ⟨_, rfl⟩ .nil)⟩) (.cons (.str _) .nil), PySem.W.mg_of X G g_BESIDE, ⟨_, rfl⟩, PySem.W.mg_of X G g_ACROSS, ⟨_, rfl⟩, PySem.W.mg_of X G g_MOST_ONES, ⟨_, rfl⟩, PySem.W.mg_of X G g_MOST_DEEP, ⟨_, rfl⟩, PySem.W.mg_none_of X G z_bool, PySem.W.mg_none_of X G z_isinstance, PySem.W.mg_none_of X G z_len, PySem.W.mg_none_of X G z_max, PySem.W.mg_none_of X G z_min, PySem.W.mg_none_of X G z_range, PySem.W.mg_none_of X G z_sum, PySem.W.mg_none_of X G z_tuple⟩⟩
theorem all_mk {l : PySem.W.OpenLaw} {w : World} {K : PySem.W.Frag} {h : Heap} {mg : Str → Option Value} {fa : Addr} (X : K.In h) (G : h.Ns mainGlobals mg) (hfa : mg "law" = some (.ref fa)) (ht : ∃ t, Txt K mg t) :
    ∃ fd : FuncData, (∀ (s : Shared) (v : Value), BindsTo s fd ⟨[v], []⟩ [("_law_script", v)]) ∧ ∀ base : Heap, K.In base → base.Ns mainGlobals mg → FnOk l.prog w K mg base (CX1 l.prog w) 67 fa fd ["_law_script"] (spLaw K) := by
  obtain ⟨t, T⟩ := ht
  have e := hfa.symm.trans T.m_law
  cases e
  refine ⟨t.d_law, fun s v => ?_, fun base _ _ => (ok_law T).imp (law_imp law_true)⟩
  obtain ⟨oc, od, kV, doc, pm, an, cdv, ct, osl, e, lk, hcd⟩ := T.F_law.ex
  rw [e]
  exact .of_eq rfl
theorem walk {l : PySem.W.OpenLaw} {q : Program} {loose : List Str} {XP : (Str → Option Value) → Heap → Prop} {YP : World → Heap → Prop} {d : DefRec} {K : Params → PySem.W.Frag} (hn : l.most = some 63) (hdf : d.params.defaults = [])
    (hY : ∀ (w : World) (h : Heap), YP w h → (K w.params).In h)
    (F : ∀ (w : World) (mg : Str → Option Value) (fa : Addr) (h : Heap), (K w.params).In h → h.Ns mainGlobals mg → mg d.name = some (.ref fa) →
      ∃ fd : FuncData, (∀ (s : Shared) (u : Value), BindsTo s fd ⟨[u], []⟩ [("_law_script", u)]) ∧ ∀ base : Heap, (K w.params).In base → base.Ns mainGlobals mg → FnOk l.prog w (K w.params) mg base (CX1 l.prog w) 67 fa fd ["_law_script"] (spLaw (K w.params))) :
    PySem.W.WalkO q loose XP YP l.row.toRowW d [] (fun f vs => PySem.call f vs) :=
  L2.walk_of (n := 63) (k := 67) (x := "_law_script") (CX := fun w => CX1 l.prog w) (sp := fun w => spLaw (K w.params)) hn (by decide) hdf ⟨rfl, by decide, by decide⟩ hY F (fun _ _ a ns hl hO hS => ⟨a, ns, rfl, scr_of hO hS, hl, fun _ => rfl⟩) fun _ _ _ _ _ ⟨_, _, _, _, _, _, _, _, _, _, _, _, _, z⟩ => z
end VL.My
open PySem PySem.W PyProof.Rows
set_option maxRecDepth 100000 in
set_option maxHeartbeats 0 in
theorem PySem.Challenge.cw_fewways_k41_plans_looked_at_holds : PySem.Challenge.rw_fewways_k41_plans_looked_at.Holds := by
  w_on; o_law; k_head; (case hw => w_witness2)
  k_fill
  refine VL.My.walk (l := PySem.Challenge.rw_fewways_k41_plans_looked_at) rfl rfl (fun w h Y => PySem.W.kIn_of Y) ?F
  case F =>
    intro w mg fa h KX G hmg
    refine VL.My.all_mk KX G hmg ?T
    case T =>
      refine' VL.My.txt_mk KX G ?a0 ?l0 ?c0 ?k0 ?a1 ?l1 ?c1 ?k1 ?a2 ?l2 ?c2 ?k2 ?a3 ?l3 ?c3 ?k3 ?a4 ?l4 ?c4 ?k4 ?a5 ?l5 ?c5 ?k5 ?a6 ?l6 ?c6 ?k6 ?a7 ?l7 ?c7 ?k7 ?a8 ?l8 ?c8 ?k8 ?a9 ?l9 ?c9 ?k9 ?g_ONE ?h_ONE ?g_BESIDE ?g_ACROSS ?g_MOST_ONES ?g_MOST_DEEP ?z_bool ?z_isinstance ?z_len ?z_max ?z_min ?z_range ?z_sum ?z_tuple
      (case a0 => k_is)
      (case l0 => k_is)
      (case c0 => k_is)
      (case k0 => k_is)
      (case a1 => k_is)
      (case l1 => k_is)
      (case c1 => k_is)
      (case k1 => k_is)
      (case a2 => k_is)
      (case l2 => k_is)
      (case c2 => k_is)
      (case k2 => k_is)
      (case a3 => k_is)
      (case l3 => k_is)
      (case c3 => k_is)
      (case k3 => k_is)
      (case a4 => k_is)
      (case l4 => k_is)
      (case c4 => k_is)
      (case k4 => k_is)
      (case a5 => k_is)
      (case l5 => k_is)
      (case c5 => k_is)
      (case k5 => k_is)
      (case a6 => k_is)
      (case l6 => k_is)
      (case c6 => k_is)
      (case k6 => k_is)
      (case a7 => k_is)
      (case l7 => k_is)
      (case c7 => k_is)
      (case k7 => k_is)
      (case a8 => k_is)
      (case l8 => k_is)
      (case c8 => k_is)
      (case k8 => k_is)
      (case a9 => k_is)
      (case l9 => k_is)
      (case c9 => k_is)
      (case k9 => k_is)
      (case g_ONE => k_is)
      (case h_ONE => k_is)
      (case g_BESIDE => k_is)
      (case g_ACROSS => k_is)
      (case g_MOST_ONES => k_is)
      (case g_MOST_DEEP => k_is)
      (case z_bool => k_is)
      (case z_isinstance => k_is)
      (case z_len => k_is)
      (case z_max => k_is)
      (case z_min => k_is)
      (case z_range => k_is)
      (case z_sum => k_is)
      (case z_tuple => k_is)

