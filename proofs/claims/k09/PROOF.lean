import PyProof.Rows.All
import Wide.All
import OpenK.AllK
import Wide.FinOn
import Lean
import PyProof.EqAt
import PyProof.EqKinds
import PyProof.TupleCall
import PyProof.NeKinds
import PyProof.FactsAll.tuple_2
import PyProof.FactsAll.str_0
import PyProof.FactsAll.str_1
import PyProof.FactsAll.str_2
import PyProof.FactsAll.str_3
import PySem.Challenge.RW_treewithin_k09_grounds_without_dates
set_option Elab.async false
set_option linter.all false
set_option maxRecDepth 100000
/-! THE HAND LAYER, for ints, bools, texts, own classes, LISTS and tuples (index, slices, in, append, pop ..), calls, loops. Paste it whole ahead of your own text; what your proof does not reach may be deleted. -/
namespace L2
open PySem PySem.Spec PyProof.Rows

/-- a key: an int or a str -/
abbrev Key := Sum Int Str
def keyIs : Key → Value → Bool
  | .inl k, v => Value.isInt k v
  | .inr x, v => Value.isStrOf x v
def keyH (w : World) : Key → Int
  | .inl k => hashInt k
  | .inr x => hashStr w x
theorem keyIs_shape : ∀ {k : Key} {v : Value}, keyIs k v = true → (∃ i t, k = Sum.inl i ∧ v = Value.int i t) ∨ (∃ x t, k = Sum.inr x ∧ v = Value.str x t)
  | .inl i, v, h => by
    obtain ⟨t, e⟩ := Value.isInt_shape (k := i) (v := v) h
    exact .inl ⟨i, t, rfl, e⟩
  | .inr x, v, h => by
    obtain ⟨t, e⟩ := Value.isStrOf_shape (x := x) (v := v) h
    exact .inr ⟨x, t, rfl, e⟩
theorem keyIs_int (i : Int) (t : Tok) : keyIs (.inl i) (.int i t) = true := by simp [keyIs, Value.isInt]
theorem keyIs_str (x : Str) (t : Tok) : keyIs (.inr x) (.str x t) = true := by simp [keyIs, Value.isStrOf]
theorem key_ll (a b : Int) : decide ((Sum.inl a : Key) = Sum.inl b) = (a == b) := by
  by_cases e : a = b
  · subst e; simp
  · have h : ¬ (Sum.inl a : Key) = Sum.inl b := fun q => e (Sum.inl.inj q)
    rw [decide_eq_false h]
    exact (beq_eq_false_iff_ne.mpr e).symm
theorem key_rr (a b : Str) : decide ((Sum.inr a : Key) = Sum.inr b) = decide (a = b) := by
  by_cases e : a = b
  · subst e; simp
  · have h : ¬ (Sum.inr a : Key) = Sum.inr b := fun q => e (Sum.inr.inj q)
    rw [decide_eq_false h, decide_eq_false e]
theorem key_lr (a : Int) (b : Str) : decide ((Sum.inl a : Key) = Sum.inr b) = false := decide_eq_false (fun q => nomatch q)
theorem key_rl (a : Str) (b : Int) : decide ((Sum.inr a : Key) = Sum.inl b) = false := decide_eq_false (fun q => nomatch q)

def mixKind (prog : Program) (w : World) : PySem.KeyKind prog w Key where
  is := keyIs
  hash := keyH w
  inj := fun v a b ha hb => by
    rcases keyIs_shape ha with ⟨i, t, rfl, rfl⟩ | ⟨x, t, rfl, rfl⟩
    · rcases keyIs_shape hb with ⟨j, u, rfl, e⟩ | ⟨y, u, rfl, e⟩
      · injection e with e1 _; rw [e1]
      · exact nomatch e
    · rcases keyIs_shape hb with ⟨j, u, rfl, e⟩ | ⟨y, u, rfl, e⟩
      · exact nomatch e
      · injection e with e1 _; rw [e1]
  byValue := fun k v h => by
    rcases keyIs_shape h with ⟨i, t, rfl, rfl⟩ | ⟨x, t, rfl, rfl⟩ <;> rfl
  pyHash := fun hv h => by
    rcases keyIs_shape hv with ⟨i, t, rfl, rfl⟩ | ⟨x, t, rfl, rfl⟩
    · exact wpAny_pyHash_int h
    · exact wpAny_pyHash_str h
  eqBool := fun hu hv h => by
    rcases keyIs_shape hu with ⟨i, t, rfl, rfl⟩ | ⟨x, t, rfl, rfl⟩
    · rcases keyIs_shape hv with ⟨j, u, rfl, rfl⟩ | ⟨y, u, rfl, rfl⟩
      · rw [key_ll] at h; exact wpAny_eqBool_int h
      · rw [key_lr] at h; exact SeqAt.EqAt.int_str i t y u _ _ _ _ h
    · rcases keyIs_shape hv with ⟨j, u, rfl, rfl⟩ | ⟨y, u, rfl, rfl⟩
      · rw [key_rl] at h; exact SeqAt.EqAt.str_int x t j u _ _ _ _ h
      · rw [key_rr] at h; exact wpAny_eqBool_str h
  «strs» := fun k x t v h => by
    rcases keyIs_shape h with ⟨i, u, rfl, e⟩ | ⟨y, u, rfl, e⟩
    · exact nomatch e
    · injection e with e1 _
      subst e1
      cases v <;> rfl

theorem mixKind_is (prog : Program) (w : World) (k : Key) (v : Value) : (mixKind prog w).is k v = keyIs k v := rfl
theorem mixKind_int (prog : Program) (w : World) (i : Int) (t : Tok) : (mixKind prog w).is (.inl i) (.int i t) = true := keyIs_int i t
theorem mixKind_str (prog : Program) (w : World) (x : Str) (t : Tok) : (mixKind prog w).is (.inr x) (.str x t) = true := keyIs_str x t
end L2

namespace L2
open PySem PySem.Spec PyProof.Rows

/-- a value, without the heap -/
inductive V where
  | non | bl (b : Bool) | int (i : Int) | str (x : Str) | byt (b : Array UInt8) | flt (b : UInt64) | ref (a : Addr) | ty (n : String)
  deriving DecidableEq

def RelV : V → Value → Prop
  | .non, u => u = Value.none
  | .bl b, u => u = Value.bool b
  | .int i, u => ∃ t, u = Value.int i t
  | .str x, u => ∃ t, u = Value.str x t
  | .byt b, u => ∃ t, u = Value.bytes b t
  | .flt b, u => ∃ t, u = Value.float b t
  | .ref a, u => u = Value.ref a
  | .ty n, u => u = Value.type n

abbrev Vals : List V → List Value → Prop := Paired RelV
theorem Vals.length {xs : List V} {us : List Value} (r : Vals xs us) : xs.length = us.length := Paired.length r
theorem Vals.get : ∀ {xs : List V} {us : List Value} {i : Nat} {x : V}, Vals xs us → xs[i]? = some x → ∃ u, us[i]? = some u ∧ RelV x u
  | _, _, _, _, .nil, e => by simp at e
  | _, _, 0, _, .cons r _, e => by simp at e; subst e; exact ⟨_, rfl, r⟩
  | _, _, i + 1, x, .cons _ t, e => by
    obtain ⟨u, h1, h2⟩ := Vals.get (i := i) (x := x) t (by simpa using e)
    exact ⟨u, by simpa using h1, h2⟩
theorem Vals.set {x : V} {u : Value} (r : RelV x u) : ∀ {xs : List V} {us : List Value} (i : Nat), Vals xs us → Vals (xs.set i x) (us.set i u)
  | _, _, _, .nil => .nil
  | _, _, 0, .cons _ t => .cons r t
  | _, _, i + 1, .cons q t => .cons q (Vals.set r i t)
theorem Vals.append : ∀ {xs ys : List V} {us ws : List Value}, Vals xs us → Vals ys ws → Vals (xs ++ ys) (us ++ ws)
  | _, _, _, _, .nil, s => s
  | _, _, _, _, .cons r t, s => .cons r (Vals.append t s)
theorem Vals.take : ∀ {xs : List V} {us : List Value} (n : Nat), Vals xs us → Vals (xs.take n) (us.take n)
  | _, _, 0, _ => .nil
  | _, _, _ + 1, .nil => .nil
  | _, _, n + 1, .cons r t => .cons r (Vals.take n t)
theorem Vals.drop : ∀ {xs : List V} {us : List Value} (n : Nat), Vals xs us → Vals (xs.drop n) (us.drop n)
  | _, _, 0, r => r
  | _, _, _ + 1, .nil => .nil
  | _, _, n + 1, .cons _ t => Vals.drop n t
theorem Vals.none_of : ∀ {xs : List V} {us : List Value} {i : Nat}, Vals xs us → xs[i]? = none → us[i]? = none := fun {xs us i} r e => by
  have h1 := r.length
  have h2 : xs.length ≤ i := List.getElem?_eq_none_iff.mp e
  exact List.getElem?_eq_none_iff.mpr (by omega)

def RelO : Option V → Option Value → Prop
  | some v, some u => RelV v u
  | none, none => True
  | _, _ => False
def KV {κ : Type} : List (κ × V) → List (κ × Value) → Prop := Paired fun (p : κ × V) (q : κ × Value) => p.1 = q.1 ∧ RelV p.2 q.2

/-- a key of a dict (00_mix): an int or a text -/
def kV : Key → V
  | .inl i => .int i
  | .inr x => .str x

/-- what stands at a tracked address -/
inductive HO where
  /-- a list -/
  | lst (xs : List V)
  /-- a tuple (never changes) -/
  | tup (xs : List V)
  /-- a dict whose keys are ints and texts; one whose keys are tuples of ints and texts (the empty one is both) -/
  | dK (kvs : List (Key × V)) | dT (kvs : List (List Key × V))
  /-- a set of ints: its members, its size -/
  | set (S : Int → Bool) (n : Nat)
  /-- an instance of the class at C, its dict at dx, its attributes -/
  | ins (C dx : Addr) (fs : List (Str × V))
  /-- the dict of the instance at x -/
  | own (x : Addr)
  /-- the dict of an exception -/
  | xd (fs : List (Str × V))
  /-- a bound method, f of x -/
  | met (f x : Addr)
  /-- a range object lo, lo + 1, .. below hi -/
  | rng (lo hi : Int)
  /-- a thing that is known to the object (the script; a dict while a loop walks it): read, never written while it is so -/
  | frz (o : Obj) (u : HO)
  /-- a code object's table -/
  | tbl (ps : Array Value)
  /-- any other thing, by what is true of its one object (a def of one's own: SetO a S n := HO.ext fun h => ..) -/
  | ext (φ : Heap → Prop)

abbrev Hp := Addr → Option HO
def upd (H : Hp) (a : Addr) (o : HO) : Hp := fun b => if b = a then some o else H b
theorem upd_same {H : Hp} {a : Addr} {o : HO} : upd H a o a = some o := by unfold upd; rw [if_pos rfl]
theorem upd_ne {H : Hp} {a b : Addr} {o : HO} (h : b ≠ a) : upd H a o b = H b := by unfold upd; rw [if_neg h]
theorem upd_upd {H : Hp} {a : Addr} {o u : HO} : upd (upd H a o) a u = upd H a u := by
  funext b; unfold upd; split <;> rfl
/-- two objects of different content stand apart -/
theorem ne_of {H : Hp} {a b : Addr} {o u : HO} (h : H a = some o) (h' : H b = some u) (d : o ≠ u) : a ≠ b := by
  intro e; subst e; rw [h] at h'; exact d (Option.some.inj h')
theorem ne_of_none {H : Hp} {a b : Addr} {o : HO} (h : H a = some o) (h' : H b = none) : a ≠ b := by
  intro e; subst e; rw [h] at h'; cases h'

section
variable (P : Program) (w : World)
def ObjOk (H : Hp) (h : Heap) (a : Addr) : HO → Prop
  | .lst xs => xs.length ≤ sizeLine ∧ ∃ (its : List Value) (n : Nat), Vals xs its ∧ h.get? a = some { cls := .type "list", data := .seq its.toArray n }
  | .tup xs => xs.length ≤ sizeLine ∧ ∃ its : List Value, Vals xs its ∧ IsTup h a its.toArray
  | .dK kvs => kvs.length ≤ sizeLine ∧ (a == sysModules) = false ∧ ∃ vs, KV kvs vs ∧ h.DictOf (mixKind P w) a vs
  | .dT kvs => kvs.length ≤ sizeLine ∧ (a == sysModules) = false ∧ ∃ xs : List (List Key × Addr × Value),
      Paired (fun (p : List Key × V) (q : List Key × Addr × Value) => p.1 = q.1 ∧ H q.2.1 = some (.tup (p.1.map kV)) ∧ RelV p.2 q.2.2) kvs xs ∧
      ∃ o es ep, h.get? a = some o ∧ o.ExactDict ∧ o.data = .dict es ep ∧ es.toList = xs.map (entryOfKey (tupleKind (mixKind P w))) ∧ (xs.map (·.1)).Nodup
  | .set S n => h.SetOf (intKind P w) a S n
  | .ins C dx fs => H dx = some (.own a) ∧ fs.length ≤ 1000 ∧ dx ≠ a ∧ h.get? a = some (PySem.W.instObj C dx) ∧
      ∃ mA, h.Ns1 dx mA ∧ (∀ f, RelO (fs.lookup f) (mA f)) ∧ PySem.Within mA (fs.map (·.1))
  | .own _ => ∃ o, h.get? a = some o
  | .xd fs => ∃ mA, h.Ns1 a mA ∧ ∀ f, RelO (fs.lookup f) (mA f)
  | .rng lo hi => ∃ t u v, h.get? a = some { cls := .type "range", data := .fields #[.int lo t, .int hi u, .int 1 v] }
  | .frz o u => h.get? a = some o ∧ ObjOk H h a u
  | .tbl ps => h.get? a = some { cls := .none, data := .fields ps }
  | .met f x => h.get? a = some (PySem.W.methodObj (.ref f) (.ref x))
  | .ext φ => φ h ∧ (∃ o, h.get? a = some o) ∧ ∀ h1 h2 : Heap, φ h1 → (∀ o, h1.get? a = some o → h2.get? a = some o) → φ h2
/-- the abstract heap is held -/
def HOk (H : Hp) (h : Heap) : Prop := ∀ a o, H a = some o → ObjOk P w H h a o
end

section
variable {P : Program} {w : World} {H H' : Hp} {h h' : Heap} {a : Addr} {o : HO}
theorem ObjOk.lt (x : ObjOk P w H h a o) : a < h.objs.size := by
  cases o with
  | lst xs => obtain ⟨_, _, _, _, e⟩ := x; exact Heap.lt_size e
  | tup xs => obtain ⟨_, _, _, p⟩ := x; exact p.lt
  | dK kvs => obtain ⟨_, _, _, _, o, _, _, e, _⟩ := x; exact Heap.lt_size e
  | dT kvs => obtain ⟨_, _, _, _, o, _, _, e, _⟩ := x; exact Heap.lt_size e
  | set S n => obtain ⟨o, _, _, _, e, _⟩ := x; exact Heap.lt_size e
  | ins C dx fs => obtain ⟨_, _, _, e, _⟩ := x; exact Heap.lt_size e
  | own y => obtain ⟨_, e⟩ := x; exact Heap.lt_size e
  | xd fs => obtain ⟨_, ⟨_, _, _, e, _⟩, _⟩ := x; exact Heap.lt_size e
  | rng lo hi => obtain ⟨_, _, _, e⟩ := x; exact Heap.lt_size e
  | frz ob u => obtain ⟨e, _⟩ := x; exact Heap.lt_size e
  | tbl ps => exact Heap.lt_size (show h.get? a = some _ from x)
  | met f y => exact Heap.lt_size (show h.get? a = some _ from x)
  | ext φ => obtain ⟨_, ⟨_, e⟩, _⟩ := x; exact Heap.lt_size e
theorem Paired.mapP {α β : Type} {F G : α → β → Prop} : ∀ {l₁ : List α} {l₂ : List β}, Paired F l₁ l₂ → (∀ a b, F a b → G a b) → Paired G l₁ l₂
  | _, _, .nil, _ => .nil
  | _, _, .cons r t, f => .cons (f _ _ r) (Paired.mapP t f)
theorem Paired.imp' {α β : Type} {F G : α → β → Prop} (f : ∀ a b, F a b → G a b) {l₁ : List α} {l₂ : List β} (r : Paired F l₁ l₂) : Paired G l₁ l₂ := Paired.mapP r f
/-- what an object's description leans on: its own object, its own dict, the tuples -/
theorem ObjOk.stay (x : ObjOk P w H h a o) (k : ∀ b u, (b = a ∨ H b = some (.own a)) → h.get? b = some u → h'.get? b = some u)
    (ho : ∀ b, H b = some (.own a) → H' b = some (.own a)) (ht : ∀ b xs, H b = some (.tup xs) → H' b = some (.tup xs)) : ObjOk P w H' h' a o := by
  induction o with
  | lst xs => obtain ⟨z, its, n, r, e⟩ := x; exact ⟨z, its, n, r, k _ _ (.inl rfl) e⟩
  | tup xs => obtain ⟨z, its, r, ob, e, c⟩ := x; exact ⟨z, its, r, ob, k _ _ (.inl rfl) e, c⟩
  | dK kvs => obtain ⟨z, y, vs, r, ob, es, ep, e, c⟩ := x; exact ⟨z, y, vs, r, ob, es, ep, k _ _ (.inl rfl) e, c⟩
  | dT kvs =>
    obtain ⟨z, y, xs, r, ob, es, ep, e, c⟩ := x
    exact ⟨z, y, xs, Paired.mapP r fun p q z => ⟨z.1, ht _ _ z.2.1, z.2.2⟩, ob, es, ep, k _ _ (.inl rfl) e, c⟩
  | set S n => obtain ⟨ob, es, ep, t, e, c⟩ := x; exact ⟨ob, es, ep, t, k _ _ (.inl rfl) e, c⟩
  | ins C dx fs =>
    obtain ⟨d, z, ne, e, mA, ⟨od, es, ep, e2, c⟩, r⟩ := x
    exact ⟨ho _ d, z, ne, k _ _ (.inl rfl) e, mA, ⟨od, es, ep, k _ _ (.inr d) e2, c⟩, r⟩
  | own y => obtain ⟨ob, e⟩ := x; exact ⟨ob, k _ _ (.inl rfl) e⟩
  | xd fs => obtain ⟨mA, ⟨od, es, ep, e, c⟩, r⟩ := x; exact ⟨mA, ⟨od, es, ep, k _ _ (.inl rfl) e, c⟩, r⟩
  | rng lo hi => obtain ⟨t, u, v, e⟩ := x; exact ⟨t, u, v, k _ _ (.inl rfl) e⟩
  | frz ob u ih => obtain ⟨e, q⟩ := x; exact ⟨k _ _ (.inl rfl) e, ih q⟩
  | tbl ps =>
    have e : h.get? a = some { cls := .none, data := .fields ps } := x
    show h'.get? a = some { cls := .none, data := .fields ps }
    exact k a _ (.inl rfl) e
  | met f y =>
    have e : h.get? a = some (PySem.W.methodObj (.ref f) (.ref y)) := x
    show h'.get? a = some (PySem.W.methodObj (.ref f) (.ref y))
    exact k a _ (.inl rfl) e
  | ext φ => obtain ⟨p, ⟨o, e⟩, st⟩ := x; exact ⟨st _ _ p fun o q => k _ _ (.inl rfl) q, ⟨o, k _ _ (.inl rfl) e⟩, st⟩
theorem HOk.lt (x : HOk P w H h) (e : H a = some o) : a < h.objs.size := (x a o e).lt
theorem HOk.fresh (x : HOk P w H h) (e : h.objs.size ≤ a) : H a = none := by
  cases q : H a with
  | none => rfl
  | some u => exact absurd (Nat.lt_of_lt_of_le (x.lt q) e) (Nat.lt_irrefl _)
/-- every object of the heap is kept -/
theorem HOk.kept (x : HOk P w H h) (k : ∀ b u, h.get? b = some u → h'.get? b = some u) : HOk P w H h' := fun a o e =>
  (x a o e).stay (fun b u _ q => k b u q) (fun _ q => q) fun _ _ q => q
/-- a new object is laid and tracked -/
theorem HOk.laid (x : HOk P w H h) (k : ∀ b u, h.get? b = some u → h'.get? b = some u) (hp : h.objs.size ≤ a) (new : ObjOk P w (upd H a o) h' a o) : HOk P w (upd H a o) h' := fun b u e => by
  have hn := x.fresh hp
  by_cases hb : b = a
  · subst hb; rw [upd_same] at e; cases e; exact new
  · rw [upd_ne hb] at e
    exact (x b u e).stay (fun c v _ q => k c v q) (fun c q => by rw [upd_ne (ne_of_none q hn)]; exact q) fun c xs q => by rw [upd_ne (ne_of_none q hn)]; exact q
end

/-- what may be read as u: it is u, or a known u -/
def Rd (H : Hp) (a : Addr) (u : HO) : Prop := H a = some u ∨ ∃ o, H a = some (.frz o u)
theorem Rd.of {H : Hp} {a : Addr} {u : HO} (h : H a = some u) : Rd H a u := .inl h
theorem Rd.ok {P : Program} {w : World} {H : Hp} {h : Heap} {a : Addr} {u : HO} (r : Rd H a u) (x : HOk P w H h) : ObjOk P w H h a u := by
  rcases r with r | ⟨o, r⟩
  · exact x a u r
  · obtain ⟨_, q⟩ := x a _ r
    exact q
/-- what may be written -/
def Mut : Option HO → Prop
  | some (.lst _) => True
  | some (.dK _) => True
  | some (.dT _) => True
  | some (.set _ _) => True
  | some (.ins _ _ _) => True
  | some (.ext _) => True
  | _ => False
section
variable {P : Program} {w : World} {H : Hp} {h h' : Heap} {x e : Addr} {o' : HO}
/-- the object at e is changed: x itself, or the dict of the instance x -/
theorem HOk.write (ok : HOk P w H h) (mu : Mut (H x)) (he : e = x ∨ H e = some (.own x)) (k : ∀ b u, b ≠ e → h.get? b = some u → h'.get? b = some u) (heo : ∃ u, h'.get? e = some u)
    (new : ObjOk P w (upd H x o') h' x o') : HOk P w (upd H x o') h' := fun b u q => by
  have nown : ∀ c y, H c = some (.own y) → c ≠ x := fun c y r z => by subst z; rw [r] at mu; exact mu
  have ntup : ∀ c xs, H c = some (.tup xs) → c ≠ x := fun c xs r z => by subst z; rw [r] at mu; exact mu
  by_cases hb : b = x
  · subst hb; rw [upd_same] at q; cases q; exact new
  · rw [upd_ne hb] at q
    by_cases hbe : b = e
    · have q' : H b = some (.own x) := by
        rcases he with z | z
        · exact absurd (hbe.trans z) hb
        · rw [hbe]; exact z
      rw [q] at q'; cases q'
      obtain ⟨v, hv⟩ := heo
      exact ⟨v, by rw [hbe]; exact hv⟩
    · refine (ok b u q).stay (fun c v hc r => k c v ?_ r) (fun c r => by rw [upd_ne (nown c b r)]; exact r) fun c xs r => by rw [upd_ne (ntup c xs r)]; exact r
      rcases hc with rfl | hc
      · exact hbe
      · rintro rfl
        rcases he with z | z
        · exact nown c b hc z
        · rw [hc] at z; cases z; exact hb rfl
end

/-! ### kept unless tracked; of the frames at fs (the callers') the slots may change (an exception that passes writes there); of the records at ex (iterators) nothing is said -/
structure Un (fs ex : List Addr) (H H' : Hp) (h h' : Heap) : Prop where
  keep : ∀ b o, h.get? b = some o → H b = none → b ∉ fs → b ∉ ex → h'.get? b = some o
  slot : ∀ b o, h.get? b = some o → H b = none → b ∈ fs → b ∉ ex → ∃ sl, h'.get? b = some { o with slots := sl }
  free : ∀ b o, h.get? b = some o → H b = none → b ∉ ex → H' b = none
  there : ∀ b o, h.get? b = some o → b ∉ ex → ∃ o', h'.get? b = some o'
  tups : ∀ b xs, H b = some (.tup xs) → H' b = some (.tup xs)
  frzs : ∀ b o u, H b = some (.frz o u) → H' b = some (.frz o u)
  tbls : ∀ b ps, H b = some (.tbl ps) → ∃ more, H' b = some (.tbl (ps ++ more))
section
variable {fs fs' ex ex' : List Addr} {H H1 H2 : Hp} {h h1 h2 h' : Heap} {a x e : Addr} {o : HO}
theorem Un.any (u : Un fs ex H H1 h h1) {b : Addr} {ob : Obj} (q : h.get? b = some ob) (n : H b = none) (hx : b ∉ ex) : ∃ sl, h1.get? b = some { ob with slots := sl } := by
  by_cases hb : b ∈ fs
  · exact u.slot b ob q n hb hx
  · exact ⟨ob.slots, u.keep b ob q n hb hx⟩
theorem Un.trans (a : Un fs ex H H1 h h1) (b : Un fs ex H1 H2 h1 h2) : Un fs ex H H2 h h2 where
  keep := fun c ob q n hc hx => b.keep c ob (a.keep c ob q n hc hx) (a.free c ob q n hx) hc hx
  slot := fun c ob q n hc hx => by
    obtain ⟨sl, e1⟩ := a.slot c ob q n hc hx
    obtain ⟨sl', e2⟩ := b.slot c _ e1 (a.free c ob q n hx) hc hx
    exact ⟨sl', e2⟩
  free := fun c ob q n hx => by
    obtain ⟨o', e1⟩ := a.there c ob q hx
    exact b.free c o' e1 (a.free c ob q n hx) hx
  there := fun c ob q hx => by
    obtain ⟨o', e1⟩ := a.there c ob q hx
    exact b.there c o' e1 hx
  tups := fun c xs q => b.tups c xs (a.tups c xs q)
  frzs := fun c ob xs q => b.frzs c ob xs (a.frzs c ob xs q)
  tbls := fun c ps q => by
    obtain ⟨m1, e1⟩ := a.tbls c ps q
    obtain ⟨m2, e2⟩ := b.tbls c _ e1
    exact ⟨m1 ++ m2, by rw [e2, Array.append_assoc]⟩
theorem Un.kept (k : ∀ b u, h.get? b = some u → h'.get? b = some u) : Un fs ex H H h h' :=
  ⟨fun b ob q _ _ _ => k b ob q, fun b ob q _ _ _ => ⟨ob.slots, k b ob q⟩, fun _ _ _ n _ => n, fun b ob q _ => ⟨ob, k b ob q⟩, fun _ _ q => q, fun _ _ _ q => q, fun _ ps q => ⟨#[], by rw [q]; simp⟩⟩
theorem Un.refl : Un fs ex H H h h := Un.kept fun _ _ q => q
theorem Un.laid (k : ∀ b u, h.get? b = some u → h'.get? b = some u) (hp : h.objs.size ≤ a) (hn : H a = none) : Un fs ex H (upd H a o) h h' where
  keep := fun b u q _ _ _ => k b u q
  slot := fun b u q _ _ _ => ⟨u.slots, k b u q⟩
  free := fun b u q n _ => by rw [upd_ne (Nat.ne_of_lt (Nat.lt_of_lt_of_le (Heap.lt_size q) hp))]; exact n
  there := fun b u q _ => ⟨u, k b u q⟩
  tups := fun b xs q => by rw [upd_ne (ne_of_none q hn)]; exact q
  frzs := fun b u xs q => by rw [upd_ne (ne_of_none q hn)]; exact q
  tbls := fun b ps q => ⟨#[], by rw [upd_ne (ne_of_none q hn), q]; simp⟩
theorem Un.write (mu : Mut (H x)) (he : e = x ∨ H e = some (.own x)) (k : ∀ b u, b ≠ e → h.get? b = some u → h'.get? b = some u) (heo : ∃ u, h'.get? e = some u) : Un fs ex H (upd H x o) h h' := by
  have hx : ∀ b, H b = none → b ≠ x := fun b n z => by subst z; rw [n] at mu; exact mu
  have hb : ∀ b, H b = none → b ≠ e := fun b n z => by
    subst z
    rcases he with r | r
    · exact hx b n r
    · rw [n] at r; cases r
  have hm : ∀ b u, H b = some u → ¬ Mut (some u) → b ≠ x := fun b u q nm z => by subst z; rw [q] at mu; exact nm mu
  refine ⟨fun b u q n _ _ => k b u (hb b n) q, fun b u q n _ _ => ⟨u.slots, k b u (hb b n) q⟩, fun b u q n _ => by rw [upd_ne (hx b n)]; exact n, fun b u q _ => ?_,
    fun b xs q => by rw [upd_ne (hm b _ q fun z => z)]; exact q, fun b u xs q => by rw [upd_ne (hm b _ q fun z => z)]; exact q, fun b ps q => ⟨#[], by rw [upd_ne (hm b _ q fun z => z), q]; simp⟩⟩
  by_cases hbe : b = e
  · subst hbe; exact heo
  · exact ⟨u, k b u hbe q⟩
theorem Un.mono (u : Un fs ex H H1 h h1) (hs : ∀ b ∈ fs, b ∈ fs') (hx : ∀ b ∈ ex, b ∈ ex') : Un fs' ex' H H1 h h1 :=
  ⟨fun b ob q n hb he => u.keep b ob q n (fun z => hb (hs b z)) fun z => he (hx b z), fun _ _ q n _ he => u.any q n fun z => he (hx _ z), fun b ob q n he => u.free b ob q n fun z => he (hx b z), fun b ob q he => u.there b ob q fun z => he (hx b z), u.tups, u.frzs, u.tbls⟩
end

/-! ### the heap without what is tracked -/
def trk (h : Heap) (H : Hp) : List Addr := (List.range h.objs.size).filter fun a => (H a).isSome
def hidT (h : Heap) (H : Hp) : Heap := PySem.W.hideAll h (trk h H)
theorem hidT_size (h : Heap) (H : Hp) : (hidT h H).objs.size = h.objs.size := PySem.W.hideAll_size _ _
theorem hidT_get {h : Heap} {H : Hp} {b : Addr} {o : Obj} (e : h.get? b = some o) (n : H b = none) : (hidT h H).get? b = some o :=
  PySem.W.hideAll_get _ e fun hm => by
    have q : (H b).isSome = true := (List.mem_filter.mp hm).2
    rw [n] at q; simp at q
theorem of_hidT {h : Heap} {H : Hp} {b : Addr} {o : Obj} (e : (hidT h H).get? b = some o) : h.get? b = some o ∧ H b = none := by
  have e' : h.get? b = some o := PySem.W.of_hideAll (trk h H) e
  refine ⟨e', ?_⟩
  cases q : H b with
  | none => rfl
  | some x =>
    have hm : b ∈ trk h H := List.mem_filter.mpr ⟨List.mem_range.mpr (Heap.lt_size e'), by simp [q]⟩
    have z : (hidT h H).get? b = none := PySem.W.hideAll_none (trk h H) hm
    rw [z] at e; cases e

/-! ### OpenK's ledger, filled with every new object but one -/
def allNews (g h : Heap) (L : Addr) : List (Addr × Obj) := (List.range h.objs.size).filterMap fun a => if a = L ∨ (g.get? a).isSome = true then none else (h.get? a).map fun o => (a, o)
theorem mem_allNews {g h : Heap} {L a : Addr} {o : Obj} (h1 : a ≠ L) (h2 : g.get? a = none) (h3 : h.get? a = some o) : (a, o) ∈ allNews g h L :=
  List.mem_filterMap.mpr ⟨a, List.mem_range.mpr (Heap.lt_size h3), by simp [h1, h2, h3]⟩
theorem of_mem_allNews {g h : Heap} {L : Addr} {p : Addr × Obj} (hp : p ∈ allNews g h L) : p.1 ≠ L ∧ g.get? p.1 = none ∧ h.get? p.1 = some p.2 := by
  obtain ⟨b, _, e⟩ := List.mem_filterMap.mp hp
  split at e
  · cases e
  · rename_i hn
    cases q : h.get? b with
    | none => rw [q] at e; simp at e
    | some u =>
      rw [q] at e
      simp only [Option.map_some, Option.some.injEq] at e
      subst e
      refine ⟨fun z => hn (.inl z), ?_, q⟩
      show g.get? b = none
      cases r : g.get? b with
      | none => rfl
      | some v => exact (hn (.inr (by simp [r]))).elim
def rest (g h : Heap) (L d : Addr) : List (Addr × Obj) := (allNews g h L).filter fun p => decide (p.1 ≠ d)
theorem rest_ne {g h : Heap} {L d : Addr} : ∀ p ∈ rest g h L d, p.1 ≠ d := fun p hp => of_decide_eq_true (List.mem_filter.mp hp).2
theorem mem_rest {g h : Heap} {L d a : Addr} {o : Obj} (h1 : a ≠ L) (h2 : g.get? a = none) (h3 : h.get? a = some o) (h4 : a ≠ d) : (a, o) ∈ rest g h L d :=
  List.mem_filter.mpr ⟨mem_allNews h1 h2 h3, decide_eq_true h4⟩
theorem news_all {g h : Heap} {L : Addr} : News g L h (allNews g h L) := fun p hp => let ⟨a, b, c⟩ := of_mem_allNews hp; ⟨c, a, b⟩
theorem news_at {g h : Heap} {L d : Addr} {o : Obj} (h1 : d ≠ L) (h2 : g.get? d = none) (h3 : h.get? d = some o) : News g L h ((d, o) :: rest g h L d) := fun p hp => by
  rcases List.mem_cons.mp hp with rfl | hp
  · exact ⟨h3, h1, h2⟩
  · exact news_all p (List.mem_filter.mp hp).1
/-- behind a rule that changed d alone: all else but the frame is kept -/
theorem kept_of_news {g h h' : Heap} {L d : Addr} {m : Str → Option Value} (k : ∀ b o, g.get? b = some o → h.get? b = some o) (F : Fr g L h' m) (N : News g L h' (rest g h L d)) :
    ∀ b o, b ≠ L → b ≠ d → h.get? b = some o → h'.get? b = some o := fun b o h1 h2 e => by
  cases q : g.get? b with
  | some u =>
    have := k b u q
    rw [e] at this; cases this
    exact F.keep b _ q
  | none => exact (N (b, o) (mem_rest h1 q e h2)).1
end L2

namespace L2
open PySem PySem.Spec PyProof.Rows

/-- the module's facts, over the base: the heap at the law's entry without what is tracked there -/
structure Mod (K : PySem.W.Frag) (mg : Str → Option Value) (base : Heap) : Prop where
  kin : K.In base
  glob : base.Ns mainGlobals mg
  blt : ∃ mb, base.Ns builtinsNs mb ∧ ∀ x : Str, x ≠ "__name__" → mb x = bootBuiltins x
  nolimit : base.NoLimit

/-- the context: a def's body (or a comprehension's block) running. base: fixed through the whole law; s₀, H₀: the entry; outer: the frames whose slots others may change (a def's callers); stack: all frames that run;
   ex: iterators that were made ahead of the entry and are walked here (a comprehension's); fn: the names whose cells were made at the entry (a def: all; a comprehension's block: its own); calm: not within an except suite; pn: pins that every state bears; xe: what is wanted of an exception that leaves the code -/
structure Cx where
  prog : Program
  w : World
  K : PySem.W.Frag
  mg : Str → Option Value
  base : Heap
  A : Around
  N : List Str
  s₀ : Shared
  H₀ : Hp
  env : Env
  outer : List Env
  stack : List Env
  ex : List Addr
  fn : Str → Bool
  calm : Bool
  pn : List (Addr × Obj)
  xe : Value → Shared → Prop
/-- the callers' frames -/
def frs (l : List Env) : List Addr := l.filterMap (·.frame)
abbrev Cx.fs (X : Cx) : List Addr := frs X.outer

def Vis (sc : Scope) (x : Str) : Prop := sc.names.lookup x = some .local ∨ sc.names.lookup x = some .cell ∨ sc.names.lookup x = some .free
def Loc (sc : Scope) (x : Str) : Prop := sc.names.lookup x = some .local ∨ sc.names.lookup x = some .cell
def Look (env : Env) (h : Heap) (m : Str → Option Value) (x : Str) (u : Value) : Prop :=
  (env.kindOf x = some .local ∧ m x = some u) ∨ ((env.kindOf x = some .cell ∨ env.kindOf x = some .free) ∧ ∃ c, env.cells.lookup x = some c ∧ h.IsCell c (some u))

structure Cx.Ok (X : Cx) : Prop where
  mod : Mod X.K X.mg X.base
  kind : X.env.scope.kind = .function
  glob : X.env.globals = mainGlobals
  blt : X.env.builtins = builtinsNs
  above : X.s₀.heap.objs.size ≤ X.env.locals
  inj : ∀ x y c, X.env.cells.lookup x = some c → X.env.cells.lookup y = some c → x = y
  has : ∀ x, (X.env.kindOf x = some .cell ∨ X.env.kindOf x = some .free) → ∃ c, X.env.cells.lookup x = some c
  cab : ∀ x c, X.fn x = true → X.env.cells.lookup x = some c → X.s₀.heap.objs.size ≤ c
  hd : X.calm = true → X.A.handled = none
  frames : X.A.frames = some X.stack
  stk : X.stack = X.outer ∨ (X.stack = X.env :: X.outer ∧ X.env.frame = some X.env.locals)
  exf : ∀ b ∈ X.ex, b ≠ X.env.locals ∧ ∀ x c, X.env.cells.lookup x = some c → c ≠ b
  bs : ∀ b o, X.base.get? b = some o → X.s₀.heap.get? b = some o ∧ X.H₀ b = none
  bsz : X.base.objs.size ≤ X.s₀.heap.objs.size
  noex : ∀ b o, X.base.get? b = some o → b ∉ X.ex
  exfs : ∀ b ∈ X.ex, b ∉ X.fs
  funs : X.s₀.heap.FunFrames X.base X.outer
  frf : ∀ b ∈ X.fs, X.H₀ b = none

structure Inv (X : Cx) (pins : List (Addr × Obj)) (σ : List (Option V)) (H : Hp) (s : Shared) : Prop where
  ok : X.Ok
  os : s.os = X.s₀.os
  bare : AllBare s.gens
  base : Un X.fs X.ex X.H₀ H X.s₀.heap s.heap
  loc : ∃ m, s.heap.Ns X.env.locals m ∧ ∀ (i : Nat) (x : Str) (v : V), X.N[i]? = some x → σ[i]? = some (some v) → Vis X.env.scope x → ∃ u, RelV v u ∧ Look X.env s.heap m x u
  cell : ∀ x c, X.env.cells.lookup x = some c → ∃ v, s.heap.IsCell c v
  free : H X.env.locals = none
  freeC : ∀ x c, X.env.cells.lookup x = some c → H c = none
  pin : ∀ p ∈ X.pn ++ pins, s.heap.get? p.1 = some p.2 ∧ H p.1 = none ∧ p.1 ≠ X.env.locals ∧ p.1 ∉ X.fs ∧ ∀ v, p.2.data ≠ .cell v
  hok : HOk X.prog X.w H s.heap
  len : σ.length = X.N.length

section
variable {X : Cx} {pins : List (Addr × Obj)} {σ : List (Option V)} {H H' : Hp} {s : Shared} {h' : Heap}

theorem Cx.Ok.nofr (ok : X.Ok) {b : Addr} {o : Obj} (e : X.base.get? b = some o) : b ∉ X.fs := fun hb => by
  have := (ok.funs.mem hb).1
  rw [e] at this; cases this
theorem Inv.bs (I : Inv X pins σ H s) : ∀ b o, X.base.get? b = some o → s.heap.get? b = some o ∧ H b = none := fun b o e =>
  ⟨I.base.keep b o (I.ok.bs b o e).1 (I.ok.bs b o e).2 (I.ok.nofr e) (I.ok.noex b o e), I.base.free b o (I.ok.bs b o e).1 (I.ok.bs b o e).2 (I.ok.noex b o e)⟩
theorem Inv.bk (I : Inv X pins σ H s) : ∀ b o, X.base.get? b = some o → s.heap.get? b = some o := fun b o e => (I.bs b o e).1
theorem Inv.mod (I : Inv X pins σ H s) : Mod X.K X.mg X.base := I.ok.mod
theorem Inv.kIn (I : Inv X pins σ H s) : X.K.In s.heap := I.ok.mod.kin.keeps I.bk
theorem Inv.nolimit (I : Inv X pins σ H s) : s.heap.NoLimit := I.ok.mod.nolimit.keeps I.bk
/-- the frame over the base: for OpenK's rules (K.In X.base is I.mod.kin) -/
theorem Inv.fr (I : Inv X pins σ H s) : ∃ m, Fr X.base X.env.locals s.heap m :=
  let ⟨m, hn, _⟩ := I.loc
  ⟨m, hn, I.bk, Nat.le_trans I.ok.bsz I.ok.above⟩
theorem Inv.lt (I : Inv X pins σ H s) : X.env.locals < s.heap.objs.size := let ⟨_, hn, _⟩ := I.loc; hn.lt
theorem Inv.sz (I : Inv X pins σ H s) : X.s₀.heap.objs.size ≤ s.heap.objs.size := Nat.le_trans I.ok.above (Nat.le_of_lt I.lt)
theorem Inv.nofs (I : Inv X pins σ H s) {a : Addr} (h : s.heap.objs.size ≤ a) : a ∉ X.fs := fun hb => by
  obtain ⟨_, o, ho, _⟩ := I.ok.funs.mem hb
  exact absurd (Nat.lt_of_lt_of_le (Heap.lt_size ho) (Nat.le_trans I.sz h)) (Nat.lt_irrefl _)
theorem Inv.cne (I : Inv X pins σ H s) : ∀ x c, X.env.cells.lookup x = some c → c ≠ X.env.locals := fun x c e z => by
  obtain ⟨v, o, ho, hd⟩ := I.cell x c e
  obtain ⟨m, ⟨o', es, ep, ho', hd', _⟩, _⟩ := I.loc
  rw [z, ho'] at ho; cases ho; rw [hd'] at hd; cases hd
theorem Inv.funs (I : Inv X pins σ H s) : s.heap.FunFrames X.base X.outer := by
  have all : ∀ (l : List Env), (∀ b ∈ frs l, b ∈ X.fs) → X.s₀.heap.FunFrames X.base l → s.heap.FunFrames X.base l := by
    intro l
    induction l with
    | nil => intro _ _; trivial
    | cons env r ih =>
      intro hs hl
      obtain ⟨hk, ⟨L, o, hf, hn, ho, hd⟩, hr⟩ := hl
      have hL : L ∈ X.fs := hs L (by unfold frs; rw [List.filterMap_cons, hf]; exact List.mem_cons_self)
      obtain ⟨sl, e⟩ := I.base.slot L o ho (I.ok.frf L hL) hL fun z => I.ok.exfs L z hL
      exact ⟨hk, ⟨L, _, hf, hn, e, hd⟩, ih (fun b hb => hs b (by unfold frs; rw [List.filterMap_cons, hf]; exact List.mem_cons_of_mem _ hb)) hr⟩
  exact all X.outer (fun _ hb => hb) I.ok.funs

/-- the frames that run, for a call -/
theorem Inv.stack (I : Inv X pins σ H s) : s.heap.FunFrames X.base X.stack := by
  rcases I.ok.stk with e | ⟨e, hf⟩
  · rw [e]; exact I.funs
  · rw [e]
    obtain ⟨m, hn, _⟩ := I.loc
    refine .cons (by rw [I.ok.kind]; decide) hf hn ?_ I.funs
    exact Heap.get?_none_of_le (Nat.le_trans I.ok.bsz I.ok.above)
theorem Inv.stkSub (I : Inv X pins σ H s) : ∀ b ∈ frs X.stack, b ∈ X.env.locals :: X.fs := fun b hb => by
  rcases I.ok.stk with e | ⟨e, hf⟩
  · rw [e] at hb; exact List.mem_cons_of_mem _ hb
  · rw [e] at hb
    unfold frs at hb
    rw [List.filterMap_cons, hf] at hb
    exact hb
theorem Inv.stkFree (I : Inv X pins σ H s) : ∀ b ∈ frs X.stack, H b = none := fun b hb => by
  rcases List.mem_cons.mp (I.stkSub b hb) with e | hb
  · rw [e]; exact I.free
  · obtain ⟨_, o, ho, _⟩ := I.ok.funs.mem hb
    exact I.base.free b o ho (I.ok.frf b hb) fun z => I.ok.exfs b z hb

/-- THE STEP: the untracked objects but the frame and the records at ch are kept (the callers' frames up to slots), the frame's map is kept, the new abstract heap is held -/
theorem Inv.step {g' : Array GenState} {t' : Nat} {d' : Drawn} {ch : List Addr} (I : Inv X pins σ H s)
    (hch : ∀ b ∈ ch, (b ∈ X.ex ∨ X.s₀.heap.objs.size ≤ b) ∧ b ≠ X.env.locals ∧ (∀ x c, X.env.cells.lookup x = some c → c ≠ b) ∧ ∀ p ∈ X.pn ++ pins, p.1 ≠ b)
    (keep : ∀ b o, b ≠ X.env.locals → b ∉ X.fs → b ∉ ch → s.heap.get? b = some o → H b = none → h'.get? b = some o)
    (slot : ∀ b o, b ≠ X.env.locals → b ∈ X.fs → b ∉ ch → s.heap.get? b = some o → H b = none → ∃ sl, h'.get? b = some { o with slots := sl }) (free : ∀ b o, b ∉ ch → s.heap.get? b = some o → H b = none → H' b = none)
    (there : ∀ b o, b ∉ ch → s.heap.get? b = some o → ∃ o', h'.get? b = some o')
    (tups : ∀ b xs, H b = some (.tup xs) → H' b = some (.tup xs)) (frzs : ∀ b o u, H b = some (.frz o u) → H' b = some (.frz o u)) (tbls : ∀ b ps, H b = some (.tbl ps) → ∃ more, H' b = some (.tbl (ps ++ more)))
    (ns : ∀ m, s.heap.Ns X.env.locals m → h'.Ns X.env.locals m) (hok : HOk X.prog X.w H' h') (hg : AllBare g') :
    Inv X pins σ H' { s with heap := h', gens := g', drawn := d', toks := t' } := by
  have neL : ∀ b o, X.s₀.heap.get? b = some o → b ≠ X.env.locals := fun b o e => Nat.ne_of_lt (Nat.lt_of_lt_of_le (Heap.lt_size e) I.ok.above)
  have neC : ∀ b o, X.s₀.heap.get? b = some o → b ∉ X.ex → b ∉ ch := fun b o e hx hb => by
    rcases (hch b hb).1 with z | z
    · exact hx z
    · exact absurd (Nat.lt_of_lt_of_le (Heap.lt_size e) z) (Nat.lt_irrefl _)
  have cellK : ∀ x c, X.env.cells.lookup x = some c → ∀ v, s.heap.IsCell c v → h'.IsCell c v := fun x c e v ⟨o, ho, hd⟩ => by
    have nch : c ∉ ch := fun z => (hch c z).2.2.1 x c e rfl
    by_cases hc : c ∈ X.fs
    · obtain ⟨sl, q⟩ := slot c o (I.cne x c e) hc nch ho (I.freeC x c e)
      exact ⟨_, q, hd⟩
    · exact ⟨o, keep c o (I.cne x c e) hc nch ho (I.freeC x c e), hd⟩
  refine ⟨I.ok, I.os, hg, ⟨fun b o e n hb hx => ?_, fun b o e n hb hx => ?_, fun b o e n hx => ?_, fun b o e hx => ?_, fun b xs e => tups b xs (I.base.tups b xs e), fun b o xs e => frzs b o xs (I.base.frzs b o xs e), fun b ps e => ?_⟩, ?_, fun x c e => ?_, ?_, fun x c e => ?_, fun p hp => ?_, hok, I.len⟩
  · exact keep b o (neL b o e) hb (neC b o e hx) (I.base.keep b o e n hb hx) (I.base.free b o e n hx)
  · obtain ⟨sl, e1⟩ := I.base.slot b o e n hb hx
    obtain ⟨sl', e2⟩ := slot b _ (neL b o e) hb (neC b o e hx) e1 (I.base.free b o e n hx)
    exact ⟨sl', e2⟩
  · obtain ⟨o', e1⟩ := I.base.there b o e hx
    exact free b o' (neC b o e hx) e1 (I.base.free b o e n hx)
  · obtain ⟨o', e1⟩ := I.base.there b o e hx
    exact there b o' (neC b o e hx) e1
  · obtain ⟨m1, e1⟩ := I.base.tbls b ps e
    obtain ⟨m2, e2⟩ := tbls b _ e1
    exact ⟨m1 ++ m2, by rw [e2, Array.append_assoc]⟩
  · obtain ⟨m, hn, hl⟩ := I.loc
    refine ⟨m, ns m hn, fun i x v e1 e2 e3 => ?_⟩
    obtain ⟨u, r, l⟩ := hl i x v e1 e2 e3
    refine ⟨u, r, ?_⟩
    rcases l with l | ⟨k, c, e, z⟩
    · exact .inl l
    · exact .inr ⟨k, c, e, cellK x c e _ z⟩
  · obtain ⟨v, z⟩ := I.cell x c e
    exact ⟨v, cellK x c e v z⟩
  · obtain ⟨m, ⟨o, _, _, ho, _⟩, _⟩ := I.loc
    exact free _ o (fun z => (hch _ z).2.1 rfl) ho I.free
  · obtain ⟨v, o, ho, hd⟩ := I.cell x c e
    exact free c o (fun z => (hch c z).2.2.1 x c e rfl) ho (I.freeC x c e)
  · obtain ⟨e, n, ne, nf, d⟩ := I.pin p hp
    have nch : p.1 ∉ ch := fun z => (hch p.1 z).2.2.2 p hp rfl
    exact ⟨keep p.1 p.2 ne nf nch e n, free p.1 p.2 nch e n, ne, nf, d⟩
/-- .. where the frame's own object is kept too -/
theorem Inv.un {t' : Nat} (I : Inv X pins σ H s) (u : Un X.fs [] H H' s.heap h') (hok : HOk X.prog X.w H' h') : Inv X pins σ H' { s with heap := h', toks := t' } := by
  obtain ⟨m, ⟨o, es, ep, ho, r⟩, _⟩ := id I.loc
  obtain ⟨sl, hL⟩ := u.any ho I.free (by simp)
  exact I.step (g' := s.gens) (d' := s.drawn) (ch := []) (fun _ z => nomatch z) (fun b o _ hb _ e n => u.keep b o e n hb (by simp)) (fun b o _ hb _ e n => u.slot b o e n hb (by simp)) (fun b o _ e n => u.free b o e n (by simp)) (fun b o _ e => u.there b o e (by simp)) u.tups u.frzs u.tbls (fun m' hm => by
    obtain ⟨o', es', ep', ho', r'⟩ := hm
    rw [ho] at ho'; cases ho'
    exact ⟨_, es', ep', hL, r'⟩) hok I.bare
/-- behind a call (or a comprehension's block): the slots of this frame may have changed too, the records at ch may have turned -/
theorem Inv.call {g' : Array GenState} {t' : Nat} {d' : Drawn} {ch : List Addr} (I : Inv X pins σ H s) (u : Un (frs X.stack) ch H H' s.heap h') (hok : HOk X.prog X.w H' h') (hg : AllBare g')
    (hch : ∀ b ∈ ch, (b ∈ X.ex ∨ X.s₀.heap.objs.size ≤ b) ∧ b ≠ X.env.locals ∧ (∀ x c, X.env.cells.lookup x = some c → c ≠ b) ∧ ∀ p ∈ X.pn ++ pins, p.1 ≠ b) :
    Inv X pins σ H' { s with heap := h', gens := g', drawn := d', toks := t' } := by
  obtain ⟨m, ⟨o, es, ep, ho, r⟩, _⟩ := id I.loc
  obtain ⟨sl, hL⟩ := u.any ho I.free fun z => (hch _ z).2.1 rfl
  exact I.step (ch := ch) hch (fun b o hL hb hc e n => u.keep b o e n (fun z => (List.mem_cons.mp (I.stkSub b z)).elim hL hb) hc) (fun b o _ _ hc e n => u.any e n hc) (fun b o hc e n => u.free b o e n hc) (fun b o hc e => u.there b o e hc) u.tups u.frzs u.tbls (fun m' hm => by
    obtain ⟨o', es', ep', ho', r'⟩ := hm
    rw [ho] at ho'; cases ho'
    exact ⟨_, es', ep', hL, r'⟩) hok hg
/-- an untracked record of ours (an iterator) has turned -/
theorem Inv.turned {t' : Nat} {it : Addr} (I : Inv X pins σ H s) (k : ∀ b o, b ≠ it → s.heap.get? b = some o → h'.get? b = some o) (hn : H it = none) (hL : it ≠ X.env.locals)
    (h1 : it ∈ X.ex ∨ X.s₀.heap.objs.size ≤ it) (h2 : ∀ x c, X.env.cells.lookup x = some c → c ≠ it) (h3 : ∀ p ∈ X.pn ++ pins, p.1 ≠ it) : Inv X pins σ H { s with heap := h', toks := t' } := by
  have nit : ∀ b u, H b = some u → b ≠ it := fun b u e z => by rw [z, hn] at e; cases e
  refine I.step (g' := s.gens) (d' := s.drawn) (ch := [it]) (fun b hb => ?_) (fun b o _ _ hc e _ => k b o (fun z => hc (by simp [z])) e) (fun b o _ _ hc e _ => ⟨o.slots, k b o (fun z => hc (by simp [z])) e⟩) (fun _ _ _ _ n => n)
    (fun b o hc e => ⟨o, k b o (fun z => hc (by simp [z])) e⟩) (fun _ _ e => e) (fun _ _ _ e => e) (fun b ps e => ⟨#[], by rw [e]; simp⟩) (fun m hm => ?_) (fun b u e => ?_) I.bare
  · have e : b = it := by simpa using hb
    subst e
    exact ⟨h1, hL, h2, h3⟩
  · obtain ⟨o, es, ep, ho, r⟩ := hm
    exact ⟨o, es, ep, k _ o (Ne.symm hL) ho, r⟩
  · refine (I.hok b u e).stay (fun c v hc q => k c v ?_ q) (fun _ q => q) fun _ _ q => q
    rcases hc with z | z
    · rw [z]; exact nit b u e
    · exact nit c _ z
theorem Inv.tok (I : Inv X pins σ H s) (t : Nat) : Inv X pins σ H { s with toks := t } := I.un (h' := s.heap) (t' := t) Un.refl I.hok
/-- all objects kept -/
theorem Inv.kept {t' : Nat} (I : Inv X pins σ H s) (k : ∀ b u, s.heap.get? b = some u → h'.get? b = some u) : Inv X pins σ H { s with heap := h', toks := t' } := I.un (Un.kept k) (I.hok.kept k)
/-- a new object laid and tracked -/
theorem Inv.laid {a : Addr} {o : HO} {t' : Nat} (I : Inv X pins σ H s) (k : ∀ b u, s.heap.get? b = some u → h'.get? b = some u) (hp : s.heap.objs.size ≤ a) (new : ObjOk X.prog X.w (upd H a o) h' a o) :
    Inv X pins σ (upd H a o) { s with heap := h', toks := t' } := I.un (Un.laid k hp (I.hok.fresh hp)) (I.hok.laid k hp new)
/-- an object written -/
theorem Inv.write {x e : Addr} {o : HO} {t' : Nat} (I : Inv X pins σ H s) (mu : Mut (H x)) (he : e = x ∨ H e = some (.own x)) (k : ∀ b u, b ≠ e → s.heap.get? b = some u → h'.get? b = some u) (heo : ∃ u, h'.get? e = some u)
    (new : ObjOk X.prog X.w (upd H x o) h' x o) : Inv X pins σ (upd H x o) { s with heap := h', toks := t' } := I.un (Un.write mu he k heo) (I.hok.write mu he k heo new)
/-- forgetting slots, pins -/
theorem Inv.weak {σ' : List (Option V)} (I : Inv X pins σ H s) (hl : σ'.length = σ.length) (w : ∀ (i : Nat) v, σ'[i]? = some (some v) → σ[i]? = some (some v)) : Inv X pins σ' H s :=
  ⟨I.ok, I.os, I.bare, I.base, let ⟨m, hn, hl'⟩ := I.loc; ⟨m, hn, fun i x v e1 e2 e3 => hl' i x v e1 (w i v e2) e3⟩, I.cell, I.free, I.freeC, I.pin, I.hok, hl.trans I.len⟩
theorem Inv.pins_of {pins' : List (Addr × Obj)} (I : Inv X pins σ H s) (h : ∀ p ∈ pins', s.heap.get? p.1 = some p.2 ∧ H p.1 = none ∧ p.1 ≠ X.env.locals ∧ p.1 ∉ X.fs ∧ ∀ v, p.2.data ≠ .cell v) : Inv X pins' σ H s :=
  ⟨I.ok, I.os, I.bare, I.base, I.loc, I.cell, I.free, I.freeC, fun p hp => (List.mem_append.mp hp).elim (fun z => I.pin p (List.mem_append_left _ z)) (h p), I.hok, I.len⟩

theorem nodup_ix {N : List Str} (hN : N.Nodup) {i j : Nat} {x : Str} (a : N[i]? = some x) (b : N[j]? = some x) : i = j := by
  obtain ⟨h1, e1⟩ := List.getElem?_eq_some_iff.mp a
  obtain ⟨h2, e2⟩ := List.getElem?_eq_some_iff.mp b
  exact (List.getElem_inj hN).mp (e1.trans e2.symm)

/-- a name is stored; what changed -/
theorem store_ok2 {M : Model} {A : Around} {E : Value → Shared → Prop} {i : Nat} {x : Str} {v : V} {u : Value} {Q : Unit → Shared → Prop} (I : Inv X pins σ H s) (hN : X.N.Nodup) (hi : X.N[i]? = some x) (hx : Loc X.env.scope x) (r : RelV v u)
    (h : ∀ s', Inv X pins (σ.set i (some v)) H s' → (∃ a, Heap.SameBut a s.heap s'.heap ∧ (a = X.env.locals ∨ X.env.cells.lookup x = some a)) → Q () s') (hf : X.fn x = true ∨ X.env.scope.names.lookup x = some .local := by first | exact .inl rfl | exact .inr rfl | assumption) : wpAny M A (storeName X.env x u) Q E s := by
  obtain ⟨m, hn, hl⟩ := id I.loc
  have hcls : (X.env.scope.kind == .class || (X.env.scope.kind == .module && X.env.locals != X.env.globals)) = false := by rw [I.ok.kind]; rfl
  have hiσ : i < σ.length := by rw [I.len]; exact (List.getElem?_eq_some_iff.mp hi).1
  have cne := I.cne
  have tracked : ∀ {a : Addr} {h' : Heap}, (∃ o, s.heap.get? a = some o ∧ H a = none) → Heap.SameBut a s.heap h' → HOk X.prog X.w H h' := fun {a h'} ha hs b ob e => by
    obtain ⟨_, _, hfree⟩ := ha
    refine (I.hok b ob e).stay (fun c w' hc q => (hs.2 c ?_).trans q) (fun _ q => q) fun _ _ q => q
    rintro rfl
    rcases hc with rfl | hc
    · rw [hfree] at e; cases e
    · rw [hfree] at hc; cases hc
  rcases hx with hk | hk
  · refine wpAny_storeName_local hk hn (fun h' hn' hs => ?_) hcls
    obtain ⟨oL, _, _, hoL, _⟩ := id hn
    refine h _ ⟨I.ok, I.os, I.bare, ⟨fun b o e n hb hx => ?_, fun b o e n hb hx => ?_, I.base.free, fun b o e hx => ?_, I.base.tups, I.base.frzs, I.base.tbls⟩, ⟨_, hn', fun j y v' e1 e2 e3 => ?_⟩, fun y c e => ?_, I.free, I.freeC, fun p hp => ?_, tracked ⟨oL, hoL, I.free⟩ hs, by simpa using I.len⟩ ⟨_, hs, .inl rfl⟩
    · exact (hs.2 b (Nat.ne_of_lt (Nat.lt_of_lt_of_le (Heap.lt_size e) I.ok.above))).trans (I.base.keep b o e n hb hx)
    · obtain ⟨sl, e1⟩ := I.base.slot b o e n hb hx
      exact ⟨sl, (hs.2 b (Nat.ne_of_lt (Nat.lt_of_lt_of_le (Heap.lt_size e) I.ok.above))).trans e1⟩
    · obtain ⟨o', e1⟩ := I.base.there b o e hx
      exact ⟨o', (hs.2 b (Nat.ne_of_lt (Nat.lt_of_lt_of_le (Heap.lt_size e) I.ok.above))).trans e1⟩
    · by_cases hj : j = i
      · subst hj
        rw [hi] at e1; cases e1
        rw [List.getElem?_set_self hiσ] at e2
        cases e2
        exact ⟨u, r, .inl ⟨hk, by simp⟩⟩
      · rw [List.getElem?_set_ne (Ne.symm hj)] at e2
        obtain ⟨u', r', q⟩ := hl j y v' e1 e2 e3
        refine ⟨u', r', ?_⟩
        rcases q with ⟨k, e⟩ | ⟨k, c, e, z⟩
        · refine .inl ⟨k, ?_⟩
          have : y ≠ x := fun e => hj (nodup_ix hN e1 (e ▸ hi))
          simp [this, e]
        · exact .inr ⟨k, c, e, z.sameBut hs (cne y c e)⟩
    · obtain ⟨w', z⟩ := I.cell y c e
      exact ⟨w', z.sameBut hs (cne y c e)⟩
    · obtain ⟨e, n, ne, nf, d⟩ := I.pin p hp
      exact ⟨(hs.2 p.1 ne).trans e, n, ne, nf, d⟩
  · have hfn : X.fn x = true := by
      rcases hf with z | z
      · exact z
      · rw [z] at hk; cases hk
    obtain ⟨c, hc⟩ := I.ok.has x (.inl hk)
    obtain ⟨w', z⟩ := I.cell x c hc
    refine wpAny_storeName_cell I.ok.kind hk hc z (fun h' hc' hs => ?_)
    obtain ⟨oc, hoc, hocd⟩ := id z
    refine h { s with heap := h' } ⟨I.ok, I.os, I.bare, ⟨fun b o e n hb hx => ?_, fun b o e n hb hx => ?_, I.base.free, fun b o e hx => ?_, I.base.tups, I.base.frzs, I.base.tbls⟩, ⟨m, hn.sameBut hs (Ne.symm (cne x c hc)), fun j y v' e1 e2 e3 => ?_⟩, fun y c' e => ?_, I.free, I.freeC, fun p hp => ?_, tracked ⟨oc, hoc, I.freeC x c hc⟩ hs, by simpa using I.len⟩ ⟨c, hs, .inr hc⟩
    · exact (hs.2 b (Nat.ne_of_lt (Nat.lt_of_lt_of_le (Heap.lt_size e) (I.ok.cab x c hfn hc)))).trans (I.base.keep b o e n hb hx)
    · obtain ⟨sl, e1⟩ := I.base.slot b o e n hb hx
      exact ⟨sl, (hs.2 b (Nat.ne_of_lt (Nat.lt_of_lt_of_le (Heap.lt_size e) (I.ok.cab x c hfn hc)))).trans e1⟩
    · obtain ⟨o', e1⟩ := I.base.there b o e hx
      exact ⟨o', (hs.2 b (Nat.ne_of_lt (Nat.lt_of_lt_of_le (Heap.lt_size e) (I.ok.cab x c hfn hc)))).trans e1⟩
    · by_cases hj : j = i
      · subst hj
        rw [hi] at e1; cases e1
        rw [List.getElem?_set_self hiσ] at e2
        cases e2
        exact ⟨u, r, .inr ⟨.inl hk, c, hc, hc'⟩⟩
      · rw [List.getElem?_set_ne (Ne.symm hj)] at e2
        obtain ⟨u', r', q⟩ := hl j y v' e1 e2 e3
        refine ⟨u', r', ?_⟩
        rcases q with q | ⟨k, c', e, z'⟩
        · exact .inl q
        · refine .inr ⟨k, c', e, z'.sameBut hs ?_⟩
          rintro rfl
          exact hj (nodup_ix hN e1 (I.ok.inj _ _ _ e hc ▸ hi))
    · by_cases hcc : c' = c
      · subst hcc; exact ⟨_, hc'⟩
      · obtain ⟨w2, z2⟩ := I.cell y c' e
        exact ⟨w2, z2.sameBut hs hcc⟩
    · obtain ⟨e, n, ne, nf, d⟩ := I.pin p hp
      refine ⟨(hs.2 p.1 ?_).trans e, n, ne, nf, d⟩
      intro q
      rw [q, hoc] at e
      have q' : oc = p.2 := Option.some.inj e
      exact d w' (by rw [← q']; exact hocd)
theorem store_ok {M : Model} {A : Around} {E : Value → Shared → Prop} {i : Nat} {x : Str} {v : V} {u : Value} {Q : Unit → Shared → Prop} (I : Inv X pins σ H s) (hN : X.N.Nodup) (hi : X.N[i]? = some x) (hx : Loc X.env.scope x) (r : RelV v u)
    (h : ∀ s', Inv X pins (σ.set i (some v)) H s' → Q () s') (hf : X.fn x = true ∨ X.env.scope.names.lookup x = some .local := by first | exact .inl rfl | exact .inr rfl | assumption) : wpAny M A (storeName X.env x u) Q E s :=
  store_ok2 I hN hi hx r (fun s' I' _ => h s' I') hf
/-- behind a call or a block, the state as it is -/
theorem Inv.call' {s' : Shared} {ch : List Addr} (I : Inv X pins σ H s) (ho : s'.os = s.os) (u : Un (frs X.stack) ch H H' s.heap s'.heap) (hok : HOk X.prog X.w H' s'.heap) (hg : AllBare s'.gens)
    (hch : ∀ b ∈ ch, (b ∈ X.ex ∨ X.s₀.heap.objs.size ≤ b) ∧ b ≠ X.env.locals ∧ (∀ x c, X.env.cells.lookup x = some c → c ≠ b) ∧ ∀ p ∈ X.pn ++ pins, p.1 ≠ b) : Inv X pins σ H' s' := by
  obtain ⟨h', g', d', t', o'⟩ := s'
  have e : o' = s.os := ho
  subst e
  exact I.call (g' := g') (t' := t') (d' := d') u hok hg hch
end

/-! ### the judgements -/
/-- an exception: its class, its own dict's address (where it has one), the abstract heap behind it -/
abbrev XK := Value → Option Addr → Hp → Prop
abbrev St := List (Option V)
abbrev VK := V → Hp → Prop
/-- an expression's reading; a test's; an argument list's -/
abbrev TE := St → Hp → VK → Prop
abbrev TT := St → Hp → (Bool → Hp → Prop) → Prop
abbrev TA := St → Hp → (List V → Hp → Prop) → Prop
/-- what is wanted behind a statement -/
structure Ends where
  nx : St → Hp → Prop
  rt : VK
  bk : St → Hp → Prop := fun _ _ => False
  ct : St → Hp → Prop := fun _ _ => False
abbrev TS := Ends → St → Hp → Prop

def EP (X : Cx) (pins : List (Addr × Obj)) (σ : St) (Q : VK) (u : Value) (s' : Shared) : Prop := ∃ v H', Inv X pins σ H' s' ∧ RelV v u ∧ Q v H'
def TP (X : Cx) (pins : List (Addr × Obj)) (σ : St) (Q : Bool → Hp → Prop) (b : Bool) (s' : Shared) : Prop := ∃ H', Inv X pins σ H' s' ∧ Q b H'
def AP (X : Cx) (pins : List (Addr × Obj)) (σ : St) (Q : List V → Hp → Prop) (us : List Value) (s' : Shared) : Prop := ∃ vs H', Inv X pins σ H' s' ∧ Vals vs us ∧ Q vs H'
def SP (X : Cx) (pins : List (Addr × Obj)) (D : Ends) (f : Flow) (s' : Shared) : Prop :=
  match f with
  | .next => ∃ σ' H', Inv X pins σ' H' s' ∧ D.nx σ' H'
  | .brk => ∃ σ' H', Inv X pins σ' H' s' ∧ D.bk σ' H'
  | .cont => ∃ σ' H', Inv X pins σ' H' s' ∧ D.ct σ' H'
  | .ret u => ∃ v σ' H', Inv X pins σ' H' s' ∧ RelV v u ∧ D.rt v H'

def PE (X : Cx) (e : Expr) (t : TE) : Prop :=
  ∀ (pins : List (Addr × Obj)) (s : Shared) (σ : St) (H : Hp) (Q : VK), Inv X pins σ H s → t σ H Q → wpAny (model X.prog X.w) X.A (eval e X.env) (EP X pins σ Q) X.xe s
def PT (X : Cx) (e : Expr) (t : TT) : Prop :=
  ∀ (pins : List (Addr × Obj)) (s : Shared) (σ : St) (H : Hp) (Q : Bool → Hp → Prop), Inv X pins σ H s → t σ H Q → wpAny (model X.prog X.w) X.A (isTrue e X.env (eval e X.env)) (TP X pins σ Q) X.xe s
/-- a test whatever its 'whole' is (and, or) -/
def PW (X : Cx) (e : Expr) (t : TT) : Prop :=
  ∀ (whole : Sem Value) (pins : List (Addr × Obj)) (s : Shared) (σ : St) (H : Hp) (Q : Bool → Hp → Prop), Inv X pins σ H s → t σ H Q → wpAny (model X.prog X.w) X.A (isTrue e X.env whole) (TP X pins σ Q) X.xe s
theorem PW.pt {X : Cx} {e : Expr} {t : TT} (h : PW X e t) : PT X e t := h _
/-- an argument list (no star), from the left -/
def PA (X : Cx) (es : List Expr) (t : TA) : Prop :=
  ∀ (pos : Pos) (pins : List (Addr × Obj)) (s : Shared) (σ : St) (H : Hp) (Q : List V → Hp → Prop), Inv X pins σ H s → t σ H Q → wpAny (model X.prog X.w) X.A (spliced (backTo pos (starEach es X.env))) (AP X pins σ Q) X.xe s
def PS (X : Cx) (st : Stmt) (t : TS) : Prop :=
  ∀ (pins : List (Addr × Obj)) (s : Shared) (σ : St) (H : Hp) (D : Ends), Inv X pins σ H s → t D σ H → wpAny (model X.prog X.w) X.A (exec st X.env) (SP X pins D) X.xe s
def PSs (X : Cx) (st : List Stmt) (t : TS) : Prop :=
  ∀ (pins : List (Addr × Obj)) (s : Shared) (σ : St) (H : Hp) (D : Ends), Inv X pins σ H s → t D σ H → wpAny (model X.prog X.w) X.A (execs st X.env) (SP X pins D) X.xe s
/-- weaken the end -/
theorem thn {α : Type} {t : Sem α} {Q Q' : α → Shared → Prop} {M : Model} {A : Around} {E : Value → Shared → Prop} {s : Shared} (h : wpAny M A t Q E s) (hQ : ∀ a s, Q a s → Q' a s) : wpAny M A t Q' E s := wpAny_mono h hQ fun _ _ x => x
end L2

namespace L2
open PySem PySem.Spec PyProof.Rows
section
variable {X : Cx}

/-- two expressions in a row -/
theorem bin {a b : Expr} {ta tb : TE} (ha : PE X a ta) (hb : PE X b tb) {pins : List (Addr × Obj)} {s : Shared} {σ : St} {H : Hp} {R : V → V → Hp → Prop} (I : Inv X pins σ H s) (h : ta σ H fun x H1 => tb σ H1 fun y H2 => R x y H2)
    {α : Type} {Q : α → Shared → Prop} {f : Value → Value → Sem α}
    (hf : ∀ v u s2 x y H2, Inv X pins σ H2 s2 → RelV x v → RelV y u → R x y H2 → wpAny (model X.prog X.w) X.A (f v u) Q X.xe s2) :
    wpAny (model X.prog X.w) X.A (eval a X.env) (fun v s₁ => wpAny (model X.prog X.w) X.A (eval b X.env) (fun u s₂ => wpAny (model X.prog X.w) X.A (f v u) Q X.xe s₂) X.xe s₁) X.xe s := by
  refine thn (ha pins s σ H _ I h) fun v s1 ⟨x, H1, I1, r1, q1⟩ => ?_
  refine thn (hb pins s1 σ H1 _ I1 q1) fun u s2 ⟨y, H2, I2, r2, q2⟩ => ?_
  exact hf v u s2 x y H2 I2 r1 r2 q2

/-! ### names and constants -/
def tVar (i : Nat) : TE := fun σ H Q => ∃ v, σ[i]? = some (some v) ∧ Q v H
def tC (v : V) : TE := fun _ H Q => Q v H
theorem pe_var {i : Nat} {x : Str} {pos : Pos} (hN : X.N[i]? = some x) (hv : Vis X.env.scope x) (hd : (x == ("__debug__" : Str)) = false := by decide) (hcd : (x == ("__classdict__" : Str)) = false := by decide) : PE X (.Name x pos) (tVar i) := by
  intro pins s σ H Q I h
  obtain ⟨v, e, h⟩ := h
  obtain ⟨m, hn, hl⟩ := I.loc
  obtain ⟨u, r, l⟩ := hl i x v hN e hv
  have fin : EP X pins σ Q u s := ⟨v, H, I, r, h⟩
  rcases l with ⟨hk, hm⟩ | ⟨hk, c, hc, hcell⟩
  · exact wpAny_Name (wpAny_loadName_local I.ok.kind hk hn hm fin) hd
  · rcases hk with hk | hk
    · exact wpAny_Name (wpAny_loadName_cell I.ok.kind hk hc hcell fin) hd
    · exact wpAny_Name (wpAny_loadName_free I.ok.kind hk hc hcell fin hcd) hd
theorem pe_int {i j pos} : PE X (.Constant (.int i) j pos) (tC (.int i)) := fun _ _ _ H _ I h => wpAny_Constant_int ⟨.int i, H, I.tok _, ⟨_, rfl⟩, h⟩
theorem pe_bl {b j pos} : PE X (.Constant (.bool b) j pos) (tC (.bl b)) := fun _ _ _ H _ I h => Constant_bool ⟨.bl b, H, I, rfl, h⟩
theorem pe_non {j pos} : PE X (.Constant .none j pos) (tC .non) := fun _ _ _ H _ I h => Constant_none ⟨.non, H, I, rfl, h⟩
theorem pe_str {x j pos} : PE X (.Constant (.str x) j pos) (tC (.str x)) := fun _ _ _ H _ I h => Calls.Constant_str ⟨.str x, H, I.tok _, ⟨_, rfl⟩, h⟩

/-- a global name of the def -/
def Gl (X : Cx) (x : Str) : Prop := X.env.kindOf x = some .globalImplicit
theorem ld_glob {E : Value → Shared → Prop} {pins : List (Addr × Obj)} {s : Shared} {σ : St} {H : Hp} {x : Str} {u : Value} {pos : Pos} {Q : Value → Shared → Prop} (I : Inv X pins σ H s) (hg : Gl X x) (hm : X.mg x = some u) (h : Q u s)
    (hd : (x == ("__debug__" : Str)) = false := by decide) : wpAny (model X.prog X.w) X.A (eval (.Name x pos) X.env) Q E s :=
  Calls.Name_function_global I.ok.kind hg (Calls.loadGlobal_global (by rw [I.ok.glob]; exact I.mod.glob.keeps I.bk) hm h) hd
theorem ld_blt {E : Value → Shared → Prop} {pins : List (Addr × Obj)} {s : Shared} {σ : St} {H : Hp} {x : Str} {u : Value} {pos : Pos} {Q : Value → Shared → Prop} (I : Inv X pins σ H s) (hg : Gl X x) (hm : X.mg x = none) (hv : bootBuiltins x = some u) (h : Q u s)
    (hn : x ≠ "__name__" := by decide) (hd : (x == ("__debug__" : Str)) = false := by decide) : wpAny (model X.prog X.w) X.A (eval (.Name x pos) X.env) Q E s := by
  obtain ⟨mb, h1, h2⟩ := I.mod.blt
  exact Calls.Name_function_global I.ok.kind hg (Calls.loadGlobal_builtin (by rw [I.ok.glob]; exact I.mod.glob.keeps I.bk) hm (by rw [I.ok.blt]; exact h1.keeps I.bk) ((h2 x hn).trans hv) h) hd
/-- a module's constant, a class, a function, as a value -/
theorem pe_glob {x : Str} {v : V} {u : Value} {pos : Pos} (hg : Gl X x) (hm : X.mg x = some u) (r : RelV v u) (hd : (x == ("__debug__" : Str)) = false := by decide) : PE X (.Name x pos) (tC v) :=
  fun _ _ _ H _ I h => ld_glob I hg hm ⟨v, H, I, r, h⟩ hd
theorem pe_bltn {x : Str} {v : V} {u : Value} {pos : Pos} (hg : Gl X x) (hm : X.mg x = none) (hv : bootBuiltins x = some u) (r : RelV v u) (hn : x ≠ "__name__" := by decide) (hd : (x == ("__debug__" : Str)) = false := by decide) : PE X (.Name x pos) (tC v) :=
  fun _ _ _ H _ I h => ld_blt I hg hm hv ⟨v, H, I, r, h⟩ hn hd

/-! ### arithmetic -/
/-- two ints -/
def t2I (ta tb : TE) (k : Int → Int → Hp → Prop) : St → Hp → Prop := fun σ H => ta σ H fun x H1 => tb σ H1 fun y H2 => ∃ i j, x = .int i ∧ y = .int j ∧ k i j H2
def tAdd (ta tb : TE) : TE := fun σ H Q => t2I ta tb (fun i j H2 => Q (.int (i + j)) H2) σ H
def tSub (ta tb : TE) : TE := fun σ H Q => t2I ta tb (fun i j H2 => Q (.int (i - j)) H2) σ H
/-- the left factor below 2^64 -/
def tMul (ta tb : TE) : TE := fun σ H Q => t2I ta tb (fun i j H2 => (-(2 ^ 64) < i ∧ i < 2 ^ 64) ∧ Q (.int (i * j)) H2) σ H
variable {a b : Expr} {ta tb : TE} {pos : Pos}
theorem pe_add (ha : PE X a ta) (hb : PE X b tb) : PE X (.BinOp a .Add b pos) (tAdd ta tb) := by
  intro pins s σ H Q I h
  refine wpAny_BinOp (bin ha hb I h fun v u s2 x y H2 I2 rx ry q => ?_)
  obtain ⟨i, j, rfl, rfl, q⟩ := q
  obtain ⟨t, rfl⟩ := rx
  obtain ⟨t', rfl⟩ := ry
  exact add_int ⟨.int _, H2, I2.tok _, ⟨_, rfl⟩, q⟩
theorem pe_sub (ha : PE X a ta) (hb : PE X b tb) : PE X (.BinOp a .Sub b pos) (tSub ta tb) := by
  intro pins s σ H Q I h
  refine wpAny_BinOp (bin ha hb I h fun v u s2 x y H2 I2 rx ry q => ?_)
  obtain ⟨i, j, rfl, rfl, q⟩ := q
  obtain ⟨t, rfl⟩ := rx
  obtain ⟨t', rfl⟩ := ry
  exact sub_int ⟨.int _, H2, I2.tok _, ⟨_, rfl⟩, q⟩
theorem pe_mul (ha : PE X a ta) (hb : PE X b tb) : PE X (.BinOp a .Mult b pos) (tMul ta tb) := by
  intro pins s σ H Q I h
  refine wpAny_BinOp (bin ha hb I h fun v u s2 x y H2 I2 rx ry q => ?_)
  obtain ⟨i, j, rfl, rfl, ⟨q1, q2⟩, q⟩ := q
  obtain ⟨t, rfl⟩ := rx
  obtain ⟨t', rfl⟩ := ry
  exact mul_int ⟨.int _, H2, I2.tok _, ⟨_, rfl⟩, q⟩ (.of_left (intBits_le_64 q1 q2))

/-! ### comparisons -/
def PC (X : Cx) (op : CmpOp) (a b : Expr) (t : TE) : Prop :=
  ∀ (pins : List (Addr × Obj)) (s : Shared) (σ : St) (H : Hp) (Q : VK), Inv X pins σ H s → t σ H Q →
    wpAny (model X.prog X.w) X.A (eval a X.env) (fun v s₁ => wpAny (model X.prog X.w) X.A (eval b X.env) (fun u s₂ => wpAny (model X.prog X.w) X.A (compareOp op v u) (EP X pins σ Q) X.xe s₂) X.xe s₁) X.xe s
theorem nobehind (b : Expr) {op : CmpOp} (h : op ≠ .In) (h2 : op ≠ .NotIn) : behindInMarks op b = false := by
  have e1 : (op == CmpOp.In) = false := by cases op <;> first | rfl | exact absurd rfl h
  have e2 : (op == CmpOp.NotIn) = false := by cases op <;> first | rfl | exact absurd rfl h2
  cases b <;> simp [behindInMarks, e1, e2]
def tCmp (p : Int → Int → Bool) (ta tb : TE) : TE := fun σ H Q => t2I ta tb (fun i j H2 => Q (.bl (p i j)) H2) σ H
abbrev tLt : TE → TE → TE := tCmp fun i j => decide (i < j)
abbrev tLe : TE → TE → TE := tCmp fun i j => decide (i ≤ j)
abbrev tGt : TE → TE → TE := tCmp fun i j => decide (j < i)
abbrev tGe : TE → TE → TE := tCmp fun i j => decide (j ≤ i)
abbrev tEqI : TE → TE → TE := tCmp fun i j => decide (i = j)
abbrev tNeI : TE → TE → TE := tCmp fun i j => !decide (i = j)
/-- a comparison of two ints, by its rule -/
theorem pc_int {op : CmpOp} {p : Int → Int → Bool} (ha : PE X a ta) (hb : PE X b tb)
    (rule : ∀ (i j : Int) (t u : Tok) (Q : Value → Shared → Prop) (s : Shared), Q (.bool (p i j)) s → wpAny (model X.prog X.w) X.A (compareOp op (.int i t) (.int j u)) Q X.xe s) : PC X op a b (tCmp p ta tb) := by
  intro pins s σ H Q I h
  refine bin ha hb I h fun v u s2 x y H2 I2 rx ry q => ?_
  obtain ⟨i, j, rfl, rfl, q⟩ := q
  obtain ⟨t, rfl⟩ := rx
  obtain ⟨t', rfl⟩ := ry
  exact rule i j t t' _ s2 ⟨.bl _, H2, I2, rfl, q⟩
theorem pc_lt (ha : PE X a ta) (hb : PE X b tb) : PC X .Lt a b (tLt ta tb) := pc_int ha hb fun _ _ _ _ _ _ h => lt_int h
theorem pc_le (ha : PE X a ta) (hb : PE X b tb) : PC X .LtE a b (tLe ta tb) := pc_int ha hb fun _ _ _ _ _ _ h => le_int h
theorem pc_gt (ha : PE X a ta) (hb : PE X b tb) : PC X .Gt a b (tGt ta tb) := pc_int ha hb fun _ _ _ _ _ _ h => gt_int h
theorem pc_ge (ha : PE X a ta) (hb : PE X b tb) : PC X .GtE a b (tGe ta tb) := pc_int ha hb fun _ _ _ _ _ _ h => ge_int h
theorem pc_eqI (ha : PE X a ta) (hb : PE X b tb) : PC X .Eq a b (tEqI ta tb) := pc_int ha hb fun _ _ _ _ _ _ h => eq_int (by rw [Bool.beq_eq_decide_eq]; exact h)
theorem pc_neI (ha : PE X a ta) (hb : PE X b tb) : PC X .NotEq a b (tNeI ta tb) := pc_int ha hb fun _ _ _ _ _ _ h => ne_int (by rw [bne, Bool.beq_eq_decide_eq]; exact h)
/-- is None -/
def tIsN (ta : TE) : TE := fun σ H Q => ta σ H fun x H1 => Q (.bl (decide (x = .non))) H1
def tNotN (ta : TE) : TE := fun σ H Q => ta σ H fun x H1 => Q (.bl (!decide (x = .non))) H1
theorem RelV.none_iff {x : V} {v : Value} (r : RelV x v) : (v == Value.none) = decide (x = .non) := by
  cases x with
  | non => cases r; rfl
  | bl _ => cases r; rfl
  | int _ => obtain ⟨t, rfl⟩ := r; rfl
  | str _ => obtain ⟨t, rfl⟩ := r; rfl
  | byt _ => obtain ⟨t, rfl⟩ := r; rfl
  | flt _ => obtain ⟨t, rfl⟩ := r; rfl
  | ref _ => cases r; rfl
  | ty _ => cases r; rfl
theorem pc_isN {j pos'} (ha : PE X a ta) : PC X .Is a (.Constant .none j pos') (tIsN ta) := by
  intro pins s σ H Q I h
  refine thn (ha pins s σ H _ I h) fun v s1 ⟨x, H1, I1, r1, q1⟩ => ?_
  exact Constant_none (is_none_gen ⟨.bl _, H1, I1, by rw [r1.none_iff]; rfl, q1⟩)
theorem pc_notN {j pos'} (ha : PE X a ta) : PC X .IsNot a (.Constant .none j pos') (tNotN ta) := by
  intro pins s σ H Q I h
  refine thn (ha pins s σ H _ I h) fun v s1 ⟨x, H1, I1, r1, q1⟩ => ?_
  exact Constant_none (isnot_none_gen ⟨.bl _, H1, I1, by rw [r1.none_iff]; rfl, q1⟩)
/-- a comparison as a value, as a test -/
def tB (t : TE) : TT := fun σ H Q => t σ H fun x H1 => ∃ c, x = .bl c ∧ Q c H1
theorem pe_cmp {op : CmpOp} {t : TE} (h : PC X op a b t) (h1 : behindInMarks op b = false := by first | exact nobehind _ (by decide) (by decide) | rfl) : PE X (.Compare a [op] [b] pos) t := fun pins s σ H Q I hw => wpAny_Compare1 (h pins s σ H Q I hw) h1
theorem pt_cmp {op : CmpOp} {t : TE} (h : PC X op a b t) (h1 : behindInMarks op b = false := by first | exact nobehind _ (by decide) (by decide) | rfl) : PT X (.Compare a [op] [b] pos) (tB t) := by
  intro pins s σ H Q I hw
  refine wpAny_isTrue_Compare1 (thn (h pins s σ H _ I hw) fun v s1 h1 => thn h1 fun u s2 h2 => thn h2 fun c s3 ⟨x, H1, I1, r1, q1⟩ => ?_) h1
  obtain ⟨d, rfl, q⟩ := q1
  cases r1
  exact wpAny_truthy_bool ⟨H1, I1, q⟩
/-- an expression whose value is a bool, as a test -/
theorem pt_val {e : Expr} {t : TE} (h : PE X e t) (he : ∀ whole, isTrue e X.env whole = (do let v ← whole; standAt e.pos; holding [v] (truthy v)) := by intro _; rfl) : PT X e (tB t) := by
  intro pins s σ H Q I hw
  refine isTrue_plain (thn (h pins s σ H _ I hw) fun v s1 ⟨x, H1, I1, r1, q1⟩ => ?_) (he _)
  obtain ⟨d, rfl, q⟩ := q1
  cases r1
  exact wpAny_truthy_bool ⟨H1, I1, q⟩

/-! ### and, or, not -/
variable {tA tB' : TT} {rest : List Expr}
def tAnd (t u : TT) : TT := fun σ H Q => t σ H fun c H1 => if c = true then u σ H1 Q else Q false H1
def tOr (t u : TT) : TT := fun σ H Q => t σ H fun c H1 => if c = true then Q true H1 else u σ H1 Q
def tNot (t : TT) : TT := fun σ H Q => t σ H fun c H1 => Q (!c) H1
theorem pw_and1 (ha : PT X a tA) : PW X (.BoolOp .And [a] pos) tA := by
  intro wh pins s σ H Q I h
  refine isTrue_and (thn (ha pins s σ H Q I h) fun c s1 e => ?_)
  cases c with
  | true => exact isTrue_and_nil e
  | false => exact e
theorem pw_or1 (ha : PT X a tA) : PW X (.BoolOp .Or [a] pos) tA := by
  intro wh pins s σ H Q I h
  refine isTrue_or (thn (ha pins s σ H Q I h) fun c s1 e => ?_)
  cases c with
  | false => exact isTrue_or_nil e
  | true => exact e
theorem pw_and (ha : PT X a tA) (hb : PW X (.BoolOp .And (b :: rest) pos) tB') : PW X (.BoolOp .And (a :: b :: rest) pos) (tAnd tA tB') := by
  intro wh pins s σ H Q I h
  refine isTrue_and (thn (ha pins s σ H _ I h) fun c s1 ⟨H1, I1, q1⟩ => ?_)
  cases c with
  | true => exact hb wh pins s1 σ H1 Q I1 q1
  | false => exact ⟨H1, I1, q1⟩
theorem pw_or (ha : PT X a tA) (hb : PW X (.BoolOp .Or (b :: rest) pos) tB') : PW X (.BoolOp .Or (a :: b :: rest) pos) (tOr tA tB') := by
  intro wh pins s σ H Q I h
  refine isTrue_or (thn (ha pins s σ H _ I h) fun c s1 ⟨H1, I1, q1⟩ => ?_)
  cases c with
  | true => exact ⟨H1, I1, q1⟩
  | false => exact hb wh pins s1 σ H1 Q I1 q1
theorem pt_not (ha : PT X a tA) : PT X (.UnaryOp .Not a pos) (tNot tA) := by
  intro pins s σ H Q I h
  exact isTrue_not (ha pins s σ H (fun c H1 => Q (!c) H1) I h)
/-- .. as values (bools) -/
def tAndV (ta tb : TE) : TE := fun σ H Q => ta σ H fun x H1 => ∃ c, x = .bl c ∧ if c = true then tb σ H1 Q else Q (.bl false) H1
def tOrV (ta tb : TE) : TE := fun σ H Q => ta σ H fun x H1 => ∃ c, x = .bl c ∧ if c = true then Q (.bl true) H1 else tb σ H1 Q
def tNotV (ta : TE) : TE := fun σ H Q => ta σ H fun x H1 => ∃ c, x = .bl c ∧ Q (.bl (!c)) H1
theorem pe_one {op} {t : TE} (h : PE X a t) : PE X (.BoolOp op [a] pos) t := fun pins s σ H Q I hw => BoolOp_one (h pins s σ H Q I hw)
theorem pe_and (ha : PE X a ta) (hb : PE X (.BoolOp .And (b :: rest) pos) tb) : PE X (.BoolOp .And (a :: b :: rest) pos) (tAndV ta tb) := by
  intro pins s σ H Q I h
  refine BoolOp_and (thn (ha pins s σ H _ I h) fun v s1 ⟨x, H1, I1, r1, q1⟩ => ?_)
  obtain ⟨c, rfl, q1⟩ := q1
  cases r1
  refine wpAny_truthy_bool ?_
  cases c with
  | true => exact hb pins s1 σ H1 Q I1 q1
  | false => exact ⟨.bl false, H1, I1, rfl, q1⟩
theorem pe_or (ha : PE X a ta) (hb : PE X (.BoolOp .Or (b :: rest) pos) tb) : PE X (.BoolOp .Or (a :: b :: rest) pos) (tOrV ta tb) := by
  intro pins s σ H Q I h
  refine BoolOp_or (thn (ha pins s σ H _ I h) fun v s1 ⟨x, H1, I1, r1, q1⟩ => ?_)
  obtain ⟨c, rfl, q1⟩ := q1
  cases r1
  refine wpAny_truthy_bool ?_
  cases c with
  | false => exact hb pins s1 σ H1 Q I1 q1
  | true => exact ⟨.bl true, H1, I1, rfl, q1⟩
theorem pe_not (ha : PE X a ta) : PE X (.UnaryOp .Not a pos) (tNotV ta) := by
  intro pins s σ H Q I h
  refine UnaryOp_ (thn (ha pins s σ H _ I h) fun v s1 ⟨x, H1, I1, r1, q1⟩ => ?_)
  obtain ⟨c, rfl, q1⟩ := q1
  cases r1
  exact not_of (wpAny_truthy_bool ⟨.bl (!c), H1, I1, rfl, q1⟩)
/-- a if t else b -/
def tIf (t : TT) (ta tb : TE) : TE := fun σ H Q => t σ H fun c H1 => if c = true then ta σ H1 Q else tb σ H1 Q
theorem pe_ifExp {c : Expr} (hc : PT X c tA) (ha : PE X a ta) (hb : PE X b tb) : PE X (.IfExp c a b pos) (tIf tA ta tb) := by
  intro pins s σ H Q I h
  refine wpAny_IfExp (thn (hc pins s σ H _ I h) fun d s1 ⟨H1, I1, q1⟩ => ?_)
  cases d with
  | true => exact ha pins s1 σ H1 Q I1 q1
  | false => exact hb pins s1 σ H1 Q I1 q1
end
end L2

namespace L2
open PySem PySem.Spec PyProof.Rows

/-! ### a list, a tuple that is read: tracked, frozen, or an object of the module -/
def SqL (K : PySem.W.Frag) (H : Hp) (a : Addr) (xs : List V) : Prop :=
  Rd H a (.lst xs) ∨
    ∃ (o : Obj) (its : Array Value) (n : Nat), K.lookup a = some o ∧ o.cls = .type "list" ∧ o.dict = none ∧ o.data = .seq its n ∧ its.size ≤ sizeLine ∧ Vals xs its.toList
def SqT (K : PySem.W.Frag) (H : Hp) (a : Addr) (xs : List V) : Prop :=
  Rd H a (.tup xs) ∨
    ∃ (o : Obj) (its : Array Value) (n : Nat), K.lookup a = some o ∧ o.cls = .type "tuple" ∧ o.data = .seq its n ∧ its.size ≤ sizeLine ∧ Vals xs its.toList
def absV : Value → Option V
  | .none => some .non
  | .bool b => some (.bl b)
  | .int i _ => some (.int i)
  | .str x _ => some (.str x)
  | .bytes b _ => some (.byt b)
  | .float b _ => some (.flt b)
  | .ref a => some (.ref a)
  | .type n => some (.ty n)
  | _ => none
theorem RelV.abs {x : V} {u : Value} (r : RelV x u) : absV u = some x := by
  cases x with
  | non => cases r; rfl
  | bl _ => cases r; rfl
  | int _ => obtain ⟨t, rfl⟩ := r; rfl
  | str _ => obtain ⟨t, rfl⟩ := r; rfl
  | byt _ => obtain ⟨t, rfl⟩ := r; rfl
  | flt _ => obtain ⟨t, rfl⟩ := r; rfl
  | ref _ => cases r; rfl
  | ty _ => cases r; rfl
theorem RelV.inj {x y : V} {u : Value} (r : RelV x u) (q : RelV y u) : x = y := Option.some.inj (r.abs.symm.trans q.abs)
theorem Vals.inj : ∀ {xs ys : List V} {us : List Value}, Vals xs us → Vals ys us → xs = ys
  | _, _, _, .nil, .nil => rfl
  | _, _, _, .cons r t, .cons r' t' => by rw [r.inj r', Vals.inj t t']
section
variable {X : Cx} {pins : List (Addr × Obj)} {σ : St} {H : Hp} {s : Shared} {a : Addr} {xs ys : List V}
theorem SqL.of {K : PySem.W.Frag} (h : H a = some (.lst xs)) : SqL K H a xs := .inl (.inl h)
theorem SqT.of {K : PySem.W.Frag} (h : H a = some (.tup xs)) : SqT K H a xs := .inl (.inl h)
theorem Inv.list (I : Inv X pins σ H s) (h : SqL X.K H a xs) : ∃ its : List Value, Vals xs its ∧ PlainL s.heap a its.toArray ∧ xs.length ≤ sizeLine := by
  rcases h with h | ⟨o, its, n, hk, hc, hd, hs, hz, r⟩
  · obtain ⟨z, its, n, r, e⟩ := h.ok I.hok
    exact ⟨its, r, ⟨_, n, e, rfl, rfl, rfl⟩, z⟩
  · refine ⟨its.toList, r, ⟨o, n, I.kIn a o hk, hc, hd, by simpa using hs⟩, ?_⟩
    have e := r.length
    simp only [Array.length_toList] at e
    omega
theorem Inv.tuple (I : Inv X pins σ H s) (h : SqT X.K H a xs) : ∃ its : List Value, Vals xs its ∧ IsTup s.heap a its.toArray ∧ xs.length ≤ sizeLine := by
  rcases h with h | ⟨o, its, n, hk, hc, hs, hz, r⟩
  · obtain ⟨z, its, r, p⟩ := h.ok I.hok
    exact ⟨its, r, p, z⟩
  · refine ⟨its.toList, r, ⟨o, I.kIn a o hk, hc, n, by simpa using hs⟩, ?_⟩
    have e := r.length
    simp only [Array.length_toList] at e
    omega
theorem Inv.list_inj (I : Inv X pins σ H s) (h : SqL X.K H a xs) (h' : SqL X.K H a ys) : xs = ys := by
  obtain ⟨its, r, ⟨o, n, e, _, _, d⟩, _⟩ := I.list h
  obtain ⟨its', r', ⟨o', n', e', _, _, d'⟩, _⟩ := I.list h'
  rw [e] at e'; cases e'
  rw [d] at d'
  injection d' with d1 _
  have : its = its' := by simpa using congrArg Array.toList d1
  subst this
  exact r.inj r'
theorem Inv.tuple_inj (I : Inv X pins σ H s) (h : SqT X.K H a xs) (h' : SqT X.K H a ys) : xs = ys := by
  obtain ⟨its, r, ⟨o, e, _, n, d⟩, _⟩ := I.tuple h
  obtain ⟨its', r', ⟨o', e', _, n', d'⟩, _⟩ := I.tuple h'
  rw [e] at e'; cases e'
  rw [d] at d'
  injection d' with d1 _
  have : its = its' := by simpa using congrArg Array.toList d1
  subst this
  exact r.inj r'
end

/-! ### another wish about exceptions -/
abbrev Cx.wish (X : Cx) (E : Value → Shared → Prop) : Cx := { X with xe := E }
/-- no exception leaves -/
abbrev Cx.nox (X : Cx) : Cx := X.wish fun _ _ => False
theorem Cx.Ok.wish {X : Cx} (ok : X.Ok) (E : Value → Shared → Prop) : (X.wish E).Ok :=
  ⟨ok.mod, ok.kind, ok.glob, ok.blt, ok.above, ok.inj, ok.has, ok.cab, ok.hd, ok.frames, ok.stk, ok.exf, ok.bs, ok.bsz, ok.noex, ok.exfs, ok.funs, ok.frf⟩
theorem Cx.Ok.unwish {X : Cx} {E : Value → Shared → Prop} (ok : (X.wish E).Ok) : X.Ok :=
  ⟨ok.mod, ok.kind, ok.glob, ok.blt, ok.above, ok.inj, ok.has, ok.cab, ok.hd, ok.frames, ok.stk, ok.exf, ok.bs, ok.bsz, ok.noex, ok.exfs, ok.funs, ok.frf⟩
section
variable {X : Cx} {pins : List (Addr × Obj)} {σ : St} {H : Hp} {s : Shared} {E : Value → Shared → Prop}
theorem Inv.wish (I : Inv X pins σ H s) (E : Value → Shared → Prop) : Inv (X.wish E) pins σ H s := ⟨I.ok.wish E, I.os, I.bare, I.base, I.loc, I.cell, I.free, I.freeC, I.pin, I.hok, I.len⟩
theorem Inv.unwish (I : Inv (X.wish E) pins σ H s) : Inv X pins σ H s := ⟨I.ok.unwish, I.os, I.bare, I.base, I.loc, I.cell, I.free, I.freeC, I.pin, I.hok, I.len⟩
theorem SP.unwish {D : Ends} {f : Flow} {s' : Shared} (h : SP (X.wish E) pins D f s') : SP X pins D f s' := by
  cases f with
  | next => obtain ⟨σ', H', I, q⟩ := h; exact ⟨σ', H', I.unwish, q⟩
  | brk => obtain ⟨σ', H', I, q⟩ := h; exact ⟨σ', H', I.unwish, q⟩
  | cont => obtain ⟨σ', H', I, q⟩ := h; exact ⟨σ', H', I.unwish, q⟩
  | ret u => obtain ⟨v, σ', H', I, r, q⟩ := h; exact ⟨v, σ', H', I.unwish, r, q⟩
theorem PE.nox {e : Expr} {t : TE} (h : PE X.nox e t) : PE X e t := fun pins s σ H Q I hw =>
  wpAny_mono (h pins s σ H Q (I.wish _) hw) (fun _ _ ⟨v, H', I', r, q⟩ => ⟨v, H', I'.unwish, r, q⟩) fun _ _ z => False.elim z
theorem PT.nox {e : Expr} {t : TT} (h : PT X.nox e t) : PT X e t := fun pins s σ H Q I hw =>
  wpAny_mono (h pins s σ H Q (I.wish _) hw) (fun _ _ ⟨H', I', q⟩ => ⟨H', I'.unwish, q⟩) fun _ _ z => False.elim z
theorem PSs.nox {st : List Stmt} {t : TS} (h : PSs X.nox st t) : PSs X st t := fun pins s σ H D I hw =>
  wpAny_mono (h pins s σ H D (I.wish _) hw) (fun _ _ q => q.unwish) fun _ _ z => False.elim z
end

/-! ### blocks and small statements -/
section
variable {X : Cx} {st : Stmt} {rest : List Stmt} {t u : TS} {e : Expr} {te : TE} {pos : Pos}
def tNext : TS := fun D σ H => D.nx σ H
def tSeq (t u : TS) : TS := fun D σ H => t { D with nx := u D } σ H
theorem pss_nil : PSs X [] tNext := fun _ _ σ H _ I h => wpAny_execs_nil ⟨σ, H, I, h⟩
theorem pss_cons (h1 : PS X st t) (h2 : PSs X rest u) : PSs X (st :: rest) (tSeq t u) := by
  intro pins s σ H D I h
  refine wpAny_execs_cons (thn (h1 pins s σ H { D with nx := u D } I h) fun f s1 q => ?_)
  cases f with
  | next =>
    obtain ⟨σ', H', I', q⟩ := q
    exact h2 pins s1 σ' H' D I' q
  | ret v => exact q
  | brk => exact q
  | cont => exact q
theorem pss_one (h1 : PS X st t) : PSs X [st] t := by
  intro pins s σ H D I h
  refine wpAny_execs_cons (thn (h1 pins s σ H D I h) fun f s1 q => ?_)
  cases f with
  | next => exact wpAny_execs_nil q
  | ret v => exact q
  | brk => exact q
  | cont => exact q
def tBreak : TS := fun D σ H => D.bk σ H
def tCont : TS := fun D σ H => D.ct σ H
theorem ps_pass : PS X (.Pass pos) tNext := fun _ _ σ H _ I h => wpAny_Pass ⟨σ, H, I, h⟩
theorem ps_break : PS X (.Break pos) tBreak := fun _ _ σ H _ I h => wpAny_Break ⟨σ, H, I, h⟩
theorem ps_continue : PS X (.Continue pos) tCont := fun _ _ σ H _ I h => wpAny_Continue ⟨σ, H, I, h⟩
/-- in a def's body nothing is shown -/
theorem Inv.quiet {pins : List (Addr × Obj)} {σ : St} {H : Hp} {s : Shared} (I : Inv X pins σ H s) : interactive X.env = false := by simp [interactive, I.ok.kind]
/-- a docstring -/
theorem ps_doc {x j pos pos'} : PS X (.Expr (.Constant (.str x) j pos) pos') tNext := fun _ s σ H _ I h => wpAny_Expr (Calls.Constant_str (show SP X _ _ .next { s with toks := s.toks + 1 } from ⟨σ, H, I.tok _, h⟩)) I.quiet
/-- an expression whose value is dropped -/
def tDrop (te : TE) : TS := fun D σ H => te σ H fun _ H1 => D.nx σ H1
theorem ps_expr (he : PE X e te) (hs : swapsWith e none pos.line X.env = pure false := by rfl) : PS X (.Expr e pos) (tDrop te) := by
  intro pins s σ H D I h
  exact wpAny_Expr_any (thn (he pins s σ H _ I h) fun v s1 ⟨x, H1, I1, r1, q1⟩ => ⟨σ, H1, I1, q1⟩) I.quiet hs
def tRet (te : TE) : TS := fun D σ H => te σ H D.rt
theorem ps_ret (he : PE X e te) : PS X (.Return (some e) pos) (tRet te) := by
  intro pins s σ H D I h
  exact wpAny_Return_some (thn (he pins s σ H _ I h) fun v s1 ⟨x, H1, I1, r1, q1⟩ => ⟨x, σ, H1, I1, r1, q1⟩)
def tRetN : TS := fun D _ H => D.rt .non H
theorem ps_retN : PS X (.Return none pos) tRetN := fun _ _ σ H _ I h => wpAny_Return_none ⟨.non, σ, H, I, rfl, h⟩
def tIfS (c : TT) (t u : TS) : TS := fun D σ H => c σ H fun b H1 => if b = true then t D σ H1 else u D σ H1
theorem ps_if {c : Expr} {a b : List Stmt} {tc : TT} (hc : PT X c tc) (ha : PSs X a t) (hb : PSs X b u) : PS X (.If c a b pos) (tIfS tc t u) := by
  intro pins s σ H D I h
  refine wpAny_If (thn (hc pins s σ H _ I h) fun d s1 ⟨H1, I1, q1⟩ => ?_)
  cases d with
  | true => exact ha pins s1 σ H1 D I1 q1
  | false => exact hb pins s1 σ H1 D I1 q1
/-- code that the proof never comes to -/
def tNever : TS := fun _ _ _ => False
theorem ps_never : PS X st tNever := fun _ _ _ _ _ _ h => h.elim
theorem pss_never {sts : List Stmt} : PSs X sts tNever := fun _ _ _ _ _ _ h => h.elim
end

/-! ### targets -/
abbrev TG := V → St → Hp → (St → Hp → Prop) → Prop
abbrev TGs := List V → St → Hp → (St → Hp → Prop) → Prop
def PG (X : Cx) (target : Expr) (t : TG) : Prop :=
  ∀ (pins : List (Addr × Obj)) (s : Shared) (σ : St) (H : Hp) (v : V) (u : Value) (Q : St → Hp → Prop), Inv X pins σ H s → RelV v u → t v σ H Q →
    wpAny (model X.prog X.w) X.A (assign target X.env u) (fun _ s' => ∃ σ' H', Inv X pins σ' H' s' ∧ Q σ' H') X.xe s
/-- several targets, one after another -/
def PGs (X : Cx) (ts : List Expr) (t : TGs) : Prop :=
  ∀ (pins : List (Addr × Obj)) (s : Shared) (σ : St) (H : Hp) (vs : List V) (us : List Value) (Q : St → Hp → Prop), Inv X pins σ H s → Vals vs us → t vs σ H Q →
    wpAny (model X.prog X.w) X.A (assignInOrder ((assignEach ts X.env).map (·.2)) us) (fun _ s' => ∃ σ' H', Inv X pins σ' H' s' ∧ Q σ' H') X.xe s
/-- o[i] = v, by values -/
abbrev TSet := V → V → V → Hp → (Hp → Prop) → Prop
def PSet (X : Cx) (t : TSet) : Prop :=
  ∀ (pins : List (Addr × Obj)) (s : Shared) (σ : St) (H : Hp) (o i v : V) (ov iv u : Value) (Q : Hp → Prop), Inv X pins σ H s → RelV o ov → RelV i iv → RelV v u → t o i v H Q →
    wpAny (model X.prog X.w) X.A (setItem ov iv u) (fun _ s' => ∃ H', Inv X pins σ H' s' ∧ Q H') X.xe s
/-- a op= b, by values -/
abbrev TIp := V → V → Hp → VK → Prop
def PIp (X : Cx) (op : Operator) (t : TIp) : Prop :=
  ∀ (pins : List (Addr × Obj)) (s : Shared) (σ : St) (H : Hp) (x y : V) (v u : Value) (Q : VK), Inv X pins σ H s → RelV x v → RelV y u → t x y H Q →
    wpAny (model X.prog X.w) X.A (inplaceOp op v u) (EP X pins σ Q) X.xe s
section
variable {X : Cx} {pos : Pos}
def gName (i : Nat) : TG := fun v σ H Q => Q (σ.set i (some v)) H
theorem pg_name {i : Nat} {x : Str} (hN : X.N.Nodup) (hi : X.N[i]? = some x) (hx : Loc X.env.scope x) (hf : X.fn x = true ∨ X.env.scope.names.lookup x = some .local := by first | exact .inl rfl | exact .inr rfl | assumption) : PG X (.Name x pos) (gName i) := by
  intro pins s σ H v u Q I r h
  exact wpAny_assign_Name (store_ok I hN hi hx r (fun s' I' => ⟨_, H, I', h⟩) hf)
def gNil : TGs := fun vs σ H Q => vs = [] ∧ Q σ H
def gCons (t : TG) (u : TGs) : TGs := fun vs σ H Q => ∃ v r, vs = v :: r ∧ t v σ H fun σ' H' => u r σ' H' Q
theorem pgs_nil : PGs X [] gNil := by
  intro pins s σ H vs us Q I r h
  obtain ⟨e, h⟩ := h
  subst e
  cases r
  exact assignInOrder_nil ⟨σ, H, I, h⟩
theorem pgs_cons {e : Expr} {es : List Expr} {t : TG} {u : TGs} (h1 : PG X e t) (h2 : PGs X es u)
    (hs : (assignEach (e :: es) X.env).map (·.2) = assign e X.env :: (assignEach es X.env).map (·.2) := by rfl) : PGs X (e :: es) (gCons t u) := by
  intro pins s σ H vs us Q I r h
  obtain ⟨v, vr, e1, h⟩ := h
  subst e1
  cases r with
  | cons r rr =>
    rw [hs]
    refine assignInOrder_cons (thn (h1 pins s σ H _ _ _ I r h) fun _ s1 ⟨σ1, H1, I1, q1⟩ => ?_)
    exact h2 pins s1 σ1 H1 _ _ Q I1 rr q1
/-- (a, b, ..) = a tuple of that length -/
def gTup (K : PySem.W.Frag) (n : Nat) (t : TGs) : TG := fun v σ H Q => ∃ a xs, v = .ref a ∧ SqT K H a xs ∧ xs.length = n ∧ t xs σ H Q
theorem pg_tup {es : List Expr} {k : Nat} {t : TGs} {n : Nat} (hc : X.calm = true) (h : PGs X es t)
    (hn : (assignEach es X.env).length = n := by rfl) (hst : (assignEach es X.env).findIdx? (·.1) = none := by rfl) : PG X (.Tuple es k pos) (gTup X.K n t) := by
  intro pins s σ H v u Q I r hw
  obtain ⟨a, xs, e1, hq, hl, hw⟩ := hw
  subst e1
  cases r
  obtain ⟨its, rv, ht, hz⟩ := I.tuple hq
  refine assign_Tuple_tuple (I.ok.hd hc) ht (by simp [hn, ← hl, rv.length]) hst fun h' hx => ?_
  have I1 : Inv X pins σ H { s with heap := h' } := I.kept (t' := s.toks) fun b o e => hx b o (Nat.ne_of_lt (Heap.lt_size e)) e
  exact h pins _ σ H xs _ Q I1 (by simpa using rv) hw
/-- o[i] = .. -/
def gSub (to ti : TE) (t : TSet) : TG := fun v σ H Q => to σ H fun o H1 => ti σ H1 fun i H2 => t o i v H2 fun H3 => Q σ H3
theorem pg_sub {o i : Expr} {to ti : TE} {t : TSet} (ho : PE X o to) (hi : PE X i ti) (hs : PSet X t)
    (ha : ∀ v, assign (.Subscript o i pos) X.env v = (do
      let ov ← holding [v] (eval o X.env)
      let iv ← holding [v, ov] (eval i X.env)
      standAt pos
      holding [v, ov, iv] (setItem ov iv v)
      release [v, ov, iv] []) := by intro _; rfl) : PG X (.Subscript o i pos) (gSub to ti t) := by
  intro pins s σ H v u Q I r h
  rw [ha]
  refine wpAny_bind (wpAny_holding (thn (ho pins s σ H _ I h) fun ov s1 ⟨x, H1, I1, r1, q1⟩ => ?_))
  refine wpAny_bind (wpAny_holding (thn (hi pins s1 σ H1 _ I1 q1) fun iv s2 ⟨y, H2, I2, r2, q2⟩ => ?_))
  refine wpAny_bind (wpAny_standAt (wpAny_bind (wpAny_holding (thn (hs pins s2 σ H2 x y v ov iv u _ I2 r1 r2 r q2) fun _ s3 ⟨H3, I3, q3⟩ => ?_))))
  exact wpAny_release ⟨σ, H3, I3, q3⟩
/-- target = value -/
def tAsg (te : TE) (g : TG) : TS := fun D σ H => te σ H fun x H1 => g x σ H1 D.nx
theorem ps_asg {tg e : Expr} {te : TE} {g : TG} (he : PE X e te) (hg : PG X tg g) (hs : swapsWithSole [tg] e pos.line X.env = pure false := by rfl) (hw : swappedStores [tg] e X.env = pure none := by rfl)
    (h1 : (assignEach [tg] X.env).map (·.2) = [assign tg X.env] := by rfl) : PS X (.Assign [tg] e pos) (tAsg te g) := by
  intro pins s σ H D I h
  refine wpAny_Assign_stores (thn (he pins s σ H _ I h) fun v s1 ⟨x, H1, I1, r1, q1⟩ => ?_) hs hw
  rw [h1]
  exact thn (hg pins s1 σ H1 x v _ I1 r1 q1) fun _ s2 q => q
/-- name = value -/
theorem ps_set {i : Nat} {x : Str} {e : Expr} {te : TE} {pos' : Pos} (hN : X.N.Nodup) (hi : X.N[i]? = some x) (hx : Loc X.env.scope x) (he : PE X e te) (hs : swapsWith e (some (.Name x pos')) pos.line X.env = pure false := by rfl) (hf : X.fn x = true ∨ X.env.scope.names.lookup x = some .local := by first | exact .inl rfl | exact .inr rfl | assumption) :
    PS X (.Assign [.Name x pos'] e pos) (tAsg te (gName i)) := by
  intro pins s σ H D I h
  refine wpAny_Assign_Name (thn (he pins s σ H _ I h) fun v s1 ⟨y, H1, I1, r1, q1⟩ => ?_) hs
  exact store_ok I1 hN hi hx r1 (fun s2 I2 => ⟨_, H1, I2, q1⟩) hf
/-- a, b = x, y with plain local names: stored from the right; the pair itself is not tracked (the opening rows as in PyProof/Rows/TupAssign.lean:23) -/
def tPar (i j : Nat) (ta : TA) : TS := fun D σ H => ta σ H fun vs H1 => ∃ v w, vs = [v, w] ∧ D.nx ((σ.set i (some v)).set j (some w)) H1
theorem ps_par {i j : Nat} {x y : Str} {a b : Expr} {ta : TA} {px py pt : Pos} {kt k2 pt2} (hc : X.calm = true) (hN : X.N.Nodup) (hi : X.N[i]? = some x) (hj : X.N[j]? = some y) (hij : i ≠ j)
    (hx : X.env.scope.names.lookup x = some .local) (hy : X.env.scope.names.lookup y = some .local) (ha : PA X [a, b] ta)
    (hw : swappedStores [.Tuple [.Name x px, .Name y py] kt pt] (.Tuple [a, b] k2 pt2) X.env = pure (some [x, y]))
    (hs : swapsWithSole [.Tuple [.Name x px, .Name y py] kt pt] (.Tuple [a, b] k2 pt2) pos.line X.env = pure false := by rfl) :
    PS X (.Assign [.Tuple [.Name x px, .Name y py] kt pt] (.Tuple [a, b] k2 pt2) pos) (tPar i j ta) := by
  intro pins s σ H D I h
  rw [exec_Assign_arm]
  refine wpAny_bind (wpAny_standAt ?_)
  rw [hs]
  refine wpAny_bind (wpAny_pure ?_)
  rw [if_neg (by decide)]
  refine wpAny_bind (Tuple_ (thn (ha _ pins s σ H _ I h) fun us s1 ⟨vs, H1, I1, r1, q1⟩ => ?_))
  obtain ⟨v, w, e1, q1⟩ := q1
  subst e1
  obtain ⟨u1, u2, rfl, rv, rw'⟩ : ∃ u1 u2, us = [u1, u2] ∧ RelV v u1 ∧ RelV w u2 := by
    cases r1 with
    | cons p q =>
      cases q with
      | cons p' q' =>
        cases q'
        exact ⟨_, _, rfl, p, p'⟩
  refine wpAny_newObj_type ?_ (by show 2 ≤ sizeLine; decide)
  have I2 : Inv X pins σ H1 { s1 with heap := s1.heap.push { cls := .type "tuple", data := .seq [u1, u2].toArray } } := I1.kept (t' := s1.toks) fun b o e => Heap.get?_push_of_some _ e
  rw [hw]
  refine wpAny_bind (wpAny_pure ?_)
  show wpAny (model X.prog X.w) X.A (do rule "assign.swapped-stores"; let items ← unpackItems (.ref s1.heap.objs.size) 2 none; assignInOrder [fun v => bindName X.env y v, fun v => bindName X.env x v] items.reverse; pure Flow.next) _ _ _
  refine wpAny_bind (wpAny_rule (wpAny_bind (unpackItems_tuple (items := #[u1, u2]) (I.ok.hd hc) (IsTup.new s1.heap _) fun h' hx' => ?_)))
  have I3 := I2.kept (h' := h') (t' := s1.toks) fun b o e => hx' b o (Nat.ne_of_lt (Heap.lt_size e)) e
  show wpAny _ _ (assignInOrder [fun v => bindName X.env y v, fun v => bindName X.env x v] [u2, u1] >>= fun _ => pure Flow.next) _ _ _
  refine wpAny_bind (assignInOrder_cons (wpAny_bindName (store_ok I3 hN hj (.inl hy) rw' (fun s2 I4 => ?_) (.inr hy))))
  refine assignInOrder_cons (wpAny_bindName (store_ok I4 hN hi (.inl hx) rv (fun s3 I5 => assignInOrder_nil (wpAny_pure ?_)) (.inr hx)))
  rw [List.set_comm _ _ (Ne.symm hij)] at I5
  exact ⟨_, H1, I5, q1⟩
/-- name op= e -/
def tAug (i : Nat) (te : TE) (ti : TIp) : TS := fun D σ H => ∃ x, σ[i]? = some (some x) ∧ te σ H fun y H1 => ti x y H1 fun z H2 => D.nx (σ.set i (some z)) H2
theorem ps_aug {i : Nat} {x : Str} {e : Expr} {te : TE} {op : Operator} {ti : TIp} {pos' : Pos} (hN : X.N.Nodup) (hi : X.N[i]? = some x) (hx : Loc X.env.scope x) (he : PE X e te) (ho : PIp X op ti) (hf : X.fn x = true ∨ X.env.scope.names.lookup x = some .local := by first | exact .inl rfl | exact .inr rfl | assumption) :
    PS X (.AugAssign (.Name x pos') op e pos) (tAug i te ti) := by
  intro pins s σ H D I h
  obtain ⟨v, e1, h⟩ := h
  obtain ⟨m, hn, hl⟩ := I.loc
  have vis : Vis X.env.scope x := by rcases hx with k | k; exact .inl k; exact .inr (.inl k)
  obtain ⟨u, r, l⟩ := hl i x v hi e1 vis
  refine wpAny_AugAssign_Name ?_
  have go : wpAny (model X.prog X.w) X.A (eval e X.env) (fun w s₂ => wpAny (model X.prog X.w) X.A (inplaceOp op u w) (fun r s₃ => wpAny (model X.prog X.w) X.A (storeName X.env x r) (fun _ => SP X pins D .next) X.xe s₃) X.xe s₂) X.xe s := by
    refine thn (he pins s σ H _ I h) fun w s1 ⟨y, H1, I1, r1, q1⟩ => ?_
    refine thn (ho pins s1 σ H1 v y u w _ I1 r r1 q1) fun z s2 ⟨zv, H2, I2, r2, q2⟩ => ?_
    exact store_ok I2 hN hi hx r2 (fun s3 I3 => ⟨_, H2, I3, q2⟩) hf
  rcases l with ⟨hk, hm⟩ | ⟨hk, c, hc, hcell⟩
  · exact wpAny_loadName_local I.ok.kind hk hn hm go
  · rcases hk with hk | hk
    · exact wpAny_loadName_cell I.ok.kind hk hc hcell go
    · rcases hx with k | k
      · have : X.env.scope.names.lookup x = some .free := hk
        rw [k] at this; cases this
      · have : X.env.scope.names.lookup x = some .free := hk
        rw [k] at this; cases this
/-- o[i] op= e -/
def tAugS (to ti te : TE) (tget : V → V → Hp → VK → Prop) (tip : TIp) (tset : TSet) : TS := fun D σ H => to σ H fun o H1 => ti σ H1 fun i H2 => tget o i H2 fun x H3 => te σ H3 fun y H4 => tip x y H4 fun z H5 => tset o i z H5 fun H6 => D.nx σ H6
/-- o[i], by values -/
def PGet (X : Cx) (t : V → V → Hp → VK → Prop) : Prop :=
  ∀ (pins : List (Addr × Obj)) (s : Shared) (σ : St) (H : Hp) (o i : V) (ov iv : Value) (Q : VK), Inv X pins σ H s → RelV o ov → RelV i iv → t o i H Q →
    wpAny (model X.prog X.w) X.A (getItem ov iv) (EP X pins σ Q) X.xe s
theorem ps_augS {o i e : Expr} {to ti te : TE} {tget : V → V → Hp → VK → Prop} {tip : TIp} {tset : TSet} {op : Operator} {tpos : Pos} (ho : PE X o to) (hi : PE X i ti) (hg : PGet X tget) (he : PE X e te) (hp : PIp X op tip) (hs : PSet X tset)
    (ha : ∀ ov iv new, augStore i ov iv new = (do holding [new, ov, iv] (setItem ov iv new); release [new, ov, iv] []; pure .next) := by intros; rfl) : PS X (.AugAssign (.Subscript o i tpos) op e pos) (tAugS to ti te tget tip tset) := by
  intro pins s σ H D I h
  refine wpAny_AugAssign_SubscriptAny (thn (ho pins s σ H _ I h) fun ov s1 ⟨x1, H1, I1, r1, q1⟩ => ?_) ha
  refine thn (hi pins s1 σ H1 _ I1 q1) fun iv s2 ⟨x2, H2, I2, r2, q2⟩ => ?_
  refine thn (hg pins s2 σ H2 x1 x2 ov iv _ I2 r1 r2 q2) fun old s3 ⟨x3, H3, I3, r3, q3⟩ => ?_
  refine thn (he pins s3 σ H3 _ I3 q3) fun v s4 ⟨x4, H4, I4, r4, q4⟩ => ?_
  refine thn (hp pins s4 σ H4 x3 x4 old v _ I4 r3 r4 q4) fun new s5 ⟨x5, H5, I5, r5, q5⟩ => ?_
  exact thn (hs pins s5 σ H5 x1 x2 x5 ov iv new _ I5 r1 r2 r5 q5) fun _ s6 ⟨H6, I6, q6⟩ => ⟨σ, H6, I6, q6⟩
/-- ints -/
def ipI (f : Int → Int → Int) : TIp := fun x y H Q => ∃ i j, x = .int i ∧ y = .int j ∧ Q (.int (f i j)) H
theorem ip_add : PIp X .Add (ipI fun i j => i + j) := by
  intro pins s σ H x y v u Q I r1 r2 h
  obtain ⟨i, j, e1, e2, q⟩ := h
  subst e1; subst e2
  obtain ⟨t, rfl⟩ := r1
  obtain ⟨t', rfl⟩ := r2
  exact iadd_int ⟨.int _, H, I.tok _, ⟨_, rfl⟩, q⟩
theorem ip_sub : PIp X .Sub (ipI fun i j => i - j) := by
  intro pins s σ H x y v u Q I r1 r2 h
  obtain ⟨i, j, e1, e2, q⟩ := h
  subst e1; subst e2
  obtain ⟨t, rfl⟩ := r1
  obtain ⟨t', rfl⟩ := r2
  exact isub_int ⟨.int _, H, I.tok _, ⟨_, rfl⟩, q⟩
end

/-! ### while -/
section
variable {X : Cx} {pos : Pos}
/-- the invariant W with its measure -/
def tWhile (c : TT) (tb : TS) : TS := fun D σ H => ∃ W : Nat → St → Hp → Prop, (∃ m, W m σ H) ∧ ∀ m σ H, W m σ H →
  c σ H fun b H1 => if b = true then ∃ N : St → Hp → Prop, (∀ σ' H', N σ' H' → ∃ m', m' < m ∧ W m' σ' H') ∧ tb { D with nx := N, ct := N, bk := D.nx } σ H1 else D.nx σ H1
theorem ps_while {c : Expr} {body : List Stmt} {tc : TT} {tb : TS} (hp : PassesOwn (model X.prog X.w) X.A X.env X.xe) (hc : PT X c tc) (hb : PSs X body tb) : PS X (.While c body [] pos) (tWhile tc tb) := by
  intro pins s σ H D I h
  obtain ⟨W, ⟨m0, w0⟩, turn⟩ := h
  refine wpAny_While (codeAny_whileLoop (fun n s' => ∃ σ' H', Inv X pins σ' H' s' ∧ W n σ' H') ?_ m0 ⟨σ, H, I, w0⟩)
  rintro n s1 ⟨σ1, H1, I1, w1⟩
  refine wpAny_passesOwn hp (thn (hc pins s1 σ1 H1 _ I1 (turn n σ1 H1 w1)) fun b s2 ⟨H2, I2, q2⟩ => ?_)
  cases b with
  | true =>
    obtain ⟨N, hN, q2⟩ := q2
    rw [if_pos rfl]
    refine wpAny_passesOwn hp (thn (hb pins s2 σ1 H2 _ I2 q2) fun f s3 q3 => ?_)
    cases f with
    | next =>
      obtain ⟨σ3, H3, I3, n3⟩ := q3
      obtain ⟨m', hm, w3⟩ := hN σ3 H3 n3
      exact ⟨m', hm, σ3, H3, I3, w3⟩
    | cont =>
      obtain ⟨σ3, H3, I3, n3⟩ := q3
      obtain ⟨m', hm, w3⟩ := hN σ3 H3 n3
      exact ⟨m', hm, σ3, H3, I3, w3⟩
    | brk => exact q3
    | ret v => exact q3
  | false =>
    rw [if_neg Bool.false_ne_true]
    exact wpAny_execs_nil ⟨σ1, H2, I2, q2⟩
end

/-! ### what a loop or a comprehension walks -/
/-- at turn i: it yields x (the heap may grow), or it stops -/
structure It where
  go : Nat → Hp → Prop
  yld : Nat → Hp → V → Hp → Prop
  stop : Nat → Hp → Prop
/-- the iterator's own objects may turn: they are not the frame's, not pinned, younger than the entry (or a comprehension's own) -/
def FpOk (X : Cx) (pins : List (Addr × Obj)) (H : Hp) (b : Addr) : Prop :=
  H b = none ∧ b ≠ X.env.locals ∧ b ∉ X.fs ∧ (b ∈ X.ex ∨ X.s₀.heap.objs.size ≤ b) ∧ (∀ x c, X.env.cells.lookup x = some c → c ≠ b) ∧ ∀ p ∈ X.pn ++ pins, p.1 ≠ b
theorem Inv.fpOk {X : Cx} {pins : List (Addr × Obj)} {σ : St} {H H' : Hp} {s : Shared} {b : Addr} (I : Inv X pins σ H s) (hb : s.heap.objs.size ≤ b) (hn : H' b = none) : FpOk X pins H' b := by
  refine ⟨hn, Nat.ne_of_gt (Nat.lt_of_lt_of_le I.lt hb), I.nofs hb, .inr (Nat.le_trans I.sz hb), fun x c e z => ?_, fun p hp z => ?_⟩
  · obtain ⟨v, q⟩ := I.cell x c e
    exact absurd (Nat.lt_of_lt_of_le q.lt (by rw [z]; exact hb)) (Nat.lt_irrefl _)
  · exact absurd (Nat.lt_of_lt_of_le (Heap.lt_size (I.pin p hp).1) (by rw [z]; exact hb)) (Nat.lt_irrefl _)
structure Turn (P : Program) (w : World) (K : PySem.W.Frag) (tg : Expr) (J : It) (fp : List Addr) (it : Addr) (tn : Nat → Heap → Prop) : Prop where
  mem : it ∈ fp
  obj : ∀ i h, tn i h → ∀ b ∈ fp, ∃ o, h.get? b = some o ∧ ∀ v, o.data ≠ .cell v
  keep : ∀ i h h', tn i h → (∀ b ∈ fp, ∀ o, h.get? b = some o → h'.get? b = some o) → tn i h'
  item : ∀ (X : Cx), X.prog = P → X.w = w → X.K = K → X.calm = true → ∀ (i : Nat) (pins : List (Addr × Obj)) (s : Shared) (σ : St) (H : Hp) (E : Value → Shared → Prop), Inv X pins σ H s → (∀ b ∈ fp, FpOk X pins H b) → tn i s.heap → J.go i H →
    wpAny (model P w) X.A (pyNext (.ref it)) (fun r s1 => ∃ u, r = some u ∧
      wpAny (model P w) X.A (letOwnedTupleGo tg (.ref it) u) (fun _ s2 => ∃ x H', Inv X pins σ H' s2 ∧ RelV x u ∧ J.yld i H x H' ∧ tn (i + 1) s2.heap ∧ ∀ b ∈ fp, H' b = none) E s1) E s
  done : ∀ (X : Cx), X.prog = P → X.w = w → X.K = K → X.calm = true → ∀ (i : Nat) (pins : List (Addr × Obj)) (s : Shared) (σ : St) (H : Hp) (E : Value → Shared → Prop), Inv X pins σ H s → (∀ b ∈ fp, FpOk X pins H b) → tn i s.heap → J.stop i H →
    wpAny (model P w) X.A (pyNext (.ref it)) (fun r s1 => r = none ∧ Inv X pins σ H s1) E s
  self : ∀ (A : Around) (i : Nat) (s : Shared) (Q : Value → Shared → Prop) (E : Value → Shared → Prop), tn i s.heap → Q (.ref it) s → wpAny (model P w) A (pyIter (.ref it)) Q E s
abbrev TI := St → Hp → (It → Hp → Prop) → Prop
/-- an iterator has come -/
def PIE (X : Cx) (pins : List (Addr × Obj)) (σ : St) (tg : Expr) (R : It → Hp → Prop) (itv : Value) (s2 : Shared) : Prop :=
  ∃ (it : Addr) (fp : List Addr) (tn : Nat → Heap → Prop) (J : It) (H' : Hp), itv = .ref it ∧ Inv X pins σ H' s2 ∧ Turn X.prog X.w X.K tg J fp it tn ∧ tn 0 s2.heap ∧ (∀ b ∈ fp, FpOk X pins H' b) ∧ R J H'
def PI (X : Cx) (tg iter : Expr) (wi : TI) : Prop :=
  ∀ (pins : List (Addr × Obj)) (s : Shared) (σ : St) (H : Hp) (R : It → Hp → Prop), Inv X pins σ H s → wi σ H R →
    wpAny (model X.prog X.w) X.A (eval iter X.env) (fun v s1 => wpAny (model X.prog X.w) X.A (pyIter v) (PIE X pins σ tg R) X.xe s1) X.xe s

/-- the step ahead of the store is nothing for an iterator that keeps no tuple -/
theorem go_of {M : Model} {A : Around} {E : Value → Shared → Prop} {s : Shared} {tg : Expr} {it : Addr} {u : Value} {o : Obj} {n : String} {vs : Array Value} {Q : Unit → Shared → Prop} (ho : s.heap.get? it = some o) (hc : o.cls = .type n) (hd : o.data = .fields vs)
    (hn : ["enumerate", "zip", "dict_itemiterator", "dict_reverseitemiterator", "odict_iterator", "itertools.zip_longest", "itertools.pairwise"].contains n = false) (hQ : Q () s) : wpAny M A (letOwnedTupleGo tg (.ref it) u) Q E s := by
  unfold letOwnedTupleGo
  cases tg <;> first
    | exact wpAny_pure hQ
    | (cases u <;> first
        | exact wpAny_pure hQ
        | (refine wpAny_bind (wpAny_load ho ?_)
           rw [hc, hd]
           show wpAny M A (if (["enumerate", "zip", "dict_itemiterator", "dict_reverseitemiterator", "odict_iterator", "itertools.zip_longest", "itertools.pairwise"].contains n && vs[0]? == some (rawInt _)) = true then _ else _) Q E s
           rw [if_neg (by intro h; rw [hn, Bool.false_and] at h; cases h)]
           exact wpAny_pure hQ))

/-- the list at a, as it stands at each turn (a loop may append to it) -/
def Itl (K : PySem.W.Frag) (a : Addr) : It :=
  ⟨fun i H => ∃ xs x, SqL K H a xs ∧ xs[i]? = some x, fun i H x H' => H' = H ∧ ∀ xs, SqL K H a xs → xs[i]? = some x, fun i H => ∃ xs, SqL K H a xs ∧ xs.length ≤ i⟩
def Itt (K : PySem.W.Frag) (a : Addr) : It :=
  ⟨fun i H => ∃ xs x, SqT K H a xs ∧ xs[i]? = some x, fun i H x H' => H' = H ∧ ∀ xs, SqT K H a xs → xs[i]? = some x, fun i H => ∃ xs, SqT K H a xs ∧ xs.length ≤ i⟩
/-- lo, lo + 1, .. (n of them) -/
def Itr (lo : Int) (n : Nat) : It := ⟨fun i _ => i < n, fun i H x H' => H' = H ∧ x = .int (lo + i), fun i _ => n ≤ i⟩
theorem turn_list {P : Program} {w : World} {K : PySem.W.Frag} {tg : Expr} (a it : Addr) : Turn P w K tg (Itl K a) [it] it (fun i h => h.IsListIter it a i) where
  mem := by simp
  obj := fun i h st b hb => by
    have e : b = it := by simpa using hb
    subst e
    obtain ⟨o, e, c, d⟩ := st
    exact ⟨o, e, fun v z => by rw [d] at z; cases z⟩
  keep := fun i h h' st k => st.at fun o e => k it (by simp) o e
  item := by
    intro X hP hw hK hc i pins s σ H E I hf st hg
    subst hP hw hK
    obtain ⟨xs, x, hq, hx⟩ := hg
    obtain ⟨its, rv, p, hz⟩ := I.list hq
    obtain ⟨u, hu, ru⟩ := rv.get hx
    obtain ⟨f0, f1, f2, f3, f4, f5⟩ := hf it (by simp)
    refine wpAny_pyNext_list_item st p.isList (x := u) (by simpa using hu) fun h' st' sb => ?_
    have I1 : Inv X pins σ H { s with heap := h' } := I.turned (t' := s.toks) (fun b o hb e => (sb.2 b hb).trans e) f0 f1 f3 f4 f5
    obtain ⟨o, e, c, d⟩ := id st'
    exact ⟨u, rfl, go_of (s := { s with heap := h' }) e c d (by decide) ⟨x, H, I1, ru, ⟨rfl, fun ys hy => by rw [I.list_inj hy hq]; exact hx⟩, st', fun b hb => (hf b hb).1⟩⟩
  done := by
    intro X hP hw hK hc i pins s σ H E I hf st hg
    subst hP hw hK
    obtain ⟨xs, hq, hx⟩ := hg
    obtain ⟨its, rv, p, hz⟩ := I.list hq
    obtain ⟨f0, f1, f2, f3, f4, f5⟩ := hf it (by simp)
    have hl := rv.length
    exact wpAny_pyNext_list_end (I.ok.hd hc) st p.isList (by simp; omega) fun h' eb => ⟨rfl, I.turned (t' := s.toks) (fun b o hb e => eb b o hb e) f0 f1 f3 f4 f5⟩
  self := fun _ _ _ _ _ st h => wpAny_pyIter_listiter st h
theorem turn_tuple {P : Program} {w : World} {K : PySem.W.Frag} {tg : Expr} (a it : Addr) : Turn P w K tg (Itt K a) [it] it (fun i h => h.IsTupleIter it a i) where
  mem := by simp
  obj := fun i h st b hb => by
    have e : b = it := by simpa using hb
    subst e
    obtain ⟨o, e, c, d⟩ := st
    exact ⟨o, e, fun v z => by rw [d] at z; cases z⟩
  keep := fun i h h' st k => st.at fun o e => k it (by simp) o e
  item := by
    intro X hP hw hK hc i pins s σ H E I hf st hg
    subst hP hw hK
    obtain ⟨xs, x, hq, hx⟩ := hg
    obtain ⟨its, rv, p, hz⟩ := I.tuple hq
    obtain ⟨u, hu, ru⟩ := rv.get hx
    obtain ⟨f0, f1, f2, f3, f4, f5⟩ := hf it (by simp)
    refine wpAny_pyNext_tuple_item st (show s.heap.IsTuple a its.toArray from p) (x := u) (by simpa using hu) fun h' st' sb => ?_
    have I1 : Inv X pins σ H { s with heap := h' } := I.turned (t' := s.toks) (fun b o hb e => (sb.2 b hb).trans e) f0 f1 f3 f4 f5
    obtain ⟨o, e, c, d⟩ := id st'
    exact ⟨u, rfl, go_of (s := { s with heap := h' }) e c d (by decide) ⟨x, H, I1, ru, ⟨rfl, fun ys hy => by rw [I.tuple_inj hy hq]; exact hx⟩, st', fun b hb => (hf b hb).1⟩⟩
  done := by
    intro X hP hw hK hc i pins s σ H E I hf st hg
    subst hP hw hK
    obtain ⟨xs, hq, hx⟩ := hg
    obtain ⟨its, rv, p, hz⟩ := I.tuple hq
    obtain ⟨f0, f1, f2, f3, f4, f5⟩ := hf it (by simp)
    have hl := rv.length
    exact wpAny_pyNext_tuple_end (I.ok.hd hc) st (show s.heap.IsTuple a its.toArray from p) (by simp; omega) fun h' eb => ⟨rfl, I.turned (t' := s.toks) (fun b o hb e => eb b o hb e) f0 f1 f3 f4 f5⟩
  self := fun _ _ _ _ _ st h => wpAny_pyIter_tupleiter st h
theorem turn_range {P : Program} {w : World} {K : PySem.W.Frag} {tg : Expr} (it : Addr) (lo : Int) (n : Nat) : Turn P w K tg (Itr lo n) [it] it (fun i h => IsRangeIter h it (lo + (i : Nat) * 1) ((n : Int) - (i : Nat)) 1) where
  mem := by simp
  obj := fun i h st b hb => by
    have e : b = it := by simpa using hb
    subst e
    exact ⟨_, st, fun v z => by
      have z' : Data.fields _ = Data.cell v := z
      cases z'⟩
  keep := fun i h h' st k => k it (by simp) _ st
  item := by
    intro X hP hw hK hc i pins s σ H E I hf st hg
    subst hP hw hK
    obtain ⟨f0, f1, f2, f3, f4, f5⟩ := hf it (by simp)
    have W := Walks.range (prog := X.prog) (w := X.w) (I.ok.hd hc) it lo 1 n
    refine W.item i s _ _ hg st fun v h' tk hv st' kk => ?_
    obtain ⟨t, rfl⟩ := hv
    have I1 : Inv X pins σ H { s with heap := h', toks := tk } := I.turned (fun b o hb e => kk b o (by simpa using hb) e) f0 f1 f3 f4 f5
    refine ⟨_, rfl, go_of (s := { s with heap := h', toks := tk }) (n := "range_iterator") st' rfl rfl (by decide) ⟨.int (lo + i), H, I1, ⟨t, ?_⟩, ⟨rfl, rfl⟩, st', fun b hb => (hf b hb).1⟩⟩
    rw [Int.mul_one]
  done := by
    intro X hP hw hK hc i pins s σ H E I hf st hg
    subst hP hw hK
    obtain ⟨f0, f1, f2, f3, f4, f5⟩ := hf it (by simp)
    exact wpAny_pyNext_range_end (I.ok.hd hc) st (by have : n ≤ i := hg; omega) fun h' eb => ⟨rfl, I.turned (t' := s.toks) (fun b o hb e => eb b o hb e) f0 f1 f3 f4 f5⟩
  self := fun _ _ _ _ _ st h => wpAny_pyIter_rangeiter st h
end L2

namespace L2
open PySem PySem.Spec PyProof.Rows
section
variable {X : Cx} {tg : Expr}
def iList (K : PySem.W.Frag) (tl : TE) : TI := fun σ H R => tl σ H fun x H1 => ∃ a, x = .ref a ∧ (∃ xs, SqL K H1 a xs) ∧ R (Itl K a) H1
def iTup (K : PySem.W.Frag) (tl : TE) : TI := fun σ H R => tl σ H fun x H1 => ∃ a, x = .ref a ∧ (∃ xs, SqT K H1 a xs) ∧ R (Itt K a) H1
theorem pi_list {l : Expr} {tl : TE} (hl : PE X l tl) : PI X tg l (iList X.K tl) := by
  intro pins s σ H R I h
  refine thn (hl pins s σ H _ I h) fun v s1 ⟨x, H1, I1, r1, q1⟩ => ?_
  obtain ⟨a, e, ⟨xs, hq⟩, q⟩ := q1
  subst e
  cases r1
  obtain ⟨its, rv, p, hz⟩ := I1.list hq
  refine wpAny_pyIter_list p.isList ?_
  refine ⟨s1.heap.objs.size, [s1.heap.objs.size], _, _, H1, rfl, I1.kept (t' := s1.toks) fun b o e => Heap.get?_push_of_some _ e, turn_list a _, ⟨_, Heap.get?_push_size _ rfl, rfl, rfl⟩, fun b hb => ?_, q⟩
  have e : b = s1.heap.objs.size := by simpa using hb
  subst e
  exact I1.fpOk (Nat.le_refl _) (I1.hok.fresh (Nat.le_refl _))
theorem pi_tup {l : Expr} {tl : TE} (hl : PE X l tl) : PI X tg l (iTup X.K tl) := by
  intro pins s σ H R I h
  refine thn (hl pins s σ H _ I h) fun v s1 ⟨x, H1, I1, r1, q1⟩ => ?_
  obtain ⟨a, e, ⟨xs, hq⟩, q⟩ := q1
  subst e
  cases r1
  obtain ⟨its, rv, p, hz⟩ := I1.tuple hq
  refine wpAny_pyIter_tuple (show s1.heap.IsTuple a its.toArray from p) ?_
  refine ⟨s1.heap.objs.size, [s1.heap.objs.size], _, _, H1, rfl, I1.kept (t' := s1.toks) fun b o e => Heap.get?_push_of_some _ e, turn_tuple a _, ⟨_, Heap.get?_push_size _ rfl, rfl, rfl⟩, fun b hb => ?_, q⟩
  have e : b = s1.heap.objs.size := by simpa using hb
  subst e
  exact I1.fpOk (Nat.le_refl _) (I1.hok.fresh (Nat.le_refl _))
/-- a range object just made, walked -/
theorem range_it {pins : List (Addr × Obj)} {σ : St} {H : Hp} {s : Shared} {R : It → Hp → Prop} {E : Value → Shared → Prop} {lo hi : Int} {t u v : Tok} {tk : Nat} (I : Inv X pins σ H s) (h1 : -(2 ^ 62) ≤ lo) (h2 : lo < 2 ^ 62) (h3 : -(2 ^ 62) ≤ hi) (h4 : hi < 2 ^ 62)
    (q : R (Itr lo (hi - lo).toNat) H) : wpAny (model X.prog X.w) X.A (pyIter (.ref s.heap.objs.size)) (PIE X pins σ tg R) E { s with heap := s.heap.push { cls := .type "range", data := .fields #[.int lo t, .int hi u, .int 1 v] }, toks := tk } := by
  refine wpAny_pyIter_range (IsRange.new ..) (small_one h1 h2 h3 h4) ?_
  have I1 : Inv X pins σ H { s with heap := s.heap.push { cls := .type "range", data := .fields #[.int lo t, .int hi u, .int 1 v] }, toks := tk } := I.kept fun b o e => Heap.get?_push_of_some _ e
  refine ⟨(s.heap.push { cls := .type "range", data := .fields #[.int lo t, .int hi u, .int 1 v] }).objs.size, [(s.heap.push { cls := .type "range", data := .fields #[.int lo t, .int hi u, .int 1 v] }).objs.size], _, _, H, rfl,
    I1.kept (t' := tk) fun b o e => Heap.get?_push_of_some _ e, turn_range _ lo (hi - lo).toNat, ?_, fun b hb => ?_, q⟩
  · have e1 : lo + ((0 : Nat) : Int) * 1 = lo := by simp
    have e2 : (((hi - lo).toNat : Nat) : Int) - ((0 : Nat) : Int) = Builtin.Range.rangeSize lo hi 1 := by rw [rangeSize_one]; split <;> omega
    show IsRangeIter _ _ (lo + ((0 : Nat) : Int) * 1) ((((hi - lo).toNat : Nat) : Int) - ((0 : Nat) : Int)) 1
    rw [e1, e2]
    exact Heap.get?_push_size _ rfl
  · have e : b = (s.heap.push { cls := .type "range", data := .fields #[.int lo t, .int hi u, .int 1 v] }).objs.size := by simpa using hb
    subst e
    exact I1.fpOk (Nat.le_refl _) (I1.hok.fresh (Nat.le_refl _))
def iRng1 (ta : TA) : TI := fun σ H R => ta σ H fun vs H1 => ∃ j : Int, vs = [.int j] ∧ -(2 ^ 62) ≤ j ∧ j < 2 ^ 62 ∧ R (Itr 0 j.toNat) H1
def iRng2 (ta : TA) : TI := fun σ H R => ta σ H fun vs H1 => ∃ i j : Int, vs = [.int i, .int j] ∧ (-(2 ^ 62) ≤ i ∧ i < 2 ^ 62 ∧ -(2 ^ 62) ≤ j ∧ j < 2 ^ 62) ∧ R (Itr i (j - i).toNat) H1
theorem pi_range1 {a : Expr} {ta : TA} {p pos : Pos} (hg : Gl X "range") (hm : X.mg "range" = none) (ha : PA X [a] ta) (hs : starEach [a] X.env = [(false, eval a X.env)] := by rfl) : PI X tg (.Call (.Name "range" p) [a] [] pos) (iRng1 ta) := by
  intro pins s σ H R I h
  refine Call_ (ld_blt I hg hm boot_range (PyProof.Rows.callWith_type1 (thn (ha pos pins s σ H _ I h) fun us s1 ⟨vs, H1, I1, r1, q1⟩ => ?_) hs rfl))
  obtain ⟨j, e, q1, q2, q⟩ := q1
  subst e
  cases r1 with
  | cons r rr =>
    cases rr
    obtain ⟨t, rfl⟩ := r
    exact call_range_1 (range_it I1 (by omega) (by omega) q1 q2 (by simpa using q))
theorem pi_range2 {a b : Expr} {ta : TA} {p pos : Pos} (hg : Gl X "range") (hm : X.mg "range" = none) (ha : PA X [a, b] ta) (hs : starEach [a, b] X.env = [(false, eval a X.env), (false, eval b X.env)] := by rfl) (hs2 : starEach [b] X.env = [(false, eval b X.env)] := by rfl) :
    PI X tg (.Call (.Name "range" p) [a, b] [] pos) (iRng2 ta) := by
  intro pins s σ H R I h
  refine Call_ (ld_blt I hg hm boot_range (PyProof.Rows.callWith_type1 (thn (ha pos pins s σ H _ I h) fun us s1 ⟨vs, H1, I1, r1, q1⟩ => ?_) (by rw [hs, hs2]) (by rw [hs2]; rfl)))
  obtain ⟨i, j, e, ⟨q1, q2, q3, q4⟩, q⟩ := q1
  subst e
  cases r1 with
  | cons r rr =>
    cases rr with
    | cons r' rr =>
      cases rr
      obtain ⟨t, rfl⟩ := r
      obtain ⟨t', rfl⟩ := r'
      exact call_range_2 (range_it I1 q1 q2 q3 q4 q)

/-! ### for -/
/-- W: the invariant by the turn and a measure; N: what the body is to reach -/
def tFor (wi : TI) (g : TG) (tb : TS) : TS := fun D σ H => wi σ H fun J H1 => ∃ W : Nat → Nat → St → Hp → Prop, (∃ m, W 0 m σ H1) ∧ ∀ i m σ H, W i m σ H →
  (J.stop i H ∧ D.nx σ H) ∨ (J.go i H ∧ ∃ N : St → Hp → Prop, (∀ σ' H', N σ' H' → ∃ m', m' < m ∧ W (i + 1) m' σ' H') ∧ ∀ x H', J.yld i H x H' → g x σ H' fun σ2 H2 => tb { D with nx := N, ct := N, bk := D.nx } σ2 H2)
/-- the records at fp as they stand -/
def pinsAt (fp : List Addr) (h : Heap) : List (Addr × Obj) := fp.filterMap fun b => (h.get? b).map fun o => (b, o)
theorem mem_pinsAt {fp : List Addr} {h : Heap} {b : Addr} {o : Obj} (hb : b ∈ fp) (e : h.get? b = some o) : (b, o) ∈ pinsAt fp h := List.mem_filterMap.mpr ⟨b, hb, by rw [e]; rfl⟩
theorem of_pinsAt {fp : List Addr} {h : Heap} {p : Addr × Obj} (hp : p ∈ pinsAt fp h) : p.1 ∈ fp ∧ h.get? p.1 = some p.2 := by
  obtain ⟨b, hb, e⟩ := List.mem_filterMap.mp hp
  cases q : h.get? b with
  | none => rw [q] at e; cases e
  | some o =>
    rw [q] at e
    have e' : (b, o) = p := Option.some.inj e
    subst e'
    exact ⟨hb, q⟩
theorem Inv.pinned {pins : List (Addr × Obj)} {σ : St} {H : Hp} {s : Shared} {fp : List Addr} (I : Inv X pins σ H s) (hf : ∀ b ∈ fp, FpOk X pins H b) (ho : ∀ b ∈ fp, ∃ o, s.heap.get? b = some o ∧ ∀ v, o.data ≠ .cell v) : Inv X (pins ++ pinsAt fp s.heap) σ H s :=
  I.pins_of fun p hp => (List.mem_append.mp hp).elim (fun z => I.pin p (List.mem_append_right _ z)) fun z => by
    obtain ⟨hb, e⟩ := of_pinsAt z
    obtain ⟨f0, f1, f2, _⟩ := hf p.1 hb
    obtain ⟨o, e', d⟩ := ho p.1 hb
    rw [e] at e'; cases e'
    exact ⟨e, f0, f1, f2, d⟩
theorem Inv.unpinned {pins pl : List (Addr × Obj)} {σ : St} {H : Hp} {s : Shared} (I : Inv X (pins ++ pl) σ H s) : Inv X pins σ H s := I.pins_of fun p hp => I.pin p (List.mem_append_right _ (List.mem_append_left _ hp))
theorem ps_for {iter : Expr} {body : List Stmt} {wi : TI} {g : TG} {tb : TS} {pos : Pos} (hp : PassesOwn (model X.prog X.w) X.A X.env X.xe) (hc : X.calm = true) (hi : PI X tg iter wi) (hg : PG X tg g) (hb : PSs X body tb)
    (hs : ∀ x, foldedSetIterable iter X.env x = pure x := by intro _; rfl) : PS X (.For tg iter body [] pos) (tFor wi g tb) := by
  intro pins s σ H D I h
  refine wpAny_For (thn (hi pins s σ H _ I h) fun v s1 h1 => thn h1 fun itv s2 h2 => ?_) hs
  obtain ⟨it, fp, tn, J, H2, e, I2, T, st2, f2, W, ⟨m0, w0⟩, turn⟩ := h2
  subst e
  -- what stays true of the iterator's objects through the loop
  have stat : ∀ {H' : Hp}, (∀ b ∈ fp, H' b = none) → ∀ b ∈ fp, FpOk X pins H' b := fun hn b hb => ⟨hn b hb, (f2 b hb).2⟩
  refine codeAny_forLoop_any (fun n s' => ∃ i σ' H', Inv X pins σ' H' s' ∧ tn i s'.heap ∧ (∀ b ∈ fp, H' b = none) ∧ W i n σ' H') ?_ m0 ⟨0, σ, H2, I2, st2, fun b hb => (f2 b hb).1, w0⟩
  rintro n s3 ⟨i, σ3, H3, I3, st3, fr3, w3⟩
  rcases turn i n σ3 H3 w3 with ⟨stop, qn⟩ | ⟨go, N, hN, step⟩
  · refine wpAny_passesOwn hp (thn (T.done X rfl rfl rfl hc i pins s3 σ3 H3 X.xe I3 (stat fr3) st3 stop) fun r s4 ⟨hr, I4⟩ => ?_)
    subst hr
    exact wpAny_execs_nil ⟨σ3, H3, I4, qn⟩
  · refine wpAny_passesOwn hp (thn (T.item X rfl rfl rfl hc i pins s3 σ3 H3 X.xe I3 (stat fr3) st3 go) fun r s4 ⟨u, hr, h4⟩ => ?_)
    subst hr
    refine wpAny_passesOwn hp (thn h4 fun _ s5 ⟨x, H5, I5, r5, y5, st5, fr5⟩ => ?_)
    have I5' := I5.pinned (stat fr5) (T.obj _ _ st5)
    refine wpAny_passesOwn hp (thn (hg _ s5 σ3 H5 x u _ I5' r5 (step x H5 y5)) fun _ s6 ⟨σ6, H6, I6, q6⟩ => ?_)
    refine wpAny_passesOwn hp (thn (hb _ s6 σ6 H6 _ I6 q6) fun f s7 q7 => ?_)
    have again : ∀ {σ7 : St} {H7 : Hp}, Inv X (pins ++ pinsAt fp s5.heap) σ7 H7 s7 → N σ7 H7 → ∃ m, m < n ∧ ∃ i σ' H', Inv X pins σ' H' s7 ∧ tn i s7.heap ∧ (∀ b ∈ fp, H' b = none) ∧ W i m σ' H' := fun {σ7 H7} I7 n7 => by
      obtain ⟨m', hm, w7⟩ := hN σ7 H7 n7
      refine ⟨m', hm, i + 1, σ7, H7, I7.unpinned, T.keep _ _ _ st5 fun b hb o e => (I7.pin (b, o) (List.mem_append_right _ (List.mem_append_right _ (mem_pinsAt hb e)))).1, fun b hb => ?_, w7⟩
      obtain ⟨o, e, d⟩ := T.obj _ _ st5 b hb
      exact (I7.pin (b, o) (List.mem_append_right _ (List.mem_append_right _ (mem_pinsAt hb e)))).2.1
    cases f with
    | next => obtain ⟨σ7, H7, I7, n7⟩ := q7; exact again I7 n7
    | cont => obtain ⟨σ7, H7, I7, n7⟩ := q7; exact again I7 n7
    | brk => obtain ⟨σ7, H7, I7, q7⟩ := q7; exact ⟨σ7, H7, I7.unpinned, q7⟩
    | ret v => obtain ⟨x7, σ7, H7, I7, r7, q7⟩ := q7; exact ⟨x7, σ7, H7, I7.unpinned, r7, q7⟩
end

/-! ### the forms one uses -/
/-- over a list that the body leaves as it is -/
theorem for_list {K : PySem.W.Frag} {a : Addr} {xs : List V} {g : TG} {tb : TS} {D : Ends} {σ : St} {H : Hp} (Pv : Nat → St → Hp → Prop) (h0 : Pv 0 σ H) (hl : ∀ i σ H, i ≤ xs.length → Pv i σ H → SqL K H a xs)
    (hs : ∀ i x σ H, xs[i]? = some x → Pv i σ H → g x σ H fun σ2 H2 => tb { D with nx := Pv (i + 1), ct := Pv (i + 1), bk := D.nx } σ2 H2) (hd : ∀ σ H, Pv xs.length σ H → D.nx σ H) :
    ∃ W : Nat → Nat → St → Hp → Prop, (∃ m, W 0 m σ H) ∧ ∀ i m σ H, W i m σ H →
      ((Itl K a).stop i H ∧ D.nx σ H) ∨ ((Itl K a).go i H ∧ ∃ N : St → Hp → Prop, (∀ σ' H', N σ' H' → ∃ m', m' < m ∧ W (i + 1) m' σ' H') ∧ ∀ x H', (Itl K a).yld i H x H' → g x σ H' fun σ2 H2 => tb { D with nx := N, ct := N, bk := D.nx } σ2 H2) := by
  refine ⟨fun i m σ H => m = xs.length - i ∧ i ≤ xs.length ∧ Pv i σ H, ⟨xs.length, by simp, Nat.zero_le _, h0⟩, ?_⟩
  rintro i m σ H ⟨rfl, hi, p⟩
  have q := hl i σ H hi p
  by_cases hlt : i < xs.length
  · refine .inr ⟨⟨xs, xs[i], q, by simp [hlt]⟩, Pv (i + 1), fun σ' H' p' => ⟨xs.length - (i + 1), by omega, rfl, hlt, p'⟩, fun x H' y => ?_⟩
    obtain ⟨e, y⟩ := y
    subst e
    exact hs i x σ _ (y xs q) p
  · have e : i = xs.length := by omega
    subst e
    exact .inl ⟨⟨xs, q, Nat.le_refl _⟩, hd σ H p⟩
theorem for_tup {K : PySem.W.Frag} {a : Addr} {xs : List V} {g : TG} {tb : TS} {D : Ends} {σ : St} {H : Hp} (Pv : Nat → St → Hp → Prop) (h0 : Pv 0 σ H) (hl : ∀ i σ H, i ≤ xs.length → Pv i σ H → SqT K H a xs)
    (hs : ∀ i x σ H, xs[i]? = some x → Pv i σ H → g x σ H fun σ2 H2 => tb { D with nx := Pv (i + 1), ct := Pv (i + 1), bk := D.nx } σ2 H2) (hd : ∀ σ H, Pv xs.length σ H → D.nx σ H) :
    ∃ W : Nat → Nat → St → Hp → Prop, (∃ m, W 0 m σ H) ∧ ∀ i m σ H, W i m σ H →
      ((Itt K a).stop i H ∧ D.nx σ H) ∨ ((Itt K a).go i H ∧ ∃ N : St → Hp → Prop, (∀ σ' H', N σ' H' → ∃ m', m' < m ∧ W (i + 1) m' σ' H') ∧ ∀ x H', (Itt K a).yld i H x H' → g x σ H' fun σ2 H2 => tb { D with nx := N, ct := N, bk := D.nx } σ2 H2) := by
  refine ⟨fun i m σ H => m = xs.length - i ∧ i ≤ xs.length ∧ Pv i σ H, ⟨xs.length, by simp, Nat.zero_le _, h0⟩, ?_⟩
  rintro i m σ H ⟨rfl, hi, p⟩
  have q := hl i σ H hi p
  by_cases hlt : i < xs.length
  · refine .inr ⟨⟨xs, xs[i], q, by simp [hlt]⟩, Pv (i + 1), fun σ' H' p' => ⟨xs.length - (i + 1), by omega, rfl, hlt, p'⟩, fun x H' y => ?_⟩
    obtain ⟨e, y⟩ := y
    subst e
    exact hs i x σ _ (y xs q) p
  · have e : i = xs.length := by omega
    subst e
    exact .inl ⟨⟨xs, q, Nat.le_refl _⟩, hd σ H p⟩
theorem for_range {lo : Int} {n : Nat} {g : TG} {tb : TS} {D : Ends} {σ : St} {H : Hp} (Pv : Nat → St → Hp → Prop) (h0 : Pv 0 σ H)
    (hs : ∀ i σ H, i < n → Pv i σ H → g (.int (lo + i)) σ H fun σ2 H2 => tb { D with nx := Pv (i + 1), ct := Pv (i + 1), bk := D.nx } σ2 H2) (hd : ∀ σ H, Pv n σ H → D.nx σ H) :
    ∃ W : Nat → Nat → St → Hp → Prop, (∃ m, W 0 m σ H) ∧ ∀ i m σ H, W i m σ H →
      ((Itr lo n).stop i H ∧ D.nx σ H) ∨ ((Itr lo n).go i H ∧ ∃ N : St → Hp → Prop, (∀ σ' H', N σ' H' → ∃ m', m' < m ∧ W (i + 1) m' σ' H') ∧ ∀ x H', (Itr lo n).yld i H x H' → g x σ H' fun σ2 H2 => tb { D with nx := N, ct := N, bk := D.nx } σ2 H2) := by
  refine ⟨fun i m σ H => m = n - i ∧ i ≤ n ∧ Pv i σ H, ⟨n, by simp, Nat.zero_le _, h0⟩, ?_⟩
  rintro i m σ H ⟨rfl, hi, p⟩
  by_cases hlt : i < n
  · refine .inr ⟨hlt, Pv (i + 1), fun σ' H' p' => ⟨n - (i + 1), by omega, rfl, hlt, p'⟩, fun x H' y => ?_⟩
    obtain ⟨e, y⟩ := y
    subst e y
    exact hs i σ _ hlt p
  · have e : i = n := by omega
    subst e
    exact .inl ⟨Nat.le_refl _, hd σ H p⟩
/-- while, by a word and a measure of the state -/
theorem while_by {c : TT} {tb : TS} {D : Ends} {σ : St} {H : Hp} (Pv : St → Hp → Prop) (μ : St → Hp → Nat) (h0 : Pv σ H)
    (hs : ∀ σ H, Pv σ H → c σ H fun b H1 => if b = true then tb { D with nx := fun σ' H' => Pv σ' H' ∧ μ σ' H' < μ σ H, ct := fun σ' H' => Pv σ' H' ∧ μ σ' H' < μ σ H, bk := D.nx } σ H1 else D.nx σ H1)
    (mono : ∀ σ H Q Q', (∀ b H1, Q b H1 → Q' b H1) → c σ H Q → c σ H Q') : tWhile c tb D σ H := by
  refine ⟨fun m σ H => m = μ σ H ∧ Pv σ H, ⟨_, rfl, h0⟩, ?_⟩
  rintro m σ H ⟨rfl, p⟩
  refine mono σ H _ _ (fun b H1 q => ?_) (hs σ H p)
  cases b with
  | true => exact ⟨_, fun σ' H' ⟨p', l⟩ => ⟨_, l, rfl, p'⟩, q⟩
  | false => exact q
end L2

namespace L2
open PySem PySem.Spec PyProof.Rows

abbrev R2 := V → V → Hp → VK → Prop
/-- a two-place operation on values: f is binaryOp op, inplaceOp op or compareOp op -/
def OpR (X : Cx) (f : Value → Value → Sem Value) (r : R2) : Prop :=
  ∀ (pins : List (Addr × Obj)) (s : Shared) (σ : St) (H : Hp) (x y : V) (v u : Value) (Q : VK), Inv X pins σ H s → RelV x v → RelV y u → r x y H Q →
    wpAny (model X.prog X.w) X.A (f v u) (EP X pins σ Q) X.xe s
/-- a one-place operation -/
def UnR (X : Cx) (f : Value → Sem Value) (r : V → Hp → VK → Prop) : Prop :=
  ∀ (pins : List (Addr × Obj)) (s : Shared) (σ : St) (H : Hp) (x : V) (v : Value) (Q : VK), Inv X pins σ H s → RelV x v → r x H Q →
    wpAny (model X.prog X.w) X.A (f v) (EP X pins σ Q) X.xe s
/-- a call of a value that is known (a builtin, a type) with values -/
def CallR (X : Cx) (f : Value) (r : List V → Hp → VK → Prop) : Prop :=
  ∀ (pins : List (Addr × Obj)) (s : Shared) (σ : St) (H : Hp) (xs : List V) (us : List Value) (Q : VK), Inv X pins σ H s → Vals xs us → r xs H Q →
    wpAny (model X.prog X.w) X.A (call f us) (EP X pins σ Q) X.xe s
/-- a value's truth -/
def TruR (X : Cx) (r : V → Hp → (Bool → Hp → Prop) → Prop) : Prop :=
  ∀ (pins : List (Addr × Obj)) (s : Shared) (σ : St) (H : Hp) (x : V) (v : Value) (Q : Bool → Hp → Prop), Inv X pins σ H s → RelV x v → r x H Q →
    wpAny (model X.prog X.w) X.A (truthy v) (TP X pins σ Q) X.xe s

def tOp (r : R2) (ta tb : TE) : TE := fun σ H Q => ta σ H fun x H1 => tb σ H1 fun y H2 => r x y H2 Q
def tUn (r : V → Hp → VK → Prop) (ta : TE) : TE := fun σ H Q => ta σ H fun x H1 => r x H1 Q
/-- ints in, under C, and a value out -/
def rI (C : Int → Int → Prop) (g : Int → Int → V) : R2 := fun x y H Q => ∃ i j, x = .int i ∧ y = .int j ∧ C i j ∧ Q (g i j) H
def rI0 (g : Int → Int → V) : R2 := fun x y H Q => ∃ i j, x = .int i ∧ y = .int j ∧ Q (g i j) H
def rU (g : Int → V) : V → Hp → VK → Prop := fun x H Q => ∃ i, x = .int i ∧ Q (g i) H

section
variable {X : Cx} {a b c : Expr} {ta tb tc : TE} {pos : Pos}

theorem binT (ha : PE X a ta) (hb : PE X b tb) {pins : List (Addr × Obj)} {s : Shared} {σ : St} {H : Hp} {R : V → V → Hp → Prop} (I : Inv X pins σ H s)
    (h : ta σ H fun x H1 => tb σ H1 fun y H2 => R x y H2) {Q : Value → Shared → Prop} {f : Value → Value → Sem Value}
    (hf : ∀ v u s2 x y H2, Inv X pins σ H2 s2 → RelV x v → RelV y u → R x y H2 → wpAny (model X.prog X.w) X.A (f v u) Q X.xe s2) :
    wpAny (model X.prog X.w) X.A (eval a X.env) (fun v s₁ => wpAny (model X.prog X.w) X.A (eval b X.env) (fun u s₂ => wpAny (model X.prog X.w) X.A (f v u) Q X.xe s₂) X.xe s₁) X.xe s := by
  refine thn (ha pins s σ H _ I h) fun v s1 ⟨x, H1, I1, r1, q1⟩ => ?_
  refine thn (hb pins s1 σ H1 _ I1 q1) fun u s2 ⟨y, H2, I2, r2, q2⟩ => ?_
  exact hf v u s2 x y H2 I2 r1 r2 q2

theorem pe_op {op : Operator} {r : R2} (ho : OpR X (binaryOp op) r) (ha : PE X a ta) (hb : PE X b tb) : PE X (.BinOp a op b pos) (tOp r ta tb) := by
  intro pins s σ H Q I h
  exact wpAny_BinOp (binT ha hb I h fun v u s2 x y H2 I2 rx ry q => ho pins s2 σ H2 x y v u Q I2 rx ry q)
theorem pe_un {op : UnaryOp} {r : V → Hp → VK → Prop} (ho : UnR X (unaryOp op) r) (ha : PE X a ta) : PE X (.UnaryOp op a pos) (tUn r ta) := by
  intro pins s σ H Q I h
  exact UnaryOp_ (thn (ha pins s σ H _ I h) fun v s1 ⟨x, H1, I1, r1, q1⟩ => ho pins s1 σ H1 x v Q I1 r1 q1)
/-- a op= e at a name: the name's slot i -/
theorem augR {op : Operator} {r : R2} (ho : OpR X (inplaceOp op) r) {pins : List (Addr × Obj)} {s : Shared} {σ : St} {H : Hp} {x y : V} {v u : Value} {Q : VK} (I : Inv X pins σ H s)
    (rx : RelV x v) (ry : RelV y u) (q : r x y H Q) : wpAny (model X.prog X.w) X.A (inplaceOp op v u) (EP X pins σ Q) X.xe s := ho pins s σ H x y v u Q I rx ry q

/-! ### ints -/
theorem opI {f : Value → Value → Sem Value} {C : Int → Int → Prop} {g : Int → Int → Int}
    (rule : ∀ (i j : Int) (t u : Tok) (s : Shared) (Q : Value → Shared → Prop) (E : Value → Shared → Prop), C i j → Q (.int (g i j) s.toks) { s with toks := s.toks + 1 } → wpAny (model X.prog X.w) X.A (f (.int i t) (.int j u)) Q E s) :
    OpR X f (rI C fun i j => .int (g i j)) := by
  intro pins s σ H x y v u Q I rx ry h
  obtain ⟨i, j, rfl, rfl, hc, q⟩ := h
  obtain ⟨t, rfl⟩ := rx
  obtain ⟨t', rfl⟩ := ry
  exact rule i j t t' s _ _ hc ⟨.int (g i j), H, I.tok _, ⟨_, rfl⟩, q⟩
theorem opI0 {f : Value → Value → Sem Value} {g : Int → Int → Int}
    (rule : ∀ (i j : Int) (t u : Tok) (s : Shared) (Q : Value → Shared → Prop) (E : Value → Shared → Prop), Q (.int (g i j) s.toks) { s with toks := s.toks + 1 } → wpAny (model X.prog X.w) X.A (f (.int i t) (.int j u)) Q E s) :
    OpR X f (rI0 fun i j => .int (g i j)) := by
  intro pins s σ H x y v u Q I rx ry h
  obtain ⟨i, j, rfl, rfl, q⟩ := h
  obtain ⟨t, rfl⟩ := rx
  obtain ⟨t', rfl⟩ := ry
  exact rule i j t t' s _ _ ⟨.int (g i j), H, I.tok _, ⟨_, rfl⟩, q⟩
theorem opB0 {f : Value → Value → Sem Value} {g : Int → Int → Bool}
    (rule : ∀ (i j : Int) (t u : Tok) (s : Shared) (Q : Value → Shared → Prop) (E : Value → Shared → Prop), Q (.bool (g i j)) s → wpAny (model X.prog X.w) X.A (f (.int i t) (.int j u)) Q E s) :
    OpR X f (rI0 fun i j => .bl (g i j)) := by
  intro pins s σ H x y v u Q I rx ry h
  obtain ⟨i, j, rfl, rfl, q⟩ := h
  obtain ⟨t, rfl⟩ := rx
  obtain ⟨t', rfl⟩ := ry
  exact rule i j t t' s _ _ ⟨.bl (g i j), H, I, rfl, q⟩

def CDiv (i j : Int) : Prop := 0 < j ∧ j < 1073741824
def CDivN (i j : Int) : Prop := j ≠ 0 ∧ j.natAbs < 1073741824
def CPow (i j : Int) : Prop := 0 ≤ j ∧ j ≤ 1000000 ∧ i.natAbs < 2 ^ 64
def CMul (i j : Int) : Prop := (-(2 ^ 64) < i ∧ i < 2 ^ 64) ∨ (-(2 ^ 64) < j ∧ j < 2 ^ 64)
theorem CMul.ok {i j : Int} (h : CMul i j) : IntMulOk i j := by
  rcases h with ⟨h1, h2⟩ | ⟨h1, h2⟩
  · exact .of_left (intBits_le_64 h1 h2)
  · exact .of_right (intBits_le_64 h1 h2)
theorem two_pow_nn (k : Nat) : (0 : Int) ≤ 2 ^ k := by
  rw [two_pow_cast]
  exact Int.natCast_nonneg _

theorem op_add : OpR X (binaryOp .Add) (rI0 fun i j => .int (i + j)) := opI0 fun _ _ _ _ _ _ _ q => add_int q
theorem op_sub : OpR X (binaryOp .Sub) (rI0 fun i j => .int (i - j)) := opI0 fun _ _ _ _ _ _ _ q => sub_int q
theorem op_mul : OpR X (binaryOp .Mult) (rI CMul fun i j => .int (i * j)) := opI fun _ _ _ _ _ _ _ hc q => mul_int q hc.ok
/-- // by a positive divisor -/
theorem op_fdiv : OpR X (binaryOp .FloorDiv) (rI CDiv fun i j => .int (i / j)) := opI fun i j _ _ _ _ _ hc q => by
  have h1 : (0 : Int) < j := hc.1
  have h2 : j < 1073741824 := hc.2
  exact floordiv_int (by omega) (by rw [Int.fdiv_eq_ediv_of_nonneg i (by omega)]; exact q) (.inl (PyProof.noPylong_small (by omega)))
theorem op_fdivN : OpR X (binaryOp .FloorDiv) (rI CDivN fun i j => .int (i.fdiv j)) := opI fun _ _ _ _ _ _ _ hc q => floordiv_int hc.1 q (.inl (PyProof.noPylong_small hc.2))
/-- % by a positive divisor of any size -/
theorem op_mod : OpR X (binaryOp .Mod) (rI (fun _ j => 0 < j) fun i j => .int (i % j)) := opI fun i j _ _ _ _ _ hc q => by
  have h1 : (0 : Int) < j := hc
  exact mod_int' (by omega) (by rw [Int.fmod_eq_emod_of_nonneg i (by omega)]; exact q)
theorem op_modN : OpR X (binaryOp .Mod) (rI (fun _ j => j ≠ 0) fun i j => .int (i.fmod j)) := opI fun _ _ _ _ _ _ _ hc q => mod_int' hc q
theorem op_pow : OpR X (binaryOp .Pow) (rI CPow fun i j => .int (i ^ j.toNat)) := opI fun _ _ _ _ _ _ _ hc q => pow_int_small hc.1 hc.2.1 hc.2.2 q
theorem op_shl : OpR X (binaryOp .LShift) (rI CPow fun i j => .int (i * 2 ^ j.toNat)) := opI fun _ _ _ _ _ _ _ hc q => lshift_int_small hc.1 hc.2.1 hc.2.2 q
theorem op_shr : OpR X (binaryOp .RShift) (rI (fun _ j => 0 ≤ j) fun i j => .int (i / 2 ^ j.toNat)) := opI fun i j _ _ _ _ _ hc q =>
  rshift_int hc (by rw [Int.fdiv_eq_ediv_of_nonneg i (two_pow_nn _)]; exact q)
theorem op_and : OpR X (binaryOp .BitAnd) (rI0 fun i j => .int (Builtin.bitAnd i j)) := opI0 fun _ _ _ _ _ _ _ q => and_int q
theorem op_or : OpR X (binaryOp .BitOr) (rI0 fun i j => .int (Builtin.bitOr i j)) := opI0 fun _ _ _ _ _ _ _ q => or_int q
theorem op_xor : OpR X (binaryOp .BitXor) (rI0 fun i j => .int (Builtin.bitXor i j)) := opI0 fun _ _ _ _ _ _ _ q => xor_int q

theorem iop_add : OpR X (inplaceOp .Add) (rI0 fun i j => .int (i + j)) := opI0 fun _ _ _ _ _ _ _ q => iadd_int q
theorem iop_sub : OpR X (inplaceOp .Sub) (rI0 fun i j => .int (i - j)) := opI0 fun _ _ _ _ _ _ _ q => isub_int q
theorem iop_mul : OpR X (inplaceOp .Mult) (rI CMul fun i j => .int (i * j)) := opI fun _ _ _ _ _ _ _ hc q => imul_int q hc.ok
theorem iop_fdiv : OpR X (inplaceOp .FloorDiv) (rI CDiv fun i j => .int (i / j)) := opI fun i j _ _ _ _ _ hc q => by
  have h1 : (0 : Int) < j := hc.1
  have h2 : j < 1073741824 := hc.2
  exact ifloordiv_int (by omega) (by rw [Int.fdiv_eq_ediv_of_nonneg i (by omega)]; exact q) (.inl (PyProof.noPylong_small (by omega)))
theorem iop_mod : OpR X (inplaceOp .Mod) (rI (fun _ j => 0 < j) fun i j => .int (i % j)) := opI fun i j _ _ _ _ _ hc q => by
  have h1 : (0 : Int) < j := hc
  exact imod_int (by omega) (by rw [Int.fmod_eq_emod_of_nonneg i (by omega)]; exact q)
theorem iop_shl : OpR X (inplaceOp .LShift) (rI CPow fun i j => .int (i * 2 ^ j.toNat)) := opI fun _ _ _ _ _ _ _ hc q => ilshift_int_small hc.1 hc.2.1 hc.2.2 q
theorem iop_shr : OpR X (inplaceOp .RShift) (rI (fun _ j => 0 ≤ j) fun i j => .int (i / 2 ^ j.toNat)) := opI fun i j _ _ _ _ _ hc q =>
  irshift_int hc (by rw [Int.fdiv_eq_ediv_of_nonneg i (two_pow_nn _)]; exact q)
theorem iop_and : OpR X (inplaceOp .BitAnd) (rI0 fun i j => .int (Builtin.bitAnd i j)) := opI0 fun _ _ _ _ _ _ _ q => iand_int q
theorem iop_or : OpR X (inplaceOp .BitOr) (rI0 fun i j => .int (Builtin.bitOr i j)) := opI0 fun _ _ _ _ _ _ _ q => ior_int q
theorem iop_xor : OpR X (inplaceOp .BitXor) (rI0 fun i j => .int (Builtin.bitXor i j)) := opI0 fun _ _ _ _ _ _ _ q => ixor_int q

theorem unI {f : Value → Sem Value} {g : Int → Int}
    (rule : ∀ (i : Int) (t : Tok) (s : Shared) (Q : Value → Shared → Prop) (E : Value → Shared → Prop), Q (.int (g i) s.toks) { s with toks := s.toks + 1 } → wpAny (model X.prog X.w) X.A (f (.int i t)) Q E s) :
    UnR X f (rU fun i => .int (g i)) := by
  intro pins s σ H x v Q I rx h
  obtain ⟨i, rfl, q⟩ := h
  obtain ⟨t, rfl⟩ := rx
  exact rule i t s _ _ ⟨.int (g i), H, I.tok _, ⟨_, rfl⟩, q⟩
theorem un_neg : UnR X (unaryOp .USub) (rU fun i => .int (-i)) := unI fun _ _ _ _ _ q => neg_int q
theorem un_inv : UnR X (unaryOp .Invert) (rU fun i => .int (Builtin.bitNot i)) := unI fun _ _ _ _ _ q => invert_int q

/-! ### bools among ints: n += (a < b) -/
theorem op_add_ib : OpR X (binaryOp .Add) (fun x y H Q => ∃ i k, x = .int i ∧ y = .bl k ∧ Q (.int (i + b2i k)) H) := by
  intro pins s σ H x y v u Q I rx ry h
  obtain ⟨i, k, rfl, rfl, q⟩ := h
  obtain ⟨t, rfl⟩ := rx
  cases ry
  exact add_int_bool ⟨.int (i + b2i k), H, I.tok _, ⟨_, rfl⟩, q⟩
end

/-! ### comparisons -/
/-- the scalars that == tells apart as data does -/
def scal : V → V → Bool
  | .non, .non => true | .non, .int _ => true | .int _, .non => true | .non, .bl _ => true | .bl _, .non => true | .non, .str _ => true | .str _, .non => true
  | .int _, .int _ => true | .bl _, .bl _ => true | .str _, .str _ => true | .byt _, .byt _ => true
  | .int _, .str _ => true | .str _, .int _ => true | .bl _, .str _ => true | .str _, .bl _ => true
  | _, _ => false
def rEq : R2 := fun x y H Q => scal x y = true ∧ Q (.bl (decide (x = y))) H
def rNe : R2 := fun x y H Q => scal x y = true ∧ Q (.bl (!decide (x = y))) H

theorem dec_int {i j : Int} : decide (V.int i = V.int j) = (i == j) := by
  rw [Bool.eq_iff_iff]
  simp
theorem dec_bl {i j : Bool} : decide (V.bl i = V.bl j) = (i == j) := by
  rw [Bool.eq_iff_iff]
  simp
theorem dec_str {i j : Str} : decide (V.str i = V.str j) = (i == j) := by
  rw [Bool.eq_iff_iff]
  simp
theorem dec_byt {i j : Array UInt8} : decide (V.byt i = V.byt j) = (i.toList == j.toList) := by
  rw [Bool.eq_iff_iff]
  cases i
  cases j
  simp

section
variable {X : Cx} {a b c : Expr} {ta tb tc : TE} {pos : Pos}
theorem fin_bl {pins : List (Addr × Obj)} {σ : St} {H : Hp} {s : Shared} {Q : VK} {k k' : Bool} (I : Inv X pins σ H s) (q : Q (.bl k) H) (e : k = k') : EP X pins σ Q (.bool k') s := by
  subst e
  exact ⟨.bl k, H, I, rfl, q⟩
theorem op_eq : OpR X (compareOp .Eq) rEq := by
  intro pins s σ H x y v u Q I rx ry h
  obtain ⟨hs, q⟩ := h
  cases x with
  | non =>
    cases rx
    cases y with
    | non => cases ry; exact PySem.EqNone.eq_none_none (fin_bl I q (by simp))
    | bl j => cases ry; exact PySem.EqNone.eq_none_bool (fin_bl I q (by simp))
    | int j => obtain ⟨t', rfl⟩ := ry; exact PySem.EqNone.eq_none_int (fin_bl I q (by simp))
    | str j => obtain ⟨t', rfl⟩ := ry; exact PySem.EqNone.eq_none_str (fin_bl I q (by simp))
    | _ => exact absurd (show false = true from hs) Bool.false_ne_true
  | bl i =>
    cases rx
    cases y with
    | non => cases ry; exact PySem.EqNone.eq_bool_none (fin_bl I q (by simp))
    | bl j => cases ry; exact eq_bool (fin_bl I q dec_bl)
    | str j => obtain ⟨t', rfl⟩ := ry; exact PySem.EqMixed.eq_bool_str (fin_bl I q (by simp))
    | _ => exact absurd (show false = true from hs) Bool.false_ne_true
  | int i =>
    obtain ⟨t, rfl⟩ := rx
    cases y with
    | non => cases ry; exact PySem.EqNone.eq_int_none (fin_bl I q (by simp))
    | int j => obtain ⟨t', rfl⟩ := ry; exact eq_int (fin_bl I q dec_int)
    | str j => obtain ⟨t', rfl⟩ := ry; exact PySem.EqMixed.eq_int_str (fin_bl I q (by simp))
    | _ => exact absurd (show false = true from hs) Bool.false_ne_true
  | str i =>
    obtain ⟨t, rfl⟩ := rx
    cases y with
    | non => cases ry; exact PySem.EqNone.eq_str_none (fin_bl I q (by simp))
    | bl j => cases ry; exact PySem.EqMixed.eq_str_bool (fin_bl I q (by simp))
    | int j => obtain ⟨t', rfl⟩ := ry; exact PySem.EqMixed.eq_str_int (fin_bl I q (by simp))
    | str j => obtain ⟨t', rfl⟩ := ry; exact eq_str (fin_bl I q dec_str)
    | _ => exact absurd (show false = true from hs) Bool.false_ne_true
  | byt i =>
    obtain ⟨t, rfl⟩ := rx
    cases y with
    | byt j => obtain ⟨t', rfl⟩ := ry; exact PySem.W.eq_bytes (fin_bl I q dec_byt)
    | _ => exact absurd (show false = true from hs) Bool.false_ne_true
  | _ => cases y <;> exact absurd (show false = true from hs) Bool.false_ne_true
theorem op_ne : OpR X (compareOp .NotEq) rNe := by
  intro pins s σ H x y v u Q I rx ry h
  obtain ⟨hs, q⟩ := h
  cases x with
  | non =>
    cases rx
    cases y with
    | non => cases ry; exact PySem.EqNone.ne_none_none (fin_bl I q (by simp))
    | bl j => cases ry; exact PySem.EqNone.ne_none_bool (fin_bl I q (by simp))
    | int j => obtain ⟨t', rfl⟩ := ry; exact PySem.EqNone.ne_none_int (fin_bl I q (by simp))
    | str j => obtain ⟨t', rfl⟩ := ry; exact PySem.EqNone.ne_none_str (fin_bl I q (by simp))
    | _ => exact absurd (show false = true from hs) Bool.false_ne_true
  | bl i =>
    cases rx
    cases y with
    | non => cases ry; exact PySem.EqNone.ne_bool_none (fin_bl I q (by simp))
    | bl j => cases ry; exact ne_bool (fin_bl I q (congrArg not dec_bl))
    | str j => obtain ⟨t', rfl⟩ := ry; exact PySem.EqMixed.ne_bool_str (fin_bl I q (by simp))
    | _ => exact absurd (show false = true from hs) Bool.false_ne_true
  | int i =>
    obtain ⟨t, rfl⟩ := rx
    cases y with
    | non => cases ry; exact PySem.EqNone.ne_int_none (fin_bl I q (by simp))
    | int j => obtain ⟨t', rfl⟩ := ry; exact ne_int (fin_bl I q (congrArg not dec_int))
    | str j => obtain ⟨t', rfl⟩ := ry; exact PySem.EqMixed.ne_int_str (fin_bl I q (by simp))
    | _ => exact absurd (show false = true from hs) Bool.false_ne_true
  | str i =>
    obtain ⟨t, rfl⟩ := rx
    cases y with
    | non => cases ry; exact PySem.EqNone.ne_str_none (fin_bl I q (by simp))
    | bl j => cases ry; exact PySem.EqMixed.ne_str_bool (fin_bl I q (by simp))
    | int j => obtain ⟨t', rfl⟩ := ry; exact PySem.EqMixed.ne_str_int (fin_bl I q (by simp))
    | str j => obtain ⟨t', rfl⟩ := ry; exact ne_str (fin_bl I q (congrArg not dec_str))
    | _ => exact absurd (show false = true from hs) Bool.false_ne_true
  | byt i =>
    obtain ⟨t, rfl⟩ := rx
    cases y with
    | byt j => obtain ⟨t', rfl⟩ := ry; exact PySem.W.ne_bytes (fin_bl I q (congrArg not dec_byt))
    | _ => exact absurd (show false = true from hs) Bool.false_ne_true
  | _ => cases y <;> exact absurd (show false = true from hs) Bool.false_ne_true

theorem op_lt : OpR X (compareOp .Lt) (rI0 fun i j => .bl (decide (i < j))) := opB0 fun _ _ _ _ _ _ _ q => lt_int q
theorem op_le : OpR X (compareOp .LtE) (rI0 fun i j => .bl (decide (i ≤ j))) := opB0 fun _ _ _ _ _ _ _ q => le_int q
theorem op_gt : OpR X (compareOp .Gt) (rI0 fun i j => .bl (decide (j < i))) := opB0 fun _ _ _ _ _ _ _ q => gt_int q
theorem op_ge : OpR X (compareOp .GtE) (rI0 fun i j => .bl (decide (j ≤ i))) := opB0 fun _ _ _ _ _ _ _ q => ge_int q
theorem op_lt_str : OpR X (compareOp .Lt) (fun x y H Q => ∃ i j, x = .str i ∧ y = .str j ∧ Q (.bl (decide (i.cps.toList < j.cps.toList))) H) := by
  intro pins s σ H x y v u Q I rx ry h
  obtain ⟨i, j, rfl, rfl, q⟩ := h
  obtain ⟨t, rfl⟩ := rx
  obtain ⟨t', rfl⟩ := ry
  exact lt_str (fin_bl I q rfl)
/-- the one string within the other -/
theorem op_in_str : OpR X (compareOp .In) (fun x y H Q => ∃ i j, x = .str i ∧ y = .str j ∧ Q (.bl (!(Builtin.Str.occurrences j i 0 j.length 1).isEmpty)) H) := by
  intro pins s σ H x y v u Q I rx ry h
  obtain ⟨i, j, rfl, rfl, q⟩ := h
  obtain ⟨t, rfl⟩ := rx
  obtain ⟨t', rfl⟩ := ry
  exact in_str (fin_bl I q rfl)

/-- is None, is not None: the right side a value none -/
theorem op_isN : OpR X (compareOp .Is) (fun x y H Q => y = .non ∧ Q (.bl (decide (x = .non))) H) := by
  intro pins s σ H x y v u Q I rx ry h
  obtain ⟨rfl, q⟩ := h
  cases ry
  refine is_none_gen (fin_bl I q ?_)
  cases x <;> first
    | (cases rx; rfl)
    | (obtain ⟨t, rfl⟩ := rx; rfl)
theorem op_notN : OpR X (compareOp .IsNot) (fun x y H Q => y = .non ∧ Q (.bl (!decide (x = .non))) H) := by
  intro pins s σ H x y v u Q I rx ry h
  obtain ⟨rfl, q⟩ := h
  cases ry
  refine isnot_none_gen (fin_bl I q ?_)
  cases x <;> first
    | (cases rx; rfl)
    | (obtain ⟨t, rfl⟩ := rx; rfl)

theorem op_notin_str : OpR X (compareOp .NotIn) (fun x y H Q => ∃ i j, x = .str i ∧ y = .str j ∧ Q (.bl (!(!(Builtin.Str.occurrences j i 0 j.length 1).isEmpty))) H) := by
  intro pins s σ H x y v u Q I rx ry h
  obtain ⟨i, j, rfl, rfl, q⟩ := h
  obtain ⟨t, rfl⟩ := rx
  obtain ⟨t', rfl⟩ := ry
  exact notIn_str (fin_bl I q rfl)
/-- is, is not of two objects that are tracked lists or instances -/
def isObj : HO → Bool
  | .lst _ => true
  | .ins _ _ _ => true
  | _ => false
theorem obj_there {pins : List (Addr × Obj)} {s : Shared} {σ : St} {H : Hp} {a : Addr} {o : HO} (I : Inv X pins σ H s) (h : H a = some o) (p : isObj o = true) : ∃ ob, s.heap.get? a = some ob ∧ ob.cls ≠ .type "tuple" := by
  cases o with
  | lst xs =>
    obtain ⟨_, its, n, _, e⟩ : xs.length ≤ sizeLine ∧ ∃ (its : List Value) (n : Nat), Vals xs its ∧ s.heap.get? a = some { cls := .type "list", data := .seq its.toArray n } := I.hok a _ h
    exact ⟨_, e, (by show Value.type "list" ≠ .type "tuple"; decide +kernel)⟩
  | ins C dx fs =>
    have x := I.hok a _ h
    obtain ⟨_, _, _, e, _⟩ := x
    exact ⟨_, e, (by show Value.ref C ≠ .type "tuple"; exact fun z => by cases z)⟩
  | _ => exact absurd (show false = true from p) Bool.false_ne_true
theorem op_is_ref : OpR X (compareOp .Is) (fun x y H Q => ∃ a b oa ob, x = .ref a ∧ y = .ref b ∧ H a = some oa ∧ isObj oa = true ∧ H b = some ob ∧ isObj ob = true ∧ Q (.bl (decide (a = b))) H) := by
  intro pins s σ H x y v u Q I rx ry h
  obtain ⟨a, b, oa, ob, rfl, rfl, ha, pa, hb, pb, q⟩ := h
  cases rx
  cases ry
  obtain ⟨o1, e1, n1⟩ := obj_there I ha pa
  obtain ⟨o2, e2, _⟩ := obj_there I hb pb
  by_cases z : a = b
  · subst z
    exact wpAny_is_ref_self (fin_bl I q (by simp))
  · exact wpAny_is_ref_other z e1 e2 n1 (fin_bl I q (by simp [z]))
theorem op_isnot_ref : OpR X (compareOp .IsNot) (fun x y H Q => ∃ a b oa ob, x = .ref a ∧ y = .ref b ∧ H a = some oa ∧ isObj oa = true ∧ H b = some ob ∧ isObj ob = true ∧ Q (.bl (!decide (a = b))) H) := by
  intro pins s σ H x y v u Q I rx ry h
  obtain ⟨a, b, oa, ob, rfl, rfl, ha, pa, hb, pb, q⟩ := h
  cases rx
  cases ry
  obtain ⟨o1, e1, n1⟩ := obj_there I ha pa
  obtain ⟨o2, e2, _⟩ := obj_there I hb pb
  by_cases z : a = b
  · subst z
    exact wpAny_isNot_ref_self (fin_bl I q (by simp))
  · exact wpAny_isNot_ref_other z e1 e2 n1 (fin_bl I q (by simp [z]))

/-- two rules for one operation: by cases -/
theorem OpR.or {f : Value → Value → Sem Value} {r r' : R2} (h : OpR X f r) (h' : OpR X f r') : OpR X f (fun x y H Q => r x y H Q ∨ r' x y H Q) := by
  intro pins s σ H x y v u Q I rx ry q
  rcases q with q | q
  · exact h pins s σ H x y v u Q I rx ry q
  · exact h' pins s σ H x y v u Q I rx ry q

theorem nomark (b : Expr) {op : CmpOp} (h : op ≠ .In := by decide) (h2 : op ≠ .NotIn := by decide) : behindInMarks op b = false := by
  have e1 : (op == CmpOp.In) = false := by cases op <;> first | rfl | exact absurd rfl h
  have e2 : (op == CmpOp.NotIn) = false := by cases op <;> first | rfl | exact absurd rfl h2
  cases b <;> simp [behindInMarks, e1, e2]
/-- a comparison as a value; hm: nomark b, or (for in, not in) by with_unfolding_all rfl -/
theorem pe_cmpR {op : CmpOp} {r : R2} (ho : OpR X (compareOp op) r) (ha : PE X a ta) (hb : PE X b tb) (hm : behindInMarks op b = false) : PE X (.Compare a [op] [b] pos) (tOp r ta tb) := by
  intro pins s σ H Q I h
  exact wpAny_Compare1 (binT ha hb I h fun v u s2 x y H2 I2 rx ry q => ho pins s2 σ H2 x y v u Q I2 rx ry q) hm
/-- a reading of a value as a test -/
def tTest (t : TE) : TT := fun σ H Q => t σ H fun x H' => ∃ k, x = .bl k ∧ Q k H'
theorem pt_cmpR {op : CmpOp} {r : R2} (ho : OpR X (compareOp op) r) (ha : PE X a ta) (hb : PE X b tb) (hm : behindInMarks op b = false) : PT X (.Compare a [op] [b] pos) (tTest (tOp r ta tb)) := by
  intro pins s σ H Q I h
  refine wpAny_isTrue_Compare1 (thn (ha pins s σ H _ I h) fun v s1 ⟨x, H1, I1, r1, q1⟩ => thn (hb pins s1 σ H1 _ I1 q1) fun u s2 ⟨y, H2, I2, r2, q2⟩ =>
    thn (ho pins s2 σ H2 x y v u _ I2 r1 r2 q2) fun c s3 ⟨z, H3, I3, r3, k, e, q3⟩ => ?_) hm
  subst e
  cases r3
  exact wpAny_truthy_bool ⟨H3, I3, q3⟩
/-- a op1 b op2 c -/
def tChain (r r' : R2) (ta tb tc : TE) : TE := fun σ H Q => ta σ H fun x H1 => tb σ H1 fun y H2 => r x y H2 fun z H3 => ∃ k, z = .bl k ∧
  (if k = true then tc σ H3 fun w' H4 => r' y w' H4 Q else Q (.bl false) H3)
theorem pe_chain {op op' : CmpOp} {r r' : R2} (ho : OpR X (compareOp op) r) (ho' : OpR X (compareOp op') r') (ha : PE X a ta) (hb : PE X b tb) (hc : PE X c tc)
    (hm : lastMarks [op, op'] [b, c] = false := by with_unfolding_all rfl) : PE X (.Compare a [op, op'] [b, c] pos) (tChain r r' ta tb tc) := by
  intro pins s σ H Q I h
  refine Compare_chain (thn (ha pins s σ H _ I h) fun v s1 ⟨x, H1, I1, r1, q1⟩ => chain_link (thn (hb pins s1 σ H1 _ I1 q1) fun u s2 ⟨y, H2, I2, r2, q2⟩ =>
    thn (ho pins s2 σ H2 x y v u _ I2 r1 r2 q2) fun d s3 ⟨z, H3, I3, r3, k, e, q3⟩ => ?_)) hm
  subst e
  cases r3
  refine wpAny_truthy_bool ?_
  cases k with
  | false => exact ite_ff ⟨.bl false, H3, I3, rfl, q3⟩
  | true => exact ite_tt (chain_last (thn (hc pins s3 σ H3 _ I3 q3) fun w' s4 ⟨z', H4, I4, r4, q4⟩ => ho' pins s4 σ H4 y z' u w' Q I4 r2 r4 q4))
theorem pt_chain {op op' : CmpOp} {r r' : R2} (ho : OpR X (compareOp op) r) (ho' : OpR X (compareOp op') r') (ha : PE X a ta) (hb : PE X b tb) (hc : PE X c tc)
    (hm : lastMarks [op, op'] [b, c] = false := by with_unfolding_all rfl) : PT X (.Compare a [op, op'] [b, c] pos) (tTest (tChain r r' ta tb tc)) := by
  intro pins s σ H Q I h
  refine isTrue_chain (thn (ha pins s σ H _ I h) fun v s1 ⟨x, H1, I1, r1, q1⟩ => test_link (thn (hb pins s1 σ H1 _ I1 q1) fun u s2 ⟨y, H2, I2, r2, q2⟩ =>
    thn (ho pins s2 σ H2 x y v u _ I2 r1 r2 q2) fun d s3 ⟨z, H3, I3, r3, k, e, q3⟩ => ?_)) hm
  subst e
  cases r3
  refine wpAny_truthy_bool ?_
  cases k with
  | false =>
    obtain ⟨k', e', q'⟩ := q3
    cases e'
    exact ite_ff ⟨H3, I3, q'⟩
  | true =>
    refine ite_tt (test_last (thn (hc pins s3 σ H3 _ I3 q3) fun w' s4 ⟨z', H4, I4, r4, q4⟩ => thn (ho' pins s4 σ H4 y z' u w' _ I4 r2 r4 q4) fun d' s5 ⟨z2, H5, I5, r5, k2, e2, q5⟩ => ?_))
    subst e2
    cases r5
    exact wpAny_truthy_bool ⟨H5, I5, q5⟩

/-! ### truth -/
/-- a value's truth by the abstract heap -/
def TruV (K : PySem.W.Frag) (x : V) (H : Hp) (k : Bool) : Prop :=
  match x with
  | .non => k = false
  | .bl b => k = b
  | .int i => k = (i != 0)
  | .str y => y.length ≤ sizeLine ∧ k = ((y.length : Int) != 0)
  | .byt y => y.size ≤ sizeLine ∧ k = ((y.size : Int) != 0)
  | .ref p => (∃ xs, SqL K H p xs ∧ k = !xs.isEmpty) ∨ (∃ xs, SqT K H p xs ∧ k = !xs.isEmpty) ∨ ∃ kvs, H p = some (.dK kvs) ∧ k = !kvs.isEmpty
  | _ => False
theorem isEmpty_kv {κ : Type} {kvs : List (κ × V)} {vs : List (κ × Value)} (r : KV kvs vs) : (!vs.isEmpty) = !kvs.isEmpty := by
  cases r <;> rfl
theorem isEmpty_of {xs : List V} {its : List Value} (r : Vals xs its) : (!its.toArray.isEmpty) = !xs.isEmpty := by
  cases r <;> simp
theorem line63 : (sizeLine : Nat) < 2 ^ 63 := by rw [sizeLine_eq]; decide
theorem tru_ok : TruR X (fun x H Q => ∃ k, TruV X.K x H k ∧ Q k H) := by
  intro pins s σ H x v Q I rx h
  obtain ⟨k, e, q⟩ := h
  have hl := line63
  have hs : sizeLine = 16777216 := sizeLine_eq
  cases x with
  | non =>
    cases rx
    have e' : k = false := e
    subst e'
    exact truthy_none ⟨H, I, q⟩
  | bl b =>
    cases rx
    have e' : k = b := e
    subst e'
    exact wpAny_truthy_bool ⟨H, I, q⟩
  | int i =>
    obtain ⟨t, rfl⟩ := rx
    have e' : k = (i != 0) := e
    subst e'
    exact PySem.P.truthy_int ⟨H, I, q⟩
  | str y =>
    obtain ⟨t, rfl⟩ := rx
    obtain ⟨hy, e'⟩ : y.length ≤ sizeLine ∧ k = ((y.length : Int) != 0) := e
    subst e'
    exact PySem.P.truthy_str (by omega) ⟨H, I.tok _, q⟩
  | byt y =>
    obtain ⟨t, rfl⟩ := rx
    obtain ⟨hy, e'⟩ : y.size ≤ sizeLine ∧ k = ((y.size : Int) != 0) := e
    subst e'
    exact PySem.W.truthy_bytes (by omega) ⟨H, I.tok _, q⟩
  | ref p =>
    cases rx
    have e' : (∃ xs, SqL X.K H p xs ∧ k = !xs.isEmpty) ∨ (∃ xs, SqT X.K H p xs ∧ k = !xs.isEmpty) ∨ ∃ kvs, H p = some (.dK kvs) ∧ k = !kvs.isEmpty := e
    rcases e' with ⟨xs, hx, e'⟩ | ⟨xs, hx, e'⟩ | ⟨kvs, hx, e'⟩
    · subst e'
      obtain ⟨its, r, pl, hz⟩ := I.list hx
      have hlen := r.length
      exact wpAny_truthy_list pl.isList (by simp only [List.size_toArray]; omega) ⟨H, I.tok _, by rw [isEmpty_of r]; exact q⟩
    · subst e'
      obtain ⟨its, r, pl, hz⟩ := I.tuple hx
      have hlen := r.length
      exact truthy_tuple pl (by simp only [List.size_toArray]; omega) ⟨H, I.tok _, by rw [isEmpty_of r]; exact q⟩
    · subst e'
      obtain ⟨hz, hS, vs, r, m⟩ : kvs.length ≤ sizeLine ∧ (p == sysModules) = false ∧ ∃ vs, KV kvs vs ∧ s.heap.DictOf (mixKind X.prog X.w) p vs := I.hok p _ hx
      have hlen : kvs.length = vs.length := Paired.length r
      exact wpAny_truthy_dict hS m (by omega) ⟨H, I.tok _, by rw [isEmpty_kv r]; exact q⟩
  | _ => exact (show False from e).elim
/-- any expression whose test is its value's truth (a name, a call, a subscript, a field ..: he by fun _ => rfl) -/
theorem pt_truth (ha : PE X a ta) (he : ∀ whole, isTrue a X.env whole = (do let v ← whole; standAt a.pos; holding [v] (truthy v))) :
    PT X a (fun σ H Q => ta σ H fun x H' => ∃ k, TruV X.K x H' k ∧ Q k H') := by
  intro pins s σ H Q I h
  exact isTrue_plain (thn (ha pins s σ H _ I h) fun v s1 ⟨x, H1, I1, r1, q1⟩ => tru_ok pins s1 σ H1 x v Q I1 r1 q1) (he _)

/-! ### strs and bytes -/
theorem pe_byt {x : List UInt8} {k : Nat} : PE X (.Constant (.bytes x) k pos) (fun _ H Q => Q (.byt x.toArray) H) := fun _ _ _ H _ I h => PySem.W.Constant_bytes ⟨.byt x.toArray, H, I.tok _, ⟨_, rfl⟩, h⟩
theorem op_add_str : OpR X (binaryOp .Add) (fun x y H Q => ∃ i j, x = .str i ∧ y = .str j ∧ i.length + j.length ≤ sizeLine ∧ Q (.str (i ++ j)) H) := by
  intro pins s σ H x y v u Q I rx ry h
  obtain ⟨i, j, rfl, rfl, hz, q⟩ := h
  obtain ⟨t, rfl⟩ := rx
  obtain ⟨t', rfl⟩ := ry
  exact add_str (fun t' tk => ⟨.str (i ++ j), H, I.tok _, ⟨_, rfl⟩, q⟩) hz
theorem iop_add_str : OpR X (inplaceOp .Add) (fun x y H Q => ∃ i j, x = .str i ∧ y = .str j ∧ i.length + j.length ≤ sizeLine ∧ Q (.str (i ++ j)) H) := by
  intro pins s σ H x y v u Q I rx ry h
  obtain ⟨i, j, rfl, rfl, hz, q⟩ := h
  obtain ⟨t, rfl⟩ := rx
  obtain ⟨t', rfl⟩ := ry
  exact iadd_str (fun t' tk => ⟨.str (i ++ j), H, I.tok _, ⟨_, rfl⟩, q⟩) hz
theorem op_add_byt : OpR X (binaryOp .Add) (fun x y H Q => ∃ i j, x = .byt i ∧ y = .byt j ∧ i.size + j.size ≤ 16777216 ∧ Q (.byt (i ++ j)) H) := by
  intro pins s σ H x y v u Q I rx ry h
  obtain ⟨i, j, rfl, rfl, hz, q⟩ := h
  obtain ⟨t, rfl⟩ := rx
  obtain ⟨t', rfl⟩ := ry
  exact PySem.W.KBy.add_bytes hz (fun t' tk => ⟨.byt (i ++ j), H, I.tok _, ⟨_, rfl⟩, q⟩)

def PlainIxT (b : Expr) : Prop := ∀ o i, subscripted b false o i = operate [o, i] (getItem o i)
/-- s[i], 0 ≤ i < len -/
theorem pe_item_str (ha : PE X a ta) (hb : PE X b tb) (hs : PlainIxT b) :
    PE X (.Subscript a b pos) (tOp (fun x y H Q => ∃ z i c, x = .str z ∧ y = .int i ∧ 0 ≤ i ∧ i < 2 ^ 63 ∧ i < z.length ∧ z.cps[i.toNat]? = some c ∧ Q (.str ⟨#[c]⟩) H) ta tb) := by
  intro pins s σ H Q I h
  refine Subscript_ (binT ha hb I h fun v u s2 x y H2 I2 rx ry q => ?_)
  obtain ⟨z, i, c, rfl, rfl, h0, h63, h1, hc, q⟩ := q
  obtain ⟨t, rfl⟩ := rx
  obtain ⟨t', rfl⟩ := ry
  have e : seqIndex? i z.length = some i.toNat := PySem.StrLaws.seqIndex_nonneg h0 h1
  exact tail_any (typeIs_str s2 z t) slot_str_getitem.lookup (getItem_str (c := c) (by
    have e1 : decide (i < -(2 ^ 63 : Int)) = false := decide_eq_false (by omega)
    have e2 : decide (i ≥ 2 ^ 63) = false := decide_eq_false (by omega)
    rw [e1, e2] <;> rfl) (by rw [e]; exact hc) ⟨.str ⟨#[c]⟩, H2, I2.tok _, ⟨_, rfl⟩, q⟩) (hs _ _)
/-- b[i], 0 ≤ i < len -/
theorem pe_item_byt (ha : PE X a ta) (hb : PE X b tb) (hs : PlainIxT b) :
    PE X (.Subscript a b pos) (tOp (fun x y H Q => ∃ (z : List UInt8) (i : Int), x = .byt z.toArray ∧ y = .int i ∧ z.length ≤ sizeLine ∧ 0 ≤ i ∧ i < z.length ∧ Q (.int ((z.getD i.toNat 0).toNat : Nat)) H) ta tb) := by
  intro pins s σ H Q I h
  refine Subscript_ (binT ha hb I h fun v u s2 x y H2 I2 rx ry q => ?_)
  obtain ⟨z, i, rfl, rfl, hz, h0, h1, q⟩ := q
  obtain ⟨t, rfl⟩ := rx
  obtain ⟨t', rfl⟩ := ry
  have hl : sizeLine = 16777216 := sizeLine_eq
  exact tail_any (PySem.W.typeIs_bytes s2 z.toArray t) PySem.W.FB.slot_bytes_getitem.lookup (PySem.W.getItem_bytes (by omega) h0 h1 ⟨.int ((z.getD i.toNat 0).toNat : Nat), H2, I2.tok _, ⟨_, rfl⟩, q⟩) (hs _ _)

/-! ### scalar builtins, by CallR -/
theorem vals1 {x : V} {us : List Value} (r : Vals [x] us) : ∃ u, us = [u] ∧ RelV x u := by
  cases r with
  | cons r1 r2 => cases r2; exact ⟨_, rfl, r1⟩
theorem vals2 {x y : V} {us : List Value} (r : Vals [x, y] us) : ∃ u w', us = [u, w'] ∧ RelV x u ∧ RelV y w' := by
  cases r with
  | cons r1 r2 =>
    cases r2 with
    | cons r3 r4 => cases r4; exact ⟨_, _, rfl, r1, r3⟩
theorem call_abs : CallR X (.builtin "abs") (fun xs H Q => ∃ i, xs = [.int i] ∧ Q (.int (if i < 0 then -i else i)) H) := by
  intro pins s σ H xs us Q I r h
  obtain ⟨i, rfl, q⟩ := h
  obtain ⟨u, rfl, t, rfl⟩ := vals1 r
  exact call_abs_int fun u tk => ⟨.int (if i < 0 then -i else i), H, I.tok _, ⟨_, rfl⟩, q⟩
theorem call_max2 (hc : X.calm = true) : CallR X (.builtin "max") (fun xs H Q => ∃ i j, xs = [.int i, .int j] ∧ Q (.int (if j > i then j else i)) H) := by
  intro pins s σ H xs us Q I r h
  obtain ⟨i, j, rfl, q⟩ := h
  obtain ⟨u, w', rfl, ⟨t, rfl⟩, ⟨t', rfl⟩⟩ := vals2 r
  refine max_two_ints (I.ok.hd hc) fun h' tk k => ⟨_, H, I.kept k, ?_, q⟩
  by_cases hj : j > i
  · rw [if_pos hj, if_pos hj]; exact ⟨_, rfl⟩
  · rw [if_neg hj, if_neg hj]; exact ⟨_, rfl⟩
theorem call_min2 (hc : X.calm = true) : CallR X (.builtin "min") (fun xs H Q => ∃ i j, xs = [.int i, .int j] ∧ Q (.int (if j < i then j else i)) H) := by
  intro pins s σ H xs us Q I r h
  obtain ⟨i, j, rfl, q⟩ := h
  obtain ⟨u, w', rfl, ⟨t, rfl⟩, ⟨t', rfl⟩⟩ := vals2 r
  refine min_two_ints (I.ok.hd hc) fun h' tk k => ⟨_, H, I.kept k, ?_, q⟩
  by_cases hj : j < i
  · rw [if_pos hj, if_pos hj]; exact ⟨_, rfl⟩
  · rw [if_neg hj, if_neg hj]; exact ⟨_, rfl⟩
theorem call_int1 : CallR X (.type "int") (fun xs H Q => (∃ i, xs = [.int i] ∧ Q (.int i) H) ∨ ∃ k, xs = [.bl k] ∧ Q (.int (if k then 1 else 0)) H) := by
  intro pins s σ H xs us Q I r h
  rcases h with ⟨i, rfl, q⟩ | ⟨k, rfl, q⟩
  · obtain ⟨u, rfl, t, rfl⟩ := vals1 r
    exact call_int_int ⟨.int i, H, I, ⟨_, rfl⟩, q⟩
  · obtain ⟨u, rfl, r1⟩ := vals1 r
    cases r1
    exact call_int_bool ⟨.int (if k then 1 else 0), H, I.tok _, ⟨_, rfl⟩, q⟩
theorem call_bool1 : CallR X (.type "bool") (fun xs H Q => (∃ i, xs = [.int i] ∧ Q (.bl (i != 0)) H) ∨ ∃ k, xs = [.bl k] ∧ Q (.bl k) H) := by
  intro pins s σ H xs us Q I r h
  rcases h with ⟨i, rfl, q⟩ | ⟨k, rfl, q⟩
  · obtain ⟨u, rfl, t, rfl⟩ := vals1 r
    exact call_bool_int ⟨.bl (i != 0), H, I, rfl, q⟩
  · obtain ⟨u, rfl, r1⟩ := vals1 r
    cases r1
    exact call_bool_bool ⟨.bl k, H, I, rfl, q⟩
theorem call_str_int : CallR X (.type "str") (fun xs H Q => ∃ i, xs = [.int i] ∧ i.natAbs.log2 < 1920 ∧ Q (.str (toString i)) H) := by
  intro pins s σ H xs us Q I r h
  obtain ⟨i, rfl, hz, q⟩ := h
  obtain ⟨u, rfl, t, rfl⟩ := vals1 r
  exact PySem.P.str_of_int hz ⟨.str _, H, I.tok _, ⟨_, rfl⟩, q⟩
theorem call_ord : CallR X (.builtin "ord") (fun xs H Q => ∃ x, xs = [.str x] ∧ x.length = 1 ∧ Q (.int (x.cps.getD 0 0 : Nat)) H) := by
  intro pins s σ H xs us Q I r h
  obtain ⟨x, rfl, hz, q⟩ := h
  obtain ⟨u, rfl, t, rfl⟩ := vals1 r
  exact ord_of_one hz ⟨.int _, H, I.tok _, ⟨_, rfl⟩, q⟩
theorem call_chr : CallR X (.builtin "chr") (fun xs H Q => ∃ i, xs = [.int i] ∧ 0 ≤ i ∧ i ≤ 1114111 ∧ Q (.str ⟨#[i.toNat]⟩) H) := by
  intro pins s σ H xs us Q I r h
  obtain ⟨i, rfl, h0, h1, q⟩ := h
  obtain ⟨u, rfl, t, rfl⟩ := vals1 r
  exact chr_of_range h0 h1 ⟨.str _, H, I.tok _, ⟨_, rfl⟩, q⟩
/-- len of a str, a bytes, a list, a tuple -/
def LenV (K : PySem.W.Frag) (x : V) (H : Hp) (n : Nat) : Prop :=
  match x with
  | .str y => y.length ≤ sizeLine ∧ n = y.length
  | .byt y => y.size ≤ sizeLine ∧ n = y.size
  | .ref p => (∃ xs, SqL K H p xs ∧ n = xs.length) ∨ ∃ xs, SqT K H p xs ∧ n = xs.length
  | _ => False
theorem call_len : CallR X (.builtin "len") (fun xs H Q => ∃ x n, xs = [x] ∧ LenV X.K x H n ∧ Q (.int n) H) := by
  intro pins s σ H xs us Q I r h
  obtain ⟨x, n, rfl, e, q⟩ := h
  obtain ⟨u, rfl, rx⟩ := vals1 r
  have hl := line63
  have hs : sizeLine = 16777216 := sizeLine_eq
  cases x with
  | str y =>
    obtain ⟨t, rfl⟩ := rx
    obtain ⟨hy, e'⟩ : y.length ≤ sizeLine ∧ n = y.length := e
    subst e'
    exact len_str (by omega) ⟨.int _, H, I.tok _, ⟨_, rfl⟩, q⟩
  | byt y =>
    obtain ⟨t, rfl⟩ := rx
    obtain ⟨hy, e'⟩ : y.size ≤ sizeLine ∧ n = y.size := e
    subst e'
    exact PySem.W.len_bytes (by omega) ⟨.int _, H, I.tok _, ⟨_, rfl⟩, q⟩
  | ref p =>
    cases rx
    have e' : (∃ xs, SqL X.K H p xs ∧ n = xs.length) ∨ ∃ xs, SqT X.K H p xs ∧ n = xs.length := e
    rcases e' with ⟨xs, hx, e'⟩ | ⟨xs, hx, e'⟩
    · subst e'
      obtain ⟨its, r', pl, hz⟩ := I.list hx
      have hlen := r'.length
      exact Calls.call_len_list pl.isList (by simp only [List.size_toArray]; omega) ⟨.int xs.length, H, I.tok _, ⟨_, by simp only [List.size_toArray]; rw [hlen]⟩, q⟩
    · subst e'
      obtain ⟨its, r', pl, hz⟩ := I.tuple hx
      have hlen := r'.length
      exact len_tuple pl (by simp only [List.size_toArray]; omega) ⟨.int xs.length, H, I.tok _, ⟨_, by simp only [List.size_toArray]; rw [hlen]⟩, q⟩
  | _ => exact (show False from e).elim
/-- divmod: a new tuple -/
theorem call_divmod : CallR X (.builtin "divmod") (fun xs H Q => ∃ i j, xs = [.int i, .int j] ∧ CDiv i j ∧ ∀ p, H p = none → Q (.ref p) (upd H p (.tup [.int (i / j), .int (i % j)]))) := by
  intro pins s σ H xs us Q I r h
  obtain ⟨i, j, rfl, ⟨h1, h2⟩, q⟩ := h
  obtain ⟨u, w', rfl, ⟨t, rfl⟩, ⟨t', rfl⟩⟩ := vals2 r
  refine divmod_int (by omega) ?_ (.inl (PyProof.noPylong_small (by omega)))
  rw [Int.fdiv_eq_ediv_of_nonneg i (by omega), Int.fmod_eq_emod_of_nonneg i (by omega)]
  have hn : H s.heap.objs.size = none := I.hok.fresh (Nat.le_refl _)
  refine ⟨.ref s.heap.objs.size, _, ?_, rfl, q _ hn⟩
  refine I.laid (fun b o e => Heap.get?_push_of_some _ e) (Nat.le_refl _) ⟨by simp only [List.length_cons, List.length_nil]; rw [sizeLine_eq]; decide, [.int (i / j) s.toks, .int (i % j) (s.toks + 1)], .cons ⟨_, rfl⟩ (.cons ⟨_, rfl⟩ .nil), ?_⟩
  exact ⟨_, Heap.get?_push_size s.heap rfl, rfl, 0, rfl⟩
end
end L2

namespace L2
open PySem PySem.Spec PyProof.Rows

/-! ### an instance, its attributes a map -/
structure ObjM (h : Heap) (x dx C : Addr) (mA : Str → Option Value) : Prop where
  obj : h.get? x = some (PySem.W.instObj C dx)
  ns : h.Ns1 dx mA
  ne : dx ≠ x

theorem lookIn_ns {h : Heap} {dx : Addr} {mA : Str → Option Value} (n : h.Ns1 dx mA) : ∃ od, h.get? dx = some od ∧ ∀ name, PySem.W.lookIn name od = some (mA name) := by
  obtain ⟨o, es, ep, ho, hd, hk, _, hm⟩ := n
  refine ⟨o, ho, fun name => ?_⟩
  have e := hm name
  unfold nsFind findBy at e
  rw [← Array.find?_toList] at e
  unfold PySem.W.lookIn
  rw [hd]
  dsimp only
  split
  · rename_i y q
    rw [q] at e
    exact congrArg some e
  · rename_i q
    rw [q] at e
    have a : es.toList.any (·.refKey) = false := by
      rw [List.any_eq_false]
      intro y hy
      obtain ⟨z, t, hkey⟩ := hk y (Array.mem_toList_iff.mp hy)
      simp [DictEntry.refKey, hkey]
    have a' : ¬ es.toList.any (·.refKey) = true := by rw [a]; exact Bool.false_ne_true
    rw [if_neg a']
    exact congrArg some e

theorem ObjM.look {h : Heap} {x dx C : Addr} {mA : Str → Option Value} (I : ObjM h x dx C mA) : ∃ od, PySem.W.InstAt h x (PySem.W.instObj C dx) C (some od) ∧ ∀ name, PySem.W.lookIn name od = some (mA name) :=
  let ⟨od, ho, hl⟩ := lookIn_ns I.ns
  ⟨od, ⟨I.obj, rfl, rfl, ho⟩, hl⟩

section
variable {prog : Program} {w : World} {A : Around} {E : Value → Shared → Prop} {s : Shared} {K : PySem.W.Frag} {x dx C f : Addr} {mA : Str → Option Value} {name : Str} {v : Value}

theorem get_map {expr : Bool} {Q : Value → Shared → Prop} (X : K.In s.heap) (I : ObjM s.heap x dx C mA) (hg : PySem.W.plainGet K C name = true) (hh : PySem.W.hasDictIn K C = true)
    (ha : PySem.W.findIn K (.ref C) name = some none) (hv : mA name = some v) (hv' : PySem.W.handedIn v = true) (h : Q v { s with toks := s.toks + 1 }) :
    wpAny (model prog w) A (getAttr (.ref x) name expr) Q E s := by
  obtain ⟨od, J, hl⟩ := I.look
  exact PySem.W.get_value X J (PySem.W.plainGet_of hg).1 (PySem.W.findObj_own hh ha rfl (by rw [hl, hv])) hv' h

theorem get_const {expr : Bool} {a : Value} {Q : Value → Shared → Prop} (X : K.In s.heap) (I : ObjM s.heap x dx C mA) (hg : PySem.W.plainGet K C name = true) (hh : PySem.W.hasDictIn K C = true)
    (ha : PySem.W.findIn K (.ref C) name = some (some a)) (hn : PySem.W.specialIn K a "__get__" = some none) (hc : PySem.W.copiedNames.contains name = false) (hv : mA name = none) (hv' : PySem.W.handedIn a = true)
    (h : Q a { s with toks := s.toks + 1 }) : wpAny (model prog w) A (getAttr (.ref x) name expr) Q E s := by
  obtain ⟨od, J, hl⟩ := I.look
  exact PySem.W.get_value X J (PySem.W.plainGet_of hg).1 (PySem.W.findObj_cls hh ha hn hv' hc (by rw [hl, hv])) hv' h

theorem get_meth {pl : Sem Bool} {Q : Value × List Value → Shared → Prop} (X : K.In s.heap) (I : ObjM s.heap x dx C mA) (hg : PySem.W.plainGet K C name = true)
    (hf : PySem.W.findIn K (.ref C) name = some (some (.ref f))) (ht : PySem.W.isFn K (.ref f) = true) (hv : mA name = none) (h : Q (.ref f, [.ref x]) s) :
    wpAny (model prog w) A (getMethod (.ref x) name pl) Q E s := by
  obtain ⟨od, J, hl⟩ := I.look
  exact PySem.W.method_fn X J (PySem.W.plainGet_of hg).1 (PySem.W.plainGet_of hg).2 hf (beq_iff_eq.mp ht) (by show (PySem.W.lookIn name od).map (·.isSome) = some false; rw [hl, hv]; rfl) h

theorem set_map {ns : List Str} {Q : Unit → Shared → Prop} (X : K.In s.heap) (I : ObjM s.heap x dx C mA)
    (hs : PySem.W.findIn K (.ref C) "__setattr__" = some (some (.builtin "object.__setattr__"))) (hp : PySem.W.plainOver K C = true) (ht : PySem.W.takerIn K C name = some none) (hh : PySem.W.hasDictIn K C = true)
    (hw : PySem.Within mA ns) (hsz : ns.length ≤ sizeLine)
    (h : ∀ h', ObjM h' x dx C (fun y => if y = name then some v else mA y) → Heap.SameBut dx s.heap h' → Q () { s with heap := h', toks := s.toks + 2 }) :
    wpAny (model prog w) A (setAttr (.ref x) name v) Q E s := by
  obtain ⟨od, J, hl⟩ := I.look
  refine PySem.W.set_plain X J hs (PySem.W.osa_open (s := { s with toks := s.toks + 1 }) (r := none) X J hp ht fun b => ?_)
  obtain ⟨cd, hc, hd'⟩ := PySem.W.any_some hh
  have hx : s.heap.get? x = some ⟨.ref C, some dx, .plain, #[]⟩ := I.obj
  refine wpAny_bind (wpAny_pure (wpAny_bind (wpAny_bind (wpAny_loadPart hx (wpAny_bind (PySem.W.Looks.here (s := { s with toks := s.toks + 1 }) (PySem.W.looks_clsIn X hc) ?_))))))
  rw [hd']
  refine wpAny_pure (a := some dx) (wpAny_bind (wpAny_pure (wpAny_bind ?_)))
  refine wpAny_nsSet1 (s := { s with toks := s.toks + 1 }) I.ns fun h' hn2 hs2 => ?_
  obtain ⟨oD, esD, epD, hoD, hdD, hcD⟩ := hn2.count (PySem.Within.cons name v hw)
  refine wpAny_bind (wpAny_lookBehind hoD (by rw [hdD]; exact pastItsLine_dict (Nat.le_trans hcD (by rw [List.length_cons]; omega))) ?_)
  exact wpAny_pure (h _ ⟨(hs2.2 _ (Ne.symm I.ne)).trans I.obj, hn2, I.ne⟩ hs2)

/-- C(..): the dict at the heap's end, the instance behind it; then its __init__ -/
theorem make_map {R : Result → Shared → Prop} {vs : List Value} {kw : List (Str × Value)} (X : K.In s.heap) (hm : PySem.W.makesIn K C = true)
    (hi : PySem.W.findIn K (.ref C) "__init__" = some (some (.ref f))) (hf : PySem.W.typeIn K (.ref f) = some (.type "function"))
    (h : codeAny (model prog w) (A.under (.builtin "type.__call__" ⟨.ref C :: vs, kw⟩)) (.call (.ref f) ⟨.ref (s.heap.objs.size + 1) :: vs, kw⟩) (PySem.W.InitBack (s.heap.objs.size + 1) R)
      { s with heap := (s.heap.push PySem.W.emptyDict).push (PySem.W.instObj C s.heap.objs.size) }) :
    codeAny (model prog w) A (.call (.ref C) ⟨vs, kw⟩) R s := by
  obtain ⟨hh, g, d, t, os⟩ := s
  exact PySem.W.make_core (PySem.W.makes_of X hm) (PySem.W.looks_findIn X hi) (fun self => PySem.W.bind_fn X self hf) (.inl rfl) h
/-- C() where there is no __init__ but object's -/
theorem make_map0 {R : Result → Shared → Prop} (X : K.In s.heap) (hm : PySem.W.makesIn K C = true)
    (hi : PySem.W.findIn K (.ref C) "__init__" = some (some (.builtin "object.__init__")))
    (hb : ∀ self, PySem.W.Looks (model prog w) s.heap (bindSpecial (.builtin "object.__init__") self) (.builtin "object.__init__", [self]))
    (h : codeAny (model prog w) (A.under (.builtin "type.__call__" ⟨[.ref C], []⟩)) (.call (.builtin "object.__init__") ⟨[.ref (s.heap.objs.size + 1)], []⟩) (PySem.W.InitBack (s.heap.objs.size + 1) R)
      { s with heap := (s.heap.push PySem.W.emptyDict).push (PySem.W.instObj C s.heap.objs.size) }) :
    codeAny (model prog w) A (.call (.ref C) ⟨[], []⟩) R s := by
  obtain ⟨hh, g, d, t, os⟩ := s
  exact PySem.W.make_core (PySem.W.makes_of X hm) (PySem.W.looks_findIn X hi) hb (.inr ⟨rfl, rfl⟩) h
end

/-! ### the attributes as a list of pairs -/
def putF (f : Str) (v : V) : List (Str × V) → List (Str × V)
  | [] => [(f, v)]
  | (g, x) :: r => if g = f then (g, v) :: r else (g, x) :: putF f v r
theorem lookup_putF (f g : Str) (v : V) : ∀ fs : List (Str × V), (putF f v fs).lookup g = if g = f then some v else fs.lookup g
  | [] => by
    show List.lookup g [(f, v)] = _
    by_cases h : g = f
    · have hb : (g == f) = true := beq_iff_eq.mpr h
      simp only [List.lookup, hb, if_pos h]
    · have hb : (g == f) = false := beq_eq_false_iff_ne.mpr h
      simp only [List.lookup, hb, if_neg h]
  | (k, x) :: r => by
    have ih := lookup_putF f g v r
    rw [show putF f v ((k, x) :: r) = (if k = f then (k, v) :: r else (k, x) :: putF f v r) from rfl]
    by_cases hk : k = f
    · rw [if_pos hk]
      by_cases h : g = k
      · have hb : (g == k) = true := beq_iff_eq.mpr h
        simp only [List.lookup, hb, if_pos (h.trans hk)]
      · have hb : (g == k) = false := beq_eq_false_iff_ne.mpr h
        simp only [List.lookup, hb, if_neg (fun e : g = f => h (e.trans hk.symm))]
    · rw [if_neg hk]
      by_cases h : g = k
      · have hb : (g == k) = true := beq_iff_eq.mpr h
        simp only [List.lookup, hb, if_neg (fun e : g = f => hk (h.symm.trans e))]
      · have hb : (g == k) = false := beq_eq_false_iff_ne.mpr h
        simp only [List.lookup, hb]
        exact ih
theorem keys_putF (f : Str) (v : V) : ∀ fs : List (Str × V), f ∈ (putF f v fs).map (·.1) ∧ ∀ g, g ∈ fs.map (·.1) → g ∈ (putF f v fs).map (·.1)
  | [] => ⟨by simp [putF], fun g h => by simp at h⟩
  | (k, x) :: r => by
    obtain ⟨i1, i2⟩ := keys_putF f v r
    rw [show putF f v ((k, x) :: r) = (if k = f then (k, v) :: r else (k, x) :: putF f v r) from rfl]
    by_cases hk : k = f
    · rw [if_pos hk]
      subst hk
      exact ⟨by simp, fun g h => by simpa using h⟩
    · rw [if_neg hk]
      refine ⟨?_, fun g h => ?_⟩
      · rw [List.map_cons]
        exact List.mem_cons_of_mem _ i1
      · rw [List.map_cons] at h ⊢
        rcases List.mem_cons.mp h with e | e
        · exact List.mem_cons.mpr (.inl e)
        · exact List.mem_cons_of_mem _ (i2 g e)
theorem length_putF (f : Str) (v : V) : ∀ fs : List (Str × V), (putF f v fs).length ≤ fs.length + 1
  | [] => by simp [putF]
  | (k, x) :: r => by
    have ih := length_putF f v r
    rw [show putF f v ((k, x) :: r) = (if k = f then (k, v) :: r else (k, x) :: putF f v r) from rfl]
    by_cases hk : k = f
    · rw [if_pos hk, List.length_cons, List.length_cons]; omega
    · rw [if_neg hk, List.length_cons, List.length_cons]; omega

theorem RelO.some_of {v : V} {o : Option Value} (r : RelO (some v) o) : ∃ u, o = some u ∧ RelV v u := by
  cases o with
  | none => exact (show False from r).elim
  | some u => exact ⟨u, rfl, r⟩
theorem RelO.none_of {o : Option Value} (r : RelO none o) : o = none := by
  cases o with
  | none => rfl
  | some u => exact (show False from r).elim
theorem handed_of {v : V} {u : Value} (r : RelV v u) : PySem.W.handedIn u = true := by
  cases v with
  | non => cases (show u = Value.none from r); rfl
  | bl b => cases (show u = Value.bool b from r); rfl
  | int i => obtain ⟨t, e⟩ := (show ∃ t, u = Value.int i t from r); cases e; rfl
  | str x => obtain ⟨t, e⟩ := (show ∃ t, u = Value.str x t from r); cases e; rfl
  | byt b => obtain ⟨t, e⟩ := (show ∃ t, u = Value.bytes b t from r); cases e; rfl
  | flt b => obtain ⟨t, e⟩ := (show ∃ t, u = Value.float b t from r); cases e; rfl
  | ref a => cases (show u = Value.ref a from r); rfl
  | ty n => cases (show u = Value.type n from r); rfl

section
variable {P : Program} {w : World} {H H' : Hp} {h h' : Heap} {a C dx : Addr} {fs fs' : List (Str × V)}
theorem ins_get (hok : HOk P w H h) (e : H a = some (.ins C dx fs)) : ∃ mA, ObjM h a dx C mA ∧ (∀ f, RelO (fs.lookup f) (mA f)) ∧ PySem.Within mA (fs.map (·.1)) ∧ fs.length ≤ 1000 ∧ H dx = some (.own a) := by
  obtain ⟨d, z, ne, ob, mA, n, r, q⟩ := (show ObjOk P w H h a (.ins C dx fs) from hok a _ e)
  exact ⟨mA, ⟨ob, n, ne⟩, r, q, z, d⟩
end

/-! ### what of the text a class must have -/
structure Cls (K : PySem.W.Frag) (C : Addr) : Prop where
  pg : PySem.W.plainGet K C Str.empty = true
  hd : PySem.W.hasDictIn K C = true
  po : PySem.W.plainOver K C = true
  sa : PySem.W.findIn K (.ref C) "__setattr__" = some (some (.builtin "object.__setattr__"))
theorem Cls.get {K : PySem.W.Frag} {C : Addr} (c : Cls K C) (f : Str) : PySem.W.plainGet K C f = true := c.pg
/-- no class of it has the name -/
def NoAttr (K : PySem.W.Frag) (C : Addr) (f : Str) : Prop := PySem.W.findIn K (.ref C) f = some none
theorem NoAttr.taker {K : PySem.W.Frag} {C : Addr} {f : Str} (n : NoAttr K C f) : PySem.W.takerIn K C f = some none := by
  unfold PySem.W.takerIn
  rw [show PySem.W.findIn K (.ref C) f = some none from n]
  rfl
/-- a constant of the class -/
structure Con (K : PySem.W.Frag) (C : Addr) (f : Str) (v : V) (u : Value) : Prop where
  at_ : PySem.W.findIn K (.ref C) f = some (some u)
  rel : RelV v u
  get : PySem.W.specialIn K u "__get__" = some none
  cp : PySem.W.copiedNames.contains f = false
/-- a method: a plain def of the class or of one above it -/
structure Meth (K : PySem.W.Frag) (C : Addr) (m : Str) (f : Addr) : Prop where
  at_ : PySem.W.findIn K (.ref C) m = some (some (.ref f))
  fn : PySem.W.isFn K (.ref f) = true
  kp : PySem.W.keepIn K (.ref f) = true

section
variable {X : Cx} {pins : List (Addr × Obj)} {σ : St} {H : Hp} {s : Shared} {a C dx : Addr} {fs : List (Str × V)} {f : Str} {v : V} {A : Around} {E : Value → Shared → Prop}

theorem getattr_ok {b : Bool} {Q : Value → Shared → Prop} (I : Inv X pins σ H s) (e : H a = some (.ins C dx fs)) (c : Cls X.K C) (n : NoAttr X.K C f) (l : fs.lookup f = some v)
    (h : ∀ u s', Inv X pins σ H s' → RelV v u → Q u s') : wpAny (model X.prog X.w) A (getAttr (.ref a) f b) Q E s := by
  obtain ⟨mA, O, r, _, _, _⟩ := ins_get I.hok e
  obtain ⟨u, hu, ru⟩ := RelO.some_of (v := v) (o := mA f) (by rw [← l]; exact r f)
  exact get_map I.kIn O (c.get f) c.hd n hu (handed_of ru) (h u _ (I.tok _) ru)

theorem getcon_ok {b : Bool} {u : Value} {Q : Value → Shared → Prop} (I : Inv X pins σ H s) (e : H a = some (.ins C dx fs)) (c : Cls X.K C) (k : Con X.K C f v u) (l : fs.lookup f = none)
    (h : ∀ s', Inv X pins σ H s' → Q u s') : wpAny (model X.prog X.w) A (getAttr (.ref a) f b) Q E s := by
  obtain ⟨mA, O, r, _, _, _⟩ := ins_get I.hok e
  have hn : mA f = none := RelO.none_of (by rw [← l]; exact r f)
  exact get_const I.kIn O (c.get f) c.hd k.at_ k.get k.cp hn (handed_of k.rel) (h _ (I.tok _))

theorem getmeth_ok {m : Str} {g : Addr} {pl : Sem Bool} {Q : Value × List Value → Shared → Prop} (I : Inv X pins σ H s) (e : H a = some (.ins C dx fs)) (c : Cls X.K C) (k : Meth X.K C m g) (l : fs.lookup m = none)
    (h : Q (.ref g, [.ref a]) s) : wpAny (model X.prog X.w) A (getMethod (.ref a) m pl) Q E s := by
  obtain ⟨mA, O, r, _, _, _⟩ := ins_get I.hok e
  have hn : mA m = none := RelO.none_of (by rw [← l]; exact r m)
  exact get_meth I.kIn O (c.get m) k.at_ k.fn hn h

theorem setattr_ok {y : V} {u : Value} {Q : Unit → Shared → Prop} (I : Inv X pins σ H s) (e : H a = some (.ins C dx fs)) (c : Cls X.K C) (n : NoAttr X.K C f) (hl : fs.length < 1000) (ry : RelV y u)
    (h : ∀ s', Inv X pins σ (upd H a (.ins C dx (putF f y fs))) s' → Q () s') : wpAny (model X.prog X.w) A (setAttr (.ref a) f u) Q E s := by
  obtain ⟨mA, O, r, wi, _, ho⟩ := ins_get I.hok e
  have hz : (fs.map (·.1)).length ≤ sizeLine := by rw [List.length_map, sizeLine_eq]; omega
  refine set_map I.kIn O c.sa c.po n.taker c.hd wi hz fun h' O' sb => h _ ?_
  have hd : ∃ o, h'.get? dx = some o := let ⟨o, _, _, e', _⟩ := O'.ns; ⟨o, e'⟩
  refine I.write (x := a) (e := dx) (by rw [e]; exact True.intro) (.inr ho) (fun b q hb z => (sb.2 b hb).trans z) hd ?_
  refine ⟨by rw [upd_ne O.ne]; exact ho, ?_, O.ne, O'.obj, _, O'.ns, fun g => ?_, fun g hg => ?_⟩
  · have := length_putF f y fs; omega
  · show RelO ((putF f y fs).lookup g) (if g = f then some u else mA g)
    rw [lookup_putF]
    by_cases q : g = f
    · rw [if_pos q, if_pos q]; exact ry
    · rw [if_neg q, if_neg q]; exact r g
  · by_cases q : g = f
    · rw [q]; exact (keys_putF f y fs).1
    · refine (keys_putF f y fs).2 g (wi g fun z => hg ?_)
      show (if g = f then some u else mA g) = none
      rw [if_neg q]; exact z

/-- a new instance, tracked, without attributes -/
theorem Inv.made (I : Inv X pins σ H s) : Inv X pins σ (upd (upd H s.heap.objs.size (.own (s.heap.objs.size + 1))) (s.heap.objs.size + 1) (.ins C s.heap.objs.size []))
    { s with heap := (s.heap.push PySem.W.emptyDict).push (PySem.W.instObj C s.heap.objs.size) } := by
  have e1 : (s.heap.push PySem.W.emptyDict).get? s.heap.objs.size = some PySem.W.emptyDict := Heap.get?_push_size s.heap rfl
  have e2 : ((s.heap.push PySem.W.emptyDict).push (PySem.W.instObj C s.heap.objs.size)).get? (s.heap.objs.size + 1) = some (PySem.W.instObj C s.heap.objs.size) := by
    have := Heap.get?_push_size (s.heap.push PySem.W.emptyDict) (o := PySem.W.instObj C s.heap.objs.size) rfl
    rwa [Heap.size_push] at this
  have e3 : (s.heap.push PySem.W.emptyDict).Ns s.heap.objs.size (fun _ => none) := ⟨PySem.W.emptyDict, #[], _, e1, rfl, (fun e he => absurd he (by simp)), fun _ => rfl⟩
  have I1 := I.laid (a := s.heap.objs.size) (o := .own (s.heap.objs.size + 1)) (h' := s.heap.push PySem.W.emptyDict) (t' := s.toks) (fun b u q => Heap.get?_push_of_some _ q) (Nat.le_refl _) ⟨_, e1⟩
  refine I1.laid (a := s.heap.objs.size + 1) (o := .ins C s.heap.objs.size []) (t' := s.toks) (fun b u q => Heap.get?_push_of_some _ q) (Nat.le_of_eq (Heap.size_push _ _)) ?_
  have ne : s.heap.objs.size ≠ s.heap.objs.size + 1 := Nat.ne_of_lt (Nat.lt_succ_self _)
  refine ⟨by rw [upd_ne ne, upd_same], Nat.zero_le _, ne, e2, fun _ => none, (Heap.Ns1.of_empty e3).at fun o q => Heap.get?_push_of_some _ q, fun _ => True.intro, fun y hy => absurd rfl hy⟩

/-- e.f where nothing but the object is asked: through attributeBase (super) and the last hold -/
theorem attr_of {prog : Program} {w : World} {env : Env} {e : Expr} {f : Str} {pos : Pos} {s : Shared} {Q : Value → Shared → Prop} (hb : attributeBase e f env (eval e env) = eval e env)
    (h : wpAny (model prog w) A (eval e env) (fun o s₁ => wpAny (model prog w) A (getAttr o f true) Q E s₁) E s) : wpAny (model prog w) A (eval (.Attribute e f pos) env) Q E s :=
  Attribute_any_ h (by rw [arm_eval_Attribute, hb])
end

/-! ### readings and rules -/
/-- e.f, an attribute of the instance -/
def tFld (K : PySem.W.Frag) (ta : TE) (f : Str) : TE := fun σ H Q => ta σ H fun x H1 => ∃ a C dx fs v, x = .ref a ∧ H1 a = some (.ins C dx fs) ∧ Cls K C ∧ NoAttr K C f ∧ fs.lookup f = some v ∧ Q v H1
/-- e.f, a constant of the class -/
def tCon (K : PySem.W.Frag) (ta : TE) (f : Str) : TE := fun σ H Q => ta σ H fun x H1 => ∃ a C dx fs v u, x = .ref a ∧ H1 a = some (.ins C dx fs) ∧ Cls K C ∧ Con K C f v u ∧ fs.lookup f = none ∧ Q v H1
/-- e.f = value -/
def sFld (K : PySem.W.Frag) (ta tv : TE) (f : Str) : TS := fun D σ H => tv σ H fun y H1 => ta σ H1 fun x H2 => ∃ a C dx fs, x = .ref a ∧ H2 a = some (.ins C dx fs) ∧ Cls K C ∧ NoAttr K C f ∧ fs.length < 1000 ∧
  D.nx σ (upd H2 a (.ins C dx (putF f y fs)))
/-- an augmented operator on two values -/
def InOp (X : Cx) (op : Operator) (rd : V → V → Hp → VK → Prop) : Prop :=
  ∀ (pins : List (Addr × Obj)) (s : Shared) (σ : St) (H : Hp) (x y : V) (u v : Value) (Q : VK), Inv X pins σ H s → RelV x u → RelV y v → rd x y H Q → wpAny (model X.prog X.w) X.A (inplaceOp op u v) (EP X pins σ Q) X.xe s
/-- e.f op= value -/
def sFldAug (K : PySem.W.Frag) (ta tv : TE) (rd : V → V → Hp → VK → Prop) (f : Str) : TS := fun D σ H => ta σ H fun x H1 => ∃ a C dx fs v, x = .ref a ∧ H1 a = some (.ins C dx fs) ∧ Cls K C ∧ NoAttr K C f ∧ fs.lookup f = some v ∧
  tv σ H1 fun y H2 => rd v y H2 fun z H3 => ∃ dx' fs', H3 a = some (.ins C dx' fs') ∧ fs'.length < 1000 ∧ D.nx σ (upd H3 a (.ins C dx' (putF f z fs')))

section
variable {X : Cx} {o e value : Expr} {f : Str} {pos pos' tpos : Pos} {ta tv : TE}
theorem pe_fld (he : PE X e ta) (hb : attributeBase e f X.env (eval e X.env) = eval e X.env) : PE X (.Attribute e f pos) (tFld X.K ta f) := by
  intro pins s σ H Q I h
  refine attr_of hb (thn (he pins s σ H _ I h) fun u s1 ⟨x, H1, I1, rx, a, C, dx, fs, v, ex, ea, c, n, l, q⟩ => ?_)
  subst ex
  obtain rfl : u = Value.ref a := rx
  exact getattr_ok I1 ea c n l fun u' s2 I2 ru => ⟨v, H1, I2, ru, q⟩
theorem pe_con (he : PE X e ta) (hb : attributeBase e f X.env (eval e X.env) = eval e X.env) : PE X (.Attribute e f pos) (tCon X.K ta f) := by
  intro pins s σ H Q I h
  refine attr_of hb (thn (he pins s σ H _ I h) fun u s1 ⟨x, H1, I1, rx, a, C, dx, fs, v, u0, ex, ea, c, k, l, q⟩ => ?_)
  subst ex
  obtain rfl : u = Value.ref a := rx
  exact getcon_ok I1 ea c k l fun s2 I2 => ⟨v, H1, I2, k.rel, q⟩
theorem ps_fld (ha : PE X o ta) (hv : PE X value tv) (hs : swapsWith value (some (.Attribute o f pos')) pos.line X.env = pure false) : PS X (.Assign [.Attribute o f pos'] value pos) (sFld X.K ta tv f) := by
  intro pins s σ H D I h
  refine plainObj_wpAny_Assign_Attribute (thn (hv pins s σ H _ I h) fun u s1 ⟨y, H1, I1, ry, q⟩ => thn (ha pins s1 σ H1 _ I1 q) fun ov s2 ⟨x, H2, I2, rx, a, C, dx, fs, ex, ea, c, n, l, q2⟩ => ?_) hs
  subst ex
  obtain rfl : ov = Value.ref a := rx
  exact setattr_ok I2 ea c n l ry fun s3 I3 => ⟨σ, _, I3, q2⟩
theorem ps_fldaug {op : Operator} {rd : V → V → Hp → VK → Prop} (ha : PE X o ta) (hv : PE X value tv) (hop : InOp X op rd) : PS X (.AugAssign (.Attribute o f tpos) op value pos) (sFldAug X.K ta tv rd f) := by
  intro pins s σ H D I h
  refine wpAny_AugAssign_AttributeAny (thn (ha pins s σ H _ I h) fun ov s1 ⟨x, H1, I1, rx, a, C, dx, fs, v, ex, ea, c, n, l, q⟩ => ?_)
  subst ex
  obtain rfl : ov = Value.ref a := rx
  refine getattr_ok I1 ea c n l fun u s2 I2 ru => thn (hv pins s2 σ H1 _ I2 q) fun w3 s3 ⟨y, H2, I3, ry, q3⟩ => thn (hop pins s3 σ H2 v y u w3 _ I3 ru ry q3) fun w4 s4 ⟨z, H3, I4, rz, dx', fs', ea', l', q4⟩ => ?_
  exact setattr_ok I4 ea' c n l' rz fun s5 I5 => ⟨σ, _, I5, q4⟩
def rAdd : V → V → Hp → VK → Prop := fun x y H Q => ∃ i j, x = .int i ∧ y = .int j ∧ Q (.int (i + j)) H
def rSub : V → V → Hp → VK → Prop := fun x y H Q => ∃ i j, x = .int i ∧ y = .int j ∧ Q (.int (i - j)) H
theorem in_add : InOp X .Add rAdd := by
  rintro pins s σ H x y u v Q I rx ry ⟨i, j, rfl, rfl, q⟩
  obtain ⟨t, rfl⟩ := (show ∃ t, u = Value.int i t from rx)
  obtain ⟨t', rfl⟩ := (show ∃ t', v = Value.int j t' from ry)
  exact PyProof.Rows.iadd_int ⟨.int (i + j), H, I.tok _, ⟨_, rfl⟩, q⟩
theorem in_sub : InOp X .Sub rSub := by
  rintro pins s σ H x y u v Q I rx ry ⟨i, j, rfl, rfl, q⟩
  obtain ⟨t, rfl⟩ := (show ∃ t, u = Value.int i t from rx)
  obtain ⟨t', rfl⟩ := (show ∃ t', v = Value.int j t' from ry)
  exact PyProof.Rows.isub_int ⟨.int (i - j), H, I.tok _, ⟨_, rfl⟩, q⟩

/-- what is between an instance and its method: the tree of a method call -/
theorem methcall_of {pl : Sem Bool} {m : Str} {apos : Pos} {args : List Expr} {pins : List (Addr × Obj)} {s : Shared} {σ : St} {H : Hp} {Q : Value → Shared → Prop} {te : TE} (he : PE X e te) (I : Inv X pins σ H s)
    (h : te σ H fun x H1 => ∃ a C dx fs g, x = .ref a ∧ H1 a = some (.ins C dx fs) ∧ Cls X.K C ∧ Meth X.K C m g ∧ fs.lookup m = none ∧
      ∀ s1, Inv X pins σ H1 s1 → wpAny (model X.prog X.w) X.A (callWith pos (.ref g) [.ref a] (backTo pos (starEach args X.env)) (backToKw pos (keywordEach [] X.env))) Q X.xe s1)
    (ht : eval (.Call (.Attribute e m apos) args [] pos) X.env = (do
      let ov ← eval e X.env
      standAt apos.atName
      let (f, first) ← holding [ov] (getMethod ov m pl)
      callWith pos f first (backTo pos (starEach args X.env)) (backToKw pos (keywordEach [] X.env)))) :
    wpAny (model X.prog X.w) X.A (eval (.Call (.Attribute e m apos) args [] pos) X.env) Q X.xe s := by
  refine PySem.W.methodCall_KW (pl := pl) (thn (he pins s σ H _ I h) fun u s1 ⟨x, H1, I1, rx, a, C, dx, fs, g, ex, ea, c, k, l, q⟩ => ?_) ht
  subst ex
  obtain rfl : u = Value.ref a := rx
  exact getmeth_ok I1 ea c k l (q s1 I1)
end

/-! ### isinstance -/
section
variable {X : Cx} {pins : List (Addr × Obj)} {σ : St} {H : Hp} {s : Shared} {A : Around} {E : Value → Shared → Prop} {Q : Value → Shared → Prop} {c : Value} {b : Bool}
/-- the type of a value, as the fragment's deciders take it; for an instance its class -/
inductive TyOf (K : PySem.W.Frag) (H : Hp) : V → Value → Prop where
  | non : TyOf K H .non (.type "NoneType")
  | bl (x : Bool) : TyOf K H (.bl x) (.type "bool")
  | int (i : Int) : TyOf K H (.int i) (.type "int")
  | str (x : Str) : TyOf K H (.str x) (.type "str")
  | flt (x : UInt64) : TyOf K H (.flt x) (.type "float")
  | lst {a : Addr} {xs : List V} (e : H a = some (.lst xs)) : TyOf K H (.ref a) (.type "list")
  | frz {a : Addr} {o : Obj} {xs : List V} (e : H a = some (.frz o (.lst xs))) : TyOf K H (.ref a) (.type "list")
  | tup {a : Addr} {xs : List V} (e : H a = some (.tup xs)) : TyOf K H (.ref a) (.type "tuple")
  | dK {a : Addr} {kvs : List (Key × V)} (e : H a = some (.dK kvs)) : TyOf K H (.ref a) (.type "dict")
  | dT {a : Addr} {kvs : List (List Key × V)} (e : H a = some (.dT kvs)) : TyOf K H (.ref a) (.type "dict")
  | ins {a C dx : Addr} {fs : List (Str × V)} (e : H a = some (.ins C dx fs)) (cl : Cls K C) (ha : PySem.W.findIn K (.ref C) "__class__" = some (some (.builtin "object.__class__")))
      (hn : PySem.W.specialIn K (.builtin "object.__class__") "__get__" = some (some (.builtin "getset_descriptor.__get__"))) (htk : PySem.W.takesIn K (.builtin "object.__class__") = some true)
      (hm : PySem.W.mroIn K C (.type "object") = some true) : TyOf K H (.ref a) (.ref C)
/-- isinstance(x, c) for one class c, a built-in or an own one: kitOne's answer -/
theorem isinst_ok {x : V} {u t : Value} (I : Inv X pins σ H s) (rx : RelV x u) (ty : TyOf X.K H x t) (e : PySem.W.kitOne X.K t c = some b) (h : ∀ tk, Q (.bool b) { s with toks := tk }) :
    wpAny (model X.prog X.w) A (call (.builtin "isinstance") [u, c]) Q E s := by
  cases ty with
  | non => cases (show u = Value.none from rx); exact PySem.W.kia_one PySem.W.kitx_none I.kIn True.intro e (fun z => nomatch z) h
  | bl y => cases (show u = Value.bool y from rx); exact PySem.W.kia_one PySem.W.kitx_bool I.kIn True.intro e (fun z => nomatch z) h
  | int i => obtain ⟨t, q⟩ := (show ∃ t, u = Value.int i t from rx); cases q; exact PySem.W.kia_one PySem.W.kitx_int I.kIn True.intro e (fun z => nomatch z) h
  | str y => obtain ⟨t, q⟩ := (show ∃ t, u = Value.str y t from rx); cases q; exact PySem.W.kia_one PySem.W.kitx_str I.kIn True.intro e (fun z => nomatch z) h
  | flt y => obtain ⟨t, q⟩ := (show ∃ t, u = Value.float y t from rx); cases q; exact PySem.W.kia_one PySem.W.kitx_float I.kIn True.intro e (fun z => nomatch z) h
  | @lst a xs ea =>
    cases (show u = Value.ref a from rx)
    obtain ⟨_, _, n, _, h1⟩ := (show ObjOk X.prog X.w H s.heap a (.lst xs) from I.hok a _ ea)
    exact PySem.W.kia_one PySem.W.kitx_list I.kIn ⟨_, h1, rfl⟩ e (fun z => nomatch z) h
  | @frz a ob xs ea =>
    cases (show u = Value.ref a from rx)
    obtain ⟨_, _, _, n, _, h1⟩ := (show ObjOk X.prog X.w H s.heap a (.frz ob (.lst xs)) from I.hok a _ ea)
    exact PySem.W.kia_one PySem.W.kitx_list I.kIn ⟨_, h1, rfl⟩ e (fun z => nomatch z) h
  | @tup a xs ea =>
    cases (show u = Value.ref a from rx)
    obtain ⟨_, _, _, p⟩ := (show ObjOk X.prog X.w H s.heap a (.tup xs) from I.hok a _ ea)
    obtain ⟨o, h1, h2, _⟩ := p
    exact PySem.W.kia_one PySem.W.kitx_tuple I.kIn ⟨o, h1, h2⟩ e (fun z => nomatch z) h
  | @dK a kvs ea =>
    cases (show u = Value.ref a from rx)
    obtain ⟨_, _, vs, _, p⟩ := (show ObjOk X.prog X.w H s.heap a (.dK kvs) from I.hok a _ ea)
    obtain ⟨o, es, ep, h1, h2, _⟩ := p
    exact PySem.W.kia_one PySem.W.kitx_dict I.kIn ⟨o, h1, h2.1⟩ e (fun z => nomatch z) h
  | @dT a kvs ea =>
    cases (show u = Value.ref a from rx)
    obtain ⟨_, _, xs, _, o, es, ep, h1, h2, _⟩ := (show ObjOk X.prog X.w H s.heap a (.dT kvs) from I.hok a _ ea)
    exact PySem.W.kia_one PySem.W.kitx_dict I.kIn ⟨o, h1, h2.1⟩ e (fun z => nomatch z) h
  | @ins a C dx fs ea cl ha hn htk hm =>
    cases (show u = Value.ref a from rx)
    obtain ⟨mA, O, _⟩ := ins_get I.hok ea
    obtain ⟨od, J, _⟩ := O.look
    exact PySem.W.kia_one (PySem.W.kitx_own (cl.get _) cl.hd ha hn htk hm) I.kIn J e (fun z => nomatch z) h
end
end L2

namespace L2
open PySem PySem.Spec PyProof.Rows

/-! ### room -/
structure Room (k : Nat) (A : Around) : Prop where
  hd : A.handled = none
  dp : A.depth + 3 * k + 5 < recursionLimit
  un : A.units + 16 * k + 200 < cLine
theorem Room.mono {j k : Nat} {A : Around} (r : Room k A) (h : j ≤ k) : Room j A := ⟨r.hd, by have := r.dp; omega, by have := r.un; omega⟩
theorem Room.deeper {k : Nat} {A : Around} (r : Room (k + 1) A) (env : Env) : Room k (A.deeper env) :=
  ⟨r.hd, by have := r.dp; show A.depth + 1 + 3 * k + 5 < _; omega, by have := r.un; show A.units + 3 + 16 * k + 200 < _; omega⟩
theorem Room.in1 {k : Nat} {A : Around} (r : Room (k + 1) A) : Room k A.in1 :=
  ⟨r.hd, by have := r.dp; show A.depth + 3 * k + 5 < _; omega, by have := r.un; show A.units + 1 + 16 * k + 200 < _; omega⟩
theorem make_depth {A : Around} {C : Addr} {us : List Value} {kw : List (Str × Value)} : (A.under (.builtin "type.__call__" ⟨.ref C :: us, kw⟩)).depth = A.depth + 1 := by
  first | rfl | simp [Around.under, Code.weight, Code.isCreation, Code.isGuard, Code.isCaller, Code.frames, Code.isFrame, guardIds]
theorem make_units {A : Around} {C : Addr} {us : List Value} {kw : List (Str × Value)} : (A.under (.builtin "type.__call__" ⟨.ref C :: us, kw⟩)).units = A.units + 1 := by
  first | rfl | simp [Around.under, Code.cUnits, Code.frames, Code.isFrame]
theorem Room.make {k : Nat} {A : Around} (r : Room (k + 1) A) (C : Addr) (us : List Value) (kw : List (Str × Value)) : Room k (A.under (.builtin "type.__call__" ⟨.ref C :: us, kw⟩)) :=
  ⟨r.hd, by have := r.dp; rw [make_depth]; omega, by have := r.un; rw [make_units]; omega⟩
theorem Room.depth {k : Nat} {A : Around} (r : Room k A) : A.depth < recursionLimit := by have := r.dp; omega
theorem Room.units {k : Nat} {A : Around} (r : Room k A) : A.units + 64 < cLine := by have := r.un; omega
theorem Room.units0 {k : Nat} {A : Around} (r : Room k A) : A.units < cLine := by have := r.un; omega

/-! ### argument lists and displays -/
def tNil : TA := fun _ H Q => Q [] H
def tCons (ta : TE) (tr : TA) : TA := fun σ H Q => ta σ H fun x H1 => tr σ H1 fun xs H2 => Q (x :: xs) H2
section
variable {X : Cx} {e : Expr} {es : List Expr} {te : TE} {t : TA} {pos : Pos}
theorem pa_nil : PA X [] tNil := fun _ _ _ _ H Q I h => Calls.spliced_nil ⟨[], H, I, .nil, h⟩
theorem pa_cons (ha : PE X e te) (hr : PA X es t) (hs : starEach (e :: es) X.env = (false, eval e X.env) :: starEach es X.env := by rfl) : PA X (e :: es) (tCons te t) := by
  intro pos pins s σ H Q I h
  rw [hs]
  show wpAny _ _ (spliced ((false, eval e X.env) :: backTo pos (starEach es X.env))) _ _ s
  refine Calls.spliced_cons (thn (ha pins s σ H _ I h) fun u s1 ⟨x, H1, I1, r1, q1⟩ => ?_)
  exact thn (hr pos pins s1 σ H1 _ I1 q1) fun us s2 ⟨xs, H2, I2, r2, q2⟩ => ⟨x :: xs, H2, I2, .cons r1 r2, q2⟩

/-- a tuple, a list of written items -/
def tTup (t : TA) : TE := fun σ H Q => t σ H fun xs H1 => xs.length ≤ sizeLine ∧ ∀ p, H1 p = none → Q (.ref p) (upd H1 p (.tup xs))
def tLst (t : TA) : TE := fun σ H Q => t σ H fun xs H1 => xs.length ≤ sizeLine ∧ ∀ p, H1 p = none → Q (.ref p) (upd H1 p (.lst xs))
theorem pe_tup {x1} (h : PA X es t) : PE X (.Tuple es x1 pos) (tTup t) := by
  intro pins s σ H Q I hq
  refine wpAny_Tuple_spliced (thn (h pos pins s σ H _ I hq) fun us s1 ⟨xs, H1, I1, r, z, q⟩ => ⟨by rw [← r.length]; exact z, ?_⟩)
  have hf : H1 s1.heap.objs.size = none := I1.hok.fresh (Nat.le_refl _)
  refine ⟨.ref s1.heap.objs.size, upd H1 s1.heap.objs.size (.tup xs), I1.laid (t' := s1.toks) (fun b u e => Heap.get?_push_of_some _ e) (Nat.le_refl _) ?_, rfl, q _ hf⟩
  exact ⟨z, us, r, ⟨_, Heap.get?_push_size _ rfl, rfl, _, rfl⟩⟩
theorem pe_lst (h : PA X es t) : PE X (.List es pos) (tLst t) := by
  intro pins s σ H Q I hq
  refine wpAny_List_spliced (thn (h pos pins s σ H _ I hq) fun us s1 ⟨xs, H1, I1, r, z, q⟩ => ⟨by rw [← r.length]; exact z, ?_⟩)
  have hf : H1 s1.heap.objs.size = none := I1.hok.fresh (Nat.le_refl _)
  refine ⟨.ref s1.heap.objs.size, upd H1 s1.heap.objs.size (.lst xs), I1.laid (t' := s1.toks) (fun b u e => Heap.get?_push_of_some _ e) (Nat.le_refl _) ?_, rfl, q _ hf⟩
  exact ⟨z, us, 0, r, Heap.get?_push_size _ rfl⟩
end

/-! ### what a def promises -/
/-- a def's promise: the bound arguments in the parameters' order, the heap, the wanted end, the wanted exception -/
abbrev Sp := List V → Hp → VK → XK → Prop
/-- how an exception lies behind a call (file 08 gives it): the callers' frames, abstract heap and state ahead of the call, the wish, the exception, the state -/
abbrev CXT := List Env → Hp → Shared → XK → Value → Shared → Prop

/-- the state at a call -/
structure Env0 (P : Program) (w : World) (K : PySem.W.Frag) (mg : Str → Option Value) (base : Heap) (A : Around) (outer : List Env) (s : Shared) (H : Hp) : Prop where
  frames : A.frames = some outer
  mod : Mod K mg base
  bs : ∀ b o, base.get? b = some o → s.heap.get? b = some o ∧ H b = none
  bsz : base.objs.size ≤ s.heap.objs.size
  funs : s.heap.FunFrames base outer
  frf : ∀ b ∈ frs outer, H b = none
  hok : HOk P w H s.heap
  bare : AllBare s.gens
/-- a call's end -/
def CE (outer : List Env) (P : Program) (w : World) (H : Hp) (s : Shared) (Q : VK) (u : Value) (s' : Shared) : Prop :=
  ∃ v H', s'.os = s.os ∧ AllBare s'.gens ∧ Un (frs outer) [] H H' s.heap s'.heap ∧ HOk P w H' s'.heap ∧ RelV v u ∧ Q v H'
def CR (CX : CXT) (outer : List Env) (P : Program) (w : World) (H : Hp) (s : Shared) (Q : VK) (E : XK) (r : Result) (s' : Shared) : Prop :=
  match r with
  | .ok (.ret u) => CE outer P w H s Q u s'
  | .ok _ => False
  | .error e => CX outer H s E e s'
structure FnOk (P : Program) (w : World) (K : PySem.W.Frag) (mg : Str → Option Value) (base : Heap) (CX : CXT) (k : Nat) (f : Addr) (fd : FuncData) (ps : List Str) (sp : Sp) : Prop where
  len : ∀ vs H Q E, sp vs H Q E → vs.length = ps.length
  run : ∀ (A : Around) (outer : List Env) (s : Shared) (H : Hp) (args : Args) (us : List Value) (vs : List V) (Q : VK) (E : XK), Room k A → Env0 P w K mg base A outer s H → BindsTo s fd args (ps.zip us) → Vals vs us → sp vs H Q E →
    codeAny (model P w) A (.call (.ref f) args) (CR CX outer P w H s Q E) s
theorem FnOk.mono {P : Program} {w : World} {K : PySem.W.Frag} {mg : Str → Option Value} {base : Heap} {CX : CXT} {j k : Nat} {f : Addr} {fd : FuncData} {ps : List Str} {sp : Sp} (F : FnOk P w K mg base CX j f fd ps sp) (h : j ≤ k) :
    FnOk P w K mg base CX k f fd ps sp := ⟨F.len, fun A outer s H args us vs Q E hr => F.run A outer s H args us vs Q E (hr.mono h)⟩
/-- a weaker promise -/
theorem FnOk.imp {P : Program} {w : World} {K : PySem.W.Frag} {mg : Str → Option Value} {base : Heap} {CX : CXT} {k : Nat} {f : Addr} {fd : FuncData} {ps : List Str} {sp sp' : Sp} (F : FnOk P w K mg base CX k f fd ps sp)
    (h : ∀ vs H Q E, sp' vs H Q E → sp vs H Q E) : FnOk P w K mg base CX k f fd ps sp' :=
  ⟨fun vs H Q E q => F.len vs H Q E (h _ _ _ _ q), fun A outer s H args us vs Q E hr he hb hv hs => F.run A outer s H args us vs Q E hr he hb hv (h _ _ _ _ hs)⟩

theorem Env0.make {P : Program} {w : World} {K : PySem.W.Frag} {mg : Str → Option Value} {base : Heap} {A : Around} {outer : List Env} {s : Shared} {H : Hp} (e : Env0 P w K mg base A outer s H) (C : Addr) (us : List Value) (kw : List (Str × Value)) :
    Env0 P w K mg base (A.under (.builtin "type.__call__" ⟨.ref C :: us, kw⟩)) outer s H := ⟨by first | exact e.frames | (simpa [Around.under, Code.envs, Code.isFrame, pushEnvs] using e.frames), e.mod, e.bs, e.bsz, e.funs, e.frf, e.hok, e.bare⟩
theorem Env0.in1 {P : Program} {w : World} {K : PySem.W.Frag} {mg : Str → Option Value} {base : Heap} {A : Around} {outer : List Env} {s : Shared} {H : Hp} (e : Env0 P w K mg base A outer s H) :
    Env0 P w K mg base A.in1 outer s H := ⟨e.frames, e.mod, e.bs, e.bsz, e.funs, e.frf, e.hok, e.bare⟩

section
variable {X : Cx} {pins : List (Addr × Obj)} {σ : St} {H : Hp} {s s' : Shared}
/-- from a body: what a callee wants -/
theorem Inv.env0 (I : Inv X pins σ H s) : Env0 X.prog X.w X.K X.mg X.base X.A X.stack s H :=
  ⟨I.ok.frames, I.ok.mod, I.bs, Nat.le_trans I.ok.bsz I.sz, I.stack, I.stkFree, I.hok, I.bare⟩
/-- behind a call -/
theorem Inv.after {Q : VK} {u : Value} (I : Inv X pins σ H s) (h : CE X.stack X.prog X.w H s Q u s') : EP X pins σ Q u s' := by
  obtain ⟨v, H', os, bare, un, hok, r, q⟩ := h
  obtain ⟨hh, g, d, t, os'⟩ := s'
  obtain rfl : os' = s.os := os
  exact ⟨v, H', I.call (h' := hh) (g' := g) (d' := d) (t' := t) (ch := []) un hok bare (fun b z => absurd z (by simp)), r, q⟩
end

/-! ### calls -/
/-- f(..): the written arguments, then the defaults dvs; E: what is wanted of an exception -/
def tCall (sp : Sp) (dvs : List V) (E : XK) (t : TA) : TE := fun σ H Q => t σ H fun vs H1 => sp (vs ++ dvs) H1 Q E
/-- o.m(..) of an instance of the class at C -/
def tMeth (C : Addr) (m : Str) (sp : Sp) (dvs : List V) (E : XK) (ta : TE) (t : TA) : TE := fun σ H Q => ta σ H fun x H1 => ∃ a dx fs, x = .ref a ∧ H1 a = some (.ins C dx fs) ∧ fs.lookup m = none ∧
  t σ H1 fun vs H2 => sp (x :: (vs ++ dvs)) H2 Q E
/-- C(..): a new instance and its dict, then __init__ -/
def tMake (C : Addr) (sp : Sp) (dvs : List V) (E : XK) (t : TA) : TE := fun σ H Q => t σ H fun vs H1 => ∀ x dx, H1 x = none → H1 dx = none → dx ≠ x →
  sp (.ref x :: (vs ++ dvs)) (upd (upd H1 dx (.own x)) x (.ins C dx [])) (fun v H2 => v = .non ∧ Q (.ref x) H2) E

/-- how the parameters are bound: us the positional arguments, kw the keywords' values by name, ds the defaults that fill up -/
def Binds (K : PySem.W.Frag) (fd : FuncData) (ps : List Str) (ds : List Value) : Prop :=
  ∀ (s : Shared) (us : List Value), K.In s.heap → (us ++ ds).length = ps.length → BindsTo s fd ⟨us, []⟩ (ps.zip (us ++ ds))
/-- every parameter is given -/
theorem Binds.all {K : PySem.W.Frag} {fd : FuncData} {ps : List Str} (h : ∀ us : List Value, us.length = ps.length → bindArgs fd ⟨us, []⟩ = pure (ps.zip us)) : Binds K fd ps [] := fun s us _ hl => by
  rw [List.append_nil] at hl ⊢
  exact .of_eq (h us hl)

/-- an exception of a callee reaches what this body wants of exceptions -/
def Passes (CX : CXT) (X : Cx) (E : XK) : Prop := ∀ (pins : List (Addr × Obj)) (σ : St) (H : Hp) (s : Shared) (e : Value) (s' : Shared), Inv X pins σ H s → CX X.stack H s E e s' → X.xe e s'

section
variable {X : Cx} {CX : CXT} {k : Nat} {f C : Addr} {fd : FuncData} {ps : List Str} {sp : Sp} {dvs : List V} {ds : List Value} {E : XK} {x m : Str} {p pos apos : Pos} {e o : Expr} {es : List Expr} {ta : TE} {t : TA}

/-- the callee runs -/
theorem run_fn {pins : List (Addr × Obj)} {σ : St} {H : Hp} {s : Shared} {Q : VK} {us : List Value} {vs : List V} (F : FnOk X.prog X.w X.K X.mg X.base CX k f fd ps sp) (hr : Room k X.A) (hb : Binds X.K fd ps ds) (hd : Vals dvs ds) (hx : Passes CX X E)
    (I : Inv X pins σ H s) (r : Vals vs us) (h : sp (vs ++ dvs) H Q E) : wpAny (model X.prog X.w) X.A (call (.ref f) us) (EP X pins σ Q) X.xe s := by
  have r2 : Vals (vs ++ dvs) (us ++ ds) := r.append hd
  have hl : (us ++ ds).length = ps.length := by rw [← r2.length]; exact F.len _ _ _ _ h
  refine wpAny_call (codeAny_mono (F.run X.A X.stack s H ⟨us, []⟩ (us ++ ds) (vs ++ dvs) Q E hr I.env0 (hb s us I.kIn hl) r2 h) fun r s' hq => ?_)
  cases r with
  | error e => exact hx pins σ H s e s' I hq
  | ok fl =>
    cases fl with
    | ret u => exact I.after hq
    | next => exact False.elim hq
    | brk => exact False.elim hq
    | cont => exact False.elim hq

theorem pe_call (F : FnOk X.prog X.w X.K X.mg X.base CX k f fd ps sp) (hr : Room k X.A) (hg : Gl X x) (hm : X.mg x = some (.ref f)) (hk : PySem.W.keepIn X.K (.ref f) = true) (hb : Binds X.K fd ps ds) (hd : Vals dvs ds) (hx : Passes CX X E)
    (ha : PA X (e :: es) t) (hdb : (x == ("__debug__" : Str)) = false := by decide) (he : starEach (e :: es) X.env = (false, eval e X.env) :: starEach es X.env := by rfl) (hpl : (backTo pos (starEach es X.env)).any (·.1) = false := by rfl) :
    PE X (.Call (.Name x p) (e :: es) [] pos) (tCall sp dvs E t) := by
  intro pins s σ H Q I h
  refine wpAny_Call_Name_kw (ld_glob I hg hm ?_ hdb)
  refine PySem.W.callWith_K (h₀ := X.base) I.ok.mod.kin hk (thn (ha pos pins s σ H _ I h) fun us s1 ⟨vs, H1, I1, r, q⟩ => ⟨I1.kIn, ?_⟩) he hpl
  exact run_fn F hr hb hd hx I1 r q
theorem pe_call0 (F : FnOk X.prog X.w X.K X.mg X.base CX k f fd ps sp) (hr : Room k X.A) (hg : Gl X x) (hm : X.mg x = some (.ref f)) (hk : PySem.W.keepIn X.K (.ref f) = true) (hb : Binds X.K fd ps ds) (hd : Vals dvs ds) (hx : Passes CX X E)
    (hdb : (x == ("__debug__" : Str)) = false := by decide) : PE X (.Call (.Name x p) [] [] pos) (tCall sp dvs E tNil) := by
  intro pins s σ H Q I h
  refine wpAny_Call_Name_kw (ld_glob I hg hm ?_ hdb)
  exact PySem.W.callWith_K0 I.kIn hk (run_fn (us := []) F hr hb hd hx I .nil h)

/-- o.m(e, ..) -/
theorem pe_meth {pl : Sem Bool} (he : PE X o ta) (c : Cls X.K C) (hm : Meth X.K C m f) (F : FnOk X.prog X.w X.K X.mg X.base CX k f fd ps sp) (hr : Room k X.A) (hb : Binds X.K fd ps ds) (hd : Vals dvs ds) (hx : Passes CX X E) (ha : PA X (e :: es) t)
    (hst : starEach (e :: es) X.env = (false, eval e X.env) :: starEach es X.env := by rfl) (hpl : (backTo pos (starEach es X.env)).any (·.1) = false := by rfl)
    (ht : eval (.Call (.Attribute o m apos) (e :: es) [] pos) X.env = (do
      let ov ← eval o X.env
      standAt apos.atName
      let (f, first) ← holding [ov] (getMethod ov m pl)
      callWith pos f first (backTo pos (starEach (e :: es) X.env)) (backToKw pos (keywordEach [] X.env))) := by rfl) :
    PE X (.Call (.Attribute o m apos) (e :: es) [] pos) (tMeth C m sp dvs E ta t) := by
  intro pins s σ H Q I h
  refine PySem.W.methodCall_KW (pl := pl) (thn (he pins s σ H _ I h) fun u s1 ⟨x, H1, I1, rx, a, dx, fs, ex, ea, l, q⟩ => ?_) ht
  subst ex
  obtain rfl : u = Value.ref a := rx
  refine getmeth_ok I1 ea c hm l ?_
  refine PySem.W.callWith_K (first := [.ref a]) (h₀ := X.base) I.ok.mod.kin hm.kp (thn (ha pos pins s1 σ H1 _ I1 q) fun us s2 ⟨vs, H2, I2, r, q2⟩ => ⟨I2.kIn, ?_⟩) hst hpl
  exact run_fn (us := .ref a :: us) (vs := .ref a :: vs) F hr hb hd hx I2 (.cons rfl r) q2
/-- o.m() -/
theorem pe_meth0 {pl : Sem Bool} (he : PE X o ta) (c : Cls X.K C) (hm : Meth X.K C m f) (F : FnOk X.prog X.w X.K X.mg X.base CX k f fd ps sp) (hr : Room k X.A) (hb : Binds X.K fd ps ds) (hd : Vals dvs ds) (hx : Passes CX X E)
    (ht : eval (.Call (.Attribute o m apos) [] [] pos) X.env = (do
      let ov ← eval o X.env
      standAt apos.atName
      let (f, first) ← holding [ov] (getMethod ov m pl)
      callWith pos f first (backTo pos (starEach [] X.env)) (backToKw pos (keywordEach [] X.env))) := by rfl) :
    PE X (.Call (.Attribute o m apos) [] [] pos) (tMeth C m sp dvs E ta tNil) := by
  intro pins s σ H Q I h
  refine PySem.W.methodCall_KW (pl := pl) (thn (he pins s σ H _ I h) fun u s1 ⟨x, H1, I1, rx, a, dx, fs, ex, ea, l, q⟩ => ?_) ht
  subst ex
  obtain rfl : u = Value.ref a := rx
  refine getmeth_ok I1 ea c hm l ?_
  exact PySem.W.callWith_K0 (first := [.ref a]) I1.kIn hm.kp (run_fn (us := [.ref a]) (vs := [.ref a]) F hr hb hd hx I1 (.cons rfl .nil) q)

/-- what a class must have to be made -/
structure Mk (K : PySem.W.Frag) (C f : Addr) : Prop where
  makes : PySem.W.makesIn K C = true
  init : PySem.W.findIn K (.ref C) "__init__" = some (some (.ref f))
  fn : PySem.W.isFn K (.ref f) = true
  kp : PySem.W.keepIn K (.ref C) = true

theorem run_make {pins : List (Addr × Obj)} {σ : St} {H : Hp} {s : Shared} {Q : VK} {us : List Value} {vs : List V} (M : Mk X.K C f) (F : FnOk X.prog X.w X.K X.mg X.base CX k f fd ps sp) (hr : Room (k + 1) X.A) (hb : Binds X.K fd ps ds) (hd : Vals dvs ds)
    (hx : Passes CX X E) (I : Inv X pins σ H s) (r : Vals vs us)
    (h : ∀ x dx, H x = none → H dx = none → dx ≠ x → sp (.ref x :: (vs ++ dvs)) (upd (upd H dx (.own x)) x (.ins C dx [])) (fun v H2 => v = .non ∧ Q (.ref x) H2) E) :
    wpAny (model X.prog X.w) X.A (call (.ref C) us) (EP X pins σ Q) X.xe s := by
  have hq := h (s.heap.objs.size + 1) s.heap.objs.size (I.hok.fresh (Nat.le_succ _)) (I.hok.fresh (Nat.le_refl _)) (Nat.ne_of_lt (Nat.lt_succ_self _))
  have I2 := Inv.made (C := C) I
  have r2 : Vals (V.ref (s.heap.objs.size + 1) :: (vs ++ dvs)) (Value.ref (s.heap.objs.size + 1) :: (us ++ ds)) := .cons rfl (r.append hd)
  have hl : (Value.ref (s.heap.objs.size + 1) :: us ++ ds).length = ps.length := by
    have e := r2.length
    rw [F.len _ _ _ _ hq] at e
    exact e.symm
  refine wpAny_call (make_map (f := f) I.kIn M.makes M.init (beq_iff_eq.mp M.fn) (codeAny_mono (F.run _ X.stack _ _ ⟨Value.ref (s.heap.objs.size + 1) :: us, []⟩ (Value.ref (s.heap.objs.size + 1) :: (us ++ ds)) _ _ E (hr.make C us [])
    (I2.env0.make C us []) (hb _ (Value.ref (s.heap.objs.size + 1) :: us) I2.kIn hl) r2 hq) fun r s' hq' => ?_))
  cases r with
  | error e => exact hx pins σ _ _ e s' I2 hq'
  | ok fl =>
    cases fl with
    | ret u =>
      obtain ⟨v, H', I3, rv, ev, q3⟩ := I2.after hq'
      subst ev
      exact ⟨rv, ⟨V.ref (s.heap.objs.size + 1), H', I3, rfl, q3⟩⟩
    | next => exact False.elim hq'
    | brk => exact False.elim hq'
    | cont => exact False.elim hq'
theorem pe_make (M : Mk X.K C f) (F : FnOk X.prog X.w X.K X.mg X.base CX k f fd ps sp) (hr : Room (k + 1) X.A) (hg : Gl X x) (hm : X.mg x = some (.ref C)) (hb : Binds X.K fd ps ds) (hd : Vals dvs ds) (hx : Passes CX X E)
    (ha : PA X (e :: es) t) (hdb : (x == ("__debug__" : Str)) = false := by decide) (he : starEach (e :: es) X.env = (false, eval e X.env) :: starEach es X.env := by rfl) (hpl : (backTo pos (starEach es X.env)).any (·.1) = false := by rfl) :
    PE X (.Call (.Name x p) (e :: es) [] pos) (tMake C sp dvs E t) := by
  intro pins s σ H Q I h
  refine wpAny_Call_Name_kw (ld_glob I hg hm ?_ hdb)
  refine PySem.W.callWith_K (h₀ := X.base) I.ok.mod.kin M.kp (thn (ha pos pins s σ H _ I h) fun us s1 ⟨vs, H1, I1, r, q⟩ => ⟨I1.kIn, ?_⟩) he hpl
  exact run_make M F hr hb hd hx I1 r q
theorem pe_make0 (M : Mk X.K C f) (F : FnOk X.prog X.w X.K X.mg X.base CX k f fd ps sp) (hr : Room (k + 1) X.A) (hg : Gl X x) (hm : X.mg x = some (.ref C)) (hb : Binds X.K fd ps ds) (hd : Vals dvs ds) (hx : Passes CX X E)
    (hdb : (x == ("__debug__" : Str)) = false := by decide) : PE X (.Call (.Name x p) [] [] pos) (tMake C sp dvs E tNil) := by
  intro pins s σ H Q I h
  refine wpAny_Call_Name_kw (ld_glob I hg hm ?_ hdb)
  exact PySem.W.callWith_K0 I.kIn M.kp (run_make (us := []) M F hr hb hd hx I .nil h)
end

/-! ### keywords -/
/-- the values of the keywords, from the left -/
def PK (X : Cx) (kws : List Keyword) (t : TA) : Prop :=
  ∀ (pos : Pos) (pins : List (Addr × Obj)) (s : Shared) (σ : St) (H : Hp) (Q : List V → Hp → Prop), Inv X pins σ H s → t σ H Q → wpAny (model X.prog X.w) X.A (evalAll ((backToKw pos (keywordEach kws X.env)).map (·.2))) (AP X pins σ Q) X.xe s
section
variable {X : Cx} {CX : CXT} {k : Nat} {f C : Addr} {fd : FuncData} {ps ks : List Str} {sp : Sp} {E : XK} {x m : Str} {p pos apos kpos : Pos} {e o : Expr} {es : List Expr} {kws : List Keyword} {te ta : TE} {t tk : TA} {nm : Option Str}
theorem pk_nil : PK X [] tNil := fun _ _ _ _ H Q I h => wpAny_evalAll_nil ⟨[], H, I, .nil, h⟩
theorem pk_cons (ha : PE X e te) (hr : PK X kws t) : PK X (⟨nm, e, kpos⟩ :: kws) (tCons te t) := by
  intro pos pins s σ H Q I h
  show wpAny _ _ (evalAll ((do let v ← eval e X.env; standAt pos; pure v) :: (backToKw pos (keywordEach kws X.env)).map (·.2))) _ _ s
  refine wpAny_evalAll_cons (wpAny_bind (thn (ha pins s σ H _ I h) fun u s1 ⟨x, H1, I1, r1, q1⟩ => wpAny_bind (wpAny_standAt (wpAny_pure ?_))))
  exact thn (hr pos pins s1 σ H1 _ I1 q1) fun us s2 ⟨xs, H2, I2, r2, q2⟩ => ⟨x :: xs, H2, I2, .cons r1 r2, q2⟩

/-- how a call with keywords binds: g puts the positional values us and the keywords' values ws (names ks) in the parameters' order, defaults among them -/
structure KBinds (K : PySem.W.Frag) (fd : FuncData) (ps ks : List Str) (g : List Value → List Value → List Value) (gV : List V → List V → List V) : Prop where
  to : ∀ (s : Shared) (us ws : List Value), K.In s.heap → (g us ws).length = ps.length → BindsTo s fd ⟨us, ks.zip ws⟩ (ps.zip (g us ws))
  rel : ∀ {vs : List V} {us : List Value} {zs : List V} {ws : List Value}, Vals vs us → Vals zs ws → Vals (gV vs zs) (g us ws)
def tCallK (sp : Sp) (gV : List V → List V → List V) (E : XK) (t tk : TA) : TE := fun σ H Q => t σ H fun vs H1 => tk σ H1 fun zs H2 => sp (gV vs zs) H2 Q E
variable {g : List Value → List Value → List Value} {gV : List V → List V → List V}
theorem run_fnk {pins : List (Addr × Obj)} {σ : St} {H : Hp} {s : Shared} {Q : VK} {us ws : List Value} {vs zs : List V} (F : FnOk X.prog X.w X.K X.mg X.base CX k f fd ps sp) (hr : Room k X.A) (hb : KBinds X.K fd ps ks g gV) (hx : Passes CX X E)
    (I : Inv X pins σ H s) (r : Vals vs us) (rz : Vals zs ws) (h : sp (gV vs zs) H Q E) : wpAny (model X.prog X.w) X.A (call (.ref f) us (ks.zip ws)) (EP X pins σ Q) X.xe s := by
  have r2 := hb.rel r rz
  have hl : (g us ws).length = ps.length := by rw [← r2.length]; exact F.len _ _ _ _ h
  refine wpAny_call (codeAny_mono (F.run X.A X.stack s H ⟨us, ks.zip ws⟩ (g us ws) (gV vs zs) Q E hr I.env0 (hb.to s us ws I.kIn hl) r2 h) fun r s' hq => ?_)
  cases r with
  | error e => exact hx pins σ H s e s' I hq
  | ok fl =>
    cases fl with
    | ret u => exact I.after hq
    | next => exact False.elim hq
    | brk => exact False.elim hq
    | cont => exact False.elim hq
/-- f(e, .., k = v, ..) -/
theorem pe_callK (F : FnOk X.prog X.w X.K X.mg X.base CX k f fd ps sp) (hr : Room k X.A) (hg : Gl X x) (hm : X.mg x = some (.ref f)) (hk : PySem.W.keepIn X.K (.ref f) = true) (hb : KBinds X.K fd ps ks g gV) (hx : Passes CX X E)
    (ha : PA X (e :: es) t) (hkw : PK X kws tk) (hall : (backToKw pos (keywordEach kws X.env)).all (·.1.isSome) = true := by rfl) (hks : (backToKw pos (keywordEach kws X.env)).filterMap (·.1) = ks := by rfl)
    (hdb : (x == ("__debug__" : Str)) = false := by decide) (he : starEach (e :: es) X.env = (false, eval e X.env) :: starEach es X.env := by rfl)
    (hpl : ((backTo pos (starEach (e :: es) X.env)).any (·.1) || (backToKw pos (keywordEach kws X.env)).any (·.1.isNone)) = false := by rfl) :
    PE X (.Call (.Name x p) (e :: es) kws pos) (tCallK sp gV E t tk) := by
  intro pins s σ H Q I h
  refine wpAny_Call_Name_kw (ld_glob I hg hm ?_ hdb)
  refine PySem.W.callWith_KW (h₀ := X.base) I.ok.mod.kin hk hall (thn (ha pos pins s σ H _ I h) fun us s1 ⟨vs, H1, I1, r, q⟩ => ?_) hpl he
  refine thn (hkw pos pins s1 σ H1 _ I1 q) fun ws s2 ⟨zs, H2, I2, rz, q2⟩ => ⟨I2.kIn, ?_⟩
  rw [hks]
  exact run_fnk F hr hb hx I2 r rz q2
end

/-! ### a def's body keeps its promise -/
/-- names: the parameters first -/
structure FnScope (N P : List Str) (sc : Scope) : Prop where
  kind : sc.kind = .function
  co : sc.isCoroutine = false
  gen : sc.isGenerator = false
  nd : N.Nodup
  pre : N.take P.length = P
  par : ∀ x ∈ P, sc.names.lookup x = some .local ∨ sc.names.lookup x = some .cell
  nofree : ∀ y ∈ sc.names, y.2 ≠ .free

theorem bindL_out {kindOf : Str → Option NameKind} {x : Str} : ∀ {binds : List (Str × Value)} {m : Str → Option Value}, (∀ v, (x, v) ∉ binds) → bindL kindOf binds m x = m x
  | [], _, _ => rfl
  | (n, v) :: r, m, h => by
    unfold bindL
    rw [bindL_out fun w hw => h w (List.mem_cons_of_mem _ hw)]
    split
    · have : x ≠ n := by rintro rfl; exact h v List.mem_cons_self
      simp [this]
    · rfl
theorem bindC_out {kindOf : Str → Option NameKind} {x : Str} : ∀ {binds : List (Str × Value)} {m : Str → Option Value}, (∀ v, (x, v) ∉ binds) → bindC kindOf binds m x = m x
  | [], _, _ => rfl
  | (n, v) :: r, m, h => by
    unfold bindC
    rw [bindC_out fun w hw => h w (List.mem_cons_of_mem _ hw)]
    split
    · rfl
    · have : x ≠ n := by rintro rfl; exact h v List.mem_cons_self
      simp [this]
theorem bindL_get {kindOf : Str → Option NameKind} {x : Str} {v : Value} : ∀ {P : List Str} {vs : List Value} {i : Nat} {m : Str → Option Value}, P.Nodup → P[i]? = some x → vs[i]? = some v → kindOf x = some .local →
    bindL kindOf (P.zip vs) m x = some v
  | [], _, _, _, _, h, _, _ => by simp at h
  | _ :: _, [], _, _, _, _, h, _ => by simp at h
  | p :: P, w :: vs, 0, m, nd, h1, h2, hk => by
    simp at h1 h2; subst h1; subst h2
    show bindL kindOf ((p, w) :: P.zip vs) m p = _
    unfold bindL
    rw [bindL_out fun v hv => (List.nodup_cons.mp nd).1 (List.of_mem_zip hv).1, if_pos hk]
    simp
  | p :: P, w :: vs, i + 1, m, nd, h1, h2, hk => by
    show bindL kindOf ((p, w) :: P.zip vs) m x = _
    unfold bindL
    exact bindL_get (i := i) (List.nodup_cons.mp nd).2 (by simpa using h1) (by simpa using h2) hk
theorem bindC_get {kindOf : Str → Option NameKind} {x : Str} {v : Value} : ∀ {P : List Str} {vs : List Value} {i : Nat} {m : Str → Option Value}, P.Nodup → P[i]? = some x → vs[i]? = some v → kindOf x ≠ some .local →
    bindC kindOf (P.zip vs) m x = some v
  | [], _, _, _, _, h, _, _ => by simp at h
  | _ :: _, [], _, _, _, _, h, _ => by simp at h
  | p :: P, w :: vs, 0, m, nd, h1, h2, hk => by
    simp at h1 h2; subst h1; subst h2
    show bindC kindOf ((p, w) :: P.zip vs) m p = _
    unfold bindC
    rw [bindC_out fun v hv => (List.nodup_cons.mp nd).1 (List.of_mem_zip hv).1, if_neg hk]
    simp
  | p :: P, w :: vs, i + 1, m, nd, h1, h2, hk => by
    show bindC kindOf ((p, w) :: P.zip vs) m x = _
    unfold bindC
    exact bindC_get (i := i) (List.nodup_cons.mp nd).2 (by simpa using h1) (by simpa using h2) hk

/-- the names' values at the entry -/
def start (N : List Str) (vs : List V) : St := vs.map some ++ List.replicate (N.length - vs.length) none

/-- the context of a def's body, at its entry; an exception leaves the frame, then lies as CX says -/
def cxOf (CX : CXT) (P : Program) (w : World) (K : PySem.W.Frag) (mg : Str → Option Value) (base : Heap) (N : List Str) (qual : Str) (scope : Scope) (f : Addr) (cd : Value) (A : Around) (outer : List Env) (s : Shared) (H : Hp) (E : XK) : Cx where
  prog := P
  w := w
  K := K
  mg := mg
  base := base
  A := A.deeper (envOfC qual scope s.heap.objs.size f cd)
  N := N
  s₀ := s
  H₀ := H
  env := envOfC qual scope s.heap.objs.size f cd
  outer := outer
  stack := envOfC qual scope s.heap.objs.size f cd :: outer
  ex := []
  calm := true
  fn := fun _ => true
  pn := []
  xe := fun e s' => wpAny (model P w) (A.deeper (envOfC qual scope s.heap.objs.size f cd)) (leaving (envOfC qual scope s.heap.objs.size f cd) e) (fun _ s'' => CX outer H s E e s'') (fun e' s'' => CX outer H s E e' s'') s'

theorem cell_has {sc : Scope} {n : Nat} {x : Str} (h : sc.names.lookup x = some .cell) : ∃ c, (cellsFrom n sc.names []).lookup x = some c := by
  have q := PySem.W.cellsFrom_some sc.names n [] (.inl h)
  exact Option.isSome_iff_exists.mp q

theorem inv_start {CX : CXT} {P : Program} {w : World} {K : PySem.W.Frag} {mg : Str → Option Value} {base : Heap} {N ps : List Str} {qual : Str} {scope : Scope} {f : Addr} {cd : Value} {A : Around} {outer : List Env} {s s1 : Shared} {H : Hp} {E : XK} {us : List Value} {vs : List V}
    (S : FnScope N ps scope) (hd : A.handled = none) (e0 : Env0 P w K mg base A outer s H) (hl : vs.length = ps.length) (r : Vals vs us)
    (x : InCallC s s.heap.objs.size (bindL (envOfC qual scope s.heap.objs.size f cd).kindOf (ps.zip us) fun _ => none) (cellsFrom (s.heap.objs.size + 1) scope.names []) (bindC (envOfC qual scope s.heap.objs.size f cd).kindOf (ps.zip us) fun _ => none) s1) :
    Inv (cxOf CX P w K mg base N qual scope f cd A outer s H E) [] (start N vs) H s1 := by
  have hpl : ps.length ≤ N.length := by have := congrArg List.length S.pre; rw [List.length_take] at this; omega
  obtain ⟨h1, tk, rfl, hk⟩ := x.done
  have noA : ∀ b : Addr, b ∉ (cxOf CX P w K mg base N qual scope f cd A outer s H E).ex := fun b z => absurd (show b ∈ ([] : List Addr) from z) (by simp)
  refine ⟨⟨e0.mod, S.kind, rfl, rfl, Nat.le_refl _, fun y z c h1 h2 => ?_, fun y hy => ?_, fun y c _ h => ?_, fun _ => hd, Around.frames_deeper e0.frames, .inr ⟨rfl, rfl⟩, fun b z => absurd z (noA b), e0.bs, e0.bsz, fun b _ _ => noA b, fun b z => absurd z (noA b), e0.funs, e0.frf⟩,
    rfl, e0.bare, Un.kept hk, ⟨_, x.toInCall.ns, fun i y v h1 h2 h3 => ?_⟩, fun y c h => ⟨_, x.cell y c h⟩, e0.hok.fresh (Nat.le_refl _), fun y c h => ?_, fun p hp => absurd (show p ∈ ([] : List (Addr × Obj)) from hp) (by simp), e0.hok.kept hk, ?_⟩
  · exact name_of_addr x.apart (PySem.mem_of_lookup h1) (PySem.mem_of_lookup h2)
  · have hy : scope.names.lookup y = some .cell ∨ scope.names.lookup y = some .free := hy
    rcases hy with hy | hy
    · exact cell_has hy
    · exact absurd rfl (S.nofree _ (PySem.mem_of_lookup hy))
  · exact Nat.le_of_lt (x.above y c (PySem.mem_of_lookup h))
  · have hi : i < vs.length := by
      unfold start at h2
      by_cases hi : i < vs.length
      · exact hi
      · rw [List.getElem?_append_right (by simpa using hi)] at h2
        rw [List.getElem?_replicate] at h2
        split at h2 <;> cases h2
    have ha : vs[i]? = some v := by
      unfold start at h2
      rw [List.getElem?_append_left (by simpa using hi), List.getElem?_map] at h2
      cases e : vs[i]? with
      | none => rw [e] at h2; cases h2
      | some a => rw [e] at h2; cases h2; rfl
    obtain ⟨u, hu, rv⟩ := r.get ha
    have hp : ps[i]? = some y := by
      rw [← S.pre, List.getElem?_take_of_lt (by omega)]; exact h1
    have ndP : ps.Nodup := by rw [← S.pre]; exact S.nd.sublist (List.take_sublist _ _)
    refine ⟨u, rv, ?_⟩
    rcases S.par y (List.mem_of_getElem? hp) with k | k
    · exact .inl ⟨k, bindL_get ndP hp hu k⟩
    · obtain ⟨c, e⟩ := cell_has (n := s.heap.objs.size + 1) k
      refine .inr ⟨.inl k, c, e, ?_⟩
      have q := x.cell y c e
      rw [bindC_get ndP hp hu (by show scope.names.lookup y ≠ _; rw [k]; decide)] at q
      exact q
  · exact e0.hok.fresh (Nat.le_of_lt (x.above y c (PySem.mem_of_lookup h)))
  · unfold start
    show _ = N.length
    rw [List.length_append, List.length_map, List.length_replicate]
    omega

/-- THE RULE: a def (or a method) of the text, by its body. The body's reading t is chosen for each entry; it is run at the parameters' values -/
theorem fn_of {CX : CXT} {P : Program} {w : World} {K : PySem.W.Frag} {mg : Str → Option Value} {base : Heap} {k : Nat} {f : Addr} {name qual : Str} {params : Arguments} {body : List Stmt} {scope : Scope} {dV kV doc pm cdv ct oc : Value} {an od : Option Addr}
    {osl : Array (Option Value)} {N ps : List Str} {sp : Sp} (lk : K.lookup f = some ⟨oc, od, .func (PySem.W.fnOf name qual params body scope dV kV doc pm an cdv ct), osl⟩) (hcd : PySem.W.codeIn K cdv qual = true) (S : FnScope N ps scope)
    (len : ∀ vs H Q E, sp vs H Q E → vs.length = ps.length)
    (hbody : ∀ (A : Around) (outer : List Env) (s : Shared) (H : Hp) (vs : List V) (Q : VK) (E : XK), Room k (A.deeper (envOfC qual scope s.heap.objs.size f cdv)) → sp vs H Q E →
      ∃ t, PSs (cxOf CX P w K mg base N qual scope f cdv A outer s H E) body t ∧ t { nx := fun _ H' => Q .non H', rt := Q } (start N vs) H) :
    FnOk P w K mg base CX (k + 1) f (PySem.W.fnOf name qual params body scope dV kV doc pm an cdv ct) ps sp := by
  refine ⟨len, fun A outer s H args us vs Q E hr e0 hb r hsp => ?_⟩
  have hl := len _ _ _ _ hsp
  have KX : K.In s.heap := e0.mod.kin.keeps fun b o e => (e0.bs b o e).1
  have lim : s.heap.NoLimit := e0.mod.nolimit.keeps fun b o e => (e0.bs b o e).1
  have hkind : ∀ y ∈ ps.zip us, scope.names.lookup y.1 = some .local ∨ (scope.names.lookup y.1 = some .cell ∧ ((cellsFrom (s.heap.objs.size + 1) scope.names []).lookup y.1).isSome = true) := fun ⟨n, v⟩ hy => by
    rcases S.par n (List.of_mem_zip hy).1 with q | q
    · exact .inl q
    · exact .inr ⟨q, PySem.W.cellsFrom_some _ _ _ (.inl q)⟩
  refine codeAny_call_function hr.depth (KX _ _ lk) rfl S.co S.gen rfl (PySem.W.codeRec_of KX hcd) (hb _ _ _ _ ?_)
  refine wpAny_newFunctionEnv_cells S.kind hkind fun env he s1 x => ?_
  subst he
  refine ⟨lim.keeps x.toInCall.keep, codeAny_func ?_⟩
  obtain ⟨t, ht, hq⟩ := hbody A outer s H vs Q E (hr.deeper _) hsp
  have I : Inv (cxOf CX P w K mg base N qual scope f cdv A outer s H E) [] (start N vs) H s1 := inv_start S hr.hd e0 hl r x
  refine wpAny_mono (ht [] s1 (start N vs) H _ I hq) (fun fl s' hs => ?_) fun e s' hs => hs
  have fin : ∀ {σ' : St} {H' : Hp} {v : V} {u : Value}, Inv (cxOf CX P w K mg base N qual scope f cdv A outer s H E) [] σ' H' s' → RelV v u → Q v H' → CE outer P w H s Q u s' :=
    fun {σ' H' v u} J rv q => ⟨v, H', J.os, J.bare, J.base, J.hok, rv, q⟩
  cases fl with
  | ret u =>
    obtain ⟨v, σ', H', J, rv, q⟩ := hs
    exact fin J rv q
  | next =>
    obtain ⟨σ', H', J, q⟩ := hs
    exact fin (v := V.non) (u := Value.none) J rfl q
  | brk =>
    obtain ⟨_, _, _, q⟩ := hs
    exact False.elim q
  | cont =>
    obtain ⟨_, _, _, q⟩ := hs
    exact False.elim q
end L2

namespace L2
open PySem PySem.Spec PyProof.Rows
section
variable {X : Cx} {x : Str} {p pos : Pos} {e : Expr} {es : List Expr} {t : TA} {id T : String} {r : List V → Hp → VK → Prop}

def tCB (r : List V → Hp → VK → Prop) (t : TA) : TE := fun σ H Q => t σ H fun vs H1 => r vs H1 Q
/-- f(e, ..), f a built-in function -/
theorem pe_callB (hc : CallR X (.builtin id) r) (hg : Gl X x) (hm : X.mg x = none) (hv : bootBuiltins x = some (.builtin id)) (ha : PA X (e :: es) t) (hn : x ≠ "__name__" := by decide) (hdb : (x == ("__debug__" : Str)) = false := by decide)
    (he : starEach (e :: es) X.env = (false, eval e X.env) :: starEach es X.env := by rfl) (hpl : (backTo pos (starEach es X.env)).any (·.1) = false := by rfl) : PE X (.Call (.Name x p) (e :: es) [] pos) (tCB r t) := by
  intro pins s σ H Q I h
  refine wpAny_Call_Name_kw (ld_blt I hg hm hv ?_ hn hdb)
  exact PyProof.Rows.callWith_builtin1 (thn (ha pos pins s σ H _ I h) fun us s1 ⟨vs, H1, I1, r1, q1⟩ => hc pins s1 σ H1 vs us Q I1 r1 q1) he hpl
/-- T(e, ..), T a built-in type -/
theorem pe_callTy (hc : CallR X (.type T) r) (hg : Gl X x) (hm : X.mg x = none) (hv : bootBuiltins x = some (.type T)) (ha : PA X (e :: es) t) (hn : x ≠ "__name__" := by decide) (hdb : (x == ("__debug__" : Str)) = false := by decide)
    (he : starEach (e :: es) X.env = (false, eval e X.env) :: starEach es X.env := by rfl) (hpl : (backTo pos (starEach es X.env)).any (·.1) = false := by rfl) : PE X (.Call (.Name x p) (e :: es) [] pos) (tCB r t) := by
  intro pins s σ H Q I h
  refine wpAny_Call_Name_kw (ld_blt I hg hm hv ?_ hn hdb)
  exact PyProof.Rows.callWith_type1 (thn (ha pos pins s σ H _ I h) fun us s1 ⟨vs, H1, I1, r1, q1⟩ => hc pins s1 σ H1 vs us Q I1 r1 q1) he hpl
/-- T() -/
theorem pe_callTy0 (hc : CallR X (.type T) r) (hg : Gl X x) (hm : X.mg x = none) (hv : bootBuiltins x = some (.type T)) (hn : x ≠ "__name__" := by decide) (hdb : (x == ("__debug__" : Str)) = false := by decide) :
    PE X (.Call (.Name x p) [] [] pos) (tCB r tNil) := by
  intro pins s σ H Q I h
  refine wpAny_Call_Name_kw (ld_blt I hg hm hv ?_ hn hdb)
  exact PyProof.Rows.callWith_type0 (hc pins s σ H [] [] Q I .nil h)
end
end L2

namespace HT
open PySem PyProof.Rows

/-- t < u of tuples of ints -/
def lexLt : List Int → List Int → Bool
  | [], [] => false
  | [], _ :: _ => true
  | _ :: _, [] => false
  | x :: xs, y :: ys => if x = y then lexLt xs ys else decide (x < y)
theorem lexLt_cons (x y : Int) (xs ys : List Int) : lexLt (x :: xs) (y :: ys) = if x = y then lexLt xs ys else decide (x < y) := rfl
theorem lexLt_nil_nil : lexLt [] [] = false := rfl
theorem lexLt_nil_cons (y : Int) (ys : List Int) : lexLt [] (y :: ys) = true := rfl
theorem lexLt_cons_nil (x : Int) (xs : List Int) : lexLt (x :: xs) [] = false := rfl

theorem eqAt_int (A : Around) (s : Shared) (a : Int) (t : Tok) (c : Int) (u : Tok) : ∃ e, SeqAt.EqAt A s (.int a t) (.int c u) e ∧ (e = true ↔ a = c) :=
  ⟨(a == c), SeqAt.EqAt.int_int a t c u, by simp⟩
theorem rcLt_int (A : Around) (s : Shared) (a : Int) (t : Tok) (c : Int) (u : Tok) (prog : Program) (w : World) (E : Value → Shared → Prop) (Q : Value → Shared → Prop) (h : Q (.bool (decide (a < c))) s) :
    wpAny (model prog w) A (richCompare .Lt (.int a t) (.int c u)) Q E s :=
  (PyProof.Rows.lt_int h : wpAny (model prog w) A (compareOp .Lt (.int a t) (.int c u)) Q E s)

section
open PySem.SeqAt
open PySem.AutoSeq1 (wpAny_loadPart')
open PySem.MeetsSeq PySem.MeetsSeq2 PySem.MeetsSeq3

theorem tuple_lt_ints (l b : Addr) (items items2 : Array Value) (n n2 : Nat) (dd dd2 : Option Addr) (sl sl2 : Array (Option Value)) (ns ms : List Int) (hi : IntsAre items.toList ns) (hj : IntsAre items2.toList ms) :
    Meets (Builtin.«tuple.__lt__» ⟨[.ref l, .ref b], []⟩)
      (fun _ R s => s.heap.get? l = some { cls := .type "tuple", dict := dd, data := .seq items n, slots := sl } ∧ s.heap.get? b = some { cls := .type "tuple", dict := dd2, data := .seq items2 n2, slots := sl2 } ∧
        R (.ok (.ret (.bool (lexLt ns ms)))) s) :=
  .of_wp fun prog w A R s h => by
    obtain ⟨hp, g, d, tk, os⟩ := s; obtain ⟨hl, hb, h⟩ := h
    have f2 := AutoSeq1.sub_tuple_tuple
    have z1 : items.size = ns.length := by rw [← hi.length]; simp
    have z2 : items2.size = ms.length := by rw [← hj.length]; simp
    wp_walk using wpAny_loadPart' hl, wpAny_loadPart' hb, wpAny_forIn_list _ (fun rest b s' => b.1 = none ∧ s' = ⟨hp, g, d, tk, os⟩ ∧ ∃ (vs ws : List Value) (ns' ms' : List Int), rest = vs.zip ws ∧
      IntsAre vs ns' ∧ IntsAre ws ms' ∧ ns'.length + items2.size = ms'.length + items.size ∧ R (.ok (.ret (.bool (lexLt ns' ms')))) ⟨hp, g, d, tk, os⟩) _
    case turn =>
      rintro ⟨y, x⟩ rest b s' ⟨hb', rfl, vs, ws, ns', ms', hz, hvi, hwi, hlen, hR⟩
      cases hvi with
      | nil => rw [List.zip_nil_left] at hz; cases hz
      | cons a t hvi' =>
        cases hwi with
        | nil => rw [List.zip_nil_right] at hz; cases hz
        | cons c u hwi' =>
          rw [List.zip_cons_cons] at hz
          injection hz with hyx hrest
          injection hyx with hy hx
          subst hy hx
          rw [lexLt_cons] at hR
          simp only [List.length_cons] at hlen
          obtain ⟨e, he, hiff⟩ := eqAt_int A.in1 ⟨hp, g, d, tk, os⟩ a t c u
          refine wpAny_bind (he prog w _ _ ?_)
          cases e with
          | true =>
            rw [if_pos (hiff.mp rfl)] at hR
            wp_walk
            exact ⟨rfl, rfl, _, _, _, _, hrest, hvi', hwi', by omega, hR⟩
          | false =>
            rw [if_neg (fun q => absurd (hiff.mpr q) Bool.false_ne_true)] at hR
            have hri := rcLt_int A.in1 ⟨hp, g, d, tk, os⟩ a t c u prog w
            wp_walk using hri
            exact ⟨_, rfl, by simpa using hR⟩
    case fin =>
      rintro ⟨b1, b2⟩ s' ⟨hb', rfl, vs, ws, ns', ms', hz, hvi, hwi, hlen, hR⟩
      simp only at hb'
      subst hb'
      have hv : lexLt ns' ms' = decide (items.size < items2.size) := by
        cases hvi with
        | nil =>
          cases hwi with
          | nil =>
            simp only [List.length_nil] at hlen
            rw [lexLt_nil_nil]
            exact (decide_eq_false (by omega)).symm
          | cons c u hw =>
            simp only [List.length_nil, List.length_cons] at hlen
            rw [lexLt_nil_cons]
            exact (decide_eq_true (by omega)).symm
        | cons a t hv =>
          cases hwi with
          | nil =>
            simp only [List.length_nil, List.length_cons] at hlen
            rw [lexLt_cons_nil]
            exact (decide_eq_false (by omega)).symm
          | cons c u hw =>
            rw [List.zip_cons_cons] at hz
            cases hz
      rw [hv] at hR
      wp_walk
      exact ⟨_, rfl, by simpa [Builtin.Tuple.tupleCompareSizes] using hR⟩
    case h =>
      exact ⟨rfl, rfl, items.toList, items2.toList, ns, ms, rfl, hi, hj, by omega, h⟩
end

section
variable {prog : Program} {w : World} {A : Around} {E : Value → Shared → Prop} {s : Shared}

theorem lt_tupInts {l b : Addr} {items items2 : Array Value} {ns ms : List Int} {Q : Value → Shared → Prop} (hl : IsTup s.heap l items) (hb : IsTup s.heap b items2) (hi : IntsAre items.toList ns) (hj : IntsAre items2.toList ms)
    (hu : A.units < cLine) (h : Q (.bool (lexLt ns ms)) s) : wpAny (model prog w) A (compareOp .Lt (.ref l) (.ref b)) Q E s := by
  obtain ⟨⟨cls, dd, data, sl⟩, ho, hc, n, hd⟩ := id hl
  obtain ⟨⟨cls2, dd2, data2, sl2⟩, ho2, hc2, n2, hd2⟩ := id hb
  simp only at hc hd hc2 hd2
  subst hc hd hc2 hd2
  exact richCompare_meets_room (op := .Lt) ⟨_, ho, rfl⟩ ⟨_, ho2, rfl⟩ PySem.F.slot_tuple_lt PySem.F.entry_tuple_lt (PySem.F.args_tuple_lt_2 _ _) (tuple_lt_ints l b items items2 n n2 dd dd2 sl sl2 ns ms hi hj)
    ⟨ho, ho2, show Value.bool (lexLt ns ms) ≠ Value.notImplemented ∧ Q (.bool (lexLt ns ms)) s from ⟨(fun x => nomatch x), h⟩⟩ hu

/-- t + u, t not empty -/
theorem cat_tup {t b : Addr} {vs ws : List Value} {Q : Value → Shared → Prop} (ht : IsTup s.heap t vs.toArray) (hb : IsTup s.heap b ws.toArray) (hv : vs ≠ [])
    (h1 : ws = [] → Q (.ref t) s) (h2 : ws ≠ [] → Q (.ref s.heap.objs.size) { s with heap := s.heap.push { cls := .type "tuple", data := .seq (vs ++ ws).toArray } })
    (hsz : vs.length + ws.length ≤ sizeLine) : wpAny (model prog w) A (binaryOp .Add (.ref t) (.ref b)) Q E s := by
  obtain ⟨⟨cls, dd, data, sl⟩, ho, hc, n, hd⟩ := id ht
  obtain ⟨⟨cls2, dd2, data2, sl2⟩, ho2, hc2, n2, hd2⟩ := id hb
  simp only at hc hd hc2 hd2
  subst hc hd hc2 hd2
  have e : vs.toArray ++ ws.toArray = (vs ++ ws).toArray := by simp
  by_cases hw : ws = []
  · exact concat_meets ⟨_, ho, rfl⟩ ⟨_, ho2, rfl⟩ noFill_tuple_add seq_tuple_add PySem.F.slot_tuple_add PySem.F.entry_tuple_add (PySem.F.args_tuple_add_2 _ _)
      (tuple_addW1 t b vs.toArray ws.toArray n n2 dd dd2 sl sl2 (by simpa using hv) (by simp [hw])) ⟨ho, ho2, h1 hw⟩
  · refine concat_meets ⟨_, ho, rfl⟩ ⟨_, ho2, rfl⟩ noFill_tuple_add seq_tuple_add PySem.F.slot_tuple_add PySem.F.entry_tuple_add (PySem.F.args_tuple_add_2 _ _)
      (tuple_addW2 t b vs.toArray ws.toArray n n2 dd dd2 sl sl2 (by simpa using hv) (by simpa using hw) (by rw [List.size_toArray, List.size_toArray]; exact hsz)) ⟨ho, ho2, ?_⟩
    rw [e]
    exact h2 hw

/-! ### t[a:b], not the whole -/
/-- a slice's bound as a place among n (d where it is left out) -/
def sIx (n d : Nat) : Option Int → Nat
  | none => d
  | some v => if v < 0 then (v + (n : Int)).toNat else min v.toNat n
theorem sIx_none (n d : Nat) : sIx n d none = d := rfl
theorem sIx_nat (n d k : Nat) : sIx n d (some (k : Int)) = min k n := by
  show (if (k : Int) < 0 then ((k : Int) + (n : Int)).toNat else min (k : Int).toNat n) = min k n
  rw [if_neg (by omega), Int.toNat_natCast]
theorem sIx_le (n d : Nat) (hd : d ≤ n) (o : Option Int) : sIx n d o ≤ n := by
  cases o with
  | none => exact hd
  | some v =>
    show (if v < 0 then (v + (n : Int)).toNat else min v.toNat n) ≤ n
    by_cases hv : v < 0
    · rw [if_pos hv]; omega
    · rw [if_neg hv]; exact Nat.min_le_right _ _
theorem clip_eq (v : Int) (n d : Nat) : (if v < 0 then max (v + (n : Int)) 0 else min v (n : Int)) = ((sIx n d (some v) : Nat) : Int) := by
  show (if v < 0 then max (v + (n : Int)) 0 else min v (n : Int)) = (((if v < 0 then (v + (n : Int)).toNat else min v.toNat n) : Nat) : Int)
  by_cases hv : v < 0
  · simp only [if_pos hv]; omega
  · simp only [if_neg hv]; omega
theorem adjust_gen (lo hi : Option Int) (n : Nat) : Builtin.Slice.sliceAdjust lo hi 1 (n : Int) = (((sIx n 0 lo : Nat) : Int), ((sIx n n hi : Nat) : Int)) := by
  have h1 : ¬ ((1 : Int) < 0) := by omega
  unfold Builtin.Slice.sliceAdjust
  simp only [h1, if_false]
  refine Prod.ext ?_ ?_
  · cases lo with
    | none => rfl
    | some v => exact clip_eq v n 0
  · cases hi with
    | none => rfl
    | some v => exact clip_eq v n n
theorem places_gen (i j : Nat) : Builtin.Slice.slicePlaces (i : Int) (j : Int) 1 = j - i := by
  unfold Builtin.Slice.slicePlaces
  have h1 : (1 : Int) > 0 := by omega
  simp only [h1, if_true, Int.ediv_one]
  split <;> omega
theorem slicePart_ {v : Value} {o : Option Int} {Q : Option Int → Shared → Prop} (p : IsPart v o) (h : Q o s) : wpAny (model prog w) A (Builtin.Slice.slicePartIndex v) Q E s := by
  cases p with
  | none => exact slicePart_none h
  | int i t => exact slicePart_int h
theorem sliceApplied_gen {sl : Addr} {vl vu : Value} {lo hi : Option Int} {n : Nat} {Q : Int × Int × Nat → Shared → Prop} (hs : s.heap.IsSliceOf sl vl vu .none) (pl : IsPart vl lo) (pu : IsPart vu hi)
    (h : Q (((sIx n 0 lo : Nat) : Int), 1, sIx n n hi - sIx n 0 lo) s) : wpAny (model prog w) A (Builtin.Slice.sliceApplied (.ref sl) (pure (n : Int))) Q E s := by
  obtain ⟨os, hos, hcs, hds⟩ := id hs
  unfold Builtin.Slice.sliceApplied Builtin.Slice.sliceFields
  refine wpAny_bind (wpAny_bind (wpAny_field hos hds (x := vl) rfl (wpAny_bind (wpAny_field hos hds (x := vu) rfl (wpAny_bind (wpAny_field hos hds (x := .none) rfl (wpAny_pure ?_)))))))
  refine wpAny_bind (slicePart_none ?_)
  show wpAny _ _ (if ((1 : Int) == 0) = true then _ else _) _ _ s
  rw [if_neg (by decide)]
  refine wpAny_bind (slicePart_ pl (wpAny_bind (slicePart_ pu (wpAny_bind (wpAny_pure ?_)))))
  show wpAny _ _ (match Builtin.Slice.sliceAdjust lo hi 1 (n : Int) with | (lo, hi) => pure (lo, (1 : Int), Builtin.Slice.slicePlaces lo hi 1)) _ _ s
  rw [adjust_gen lo hi n]
  show wpAny _ _ (pure (((sIx n 0 lo : Nat) : Int), (1 : Int), Builtin.Slice.slicePlaces ((sIx n 0 lo : Nat) : Int) ((sIx n n hi : Nat) : Int) 1)) _ _ s
  rw [places_gen]
  exact wpAny_pure h
theorem pick_gen (xs : Array Value) (i k : Nat) : ((List.range k).filterMap fun (m : Nat) => xs[((i : Int) + (m : Int) * 1).toNat]?).toArray = ((xs.toList.drop i).take k).toArray := by
  have e : (fun (m : Nat) => xs[((i : Int) + (m : Int) * 1).toNat]?) = fun m => xs[i + m]? := by
    funext m
    have : ((i : Int) + (m : Int) * 1).toNat = i + m := by omega
    rw [this]
  rw [e]
  have := pick_run xs i k
  rw [List.filterMap_map] at this
  have e2 : ((fun x => xs[x]?) ∘ fun x => i + x) = fun m => xs[i + m]? := rfl
  rw [e2] at this
  rw [this]

theorem getItem_tuple_cut {t sl : Addr} {items : Array Value} {vl vu : Value} {lo hi : Option Int} {Q : Value → Shared → Prop} (ht : IsTup s.heap t items) (hs : s.heap.IsSliceOf sl vl vu .none) (pl : IsPart vl lo) (pu : IsPart vu hi)
    (hw : ¬ (sIx items.size 0 lo = 0 ∧ sIx items.size items.size hi = items.size))
    (h : Q (.ref s.heap.objs.size) { s with heap := s.heap.push { cls := .type "tuple", data := .seq ((items.toList.drop (sIx items.size 0 lo)).take (sIx items.size items.size hi - sIx items.size 0 lo)).toArray } })
    (hsz : items.size ≤ sizeLine) : wpAny (model prog w) A (getItem (.ref t) (.ref sl)) Q E s := by
  have htake : sizeOk (.seq ((items.toList.drop (sIx items.size 0 lo)).take (sIx items.size items.size hi - sIx items.size 0 lo)).toArray) := by
    show ((items.toList.drop (sIx items.size 0 lo)).take (sIx items.size items.size hi - sIx items.size 0 lo)).toArray.size ≤ sizeLine
    rw [List.size_toArray, List.length_take, List.length_drop, Array.length_toList]
    omega
  have hj : sIx items.size items.size hi ≤ items.size := sIx_le _ _ (Nat.le_refl _) hi
  obtain ⟨os, hos, hcs, hds⟩ := id hs
  have hTs : s.TypeIs (.ref sl) "slice" := ⟨os, hos, hcs⟩
  unfold getItem
  try with_reducible refine wpAny_holding ?_
  first | refine wpAny_bind (wpAny_pure ?_) | skip
  refine wpAny_bind (wpAny_sequenceKey ht.typeIs (by decide) ?_)
  refine wpAny_bind (wpAny_callSpecial?_slot (name := Str.ofString "__getitem__") ht.typeIs PyProof.Rows.slot_tuple_getitem
    (wpAny_call_entry PyProof.Rows.slot_tuple_getitem ht.typeIs entry_tuple_getitem ?_ (args_tuple_getitem _ _)))
  show wpAny _ _ (Builtin.Tuple.tupleItemsOf (.ref t) >>= _) _ _ s
  refine wpAny_bind (tupleItemsOf_ ht ?_)
  refine wpAny_bind (wpAny_typeOf hTs ?_)
  rw [if_pos (by decide)]
  refine wpAny_bind (sliceApplied_gen hs pl pu ?_)
  have hno : ¬ ((((sIx items.size 0 lo : Nat) : Int) == 0 && (1 : Int) == 1 && (sIx items.size items.size hi - sIx items.size 0 lo) == items.size) = true) := by
    intro q
    rw [Bool.and_eq_true, Bool.and_eq_true] at q
    have q1 : ((sIx items.size 0 lo : Nat) : Int) = 0 := eq_of_beq q.1.1
    have q2 : sIx items.size items.size hi - sIx items.size 0 lo = items.size := eq_of_beq q.2
    exact hw ⟨by omega, by omega⟩
  show wpAny _ _ (if (((sIx items.size 0 lo : Nat) : Int) == 0 && (1 : Int) == 1 && (sIx items.size items.size hi - sIx items.size 0 lo) == items.size) = true then _ else _) _ _ s
  rw [if_neg hno, pick_gen]
  first
    | exact wpAny_bind (m := Builtin.Tuple.tupleExact _) (wpAny_newObj_type (wpAny_pure ⟨_, rfl, wpAny_pure h⟩) htake)
    | exact wpAny_bind (m := Builtin.Tuple.tupleExact _) (wpAny_newObj_type (wpAny_bind (wpAny_pure (wpAny_pure ⟨_, rfl, wpAny_pure h⟩))) htake)
    | exact wpAny_bind (wpAny_bind (m := Builtin.Tuple.tupleExact _) (wpAny_newObj_type (wpAny_pure (wpAny_pure ⟨_, rfl, wpAny_pure h⟩)) htake))
    | exact wpAny_bind (wpAny_bind (m := Builtin.Tuple.tupleExact _) (wpAny_newObj_type (wpAny_pure ⟨_, rfl, wpAny_pure h⟩) htake))
end
end HT

namespace L2
open PySem PySem.Spec PyProof.Rows

/-! ### the parts of a slice -/
abbrev TO := St → Hp → (Option Int → Hp → Prop) → Prop
/-- a slice's part (left out, or an int) -/
def PO (X : Cx) (e : Option Expr) (t : TO) : Prop :=
  ∀ (pins : List (Addr × Obj)) (s : Shared) (σ : St) (H : Hp) (Q : Option Int → Hp → Prop), Inv X pins σ H s → t σ H Q →
    wpAny (model X.prog X.w) X.A (evalPart e X.env) (fun u s' => ∃ o H', Inv X pins σ H' s' ∧ IsPart u o ∧ Q o H') X.xe s
def tNoPart : TO := fun _ H Q => Q none H
def tPart (t : TE) : TO := fun σ H Q => t σ H fun x H1 => ∃ i, x = .int i ∧ Q (some i) H1

theorem intsAre_of {ns : List Int} : ∀ {us : List Value}, Vals (ns.map V.int) us → IntsAre us ns := by
  induction ns with
  | nil => intro us r; rw [List.map_nil] at r; cases r; exact .nil
  | cons n ns ih =>
    intro us r
    rw [List.map_cons] at r
    cases r with
    | cons r1 r2 =>
      obtain ⟨t, e⟩ := r1
      subst e
      exact .cons n t (ih r2)

section
variable {X : Cx} {e : Expr} {te : TE} {lo hi : Option Expr} {tl th : TO} {pos p2 : Pos}

theorem po_none : PO X none tNoPart := by
  intro pins s σ H Q I h
  rw [evalPart_none]
  exact wpAny_pure ⟨none, H, I, .none, h⟩
theorem po_some (h : PE X e te) : PO X (some e) (tPart te) := by
  intro pins s σ H Q I hw
  rw [evalPart_some]
  refine thn (h pins s σ H _ I hw) fun u s1 ⟨x, H1, I1, r1, q1⟩ => ?_
  obtain ⟨i, rfl, q⟩ := q1
  obtain ⟨t, rfl⟩ := r1
  exact ⟨some i, H1, I1, .int i t, q⟩

/-- what a slice of a value is, by values: the slice object stands at sl -/
def SlR (X : Cx) (r : V → Option Int → Option Int → Hp → VK → Prop) : Prop :=
  ∀ (pins : List (Addr × Obj)) (s : Shared) (σ : St) (H : Hp) (x : V) (v vl vu : Value) (lo hi : Option Int) (sl : Addr) (Q : VK), Inv X pins σ H s → RelV x v → s.heap.IsSliceOf sl vl vu .none → IsPart vl lo → IsPart vu hi → r x lo hi H Q →
    ∃ T id, typeLookup (.type T) "__getitem__" = pure (some (.builtin id)) ∧ s.TypeIs v T ∧ wpAny (model X.prog X.w) X.A (getItem v (.ref sl)) (EP X pins σ Q) X.xe s
theorem SlR.or {r r' : V → Option Int → Option Int → Hp → VK → Prop} (h : SlR X r) (h' : SlR X r') : SlR X (fun x lo hi H Q => r x lo hi H Q ∨ r' x lo hi H Q) := by
  intro pins s σ H x v vl vu lo hi sl Q I rx hs pl pu q
  rcases q with q | q
  · exact h pins s σ H x v vl vu lo hi sl Q I rx hs pl pu q
  · exact h' pins s σ H x v vl vu lo hi sl Q I rx hs pl pu q
def tSl (r : V → Option Int → Option Int → Hp → VK → Prop) (te : TE) (tl th : TO) : TE := fun σ H Q => te σ H fun x H1 => tl σ H1 fun l H2 => th σ H2 fun u H3 => r x l u H3 Q
/-- a[lo:hi], any a -/
theorem pe_slice {r : V → Option Int → Option Int → Hp → VK → Prop} (hr : SlR X r) (he : PE X e te) (hl : PO X lo tl) (hu : PO X hi th) : PE X (.Subscript e (.Slice lo hi none p2) pos) (tSl r te tl th) := by
  intro pins s σ H Q I h
  refine Subscript_ (thn (he pins s σ H _ I h) fun v s1 ⟨x, H1, I1, r1, q1⟩ => ?_)
  refine wpAny_Slice (thn (hl pins s1 σ H1 _ I1 q1) fun vl s2 ⟨l, H2, I2, pl, q2⟩ => thn (hu pins s2 σ H2 _ I2 q2) fun vu s3 ⟨u, H3, I3, pu, q3⟩ => ?_)
  rw [evalPart_none]
  refine wpAny_pure ?_
  have I4 : Inv X pins σ H3 { s3 with heap := s3.heap.push { cls := .type "slice", data := .fields #[vl, vu, .none] } } := I3.kept (t' := s3.toks) fun b ob q => Heap.get?_push_of_some _ q
  obtain ⟨T, id, hT, ht, hg⟩ := hr pins { s3 with heap := s3.heap.push { cls := .type "slice", data := .fields #[vl, vu, .none] } } σ H3 x v vl vu l u s3.heap.objs.size Q I4 r1 (Heap.IsSliceOf.new ..) pl pu q3
  show wpAny (model X.prog X.w) X.A (subscriptTail e (.Slice lo hi none p2) v (.ref s3.heap.objs.size)) (EP X pins σ Q) X.xe { s3 with heap := s3.heap.push { cls := .type "slice", data := .fields #[vl, vu, .none] } }
  exact tail_any (ops := [.ref s3.heap.objs.size, v]) ht hT hg (by with_unfolding_all rfl)

/-- the items of xs[lo:hi] -/
def cutV (xs : List V) (lo hi : Option Int) : List V := (xs.drop (HT.sIx xs.length 0 lo)).take (HT.sIx xs.length xs.length hi - HT.sIx xs.length 0 lo)
theorem cutV_length (xs : List V) (lo hi : Option Int) : (cutV xs lo hi).length ≤ xs.length := by
  unfold cutV
  rw [List.length_take, List.length_drop]
  omega
/-- t[lo:hi], not the whole of it (the whole would be t itself) -/
def rSlT (K : PySem.W.Frag) : V → Option Int → Option Int → Hp → VK → Prop := fun x lo hi H Q => ∃ a xs, x = .ref a ∧ SqT K H a xs ∧
  ¬ (HT.sIx xs.length 0 lo = 0 ∧ HT.sIx xs.length xs.length hi = xs.length) ∧ ∀ p, H p = none → Q (.ref p) (upd H p (.tup (cutV xs lo hi)))
theorem sl_tup : SlR X (rSlT X.K) := by
  intro pins s σ H x v vl vu lo hi sl Q I rx hs pl pu h
  obtain ⟨a, xs, rfl, hx, hw, q⟩ := h
  cases rx
  obtain ⟨its, r, ht, hz⟩ := I.tuple hx
  have hlen : its.toArray.size = xs.length := by rw [List.size_toArray]; exact r.length.symm
  refine ⟨"tuple", _, PyProof.Rows.slot_tuple_getitem.lookup, ht.typeIs, ?_⟩
  refine HT.getItem_tuple_cut ht hs pl pu (by rw [hlen]; exact hw) ?_ (by rw [hlen]; exact hz)
  rw [hlen]
  refine ⟨.ref s.heap.objs.size, _, I.laid (t' := s.toks) (o := .tup (cutV xs lo hi)) (fun b ob q => Heap.get?_push_of_some _ q) (Nat.le_refl _) ?_, rfl, q _ (I.hok.fresh (Nat.le_refl _))⟩
  exact ⟨Nat.le_trans (cutV_length xs lo hi) hz, _, (r.drop (HT.sIx xs.length 0 lo)).take (HT.sIx xs.length xs.length hi - HT.sIx xs.length 0 lo), IsTup.new _ _⟩

/-! ### t < u, t + u -/
def rLtT (K : PySem.W.Frag) : R2 := fun x y H Q => ∃ a b ns ms, x = .ref a ∧ y = .ref b ∧ SqT K H a (ns.map V.int) ∧ SqT K H b (ms.map V.int) ∧ Q (.bl (HT.lexLt ns ms)) H
theorem op_ltT (hu : X.A.units < cLine) : OpR X (compareOp .Lt) (rLtT X.K) := by
  intro pins s σ H x y v u Q I rx ry h
  obtain ⟨a, b, ns, ms, rfl, rfl, ha, hb, q⟩ := h
  cases rx
  cases ry
  obtain ⟨its, r1, p1, _⟩ := I.tuple ha
  obtain ⟨its2, r2, p2, _⟩ := I.tuple hb
  have i1 : IntsAre its.toArray.toList ns := intsAre_of r1
  have i2 : IntsAre its2.toArray.toList ms := intsAre_of r2
  exact HT.lt_tupInts p1 p2 i1 i2 hu ⟨.bl (HT.lexLt ns ms), H, I, rfl, q⟩
/-- t + u, t not empty: u empty gives t itself -/
def rCatT (K : PySem.W.Frag) : R2 := fun x y H Q => ∃ a b xs ys, x = .ref a ∧ y = .ref b ∧ SqT K H a xs ∧ SqT K H b ys ∧ xs ≠ [] ∧ xs.length + ys.length ≤ sizeLine ∧
  (ys = [] → Q (.ref a) H) ∧ (ys ≠ [] → ∀ p, H p = none → Q (.ref p) (upd H p (.tup (xs ++ ys))))
theorem Vals.nil_iff {xs : List V} {us : List Value} (r : Vals xs us) : us = [] ↔ xs = [] := by
  cases r with
  | nil => simp
  | cons _ _ => simp
theorem op_catT : OpR X (binaryOp .Add) (rCatT X.K) := by
  intro pins s σ H x y v u Q I rx ry h
  obtain ⟨a, b, xs, ys, rfl, rfl, ha, hb, hx, hz, q1, q2⟩ := h
  cases rx
  cases ry
  obtain ⟨its, r1, p1, _⟩ := I.tuple ha
  obtain ⟨its2, r2, p2, _⟩ := I.tuple hb
  refine HT.cat_tup p1 p2 (fun z => hx (r1.nil_iff.mp z)) (fun z => ⟨.ref a, H, I, rfl, q1 (r2.nil_iff.mp z)⟩) (fun z => ?_) (by rw [← r1.length, ← r2.length]; exact hz)
  refine ⟨.ref s.heap.objs.size, _, I.laid (t' := s.toks) (o := .tup (xs ++ ys)) (fun b ob q => Heap.get?_push_of_some _ q) (Nat.le_refl _) ?_, rfl, q2 (fun w => z (r2.nil_iff.mpr w)) _ (I.hok.fresh (Nat.le_refl _))⟩
  exact ⟨by rw [List.length_append]; exact hz, _, r1.append r2, IsTup.new _ _⟩
/-- tuple(t) -/
theorem call_tupleT : CallR X (.type "tuple") (fun xs H Q => ∃ a ys, xs = [.ref a] ∧ SqT X.K H a ys ∧ Q (.ref a) H) := by
  intro pins s σ H xs us Q I r h
  obtain ⟨a, ys, rfl, ha, q⟩ := h
  obtain ⟨u, rfl, ru⟩ := vals1 r
  cases ru
  obtain ⟨its, _, p1, _⟩ := I.tuple ha
  exact call_tuple_same (items := its.toArray) p1 ⟨.ref a, H, I, rfl, q⟩
end
end L2

namespace L2
open PySem PySem.Spec PyProof.Rows

/-! ### places -/
/-- the place that an index of any sign means -/
def ixN (n : Nat) (i : Int) : Option Nat := if 0 ≤ i then (if i < n then some i.toNat else none) else if -(n : Int) ≤ i then some (i + n).toNat else none
def atI {α : Type} (xs : List α) (i : Int) : Option α := (ixN xs.length i).bind fun j => xs[j]?
theorem ixN_seq {n : Nat} {i : Int} {j : Nat} (h : ixN n i = some j) : seqIndex? i n = some j ∧ j < n ∧ -(n : Int) ≤ i ∧ i < n := by
  unfold ixN at h
  by_cases h0 : 0 ≤ i
  · rw [if_pos h0] at h
    by_cases h1 : i < n
    · rw [if_pos h1] at h
      have e : i.toNat = j := Option.some.inj h
      exact ⟨by rw [seqIndex_of h0 h1, e], by omega, by omega, h1⟩
    · rw [if_neg h1] at h; cases h
  · rw [if_neg h0] at h
    by_cases h1 : -(n : Int) ≤ i
    · rw [if_pos h1] at h
      have e : (i + n).toNat = j := Option.some.inj h
      exact ⟨by rw [seqIndex_neg (by omega) h1, e], by omega, h1, by omega⟩
    · rw [if_neg h1] at h; cases h
theorem atI_get {α : Type} {xs : List α} {i : Int} {v : α} (h : atI xs i = some v) : ∃ j, seqIndex? i xs.length = some j ∧ xs[j]? = some v ∧ j < xs.length ∧ -(xs.length : Int) ≤ i ∧ i < xs.length := by
  unfold atI at h
  cases e : ixN xs.length i with
  | none => rw [e] at h; cases h
  | some j =>
    rw [e] at h
    obtain ⟨h1, h2, h3, h4⟩ := ixN_seq e
    exact ⟨j, h1, h, h2, h3, h4⟩
theorem atI_nat {α : Type} {xs : List α} {j : Nat} {v : α} (h : xs[j]? = some v) : atI xs (j : Int) = some v := by
  have hj : j < xs.length := (List.getElem?_eq_some_iff.mp h).1
  have e : ixN xs.length (j : Int) = some j := by
    unfold ixN
    rw [if_pos (by omega), if_pos (by omega)]; simp
  unfold atI; rw [e]; exact h
theorem atI_last {α : Type} (xs : List α) (v : α) : atI (xs ++ [v]) (-1) = some v := by
  have hl : (xs ++ [v]).length = xs.length + 1 := by simp
  have e : ixN (xs ++ [v]).length (-1) = some xs.length := by
    unfold ixN
    rw [hl, if_neg (by decide), if_pos (by omega)]
    congr 1
    omega
  unfold atI
  rw [e]
  show (xs ++ [v])[xs.length]? = some v
  simp

/-! ### what may be subscripted -/
/-- what stands as an index of a plain subscript -/
def PlainIx (b : Expr) : Prop := ∀ o i, subscripted b false o i = operate [o, i] (getItem o i)
/-- a subscript by values -/
def IxR (X : Cx) (r : R2) : Prop :=
  ∀ (value slice : Expr) (pins : List (Addr × Obj)) (s : Shared) (σ : St) (H : Hp) (x y : V) (v u : Value) (Q : VK), Inv X pins σ H s → RelV x v → RelV y u → r x y H Q →
    subscripted slice false v u = operate [v, u] (getItem v u) → wpAny (model X.prog X.w) X.A (subscriptTail value slice v u) (EP X pins σ Q) X.xe s
/-- a call of a builtin's method by values: the receiver, the arguments -/
def MtR (X : Cx) (id : String) (r : V → List V → Hp → VK → Prop) : Prop :=
  ∀ (pins : List (Addr × Obj)) (s : Shared) (σ : St) (H : Hp) (x : V) (xs : List V) (v : Value) (us : List Value) (Q : VK), Inv X pins σ H s → RelV x v → Vals xs us → r x xs H Q →
    wpAny (model X.prog X.w) X.A (call (.builtin id) (v :: us)) (EP X pins σ Q) X.xe s
section
variable {X : Cx} {a b : Expr} {ta tb : TE} {pos : Pos}
theorem IxR.or {r r' : R2} (h : IxR X r) (h' : IxR X r') : IxR X (fun x y H Q => r x y H Q ∨ r' x y H Q) := by
  intro value slice pins s σ H x y v u Q I rx ry q hs
  rcases q with q | q
  · exact h value slice pins s σ H x y v u Q I rx ry q hs
  · exact h' value slice pins s σ H x y v u Q I rx ry q hs
theorem MtR.or {id : String} {r r' : V → List V → Hp → VK → Prop} (h : MtR X id r) (h' : MtR X id r') : MtR X id (fun x xs H Q => r x xs H Q ∨ r' x xs H Q) := by
  intro pins s σ H x xs v us Q I rx rs q
  rcases q with q | q
  · exact h pins s σ H x xs v us Q I rx rs q
  · exact h' pins s σ H x xs v us Q I rx rs q
/-- a[b] -/
theorem pe_ix {r : R2} (hr : IxR X r) (ha : PE X a ta) (hb : PE X b tb) (hs : PlainIx b) : PE X (.Subscript a b pos) (tOp r ta tb) := by
  intro pins s σ H Q I h
  exact Subscript_ (binT ha hb I h fun v u s2 x y H2 I2 rx ry q => hr a b pins s2 σ H2 x y v u Q I2 rx ry q (hs _ _))

def rIxL (K : PySem.W.Frag) : R2 := fun x y H Q => ∃ p xs i v, x = .ref p ∧ y = .int i ∧ SqL K H p xs ∧ atI xs i = some v ∧ Q v H
def rIxT (K : PySem.W.Frag) : R2 := fun x y H Q => ∃ p xs i v, x = .ref p ∧ y = .int i ∧ SqT K H p xs ∧ atI xs i = some v ∧ Q v H
def rIxS : R2 := fun x y H Q => ∃ z i c, x = .str z ∧ y = .int i ∧ z.length ≤ sizeLine ∧ atI z.cps.toList i = some c ∧ Q (.str ⟨#[c]⟩) H
theorem ix_list : IxR X (rIxL X.K) := by
  intro value slice pins s σ H x y v u Q I rx ry h hs
  obtain ⟨p, xs, i, z, rfl, rfl, hq, he, q⟩ := h
  cases rx
  obtain ⟨t, rfl⟩ := ry
  obtain ⟨its, r, pl, hz⟩ := I.list hq
  obtain ⟨j, h1, h2, h3, h4, h5⟩ := atI_get he
  obtain ⟨w, ew, rw'⟩ := r.get h2
  have hl := r.length
  have hn := line63
  have fin : EP X pins σ Q w s := ⟨z, H, I, rw', q⟩
  by_cases h0 : 0 ≤ i
  · have hj : i.toNat = j := by
      rw [seqIndex_of h0 h5] at h1
      exact Option.some.inj h1
    exact item_listR pl.isList h0 (by omega) (by rw [hj]; simpa using ew) fin hs
  · have hj : (i + (its.toArray.size : Int)).toNat = j := by
      rw [seqIndex_neg (by omega) h4] at h1
      rw [List.size_toArray, ← hl]
      exact Option.some.inj h1
    exact subscriptTail_builtinR (x := w) pl.isList.typeIs slot_list_getitem.lookup
      (wpAny_getItem_list_neg (Q := fun r s' => r = w ∧ EP X pins σ Q r s') pl.isList (by omega) (by rw [List.size_toArray] <;> omega) (by omega) (by rw [hj]; simpa using ew) ⟨rfl, fin⟩) hs
theorem ix_tup : IxR X (rIxT X.K) := by
  intro value slice pins s σ H x y v u Q I rx ry h hs
  obtain ⟨p, xs, i, z, rfl, rfl, hq, he, q⟩ := h
  cases rx
  obtain ⟨t, rfl⟩ := ry
  obtain ⟨its, r, pl, hz⟩ := I.tuple hq
  obtain ⟨j, h1, h2, h3, h4, h5⟩ := atI_get he
  obtain ⟨w, ew, rw'⟩ := r.get h2
  have hl := r.length
  have hn := line63
  have fin : EP X pins σ Q w s := ⟨z, H, I, rw', q⟩
  exact subscriptTail_builtinR (x := w) pl.typeIs slot_tuple_getitem.lookup
    (getItem_tuple (j := j) (Q := fun r s' => r = w ∧ EP X pins σ Q r s') pl (by omega) (by omega) (by rw [List.size_toArray, ← hl]; exact h1) (by simpa using ew) ⟨rfl, fin⟩) hs
theorem ix_str : IxR X rIxS := by
  intro value slice pins s σ H x y v u Q I rx ry h hs
  obtain ⟨z, i, c, rfl, rfl, hz, he, q⟩ := h
  obtain ⟨t, rfl⟩ := rx
  obtain ⟨t', rfl⟩ := ry
  obtain ⟨j, h1, h2, h3, h4, h5⟩ := atI_get he
  have hl : z.cps.toList.length = z.length := by simp [Str.length]
  rw [hl] at h1 h4 h5
  have hn := line63
  exact tail_any (typeIs_str s z t) slot_str_getitem.lookup (getItem_str (c := c) (by
    have e1 : decide (i < -(2 ^ 63 : Int)) = false := decide_eq_false (by omega)
    have e2 : decide (i ≥ 2 ^ 63) = false := decide_eq_false (by omega)
    rw [e1, e2, Bool.or_false]) (by rw [h1]; simpa using h2) ⟨.str ⟨#[c]⟩, H, I.tok _, ⟨_, rfl⟩, q⟩) hs
/-- list, tuple or str -/
def rIx (K : PySem.W.Frag) : R2 := fun x y H Q => rIxL K x y H Q ∨ rIxT K x y H Q ∨ rIxS x y H Q
theorem ix_seq : IxR X (rIx X.K) := ix_list.or (ix_tup.or ix_str)

/-! ### xs[i] = v, any sign -/
/-- the list's object behind a store -/
theorem mapSeq_set (its : List Value) (n j : Nat) (u : Value) : Obj.mapSeq (·.setIfInBounds j u) { cls := .type "list", data := .seq its.toArray n } = { cls := .type "list", data := .seq (its.set j u).toArray n } := by
  simp [Obj.mapSeq]
theorem Inv.lst {pins : List (Addr × Obj)} {σ : St} {H : Hp} {s : Shared} {p : Addr} {xs : List V} (I : Inv X pins σ H s) (h : H p = some (.lst xs)) :
    ∃ (its : List Value) (n : Nat), Vals xs its ∧ s.heap.get? p = some { cls := .type "list", data := .seq its.toArray n } ∧ xs.length ≤ sizeLine := by
  obtain ⟨z, its, n, r, e⟩ := I.hok p _ h
  exact ⟨its, n, r, e, z⟩
/-- the list at p is written by an update of its object -/
theorem Inv.lstUpd {pins : List (Addr × Obj)} {σ : St} {H : Hp} {s : Shared} {p : Addr} {xs ys : List V} {its its' : List Value} {n n' : Nat} {f : Obj → Obj} (I : Inv X pins σ H s) (h : H p = some (.lst xs))
    (ho : s.heap.get? p = some { cls := .type "list", data := .seq its.toArray n }) (hf : f { cls := .type "list", data := .seq its.toArray n } = { cls := .type "list", data := .seq its'.toArray n' }) (r : Vals ys its') (hz : ys.length ≤ sizeLine) (t : Nat) :
    Inv X pins σ (upd H p (.lst ys)) { s with heap := s.heap.update p f, toks := t } := by
  have e : (s.heap.update p f).get? p = some { cls := .type "list", data := .seq its'.toArray n' } := by
    rw [Heap.get?_update_self f ho (by rw [hf] <;> rfl), hf]
  refine I.write (x := p) (e := p) (by rw [h]; trivial) (.inl rfl) (fun b u hb q => (Heap.get?_update_other _ _ (Ne.symm hb)).trans q) ⟨_, e⟩ ?_
  exact ⟨hz, its', n', r, e⟩
def rSetL : V → V → V → Hp → (Hp → Prop) → Prop := fun o i v H Q => ∃ p xs k j, o = .ref p ∧ i = .int k ∧ H p = some (.lst xs) ∧ ixN xs.length k = some j ∧ Q (upd H p (.lst (xs.set j v)))
theorem set_list : PSet X rSetL := by
  intro pins s σ H o i v ov iv u Q I ro ri rv h
  obtain ⟨p, xs, k, j, rfl, rfl, hp, hj, q⟩ := h
  cases ro
  obtain ⟨t, rfl⟩ := ri
  obtain ⟨its, n, r, ho, hz⟩ := I.lst hp
  obtain ⟨h1, h2, h3, h4⟩ := ixN_seq hj
  have hl := r.length
  have hn := line63
  have I' : Inv X pins σ (upd H p (.lst (xs.set j v))) { s with heap := s.heap.update p (Obj.mapSeq (·.setIfInBounds j u)) } :=
    I.lstUpd hp ho (mapSeq_set its n j u) (r.set rv j) (by rw [List.length_set]; exact hz) s.toks
  by_cases h0 : 0 ≤ k
  · have hk : k.toNat = j := by
      rw [seqIndex_of h0 h4] at h1
      exact Option.some.inj h1
    exact PySem.W.ki_setAt ho h0 (by omega) (by rw [List.size_toArray, ← hl]; exact h4) (by rw [hk]; exact ⟨_, I', q⟩)
  · have hk : (k + (its.toArray.size : Int)).toNat = j := by
      rw [seqIndex_neg (by omega) h3] at h1
      rw [List.size_toArray, ← hl]
      exact Option.some.inj h1
    exact PySem.W.ki_setBack ho (by omega) (by rw [List.size_toArray, ← hl]; exact h3) (by omega) (by rw [hk]; exact ⟨_, I', q⟩)

/-! ### slices -/
theorem slice_bounds (lo hi : Option Int) (n : Nat) : (sliceBounds lo hi none n).1 = ((HT.sIx n 0 lo : Nat) : Int) ∧ (sliceBounds lo hi none n).2.1 = ((HT.sIx n n hi : Nat) : Int) ∧ (sliceBounds lo hi none n).2.2 = 1 := by
  refine ⟨?_, ?_, rfl⟩
  · cases lo with
    | none => simp [sliceBounds, HT.sIx]
    | some i =>
      simp only [sliceBounds, HT.sIx, Option.getD_none, show (1 : Int) > 0 by decide, if_true]
      by_cases h : i < 0
      · simp only [h, if_true] <;> omega
      · simp only [h, if_false] <;> omega
  · cases hi with
    | none => simp [sliceBounds, HT.sIx]
    | some i =>
      simp only [sliceBounds, HT.sIx, Option.getD_none, show (1 : Int) > 0 by decide, if_true]
      by_cases h : i < 0
      · simp only [h, if_true] <;> omega
      · simp only [h, if_false] <;> omega
theorem slicePick_cut (its : List Value) (lo hi : Option Int) : slicePick its.toArray lo hi none = ((its.drop (HT.sIx its.length 0 lo)).take (HT.sIx its.length its.length hi - HT.sIx its.length 0 lo)).toArray := by
  obtain ⟨h1, h2, h3⟩ := slice_bounds lo hi its.toArray.size
  unfold slicePick
  rw [h1, h2, h3]
  simp only [sliceRange_one, pick_run, List.size_toArray] <;> rfl
/-- xs[lo:hi] of a list: a new list -/
def rSlL (K : PySem.W.Frag) : V → Option Int → Option Int → Hp → VK → Prop := fun x lo hi H Q => ∃ a xs, x = .ref a ∧ SqL K H a xs ∧ ∀ p, H p = none → Q (.ref p) (upd H p (.lst (cutV xs lo hi)))
theorem sl_list : SlR X (rSlL X.K) := by
  intro pins s σ H x v vl vu lo hi sl Q I rx hs pl pu h
  obtain ⟨a, xs, rfl, hx, q⟩ := h
  cases rx
  obtain ⟨its, r, ht, hz⟩ := I.list hx
  have hlen := r.length
  refine ⟨"list", _, slot_list_getitem.lookup, ht.isList.typeIs, ?_⟩
  refine wpAny_getItem_list_slice ht.isList hs pl pu .none (by simp) ?_ (by rw [List.size_toArray] <;> omega)
  rw [slicePick_cut, ← hlen]
  refine ⟨.ref s.heap.objs.size, _, I.laid (t' := s.toks) (o := .lst (cutV xs lo hi)) (fun b ob q => Heap.get?_push_of_some _ q) (Nat.le_refl _) ?_, rfl, q _ (I.hok.fresh (Nat.le_refl _))⟩
  exact ⟨Nat.le_trans (cutV_length xs lo hi) hz, _, 0, (r.drop (HT.sIx xs.length 0 lo)).take (HT.sIx xs.length xs.length hi - HT.sIx xs.length 0 lo), Heap.get?_push_size _ rfl⟩

/-! ### in, not in: flat items -/
def flatV : V → Bool
  | .non => true
  | .bl _ => true
  | .int _ => true
  | .str _ => true
  | _ => false
/-- == of flat values -/
def eqV : V → V → Bool
  | .non, .non => true
  | .bl a, .bl b => a == b
  | .bl a, .int b => (if a then 1 else 0) == b
  | .int a, .bl b => a == (if b then 1 else 0)
  | .int a, .int b => a == b
  | .str a, .str b => a == b
  | _, _ => false
theorem eqAt_V {A : Around} {s : Shared} {y x : V} {u v : Value} (ry : RelV y u) (rx : RelV x v) (fy : flatV y = true) (fx : flatV x = true) : SeqAt.EqAt A s u v (eqV y x) := by
  cases y with
  | non =>
    cases ry
    cases x with
    | non => cases rx; exact SeqAt.EqAt.same _
    | bl b => cases rx; exact SeqAt.EqAt.none_bool b
    | int b => obtain ⟨t, rfl⟩ := rx; exact SeqAt.EqAt.none_int b t
    | str b => obtain ⟨t, rfl⟩ := rx; exact SeqAt.EqAt.none_str b t
    | _ => exact absurd (show false = true from fx) Bool.false_ne_true
  | bl a =>
    cases ry
    cases x with
    | non => cases rx; exact SeqAt.EqAt.bool_none a
    | bl b => cases rx; exact SeqAt.EqAt.bool_bool a b
    | int b => obtain ⟨t, rfl⟩ := rx; exact SeqAt.EqAt.bool_int a b t
    | str b => obtain ⟨t, rfl⟩ := rx; exact SeqAt.EqAt.bool_str a b t
    | _ => exact absurd (show false = true from fx) Bool.false_ne_true
  | int a =>
    obtain ⟨t', rfl⟩ := ry
    cases x with
    | non => cases rx; exact SeqAt.EqAt.int_none a t'
    | bl b => cases rx; exact SeqAt.EqAt.int_bool a t' b
    | int b => obtain ⟨t, rfl⟩ := rx; exact SeqAt.EqAt.int_int a t' b t
    | str b => obtain ⟨t, rfl⟩ := rx; exact SeqAt.EqAt.int_str a t' b t
    | _ => exact absurd (show false = true from fx) Bool.false_ne_true
  | str a =>
    obtain ⟨t', rfl⟩ := ry
    cases x with
    | non => cases rx; exact SeqAt.EqAt.str_none a t'
    | bl b => cases rx; exact SeqAt.EqAt.str_bool a t' b
    | int b => obtain ⟨t, rfl⟩ := rx; exact SeqAt.EqAt.str_int a t' b t
    | str b => obtain ⟨t, rfl⟩ := rx; exact SeqAt.EqAt.str_str a t' b t
    | _ => exact absurd (show false = true from fx) Bool.false_ne_true
  | _ => exact absurd (show false = true from fy) Bool.false_ne_true
/-- the items' answers, read off the values (a value's own answer does not lean on its token) -/
def eqU (x : V) (u : Value) : Bool := match u with
  | .none => eqV .non x
  | .bool b => eqV (.bl b) x
  | .int i _ => eqV (.int i) x
  | .str z _ => eqV (.str z) x
  | _ => false
theorem eqU_of {x y : V} {u : Value} (r : RelV y u) (f : flatV y = true) : eqU x u = eqV y x := by
  cases y with
  | non => cases r; rfl
  | bl b => cases r; rfl
  | int i => obtain ⟨t, rfl⟩ := r; rfl
  | str z => obtain ⟨t, rfl⟩ := r; rfl
  | _ => exact absurd (show false = true from f) Bool.false_ne_true
theorem any_eqU {x : V} : ∀ {xs : List V} {us : List Value}, Vals xs us → xs.all flatV = true → us.any (eqU x) = xs.any fun y => eqV y x
  | _, _, .nil, _ => rfl
  | y :: xs, u :: us, .cons r t, f => by
    rw [List.all_cons, Bool.and_eq_true] at f
    rw [List.any_cons, List.any_cons, eqU_of r f.1, any_eqU t f.2]
theorem mem_eqAt {A : Around} {s : Shared} {x : V} {v : Value} (rx : RelV x v) (fx : flatV x = true) : ∀ {xs : List V} {us : List Value}, Vals xs us → xs.all flatV = true → ∀ u ∈ us, SeqAt.EqAt A s u v (eqU x u)
  | _, _, .nil, _ => fun u hu => by cases hu
  | y :: xs, u :: us, .cons r t, f => fun u' hu => by
    rw [List.all_cons, Bool.and_eq_true] at f
    rcases List.mem_cons.mp hu with rfl | hu
    · rw [eqU_of r f.1]; exact eqAt_V r rx f.1 fx
    · exact mem_eqAt rx fx t f.2 u' hu
def inV (x : V) (xs : List V) : Bool := xs.any fun y => eqV y x
/-- x in a list or tuple of flat items -/
def rIn (K : PySem.W.Frag) (neg : Bool) : R2 := fun x y H Q => ∃ p xs, y = .ref p ∧ (SqL K H p xs ∨ SqT K H p xs) ∧ flatV x = true ∧ xs.all flatV = true ∧ Q (.bl (if neg then !inV x xs else inV x xs)) H
theorem op_in_seq : OpR X (compareOp .In) (rIn X.K false) := by
  intro pins s σ H x y v u Q I rx ry h
  obtain ⟨p, xs, rfl, hq, fx, fs, q⟩ := h
  cases ry
  rcases hq with hq | hq
  · obtain ⟨its, r, pl, hz⟩ := I.list hq
    refine SeqAt.in_listAt (eqU x) pl.isList (fun w hw => mem_eqAt rx fx r fs w (by simpa using hw)) ⟨.bl _, H, I, rfl, ?_⟩
    rw [show its.toArray.any (eqU x) = its.any (eqU x) by simp, any_eqU r fs]
    exact q
  · obtain ⟨its, r, pl, hz⟩ := I.tuple hq
    refine SeqAt.in_tupleAt (eqU x) pl (fun w hw => mem_eqAt rx fx r fs w (by simpa using hw)) ⟨.bl _, H, I, rfl, ?_⟩
    rw [show its.toArray.any (eqU x) = its.any (eqU x) by simp, any_eqU r fs]
    exact q
theorem op_notIn_seq : OpR X (compareOp .NotIn) (rIn X.K true) := by
  intro pins s σ H x y v u Q I rx ry h
  obtain ⟨p, xs, rfl, hq, fx, fs, q⟩ := h
  cases ry
  rcases hq with hq | hq
  · obtain ⟨its, r, pl, hz⟩ := I.list hq
    refine SeqAt.notIn_listAt (eqU x) pl.isList (fun w hw => mem_eqAt rx fx r fs w (by simpa using hw)) ⟨.bl _, H, I, rfl, ?_⟩
    rw [show its.toArray.any (eqU x) = its.any (eqU x) by simp, any_eqU r fs]
    exact q
  · obtain ⟨its, r, pl, hz⟩ := I.tuple hq
    refine SeqAt.notIn_tupleAt (eqU x) pl (fun w hw => mem_eqAt rx fx r fs w (by simpa using hw)) ⟨.bl _, H, I, rfl, ?_⟩
    rw [show its.toArray.any (eqU x) = its.any (eqU x) by simp, any_eqU r fs]
    exact q
theorem op_notIn_str : OpR X (compareOp .NotIn) (fun x y H Q => ∃ i j, x = .str i ∧ y = .str j ∧ Q (.bl (!(!(Builtin.Str.occurrences j i 0 j.length 1).isEmpty))) H) := by
  intro pins s σ H x y v u Q I rx ry h
  obtain ⟨i, j, rfl, rfl, q⟩ := h
  obtain ⟨t, rfl⟩ := rx
  obtain ⟨t', rfl⟩ := ry
  exact notIn_str ⟨.bl _, H, I, rfl, q⟩

/-! ### len, list(x), tuple(x) of any list or tuple that is read -/
theorem call_len_seq : CallR X (.builtin "len") (fun xs H Q => ∃ p ys, xs = [.ref p] ∧ (SqL X.K H p ys ∨ SqT X.K H p ys) ∧ Q (.int ys.length) H) := by
  intro pins s σ H xs us Q I r h
  obtain ⟨p, ys, rfl, hq, q⟩ := h
  obtain ⟨u, rfl, rx⟩ := vals1 r
  cases rx
  have hn := line63
  rcases hq with hq | hq
  · obtain ⟨its, r', pl, hz⟩ := I.list hq
    have hlen := r'.length
    exact Calls.call_len_list pl.isList (by simp only [List.size_toArray] <;> omega) ⟨.int ys.length, H, I.tok _, ⟨s.toks + 1, by rw [List.size_toArray, hlen]⟩, q⟩
  · obtain ⟨its, r', pl, hz⟩ := I.tuple hq
    have hlen := r'.length
    exact len_tuple pl (by simp only [List.size_toArray] <;> omega) ⟨.int ys.length, H, I.tok _, ⟨s.toks + 1, by rw [List.size_toArray, hlen]⟩, q⟩
theorem call_len_str : CallR X (.builtin "len") (fun xs H Q => ∃ z, xs = [.str z] ∧ z.length ≤ sizeLine ∧ Q (.int z.length) H) := by
  intro pins s σ H xs us Q I r h
  obtain ⟨z, rfl, hz, q⟩ := h
  obtain ⟨u, rfl, t, rfl⟩ := vals1 r
  have hn := line63
  exact len_str (by omega) ⟨.int z.length, H, I.tok _, ⟨_, rfl⟩, q⟩
theorem CallR.or {f : Value} {r r' : List V → Hp → VK → Prop} (h : CallR X f r) (h' : CallR X f r') : CallR X f (fun xs H Q => r xs H Q ∨ r' xs H Q) := by
  intro pins s σ H xs us Q I rs q
  rcases q with q | q
  · exact h pins s σ H xs us Q I rs q
  · exact h' pins s σ H xs us Q I rs q
theorem call_list_of : CallR X (.type "list") (fun xs H Q => ∃ p ys, xs = [.ref p] ∧ (SqL X.K H p ys ∨ SqT X.K H p ys) ∧ ∀ l, H l = none → Q (.ref l) (upd H l (.lst ys))) := by
  intro pins s σ H xs us Q I r h
  obtain ⟨p, ys, rfl, hq, q⟩ := h
  obtain ⟨u, rfl, rx⟩ := vals1 r
  cases rx
  have fin : ∀ (its : List Value), Vals ys its → ys.length ≤ sizeLine → ∀ (h' : Heap) (c' : Nat), (∀ b o', s.heap.get? b = some o' → h'.get? b = some o') →
      h'.get? s.heap.objs.size = some { cls := .type "list", dict := none, data := .seq its.toArray c', slots := #[] } → EP X pins σ Q (.ref s.heap.objs.size) { s with heap := h' } := fun its r' hz h' c' kp e =>
    ⟨.ref s.heap.objs.size, _, I.laid (t' := s.toks) kp (Nat.le_refl _) (show ObjOk X.prog X.w _ h' _ (.lst ys) from ⟨hz, its, c', r', e⟩), rfl, q _ (I.hok.fresh (Nat.le_refl _))⟩
  rcases hq with hq | hq
  · obtain ⟨its, r', pl, hz⟩ := I.list hq
    have hlen := r'.length
    obtain ⟨o, ho, hc, n, hd⟩ := pl.isList
    exact call_list_seq p (.inl rfl) ho hc hd (fun h' c' kp e => fin its r' hz h' c' kp e) (by simp only [List.size_toArray] <;> omega)
  · obtain ⟨its, r', pl, hz⟩ := I.tuple hq
    have hlen := r'.length
    obtain ⟨o, ho, hc, n, hd⟩ := pl
    exact call_list_seq p (.inr rfl) ho hc hd (fun h' c' kp e => fin its r' hz h' c' kp e) (by simp only [List.size_toArray] <;> omega)
theorem call_tuple_of : CallR X (.type "tuple") (fun xs H Q => ∃ p ys, xs = [.ref p] ∧ ((SqL X.K H p ys ∧ ∀ l, H l = none → Q (.ref l) (upd H l (.tup ys))) ∨ (SqT X.K H p ys ∧ Q (.ref p) H))) := by
  intro pins s σ H xs us Q I r h
  obtain ⟨p, ys, rfl, h⟩ := h
  obtain ⟨u, rfl, rx⟩ := vals1 r
  cases rx
  rcases h with ⟨hq, q⟩ | ⟨hq, q⟩
  · obtain ⟨its, r', pl, hz⟩ := I.list hq
    have hlen := r'.length
    refine call_tuple_list pl.isList (fun h' kp => ?_) (by simp only [List.size_toArray] <;> omega)
    have I1 : Inv X pins σ H { s with heap := h' } := I.kept (t' := s.toks) kp
    have I2 : Inv X pins σ (upd H h'.objs.size (.tup ys)) { s with heap := h'.push { cls := .type "tuple", data := .seq its.toArray } } :=
      I1.laid (t' := s.toks) (fun b o e => Heap.get?_push_of_some _ e) (Nat.le_refl _) (show ObjOk X.prog X.w _ _ _ (.tup ys) from ⟨hz, its, r', IsTup.new _ _⟩)
    exact ⟨.ref h'.objs.size, _, I2, rfl, q _ (I1.hok.fresh (Nat.le_refl _))⟩
  · obtain ⟨its, r', pl, hz⟩ := I.tuple hq
    exact call_tuple_same pl ⟨.ref p, H, I, rfl, q⟩

/-! ### the call of a builtin's method: o.m(..) -/
/-- the value is of that builtin type -/
def tyV (K : PySem.W.Frag) (T : String) (x : V) (H : Hp) : Prop := match x with
  | .str _ => T = "str"
  | .int _ => T = "int"
  | .ref p => (T = "list" ∧ ∃ xs, SqL K H p xs) ∨ (T = "tuple" ∧ ∃ o, K.lookup p = some o ∧ o.cls = .type "tuple" ∧ o.dict = none) ∨
      (T = "dict" ∧ ((∃ kvs, H p = some (.dK kvs)) ∨ ∃ kvs, H p = some (.dT kvs))) ∨ (T = "set" ∧ ∃ S n, H p = some (.set S n))
  | _ => False
theorem tyV_is {pins : List (Addr × Obj)} {σ : St} {H : Hp} {s : Shared} {T : String} {x : V} {v : Value} (I : Inv X pins σ H s) (r : RelV x v) (ty : tyV X.K T x H) :
    s.TypeIs v T ∧ ∀ a, v = .ref a → ∃ ob, s.heap.get? a = some ob ∧ ob.dict = none := by
  cases x with
  | str z =>
    obtain ⟨t, rfl⟩ := r
    cases (show T = "str" from ty)
    exact ⟨typeIs_str s z t, fun _ e => nomatch e⟩
  | int i =>
    obtain ⟨t, rfl⟩ := r
    cases (show T = "int" from ty)
    exact ⟨typeIs_int s i t, fun _ e => nomatch e⟩
  | ref p =>
    cases r
    rcases ty with ⟨rfl, xs, hq⟩ | ⟨rfl, o, hk, hc, hd⟩ | ⟨rfl, hk⟩ | ⟨rfl, S, n, hk⟩
    · obtain ⟨its, _, pl, _⟩ := I.list hq
      refine ⟨pl.isList.typeIs, fun a e => ?_⟩
      cases e
      obtain ⟨o, n, e, c, hd, _⟩ := pl
      exact ⟨o, e, hd⟩
    · refine ⟨⟨o, I.kIn p o hk, hc⟩, fun a e => ?_⟩
      cases e
      exact ⟨o, I.kIn _ o hk, hd⟩
    · have z : ∃ o, s.heap.get? p = some o ∧ o.ExactDict := by
        rcases hk with ⟨kvs, hk⟩ | ⟨kvs, hk⟩
        · obtain ⟨_, _, _, _, o, _, _, e, ex, _⟩ := I.hok p _ hk
          exact ⟨o, e, ex⟩
        · obtain ⟨_, _, _, _, o, _, _, e, ex, _⟩ := I.hok p _ hk
          exact ⟨o, e, ex⟩
      obtain ⟨o, e, ex⟩ := z
      refine ⟨⟨o, e, ex.1⟩, fun a e2 => ?_⟩
      cases e2
      exact ⟨o, e, ex.2.1⟩
    · obtain ⟨o, _, _, _, e, ex, _⟩ := I.hok p _ hk
      refine ⟨⟨o, e, ex.1⟩, fun a e2 => ?_⟩
      cases e2
      exact ⟨o, e, ex.2.1⟩
  | _ => exact False.elim ty
def tBM0 (K : PySem.W.Frag) (T : String) (r : V → List V → Hp → VK → Prop) (to : TE) : TE := fun σ H Q => to σ H fun x H1 => tyV K T x H1 ∧ r x [] H1 Q
def tBM (K : PySem.W.Frag) (T : String) (r : V → List V → Hp → VK → Prop) (to : TE) (t : TA) : TE := fun σ H Q => to σ H fun x H1 => tyV K T x H1 ∧ t σ H1 fun xs H2 => r x xs H2 Q
variable {o e : Expr} {es : List Expr} {to : TE} {t : TA} {name : Str} {apos cpos : Pos} {T id : String} {r : V → List V → Hp → VK → Prop}
theorem pe_bm0 (pa : PlainAttrs T) (slot : Slot T name id) (hty : typeOf (.builtin id) = pure (.type "method_descriptor")) (hm : MtR X id r) (ho : PE X o to)
    (hbase : attributeBase o name X.env (eval o X.env) = eval o X.env := by rfl) (hline : (apos.endLine == cpos.line) = true := by rfl) : PE X (.Call (.Attribute o name apos) [] [] cpos) (tBM0 X.K T r to) := by
  intro pins s σ H Q I h
  refine wpAny_Call_method0_late hbase hline (thn (ho pins s σ H _ I h) fun v s1 ⟨x, H1, I1, r1, ty, q1⟩ => ?_)
  obtain ⟨h1, h2⟩ := tyV_is I1 r1 ty
  exact ⟨T, id, pa, slot, hty, h1, h2, Calls.callWith_builtin rfl (PySem.evalArgs_none (hm pins s1 σ H1 x [] v [] Q I1 r1 .nil q1))⟩
theorem pe_bm (pa : PlainAttrs T) (slot : Slot T name id) (hty : typeOf (.builtin id) = pure (.type "method_descriptor")) (hm : MtR X id r) (ho : PE X o to) (ha : PA X (e :: es) t)
    (hbase : attributeBase o name X.env (eval o X.env) = eval o X.env := by rfl)
    (hfew : ((backTo cpos (starEach (e :: es) X.env)).all (fun x => !x.1) && (backToKw cpos (keywordEach [] X.env)).all (fun x => x.1.isSome)
      && decide ((e :: es).length + ([] : List Keyword).length + (if ([] : List Keyword).isEmpty then 0 else 1) < 30)) = true := by rfl)
    (hline : (apos.endLine == cpos.line) = true := by rfl) (hs : starEach (e :: es) X.env = (false, eval e X.env) :: starEach es X.env := by rfl) (hplain : (backTo cpos (starEach es X.env)).any (·.1) = false := by rfl) :
    PE X (.Call (.Attribute o name apos) (e :: es) [] cpos) (tBM X.K T r to t) := by
  intro pins s σ H Q I h
  refine wpAny_Call_method_late hbase hfew hline rfl (thn (ho pins s σ H _ I h) fun v s1 ⟨x, H1, I1, r1, ty, q1⟩ => ?_)
  obtain ⟨h1, h2⟩ := tyV_is I1 r1 ty
  refine ⟨T, id, pa, slot, hty, h1, h2, ?_⟩
  have hA := ha cpos pins s1 σ H1 _ I1 q1
  rw [hs] at hA ⊢
  refine Calls.callWith_builtin (by show (false || (backTo cpos (starEach es X.env)).any (·.1)) = false; rw [hplain] <;> rfl) (Calls.evalArgs_plain ?_)
  exact thn hA fun us s2 ⟨vs, H2, I2, r2, q2⟩ => hm pins s2 σ H2 x vs v us Q I2 r1 r2 q2
/- xs.append(e), list.index on a module's tuple .. are MtR facts of 06m -/
end
end L2

namespace L2
open PySem PySem.Spec PyProof.Rows

def MtM (X : Cx) (id : String) (r : V → List V → Hp → VK → Prop) : Prop :=
  ∀ (pins : List (Addr × Obj)) (s : Shared) (σ : St) (H : Hp) (x : V) (xs : List V) (v : Value) (us : List Value) (Q : VK), Inv X pins σ H s → RelV x v → Vals xs us → r x xs H Q →
    wpAny (model X.prog X.w) X.A (call (.builtin id) (v :: us)) (EP X pins σ Q) X.xe s

/-! ### lists of values -/
theorem Vals.one : ∀ {x : V} {us : List Value}, Vals [x] us → ∃ u, us = [u] ∧ RelV x u
  | _, _, .cons r .nil => ⟨_, rfl, r⟩
theorem Vals.two : ∀ {x y : V} {us : List Value}, Vals [x, y] us → ∃ u v, us = [u, v] ∧ RelV x u ∧ RelV y v
  | _, _, _, .cons r (.cons q .nil) => ⟨_, _, rfl, r, q⟩
theorem Vals.zero : ∀ {us : List Value}, Vals [] us → us = []
  | _, .nil => rfl
theorem Vals.dropLast {xs : List V} {us : List Value} (h : Vals xs us) : Vals xs.dropLast us.dropLast := by
  induction h with
  | nil => exact .nil
  | cons r t ih =>
    cases t with
    | nil => exact .nil
    | cons q t' => exact .cons r ih
theorem Vals.eraseIdx : ∀ {xs : List V} {us : List Value} (i : Nat), Vals xs us → Vals (xs.eraseIdx i) (us.eraseIdx i)
  | _, _, _, .nil => .nil
  | _, _, 0, .cons _ t => t
  | _, _, i + 1, .cons r t => .cons r (Vals.eraseIdx i t)
theorem Vals.reverse {xs : List V} {us : List Value} (h : Vals xs us) : Vals xs.reverse us.reverse := by
  induction h with
  | nil => exact .nil
  | cons r t ih => rw [List.reverse_cons, List.reverse_cons]; exact Vals.append ih (.cons r .nil)
theorem Vals.rep {xs : List V} {us : List Value} (h : Vals xs us) : ∀ k : Nat, Vals (List.replicate k xs).flatten (List.replicate k us).flatten
  | 0 => .nil
  | k + 1 => by
    rw [List.replicate_succ, List.replicate_succ, List.flatten_cons, List.flatten_cons]
    exact Vals.append h (Vals.rep h k)
theorem erase_last {α : Type} (l : List α) : l.eraseIdx (l.length - 1) = l.dropLast := by
  induction l with
  | nil => rfl
  | cons a r ih =>
    cases r with
    | nil => rfl
    | cons b r =>
      have e : (a :: b :: r).length - 1 = ((b :: r).length - 1) + 1 := by
        have h1 : (a :: b :: r).length = r.length + 2 := rfl
        have h2 : (b :: r).length = r.length + 1 := rfl
        omega
      rw [e, List.eraseIdx_cons_succ, ih]
      all_goals rfl
theorem len_erase {α : Type} : ∀ (l : List α) (i : Nat), (l.eraseIdx i).length ≤ l.length
  | [], _ => Nat.le_refl _
  | _ :: _, 0 => Nat.le_succ _
  | _ :: r, i + 1 => Nat.succ_le_succ (len_erase r i)
theorem foldl_rep (its : List Value) : ∀ (k : Nat) (acc : List Value),
    List.foldl (fun x1 x2 => x1 ++ x2) acc.toArray (List.replicate k its.toArray) = (acc ++ (List.replicate k its).flatten).toArray
  | 0, acc => by simp
  | k + 1, acc => by
    have e : acc.toArray ++ its.toArray = (acc ++ its).toArray := by simp
    have e2 : (acc ++ its) ++ (List.replicate k its).flatten = acc ++ (List.replicate (k + 1) its).flatten := by
      rw [List.replicate_succ, List.flatten_cons, List.append_assoc]
    rw [← e2, ← foldl_rep its k (acc ++ its), ← e, List.replicate_succ, List.foldl_cons]

section
variable {X : Cx} {pins : List (Addr × Obj)} {σ : St} {H : Hp} {s : Shared} {l b : Addr} {xs ys zs : List V}

/-! ### the two steps: a tracked list is rewritten, a new list is laid -/
theorem Inv.lset {its its' : List Value} {n : Nat} {f : Array Value → Array Value} {t' : Nat} (I : Inv X pins σ H s) (hH : H l = some (.lst xs))
    (e : s.heap.get? l = some { cls := .type "list", data := .seq its.toArray n }) (hf : f its.toArray = its'.toArray) (hv : Vals ys its') (hz : ys.length ≤ sizeLine) :
    Inv X pins σ (upd H l (.lst ys)) { s with heap := s.heap.update l (Obj.mapSeq f), toks := t' } := by
  have q := PySem.IsL.update e f
  rw [hf] at q
  refine I.write (x := l) (e := l) (by rw [hH]; exact trivial) (.inl rfl) (fun b' u hb hu => (Heap.get?_update_other s.heap (Obj.mapSeq f) (Ne.symm hb)).trans hu) ⟨_, q⟩ ?_
  exact ⟨hz, its', _, hv, q⟩
theorem Inv.lnew {its : List Value} {t' : Nat} (I : Inv X pins σ H s) (hv : Vals ys its) (hz : ys.length ≤ sizeLine) :
    Inv X pins σ (upd H s.heap.objs.size (.lst ys)) { s with heap := s.heap.push { cls := .type "list", data := .seq its.toArray }, toks := t' } :=
  I.laid (fun _ _ q => Heap.get?_push_of_some _ q) (Nat.le_refl _) ⟨hz, its, 0, hv, Heap.get?_push_size _ rfl⟩
theorem Inv.fresh (I : Inv X pins σ H s) : H s.heap.objs.size = none := I.hok.fresh (Nat.le_refl _)
theorem Inv.lstM (I : Inv X pins σ H s) (hH : H l = some (.lst xs)) : xs.length ≤ sizeLine ∧ ∃ (its : List Value) (n : Nat), Vals xs its ∧ xs.length = its.length ∧ s.heap.get? l = some { cls := .type "list", data := .seq its.toArray n } := by
  obtain ⟨z, its, n, r, e⟩ := I.hok l _ hH
  exact ⟨z, its, n, r, r.length, e⟩

theorem notLongL {n : Nat} (h : n ≤ sizeLine) : Builtin.List.listTooLong n = false := by
  unfold Builtin.List.listTooLong
  exact decide_eq_false (by omega)
end

section
variable {X : Cx}

/-! ### methods -/
def rAppend : V → List V → Hp → VK → Prop := fun x vs H Q => ∃ l xs y, x = .ref l ∧ vs = [y] ∧ H l = some (.lst xs) ∧ xs.length < sizeLine ∧ Q .non (upd H l (.lst (xs ++ [y])))
theorem mt_append : MtM X "list.append" rAppend := by
  intro pins s σ H x vs v us Q I rx rv h
  obtain ⟨l, xs, y, rfl, rfl, hH, hz, q⟩ := h
  cases rx
  obtain ⟨u, rfl, ru⟩ := rv.one
  obtain ⟨z, its, n, r, hl, e⟩ := I.lstM hH
  refine call_meets F.slot_list_append ⟨_, e, rfl⟩ F.entry_list_append (F.args_list_append_2 _ _) (PySem.list_append l its.toArray n u (by rw [List.size_toArray]; omega)) ⟨e, ?_⟩
  refine ⟨.non, _, I.lset (its' := its ++ [u]) hH e (by simp) (r.append (.cons ru .nil)) ?_, rfl, q⟩
  rw [List.length_append, List.length_singleton]
  omega

def rExtend : V → List V → Hp → VK → Prop := fun x vs H Q => ∃ l b xs zs, x = .ref l ∧ vs = [.ref b] ∧ H l = some (.lst xs) ∧ H b = some (.lst zs) ∧ xs.length + zs.length ≤ sizeLine ∧ Q .non (upd H l (.lst (xs ++ zs)))
theorem mt_extend : MtM X "list.extend" rExtend := by
  intro pins s σ H x vs v us Q I rx rv h
  obtain ⟨l, b, xs, zs, rfl, rfl, hH, hB, hz, q⟩ := h
  cases rx
  obtain ⟨u, rfl, ru⟩ := rv.one
  cases ru
  obtain ⟨z, its, n, r, hl, e⟩ := I.lstM hH
  obtain ⟨z2, its2, n2, r2, hl2, e2⟩ := I.lstM hB
  have hsz : its.toArray.size + its2.toArray.size ≤ sizeLine := by rw [List.size_toArray, List.size_toArray]; omega
  have hlong : ¬ (!its.toArray.isEmpty && Builtin.List.listTooLong (its.toArray.size + its2.toArray.size)) = true := by
    rw [notLongL hsz, Bool.and_false]
    exact Bool.false_ne_true
  refine call_meets F.slot_list_extend ⟨_, e, rfl⟩ F.entry_list_extend (F.args_list_extend_2 _ _)
    (AutoSeq1.list_extend_list_list_0 l its.toArray n b its2.toArray n2 hlong (by rw [List.size_toArray]; omega) (by omega)) ⟨e, e2, ?_⟩
  refine ⟨.non, _, I.lset (its' := its ++ its2) hH e (by simp) (r.append r2) ?_, rfl, q⟩
  rw [List.length_append]
  omega

def rPop : V → List V → Hp → VK → Prop := fun x vs H Q => ∃ l xs y, x = .ref l ∧ vs = [] ∧ H l = some (.lst xs) ∧ xs[xs.length - 1]? = some y ∧ Q y (upd H l (.lst xs.dropLast))
theorem mt_pop : MtM X "list.pop" rPop := by
  intro pins s σ H x vs v us Q I rx rv h
  obtain ⟨l, xs, y, rfl, rfl, hH, hy, q⟩ := h
  cases rx
  have hus := rv.zero
  subst hus
  obtain ⟨z, its, n, r, hl, e⟩ := I.lstM hH
  obtain ⟨u, hu, ru⟩ := r.get hy
  have hy' : its.toArray[its.toArray.size - 1]? = some u := by
    show its.toArray[its.length - 1]? = some u
    rw [← Array.getElem?_toList, ← hl]
    exact hu
  refine call_meets F.slot_list_pop ⟨_, e, rfl⟩ F.entry_list_pop (F.args_list_pop_1 _) (MeetsSeq.list_pop_last l its.toArray n u hy' (by rw [List.size_toArray]; omega)) ⟨e, ?_⟩
  refine ⟨y, _, I.lset (its' := its.dropLast) hH e ?_ r.dropLast ?_, ru, q⟩
  · show its.toArray.eraseIdxIfInBounds (its.toArray.size - 1) = its.dropLast.toArray
    rw [List.size_toArray, List.eraseIdxIfInBounds_toArray, erase_last]
  · rw [List.length_dropLast]
    omega

def rPopAt : V → List V → Hp → VK → Prop := fun x vs H Q => ∃ l xs i k y, x = .ref l ∧ vs = [.int i] ∧ H l = some (.lst xs) ∧ -(2 ^ 63) ≤ i ∧ i < 2 ^ 63 ∧ seqIndex? i xs.length = some k ∧ xs[k]? = some y ∧ Q y (upd H l (.lst (xs.eraseIdx k)))
theorem mt_popAt : MtM X "list.pop" rPopAt := by
  intro pins s σ H x vs v us Q I rx rv h
  obtain ⟨l, xs, i, k, y, rfl, rfl, hH, h1, h2, hk, hy, q⟩ := h
  cases rx
  obtain ⟨u, rfl, ru⟩ := rv.one
  obtain ⟨t, rfl⟩ := ru
  obtain ⟨z, its, n, r, hl, e⟩ := I.lstM hH
  obtain ⟨w, hw, rw'⟩ := r.get hy
  refine call_meets F.slot_list_pop ⟨_, e, rfl⟩ F.entry_list_pop (F.args_list_pop_2 _ _)
    (MeetsSeq.list_pop_at l its.toArray n i t k w (fitsIndex_both h1 h2) (by rw [List.size_toArray, ← hl]; exact hk) (by rw [← Array.getElem?_toList]; exact hw) (by rw [List.size_toArray]; omega)) ⟨e, ?_⟩
  refine ⟨y, _, I.lset (its' := its.eraseIdx k) hH e ?_ (r.eraseIdx k) ?_, rw', q⟩
  · show its.toArray.eraseIdxIfInBounds k = (its.eraseIdx k).toArray
    rw [List.eraseIdxIfInBounds_toArray]
  · have := len_erase xs k
    omega

def rReverse : V → List V → Hp → VK → Prop := fun x vs H Q => ∃ l xs, x = .ref l ∧ vs = [] ∧ H l = some (.lst xs) ∧ Q .non (upd H l (.lst xs.reverse))
theorem mt_reverse : MtM X "list.reverse" rReverse := by
  intro pins s σ H x vs v us Q I rx rv h
  obtain ⟨l, xs, rfl, rfl, hH, q⟩ := h
  cases rx
  have hus := rv.zero
  subst hus
  obtain ⟨z, its, n, r, hl, e⟩ := I.lstM hH
  refine call_meets F.slot_list_reverse ⟨_, e, rfl⟩ F.entry_list_reverse (F.args_list_reverse_1 _) (AutoSeq1.list_reverse_list_0 l its.toArray n (by rw [List.size_toArray]; omega)) ⟨e, ?_⟩
  refine ⟨.non, _, I.lset (its' := its.reverse) hH e (by simp) r.reverse ?_, rfl, q⟩
  rw [List.length_reverse]
  omega

def rClear : V → List V → Hp → VK → Prop := fun x vs H Q => ∃ l xs, x = .ref l ∧ vs = [] ∧ H l = some (.lst xs) ∧ Q .non (upd H l (.lst []))
theorem mt_clear : MtM X "list.clear" rClear := by
  intro pins s σ H x vs v us Q I rx rv h
  obtain ⟨l, xs, rfl, rfl, hH, q⟩ := h
  cases rx
  have hus := rv.zero
  subst hus
  obtain ⟨z, its, n, r, hl, e⟩ := I.lstM hH
  refine call_meets F.slot_list_clear ⟨_, e, rfl⟩ F.entry_list_clear (F.args_list_clear_1 _) (AutoSeq1.list_clear_list_0 l its.toArray n (by rw [List.size_toArray]; omega)) ⟨e, ?_⟩
  exact ⟨.non, _, I.lset (its' := []) (ys := []) hH e rfl .nil (Nat.zero_le _), rfl, q⟩

/-! ### list + list, list += list, list * int -/
def rCat : R2 := fun x y H Q => ∃ l b xs zs, x = .ref l ∧ y = .ref b ∧ H l = some (.lst xs) ∧ H b = some (.lst zs) ∧ xs.length + zs.length ≤ sizeLine ∧ ∀ p, H p = none → Q (.ref p) (upd H p (.lst (xs ++ zs)))
theorem op_cat : OpR X (binaryOp .Add) rCat := by
  intro pins s σ H x y v u Q I rx ry h
  obtain ⟨l, b, xs, zs, rfl, rfl, hH, hB, hz, q⟩ := h
  cases rx
  cases ry
  obtain ⟨z, its, n, r, hl, e⟩ := I.lstM hH
  obtain ⟨z2, its2, n2, r2, hl2, e2⟩ := I.lstM hB
  refine PySem.P.add_list e e2 ?_ (by rw [List.size_toArray, List.size_toArray]; omega)
  have ea : its.toArray ++ its2.toArray = (its ++ its2).toArray := by simp
  rw [ea]
  exact ⟨.ref _, _, I.lnew (t' := s.toks) (r.append r2) (by rw [List.length_append]; omega), rfl, q _ I.fresh⟩
/-- a list times an int (a negative one is nothing) -/
def rRep : R2 := fun x y H Q => ∃ l k xs, x = .ref l ∧ y = .int k ∧ H l = some (.lst xs) ∧ -(2 ^ 63) ≤ k ∧ k < 2 ^ 63 ∧ xs.length * k.toNat ≤ sizeLine ∧
  ∀ p, H p = none → Q (.ref p) (upd H p (.lst (List.replicate k.toNat xs).flatten))
theorem len_rep {α : Type} (xs : List α) (k : Nat) : (List.replicate k xs).flatten.length = k * xs.length := by
  induction k with
  | zero => simp
  | succ k ih => rw [List.replicate_succ, List.flatten_cons, List.length_append, ih, Nat.succ_mul, Nat.add_comm]
theorem op_rep : OpR X (binaryOp .Mult) rRep := by
  intro pins s σ H x y v u Q I rx ry h
  obtain ⟨l, k, xs, rfl, rfl, hH, h1, h2, hz, q⟩ := h
  cases rx
  obtain ⟨t, rfl⟩ := ry
  obtain ⟨z, its, n, r, hl, e⟩ := I.lstM hH
  have hlen : its.toArray.size * k.toNat ≤ sizeLine := by rw [List.size_toArray, ← hl]; exact hz
  have hcap : ¬ its.toArray.size * k.toNat > (2 ^ 63 - 1) / 8 := by
    have : (sizeLine : Nat) ≤ (2 ^ 63 - 1) / 8 := by decide
    omega
  have hfit : ¬ (!Builtin.List.listFitsIndex k) = true := by
    rw [fitsIndex_both h1 h2]
    exact Bool.false_ne_true
  have hlong : ¬ Builtin.List.listTooLong (its.toArray.size * k.toNat) = true := by
    rw [notLongL hlen]
    exact Bool.false_ne_true
  have hnew : List.foldl (fun x1 x2 => x1 ++ x2) #[] (List.replicate (if its.toArray.isEmpty = true then 0 else k.toNat) its.toArray) = (List.replicate k.toNat its).flatten.toArray := by
    have f0 : ∀ m : Nat, List.foldl (fun x1 x2 => x1 ++ x2) #[] (List.replicate m its.toArray) = (List.replicate m its).flatten.toArray := fun m => by
      have := foldl_rep its m []
      rw [List.nil_append] at this
      exact this
    rw [f0]
    cases its with
    | nil => simp
    | cons a r' => rw [if_neg (by simp)]
  refine wpAny_binaryOp_repeat_ref (T := "list") (U := "int") (by decide) ⟨_, e, rfl⟩ (fun s' => typeIs_int s' k t) noFill_list_mul F.fills_int_mul F.slot_int_rmul repeat_list F.slot_int_index.lookup
    (call_meets F.slot_int_rmul (typeIs_int s k t) F.entry_int_rmul (F.args_int_rmul_2 _ _) (int___rmul___int_list k t l its.toArray n)
      ⟨e, rfl, ⟨_, e, rfl⟩, call_meets F.slot_list_mul ⟨_, e, rfl⟩ F.entry_list_mul (F.args_list_mul_2 _ _) (AutoListH.list___mul___list_int_3 l its.toArray n k t hfit hcap hlong) ⟨e, ?_⟩⟩)
  rw [hnew]
  exact ⟨.ref _, _, I.lnew (t' := s.toks) (r.rep k.toNat) (by rw [len_rep, Nat.mul_comm]; exact hz), rfl, q _ I.fresh⟩

/-! ### del xs[i] -/
theorem del_list {pins : List (Addr × Obj)} {s : Shared} {σ : St} {H : Hp} {l : Addr} {xs : List V} {i : Int} {t : Tok} {k : Nat} {Q : Unit → Shared → Prop} (I : Inv X pins σ H s) (hH : H l = some (.lst xs))
    (h1 : -(2 ^ 63) ≤ i) (h2 : i < 2 ^ 63) (hk : seqIndex? i xs.length = some k) (h : ∀ s', Inv X pins σ (upd H l (.lst (xs.eraseIdx k))) s' → Q () s') :
    wpAny (model X.prog X.w) X.A (delItem (.ref l) (.int i t)) Q X.xe s := by
  obtain ⟨z, its, n, r, hl, e⟩ := I.lstM hH
  refine PySem.P.delItem_list (k := k) e (fitsIndex_both h1 h2) (by rw [List.size_toArray, ← hl]; exact hk) (h _ ?_) (by rw [List.size_toArray]; omega)
  refine I.lset (its' := its.eraseIdx k) (t' := s.toks) hH e ?_ (r.eraseIdx k) ?_
  · show its.toArray.eraseIdxIfInBounds k = (its.eraseIdx k).toArray
    rw [List.eraseIdxIfInBounds_toArray]
  · have := len_erase xs k
    omega
end

/-! ### xs[a:b] = ys -/
section
variable {prog : Program} {w : World} {A : Around} {E : Value → Shared → Prop} {s : Shared}
theorem splice_eq (its its2 : List Value) (a c : Nat) : its.toArray.extract 0 a ++ its2.toArray ++ its.toArray.extract c its.toArray.size = (its.take a ++ its2 ++ its.drop c).toArray := by
  apply Array.toList_inj.mp
  first
    | (simp
       exact List.take_of_length_le (by simp))
    | simp [List.take_of_length_le]
    | simp
theorem bounds_run {a c n : Nat} (hac : a ≤ c) (hc : c ≤ n) : sliceBounds (some (a : Int)) (some (c : Int)) none n = ((a : Int), (c : Int), 1) := by
  simp only [sliceBounds, Option.getD_none]
  have h1 : ¬ ((a : Int) < 0) := by omega
  have h2 : ¬ ((c : Int) < 0) := by omega
  simp only [h1, h2, if_false, show (1 : Int) > 0 by decide, if_true]
  congr 1
  · omega
  · congr 1; omega
set_option maxRecDepth 100000 in
/-- list.__setitem__ with a slice of step one and another list -/
theorem setItem_slice {l b sl : Addr} {items new : Array Value} {n n2 : Nat} {vl vu : Value} {a c : Nat} {Q : Unit → Shared → Prop}
    (e : s.heap.get? l = some { cls := .type "list", data := .seq items n }) (e2 : s.heap.get? b = some { cls := .type "list", data := .seq new n2 }) (hne : l ≠ b)
    (hs : s.heap.IsSliceOf sl vl vu .none) (pl : IsPart vl (some (a : Int))) (pu : IsPart vu (some (c : Int))) (hac : a ≤ c) (hc : c ≤ items.size)
    (hsz : items.size + new.size ≤ sizeLine) (h : Q () { s with heap := s.heap.update l (Obj.mapSeq fun xs => xs.extract 0 a ++ new ++ xs.extract c xs.size) }) :
    wpAny (model prog w) A (setItem (.ref l) (.ref sl) (.ref b)) Q E s := by
  have hl : s.heap.IsList l items := PySem.IsL.isList e
  have hb : s.heap.IsList b new := PySem.IsL.isList e2
  obtain ⟨os, hos, hcs, hds⟩ := id hs
  have hTs : s.TypeIs (.ref sl) "slice" := ⟨os, hos, hcs⟩
  have hstep : ¬ ((rawPart none == rawInt 0) = true) := Bool.false_ne_true
  have hsame : Builtin.List.listSameRef (.ref l) (.ref b) = false := by
    unfold Builtin.List.listSameRef
    exact beq_eq_false_iff_ne.mpr hne
  have hmax : (max (a : Int) (c : Int)).toNat = c := by omega
  have hz' : ((fun xs : Array Value => xs.extract 0 a ++ new ++ xs.extract c xs.size) items).size ≤ sizeLine + 1 := by
    simp only [Array.size_append, Array.size_extract]
    omega
  unfold setItem
  try with_reducible refine wpAny_holding ?_
  first | refine wpAny_bind (wpAny_pure ?_) | skip
  refine wpAny_bind (wpAny_sequenceKey hl.typeIs (by decide) ?_)
  refine wpAny_bind (wpAny_callSpecial?_slot (name := Str.ofString "__setitem__") hl.typeIs slot_list_setitem
    (wpAny_call_entry slot_list_setitem hl.typeIs entry_list_setitem ?_ (args_list_setitem _ _ _)))
  show wpAny _ _ (Builtin.List.listSubscript? (.ref sl) >>= _) _ _ s
  refine wpAny_bind ?_
  unfold Builtin.List.listSubscript?
  refine wpAny_bind (wpAny_specialOf hTs slice_no_index ?_)
  simp only [Option.isNone_none, if_true]
  refine wpAny_pure ?_
  show wpAny _ _ (typeOf (.ref sl) >>= _) _ _ s
  refine wpAny_bind (wpAny_typeOf hTs ?_)
  first
    | rw [if_neg (by decide)]
    | refine PySem.W.KFB.if_not (by decide) ?_
  rw [listSliceParts_eq]
  refine wpAny_bind (wpAny_bind (wpAny_field hos hds (x := .none) rfl (wpAny_bind (wpAny_listPart .none ?_))))
  rw [if_neg hstep]
  refine wpAny_bind (wpAny_field hos hds (x := vl) rfl (wpAny_bind (wpAny_listPart pl ?_)))
  refine wpAny_bind (wpAny_field hos hds (x := vu) rfl (wpAny_bind (wpAny_listPart pu (wpAny_pure ?_))))
  first
    | simp only [hsame, Bool.false_eq_true, if_false]
    | refine PySem.W.KFB.if_not hsame ?_
    | (dsimp only
       rw [if_neg (by rw [hsame]; exact Bool.false_ne_true)])
  refine wpAny_bind (m := Builtin.List.listAllItems (.ref b) "must assign iterable to extended slice") ?_
  unfold Builtin.List.listAllItems
  refine wpAny_bind (wpAny_typeOf hb.typeIs ?_)
  first
    | refine PySem.W.KFB.if_so (by decide) ?_
    | rw [if_pos (by decide)]
    | simp only [beq_self_eq_true, Bool.true_or, if_true]
  unfold Builtin.List.listItems
  refine wpAny_bind (wpAny_seqItems e2 rfl (wpAny_pure ?_))
  refine wpAny_bind (wpAny_bind (wpAny_seqItems e rfl (wpAny_pure ?_)))
  refine wpAny_bind (wpAny_of_eq ((sliceIndices_raw (some (a : Int)) (some (c : Int)) none items.size (by simp)).trans (congrArg (pure : Int × Int × Int → Sem (Int × Int × Int)) (bounds_run hac hc))) ?_)
  show wpAny _ _ (if ((1 : Int) == 1) = true then _ else _) _ _ s
  rw [if_pos (by decide)]
  refine wpAny_bind (wpAny_rule ?_)
  first
    | simp only [notLongL hsz, Bool.false_eq_true, if_false]
    | refine PySem.W.KFB.if_not (notLongL hsz) ?_
  first | refine wpAny_bind (wpAny_pure ?_) | skip
  show wpAny _ _ (updateSeq l (fun xs => xs.extract 0 ((a : Int)).toNat ++ new ++ xs.extract (max (a : Int) (c : Int)).toNat xs.size) >>= _) _ _ s
  rw [hmax, Int.toNat_natCast]
  refine wpAny_bind (wpAny_updateSeq (hz := Nat.le_trans (Nat.le_add_right _ _) hsz) (_hz' := hz') e rfl ?_)
  refine wpAny_bind (wpAny_letGo ?_)
  first
    | exact wpAny_bind (wpAny_pure (wpAny_pure ⟨.none, rfl, wpAny_pure h⟩))
    | exact wpAny_pure ⟨.none, rfl, wpAny_pure h⟩
end

section
variable {X : Cx}
/-- xs[a:c] = ys of another list, at the value level: sl is the slice object that was just made -/
theorem set_slice {pins : List (Addr × Obj)} {s : Shared} {σ : St} {H : Hp} {l b sl : Addr} {xs ys : List V} {a c : Int} {vl vu : Value} {Q : Unit → Shared → Prop} (I : Inv X pins σ H s)
    (hH : H l = some (.lst xs)) (hB : H b = some (.lst ys)) (hne : l ≠ b) (hs : s.heap.IsSliceOf sl vl vu .none) (ra : RelV (.int a) vl) (rc : RelV (.int c) vu) (h0 : 0 ≤ a) (hac : a ≤ c) (hc : c ≤ xs.length)
    (hz : xs.length + ys.length ≤ sizeLine) (h : ∀ s', Inv X pins σ (upd H l (.lst (xs.take a.toNat ++ ys ++ xs.drop c.toNat))) s' → Q () s') :
    wpAny (model X.prog X.w) X.A (setItem (.ref l) (.ref sl) (.ref b)) Q X.xe s := by
  obtain ⟨ta, rfl⟩ := ra
  obtain ⟨tc, rfl⟩ := rc
  obtain ⟨z, its, n, r, hl, e⟩ := I.lstM hH
  obtain ⟨z2, its2, n2, r2, hl2, e2⟩ := I.lstM hB
  obtain ⟨a', rfl⟩ := Int.eq_ofNat_of_zero_le h0
  obtain ⟨c', rfl⟩ := Int.eq_ofNat_of_zero_le (Int.le_trans h0 hac)
  simp only [Int.toNat_natCast] at h
  refine setItem_slice (a := a') (c := c') e e2 hne hs (.int _ _) (.int _ _) (by omega) (by rw [List.size_toArray]; omega) (by rw [List.size_toArray, List.size_toArray]; omega) (h _ ?_)
  refine I.lset (its' := its.take a' ++ its2 ++ its.drop c') (t' := s.toks) hH e ?_ (Vals.append (Vals.append (r.take _) r2) (r.drop _)) ?_
  · exact splice_eq its its2 a' c'
  · rw [List.length_append, List.length_append, List.length_take, List.length_drop]
    omega
end
end L2

namespace L2
open PySem PySem.Spec PyProof.Rows

/-! ### lists of pairs as tables -/
section
variable {κ : Type} [DecidableEq κ]
def valV (kvs : List (κ × V)) (k : κ) : Option V := (kvs.find? fun kv => decide (kv.1 = k)).map (·.2)
/-- in its place, or at the end -/
def putK (kvs : List (κ × V)) (k : κ) (v : V) : List (κ × V) :=
  if (kvs.any fun kv => decide (kv.1 = k)) = true then kvs.map (fun kv => if kv.1 = k then (kv.1, v) else kv) else kvs ++ [(k, v)]
def dropK (kvs : List (κ × V)) (k : κ) : List (κ × V) := kvs.filter fun kv => decide (kv.1 ≠ k)

theorem valV_nil {k : κ} : valV ([] : List (κ × V)) k = none := rfl
theorem valV_pos {p : κ × V} {r : List (κ × V)} {k : κ} (e : p.1 = k) : valV (p :: r) k = some p.2 := by simp [valV, List.find?_cons, e]
theorem valV_neg {p : κ × V} {r : List (κ × V)} {k : κ} (e : ¬ p.1 = k) : valV (p :: r) k = valV r k := by simp [valV, List.find?_cons, e]
theorem valV_any (k : κ) : ∀ kvs : List (κ × V), (kvs.any fun kv => decide (kv.1 = k)) = (valV kvs k).isSome
  | [] => rfl
  | p :: r => by
    rw [List.any_cons]
    by_cases e : p.1 = k
    · simp only [valV_pos e, decide_eq_true e, Bool.true_or, Option.isSome_some]
    · rw [valV_neg e, decide_eq_false e, Bool.false_or]; exact valV_any k r
theorem valV_map (k j : κ) (y : V) : ∀ kvs : List (κ × V), valV (kvs.map fun kv => if kv.1 = k then (kv.1, y) else kv) j = (valV kvs j).map fun x => if j = k then y else x
  | [] => rfl
  | p :: r => by
    have ih := valV_map k j y r
    rw [List.map_cons]
    by_cases h : p.1 = k
    · rw [if_pos h]
      by_cases e : p.1 = j
      · rw [valV_pos (p := (p.1, y)) e, valV_pos e, Option.map_some, if_pos (e.symm.trans h)]
      · rw [valV_neg (p := (p.1, y)) e, valV_neg e, ih]
    · rw [if_neg h]
      by_cases e : p.1 = j
      · rw [valV_pos (p := p) e, valV_pos e, Option.map_some, if_neg (fun z => h (e.trans z))]
      · rw [valV_neg (p := p) e, valV_neg e, ih]
theorem valV_snoc (k j : κ) (y : V) : ∀ kvs : List (κ × V), valV kvs k = none → valV (kvs ++ [(k, y)]) j = if j = k then some y else valV kvs j
  | [], _ => by
    by_cases e : k = j
    · rw [if_pos e.symm]; exact valV_pos (p := (k, y)) e
    · rw [if_neg (fun z => e z.symm)]; exact valV_neg (p := (k, y)) e
  | p :: r, hn => by
    rw [List.cons_append]
    have hk : ¬ p.1 = k := fun z => by rw [valV_pos z] at hn; cases hn
    rw [valV_neg hk] at hn
    have ih := valV_snoc k j y r hn
    by_cases e : p.1 = j
    · rw [valV_pos e, valV_pos e, if_neg (fun z => hk (e.trans z))]
    · rw [valV_neg e, valV_neg e, ih]
theorem valV_put (kvs : List (κ × V)) (k j : κ) (y : V) : valV (putK kvs k y) j = if j = k then some y else valV kvs j := by
  unfold putK
  by_cases a : (kvs.any fun kv => decide (kv.1 = k)) = true
  · rw [if_pos a, valV_map]
    rw [valV_any] at a
    by_cases e : j = k
    · obtain ⟨x, hx⟩ := Option.isSome_iff_exists.mp a
      rw [if_pos e, e, hx, Option.map_some, if_pos rfl]
    · rw [if_neg e]
      cases valV kvs j with
      | none => rfl
      | some x => rw [Option.map_some, if_neg e]
  · rw [if_neg a]
    refine valV_snoc k j y kvs ?_
    rw [valV_any] at a
    cases q : valV kvs k with
    | none => rfl
    | some x => rw [q] at a; exact (a rfl).elim
theorem length_putK (kvs : List (κ × V)) (k : κ) (v : V) : (putK kvs k v).length ≤ kvs.length + 1 := by
  unfold putK
  split
  · rw [List.length_map]; omega
  · rw [List.length_append, List.length_cons, List.length_nil]; omega
theorem putK_new {kvs : List (κ × V)} {k : κ} (v : V) (h : valV kvs k = none) : putK kvs k v = kvs ++ [(k, v)] := by
  unfold putK
  rw [valV_any, h]
  exact if_neg (by decide)

theorem RelO.isSome_eq {o : Option V} {u : Option Value} (r : RelO o u) : o.isSome = u.isSome := by
  cases o with
  | none => cases u with
    | none => rfl
    | some _ => exact (show False from r).elim
  | some _ => cases u with
    | none => exact (show False from r).elim
    | some _ => rfl
theorem RelO.getD {o : Option V} {u : Option Value} {d : V} {d' : Value} (r : RelO o u) (rd : RelV d d') : RelV (o.getD d) (u.getD d') := by
  cases o with
  | none => cases u with
    | none => exact rd
    | some _ => exact (show False from r).elim
  | some _ => cases u with
    | none => exact (show False from r).elim
    | some _ => exact r

/-- raw tables of the same keys -/
theorem KV.val {kvs : List (κ × V)} {vs : List (κ × Value)} (r : KV kvs vs) (k : κ) : RelO (valV kvs k) (valueAt vs k) := by
  unfold KV at r
  induction r with
  | nil => exact True.intro
  | @cons p q ps qs h t ih =>
    obtain ⟨h1, h2⟩ := h
    by_cases e : p.1 = k
    · have e' : q.1 = k := h1.symm.trans e
      have b : valueAt (q :: qs) k = some q.2 := by simp [valueAt, List.find?_cons, e']
      rw [valV_pos e, b]; exact h2
    · have e' : ¬ q.1 = k := fun z => e (h1.trans z)
      have b : valueAt (q :: qs) k = valueAt qs k := by simp [valueAt, List.find?_cons, e']
      rw [valV_neg e, b]; exact ih
theorem KV.any {kvs : List (κ × V)} {vs : List (κ × Value)} (r : KV kvs vs) (k : κ) : (kvs.any fun kv => decide (kv.1 = k)) = vs.any fun kv => decide (kv.1 = k) := by
  unfold KV at r
  induction r with
  | nil => rfl
  | cons h t ih => rw [List.any_cons, List.any_cons, ih, h.1]
theorem KV.repl {kvs : List (κ × V)} {vs : List (κ × Value)} (r : KV kvs vs) (k : κ) {y : V} {u : Value} (ry : RelV y u) :
    KV (kvs.map fun kv => if kv.1 = k then (kv.1, y) else kv) (vs.map fun kv => if kv.1 = k then (kv.1, u) else kv) := by
  unfold KV at r ⊢
  induction r with
  | nil => exact .nil
  | @cons p q ps qs h t ih =>
    rw [List.map_cons, List.map_cons]
    refine .cons ?_ ih
    obtain ⟨h1, h2⟩ := h
    by_cases e : p.1 = k
    · rw [if_pos e, if_pos (h1.symm.trans e)]; exact ⟨h1, ry⟩
    · rw [if_neg e, if_neg (fun z => e (h1.trans z))]; exact ⟨h1, h2⟩
theorem KV.put {kvs : List (κ × V)} {vs : List (κ × Value)} (r : KV kvs vs) (k : κ) {y : V} {u : Value} (ry : RelV y u) : KV (putK kvs k y) (stored vs k u) := by
  unfold putK stored
  rw [r.any k]
  by_cases e : (vs.any fun kv => decide (kv.1 = k)) = true
  · rw [if_pos e, if_pos e]; exact r.repl k ry
  · rw [if_neg e, if_neg e]; exact Paired.snoc r ⟨rfl, ry⟩
theorem KV.drop {kvs : List (κ × V)} {vs : List (κ × Value)} (r : KV kvs vs) (k : κ) : KV (dropK kvs k) (without vs k) := by
  unfold KV at r ⊢
  unfold dropK without
  induction r with
  | nil => exact .nil
  | @cons p q ps qs h t ih =>
    obtain ⟨h1, h2⟩ := h
    rw [List.filter_cons, List.filter_cons]
    by_cases e : p.1 = k
    · have a : ¬ decide (p.1 ≠ k) = true := by simp [e]
      have b : ¬ decide (q.1 ≠ k) = true := by simp [h1.symm.trans e]
      rw [if_neg a, if_neg b]; exact ih
    · have e' : ¬ q.1 = k := fun z => e (h1.trans z)
      have a : decide (p.1 ≠ k) = true := by simp [e]
      have b : decide (q.1 ≠ k) = true := by simp [e']
      rw [if_pos a, if_pos b]; exact .cons ⟨h1, h2⟩ ih
theorem KV.keys {kvs : List (κ × V)} {vs : List (κ × Value)} (r : KV kvs vs) : kvs.map (·.1) = vs.map (·.1) := by
  unfold KV at r
  induction r with
  | nil => rfl
  | cons h t ih => rw [List.map_cons, List.map_cons, ih, h.1]
theorem KV.length {kvs : List (κ × V)} {vs : List (κ × Value)} (r : KV kvs vs) : kvs.length = vs.length := Paired.length r
theorem dropK_le (kvs : List (κ × V)) (k : κ) : (dropK kvs k).length ≤ kvs.length := List.length_filter_le _ _
end


/-! ### a tracked dict, its keys ints and texts or tuples of these -/
theorem kV_is {P : Program} {w : World} {k : Key} {u : Value} (r : RelV (kV k) u) : (mixKind P w).is k u = true := by
  cases k with
  | inl i => obtain ⟨t, e⟩ := (show ∃ t, u = Value.int i t from r); subst e; exact mixKind_int P w i t
  | inr x => obtain ⟨t, e⟩ := (show ∃ t, u = Value.str x t from r); subst e; exact mixKind_str P w x t
theorem kV_inj {a b : Key} (e : kV a = kV b) : a = b := by
  cases a with
  | inl i => cases b with
    | inl j => have e' : V.int i = V.int j := e; injection e' with e'; rw [e']
    | inr y => exact nomatch (show V.int i = V.str y from e)
  | inr x => cases b with
    | inl j => exact nomatch (show V.str x = V.int j from e)
    | inr y => have e' : V.str x = V.str y := e; injection e' with e'; rw [e']
theorem kVs_inj : ∀ {a b : List Key}, a.map kV = b.map kV → a = b
  | [], [], _ => rfl
  | [], _ :: _, e => by simp at e
  | _ :: _, [], e => by simp at e
  | x :: xs, y :: ys, e => by
    rw [List.map_cons, List.map_cons] at e
    injection e with e1 e2
    rw [kV_inj e1, kVs_inj e2]
theorem items_are {P : Program} {w : World} : ∀ {ks : List Key} {us : List Value}, Vals (ks.map kV) us → ItemsAre (mixKind P w) ks us
  | [], _, r => by rw [List.map_nil] at r; cases r; exact .nil
  | k :: ks, _, r => by
    rw [List.map_cons] at r
    cases r with
    | cons h t => exact .cons (kV_is h) (items_are t)

/-- raw entries of a dict with tuple keys -/
abbrev KT (H : Hp) : List (List Key × V) → List (List Key × Addr × Value) → Prop := Paired fun p q => p.1 = q.1 ∧ H q.2.1 = some (.tup (p.1.map kV)) ∧ RelV p.2 q.2.2
theorem KT.val {H : Hp} {kvs : List (List Key × V)} {xs : List (List Key × Addr × Value)} (r : KT H kvs xs) (k : List Key) : RelO (valV kvs k) ((atKey xs k).map (·.2)) := by
  induction r with
  | nil => exact True.intro
  | @cons p q ps qs h t ih =>
    obtain ⟨h1, _, h2⟩ := h
    by_cases e : p.1 = k
    · have e' : q.1 = k := h1.symm.trans e
      have b : atKey (q :: qs) k = some q.2 := by simp [atKey, List.find?_cons, e']
      rw [valV_pos e, b]; exact h2
    · have e' : ¬ q.1 = k := fun z => e (h1.trans z)
      have b : atKey (q :: qs) k = atKey qs k := by simp [atKey, List.find?_cons, e']
      rw [valV_neg e, b]; exact ih
theorem KT.repl {H : Hp} {kvs : List (List Key × V)} {xs : List (List Key × Addr × Value)} (r : KT H kvs xs) (k : List Key) {y : V} {u : Value} (ry : RelV y u) :
    KT H (kvs.map fun kv => if kv.1 = k then (kv.1, y) else kv) (xs.map (putAt k u)) := by
  induction r with
  | nil => exact .nil
  | @cons p q ps qs h t ih =>
    rw [List.map_cons, List.map_cons]
    refine .cons ?_ ih
    obtain ⟨h1, h2, h3⟩ := h
    unfold putAt
    by_cases e : p.1 = k
    · rw [if_pos e, if_pos (h1.symm.trans e)]; exact ⟨h1, h2, ry⟩
    · rw [if_neg e, if_neg (fun z => e (h1.trans z))]; exact ⟨h1, h2, h3⟩
theorem KT.put {H : Hp} {kvs : List (List Key × V)} {xs : List (List Key × Addr × Value)} (r : KT H kvs xs) (k : List Key) {b : Addr} {y : V} {u : Value} (hb : H b = some (.tup (k.map kV))) (ry : RelV y u) :
    KT H (putK kvs k y) (storedH xs k b u) := by
  have e : (kvs.any fun kv => decide (kv.1 = k)) = (atKey xs k).isSome := by
    rw [valV_any, (r.val k).isSome_eq, Option.isSome_map]
  unfold putK storedH
  rw [e]
  by_cases q : (atKey xs k).isSome = true
  · rw [if_pos q, if_pos q]; exact r.repl k ry
  · rw [if_neg q, if_neg q]; exact Paired.snoc r ⟨rfl, hb, ry⟩
theorem KT.keeps {H H' : Hp} {kvs : List (List Key × V)} {xs : List (List Key × Addr × Value)} (r : KT H kvs xs) (ht : ∀ b ys, H b = some (.tup ys) → H' b = some (.tup ys)) : KT H' kvs xs :=
  Paired.mapP r fun _ _ z => ⟨z.1, ht _ _ z.2.1, z.2.2⟩

section
variable {P : Program} {w : World} {H : Hp} {h : Heap} {a : Addr}
theorem rd_of {u : HO} (ok : HOk P w H h) (e : Rd H a u) : ObjOk P w H h a u := e.ok ok
theorem dk_rd {kvs : List (Key × V)} (ok : HOk P w H h) (e : Rd H a (.dK kvs)) : kvs.length ≤ sizeLine ∧ (a == sysModules) = false ∧ ∃ vs, KV kvs vs ∧ h.DictOf (mixKind P w) a vs :=
  show ObjOk P w H h a (.dK kvs) from rd_of ok e
theorem dk_of {kvs : List (Key × V)} (ok : HOk P w H h) (e : H a = some (.dK kvs)) : kvs.length ≤ sizeLine ∧ (a == sysModules) = false ∧ ∃ vs, KV kvs vs ∧ h.DictOf (mixKind P w) a vs := dk_rd ok (.inl e)
/-- a tracked tuple of ints and texts is a key -/
theorem key_of {ks : List Key} (ok : HOk P w H h) (e : H a = some (.tup (ks.map kV))) : (tupleKind (mixKind P w)).is h ks a := by
  obtain ⟨_, its, r, o, h1, h2, n, h3⟩ := (show ObjOk P w H h a (.tup (ks.map kV)) from ok a _ e)
  exact ⟨o, its.toArray, n, h1, h2, h3, by simpa using items_are r⟩
theorem dt_rd {kvs : List (List Key × V)} (ok : HOk P w H h) (e : Rd H a (.dT kvs)) : kvs.length ≤ sizeLine ∧ (a == sysModules) = false ∧
    ∃ xs, KT H kvs xs ∧ h.DictOfH (tupleKind (mixKind P w)) a xs := by
  obtain ⟨z, y, xs, r, o, es, ep, h1, h2, h3, h4, h5⟩ := (show ObjOk P w H h a (.dT kvs) from rd_of ok e)
  refine ⟨z, y, xs, r, o, es, ep, h1, h2, h3, h4, fun x hx => ?_, h5⟩
  have all : ∀ {l : List (List Key × V)} {m : List (List Key × Addr × Value)}, KT H l m → ∀ x ∈ m, (tupleKind (mixKind P w)).is h x.1 x.2.1 := by
    intro l m q
    induction q with
    | nil => intro x hx; exact nomatch hx
    | @cons p q ps qs hq t ih =>
      intro x hx
      rcases List.mem_cons.mp hx with e | hx
      · subst e
        exact key_of ok (by rw [← hq.1]; exact hq.2.1)
      · exact ih x hx
  exact all r x hx
theorem dt_of {kvs : List (List Key × V)} (ok : HOk P w H h) (e : H a = some (.dT kvs)) : kvs.length ≤ sizeLine ∧ (a == sysModules) = false ∧
    ∃ xs, KT H kvs xs ∧ h.DictOfH (tupleKind (mixKind P w)) a xs := dt_rd ok (.inl e)
end

/-- what the dict at a holds at the key y -/
def DGet (H : Hp) (a : Addr) (y : V) (r : Option V) : Prop :=
  (∃ kvs k, Rd H a (.dK kvs) ∧ y = kV k ∧ r = valV kvs k) ∨ ∃ kvs k b, Rd H a (.dT kvs) ∧ y = .ref b ∧ H b = some (.tup (k.map kV)) ∧ r = valV kvs k
/-- the heap behind a[y] = v -/
def DPut (H : Hp) (a : Addr) (y v : V) (H' : Hp) : Prop :=
  (∃ kvs k, H a = some (.dK kvs) ∧ y = kV k ∧ kvs.length < sizeLine ∧ H' = upd H a (.dK (putK kvs k v))) ∨
  ∃ kvs k b, H a = some (.dT kvs) ∧ y = .ref b ∧ H b = some (.tup (k.map kV)) ∧ kvs.length < sizeLine ∧ H' = upd H a (.dT (putK kvs k v))
theorem DGet.k {H : Hp} {a : Addr} {kvs : List (Key × V)} {k : Key} (e : H a = some (.dK kvs)) : DGet H a (kV k) (valV kvs k) := .inl ⟨kvs, k, .inl e, rfl, rfl⟩
theorem DGet.t {H : Hp} {a b : Addr} {kvs : List (List Key × V)} {k : List Key} (e : H a = some (.dT kvs)) (eb : H b = some (.tup (k.map kV))) : DGet H a (.ref b) (valV kvs k) := .inr ⟨kvs, k, b, .inl e, rfl, eb, rfl⟩
theorem DPut.k {H : Hp} {a : Addr} {kvs : List (Key × V)} {k : Key} {v : V} (e : H a = some (.dK kvs)) (hl : kvs.length < sizeLine) : DPut H a (kV k) v (upd H a (.dK (putK kvs k v))) := .inl ⟨kvs, k, e, rfl, hl, rfl⟩
theorem DPut.t {H : Hp} {a b : Addr} {kvs : List (List Key × V)} {k : List Key} {v : V} (e : H a = some (.dT kvs)) (eb : H b = some (.tup (k.map kV))) (hl : kvs.length < sizeLine) :
    DPut H a (.ref b) v (upd H a (.dT (putK kvs k v))) := .inr ⟨kvs, k, b, e, rfl, eb, hl, rfl⟩


section
variable {X : Cx} {pins : List (Addr × Obj)} {σ : St} {H : Hp} {s : Shared} {a : Addr} {y v : V} {u r : Value} {o : Option V} {A : Around} {E : Value → Shared → Prop}

theorem Inv.big (I : Inv X pins σ H s) : sysModules < s.heap.objs.size := by
  have h : mainGlobals < s.heap.objs.size := (I.mod.glob.keeps I.bk).lt
  exact Nat.lt_trans (by decide) h

/-- d[y], there -/
theorem d_getItem {Q : Value → Shared → Prop} (hu : A.units + 1 < cLine) (I : Inv X pins σ H s) (g : DGet H a y (some v)) (ry : RelV y u) (h : ∀ w' s', Inv X pins σ H s' → RelV v w' → Q w' s') :
    wpAny (model X.prog X.w) A (getItem (.ref a) u) Q E s := by
  rcases g with ⟨kvs, k, e, ey, l⟩ | ⟨kvs, k, b, e, ey, eb, l⟩
  · subst ey
    obtain ⟨z, hd, vs, rel, dd⟩ := dk_rd I.hok e
    obtain ⟨w', hw, rw'⟩ := RelO.some_of (v := v) (o := valueAt vs k) (by rw [l]; exact rel.val k)
    exact wpAny_getItem_of (kV_is ry) dd.mapOf hw (h w' _ (I.tok _) rw')
  · subst ey
    cases (show u = Value.ref b from ry)
    obtain ⟨z, hd, xs, rel, dd⟩ := dt_rd I.hok e
    obtain ⟨w', hw, rw'⟩ := RelO.some_of (v := v) (o := (atKey xs k).map (·.2)) (by rw [l]; exact rel.val k)
    obtain ⟨p, hp, hp2⟩ := Option.map_eq_some_iff.mp hw
    refine wpAny_getItem_heap (tupleKind_room_in1 hu) (key_of I.hok eb) dd hp ?_
    rw [hp2]
    exact h w' _ (I.tok _) rw'
/-- y in d -/
theorem d_in {Q : Value → Shared → Prop} (hu : A.units + 1 < cLine) (I : Inv X pins σ H s) (g : DGet H a y o) (ry : RelV y u) (h : ∀ s', Inv X pins σ H s' → Q (.bool o.isSome) s') :
    wpAny (model X.prog X.w) A (compareOp .In u (.ref a)) Q E s := by
  rcases g with ⟨kvs, k, e, ey, l⟩ | ⟨kvs, k, b, e, ey, eb, l⟩
  · subst ey
    obtain ⟨z, hd, vs, rel, dd⟩ := dk_rd I.hok e
    refine wpAny_in_of (kV_is ry) hd dd.mapOf ?_
    rw [← (rel.val k).isSome_eq, ← l]
    exact h _ (I.tok _)
  · subst ey
    cases (show u = Value.ref b from ry)
    obtain ⟨z, hd, xs, rel, dd⟩ := dt_rd I.hok e
    refine wpAny_in_heap (tupleKind_room_in1 hu) (key_of I.hok eb) hd dd ?_
    have q := (rel.val k).isSome_eq
    rw [Option.isSome_map] at q
    rw [← q, ← l]
    exact h _ (I.tok _)
theorem d_notIn {Q : Value → Shared → Prop} (hu : A.units + 1 < cLine) (I : Inv X pins σ H s) (g : DGet H a y o) (ry : RelV y u) (h : ∀ s', Inv X pins σ H s' → Q (.bool (!o.isSome)) s') :
    wpAny (model X.prog X.w) A (compareOp .NotIn u (.ref a)) Q E s := by
  rcases g with ⟨kvs, k, e, ey, l⟩ | ⟨kvs, k, b, e, ey, eb, l⟩
  · subst ey
    obtain ⟨z, hd, vs, rel, dd⟩ := dk_rd I.hok e
    refine wpAny_notIn_of (kV_is ry) hd dd.mapOf ?_
    rw [← (rel.val k).isSome_eq, ← l]
    exact h _ (I.tok _)
  · subst ey
    cases (show u = Value.ref b from ry)
    obtain ⟨z, hd, xs, rel, dd⟩ := dt_rd I.hok e
    refine wpAny_notIn_heap (tupleKind_room_in1 hu) (key_of I.hok eb) hd dd ?_
    have q := (rel.val k).isSome_eq
    rw [Option.isSome_map] at q
    rw [← q, ← l]
    exact h _ (I.tok _)
/-- a dict's object is replaced -/
theorem d_write {h' : Heap} {t' : Nat} {ob : HO} (I : Inv X pins σ H s) (mu : Mut (H a)) (hs : Heap.SameBut a s.heap h') (he : ∃ q, h'.get? a = some q) (new : ObjOk X.prog X.w (upd H a ob) h' a ob) :
    Inv X pins σ (upd H a ob) { s with heap := h', toks := t' } :=
  I.write (x := a) (e := a) mu (.inl rfl) (fun b q hb z => (hs.2 b hb).trans z) he new
theorem dk_new {P : Program} {w : World} {H' : Hp} {h' : Heap} {kvs : List (Key × V)} {vs : List (Key × Value)} (z : kvs.length ≤ sizeLine) (hd : (a == sysModules) = false) (rel : KV kvs vs) (dd : h'.DictOf (mixKind P w) a vs) :
    ObjOk P w H' h' a (.dK kvs) := ⟨z, hd, vs, rel, dd⟩
/-- d[y] = v -/
theorem d_setItem {H' : Hp} {Q : Unit → Shared → Prop} (hu : A.units + 1 < cLine) (I : Inv X pins σ H s) (g : DPut H a y v H') (ry : RelV y u) (rv : RelV v r) (h : ∀ s', Inv X pins σ H' s' → Q () s') :
    wpAny (model X.prog X.w) A (setItem (.ref a) u r) Q E s := by
  rcases g with ⟨kvs, k, e, ey, l, eH⟩ | ⟨kvs, k, b, e, ey, eb, l, eH⟩
  · subst ey eH
    obtain ⟨z, hd, vs, rel, dd⟩ := dk_of I.hok e
    have hz : vs.length ≤ sizeLine := by rw [← rel.length]; exact z
    have hl : (putK kvs k v).length ≤ sizeLine := by have := length_putK kvs k v; omega
    refine wpAny_setItem_pairs (hsz := hz) (kV_is ry) dd fun h' dd' hs => h _ ?_
    have he : ∃ q, h'.get? a = some q := let ⟨q, _, _, hq, _⟩ := dd'; ⟨q, hq⟩
    exact d_write I (by rw [e]; exact True.intro) hs he (dk_new hl hd (rel.put k rv) dd')
  · subst ey eH
    cases (show u = Value.ref b from ry)
    obtain ⟨z, hd, xs, rel, dd⟩ := dt_of I.hok e
    have hz : xs.length ≤ sizeLine := by rw [← Paired.length rel]; exact z
    have hl : (putK kvs k v).length ≤ sizeLine := by have := length_putK kvs k v; omega
    refine wpAny_setItem_heap (hsz := hz) (tupleKind_room_in1 hu) (key_of I.hok eb) dd fun h' dd' hs => h _ ?_
    obtain ⟨q, es, ep, hq, h2, h3, h4, _, h5⟩ := dd'
    refine d_write I (by rw [e]; exact True.intro) hs ⟨q, hq⟩ ⟨hl, hd, _, (rel.put k eb rv).keeps fun c ys ec => ?_, q, es, ep, hq, h2, h3, h4, h5⟩
    rw [upd_ne (ne_of ec e (fun z => nomatch z))]
    exact ec
end

section
variable {X : Cx} {pins : List (Addr × Obj)} {σ : St} {H : Hp} {s : Shared} {a : Addr} {kvs : List (Key × V)} {k : Key} {u : Value} {A : Around} {E : Value → Shared → Prop}
/-- del d[k] -/
theorem d_delItem {Q : Unit → Shared → Prop} (I : Inv X pins σ H s) (e : H a = some (.dK kvs)) (ry : RelV (kV k) u) (l : (valV kvs k).isSome = true) (h : ∀ s', Inv X pins σ (upd H a (.dK (dropK kvs k))) s' → Q () s') :
    wpAny (model X.prog X.w) A (delItem (.ref a) u) Q E s := by
  obtain ⟨z, hd, vs, rel, dd⟩ := dk_of I.hok e
  refine wpAny_delItem_slot dd.typeIs (by decide) PySem.F.slot_dict_delitem
    (call_meetsIn PySem.F.slot_dict_delitem dd.typeIs PySem.F.entry_dict_delitem (PySem.F.args_dict_delitem_2 _ _) (meets_dict_delitem_pairs (mixKind X.prog X.w) a (kV_is ry)) ⟨vs, dd, by rw [← rel.length]; exact z, by rw [← (rel.val k).isSome_eq]; exact l, fun h' dd' hs => h _ ?_⟩)
  have he : ∃ q, h'.get? a = some q := let ⟨q, _, _, hq, _⟩ := dd'; ⟨q, hq⟩
  exact d_write I (by rw [e]; exact True.intro) hs he (dk_new (Nat.le_trans (dropK_le kvs k) z) hd (rel.drop k) dd')
/-- d.pop(k[, x]), there -/
theorem d_pop {v : V} {more : List Value} {Q : Value → Shared → Prop} (I : Inv X pins σ H s) (e : H a = some (.dK kvs)) (ry : RelV (kV k) u) (l : valV kvs k = some v) (hm : more = [] ∨ ∃ x, more = [x])
    (h : ∀ w' s', Inv X pins σ (upd H a (.dK (dropK kvs k))) s' → RelV v w' → Q w' s') : wpAny (model X.prog X.w) A (call (.builtin "dict.pop") (.ref a :: u :: more)) Q E s := by
  obtain ⟨z, hd, vs, rel, dd⟩ := dk_of I.hok e
  obtain ⟨w', hw, rw'⟩ := RelO.some_of (v := v) (o := valueAt vs k) (by rw [← l]; exact rel.val k)
  have hp : (keyPart u).isSome = true := by
    cases k with
    | inl i => obtain ⟨t, q⟩ := (show ∃ t, u = Value.int i t from ry); subst q; rfl
    | inr x => obtain ⟨t, q⟩ := (show ∃ t, u = Value.str x t from ry); subst q; rfl
  have ha : argsOk "dict.pop" ⟨.ref a :: u :: more, []⟩ := by
    rcases hm with q | ⟨x, q⟩
    · subst q; exact PySem.F.args_dict_pop_2 _ _
    · subst q; exact PySem.F.args_dict_pop_3 _ _ _
  refine call_meetsIn PySem.F.slot_dict_pop dd.typeIs PySem.F.entry_dict_pop ha (meets_dict_pop_there (mixKind X.prog X.w) a (kV_is ry) more hm hp)
    ⟨vs, w', dd, by rw [← rel.length]; exact z, hw, fun h' dd' hs => h w' _ ?_ rw'⟩
  have he : ∃ q, h'.get? a = some q := let ⟨q, _, _, hq, _⟩ := dd'; ⟨q, hq⟩
  exact d_write I (by rw [e]; exact True.intro) hs he (dk_new (Nat.le_trans (dropK_le kvs k) z) hd (rel.drop k) dd')
/-- d.pop(k, x), not there -/
theorem d_popD {r : Value} {Q : Value → Shared → Prop} (I : Inv X pins σ H s) (e : H a = some (.dK kvs)) (ry : RelV (kV k) u) (l : valV kvs k = none) (h : ∀ s', Inv X pins σ H s' → Q r s') :
    wpAny (model X.prog X.w) A (call (.builtin "dict.pop") [.ref a, u, r]) Q E s := by
  obtain ⟨z, hd, vs, rel, dd⟩ := dk_of I.hok e
  have hn : valueAt vs k = none := RelO.none_of (by rw [← l]; exact rel.val k)
  have hp : (keyPart u).isSome = true := by
    cases k with
    | inl i => obtain ⟨t, q⟩ := (show ∃ t, u = Value.int i t from ry); subst q; rfl
    | inr x => obtain ⟨t, q⟩ := (show ∃ t, u = Value.str x t from ry); subst q; rfl
  exact call_meetsIn PySem.F.slot_dict_pop dd.typeIs PySem.F.entry_dict_pop (PySem.F.args_dict_pop_3 _ _ _) (meets_dict_pop_default (mixKind X.prog X.w) a (kV_is ry) hd hp r) ⟨vs, dd, hn, h _ (I.tok _)⟩
/-- d.clear() -/
theorem d_clear {Q : Value → Shared → Prop} (I : Inv X pins σ H s) (e : H a = some (.dK kvs)) (h : ∀ s', Inv X pins σ (upd H a (.dK [])) s' → Q .none s') : wpAny (model X.prog X.w) A (call (.builtin "dict.clear") [.ref a]) Q E s := by
  obtain ⟨z, hd, vs, rel, dd⟩ := dk_of I.hok e
  refine call_meetsIn PySem.F.slot_dict_clear dd.typeIs PySem.F.entry_dict_clear (PySem.F.args_dict_clear_1 _) (meets_dict_clear (mixKind X.prog X.w) a) ⟨vs, dd, by rw [← rel.length]; exact z, fun h' dd' hs => h _ ?_⟩
  have he : ∃ q, h'.get? a = some q := let ⟨q, _, _, hq, _⟩ := dd'; ⟨q, hq⟩
  exact d_write (t' := s.toks) I (by rw [e]; exact True.intro) hs he (dk_new (Nat.zero_le _) hd .nil dd')
/-- len(d) -/
theorem d_len {Q : Value → Shared → Prop} (I : Inv X pins σ H s) (e : Rd H a (.dK kvs)) (h : ∀ t s', Inv X pins σ H s' → Q (.int kvs.length t) s') : wpAny (model X.prog X.w) A (call (.builtin "len") [.ref a]) Q E s := by
  obtain ⟨z, hd, vs, rel, dd⟩ := dk_rd I.hok e
  refine call_len_dict hd dd (by rw [← rel.length]; rw [sizeLine_eq] at z; omega) ?_
  rw [← rel.length]
  exact h _ _ (I.tok _)
/-- if d -/
theorem d_truth {Q : Bool → Shared → Prop} (I : Inv X pins σ H s) (e : Rd H a (.dK kvs)) (h : ∀ s', Inv X pins σ H s' → Q (!kvs.isEmpty) s') : wpAny (model X.prog X.w) A (truthy (.ref a)) Q E s := by
  obtain ⟨z, hd, vs, rel, dd⟩ := dk_rd I.hok e
  refine wpAny_truthy_dict hd dd (by rw [← rel.length]; rw [sizeLine_eq] at z; omega) ?_
  have q : kvs.isEmpty = vs.isEmpty := by cases rel <;> rfl
  rw [← q]
  exact h _ (I.tok _)
end


/-! ### readings and rules -/
/-- the element of a subscription, not a slice -/
def NoSl (i : Expr) : Prop := ∀ ov iv, subscripted i false ov iv = operate [ov, iv] (getItem ov iv)
theorem subD_of {prog : Program} {w : World} {A : Around} {E : Value → Shared → Prop} {s : Shared} {env : Env} {value slice : Expr} {pos : Pos} {T id : String} {Q : Value → Shared → Prop}
    (hl : typeLookup (.type T) "__getitem__" = pure (some (.builtin id))) (hs : NoSl slice)
    (h : wpAny (model prog w) A (eval value env) (fun o s₁ => wpAny (model prog w) A (eval slice env) (fun i s₂ => s₂.TypeIs o T ∧ wpAny (model prog w) A (getItem o i) Q E s₂) E s₁) E s) :
    wpAny (model prog w) A (eval (.Subscript value slice pos) env) Q E s := by
  refine Subscript_ (wpAny_mono h (fun o s₁ h₁ => wpAny_mono h₁ (fun i s₂ h₂ => ?_) fun _ _ x => x) fun _ _ x => x)
  obtain ⟨hT, h₂⟩ := h₂
  unfold subscriptTail
  refine wpAny_bind ?_
  rw [getitemInPython_of_ne hT.not_modules]
  refine wpAny_bind (wpAny_specialOf hT hl ?_)
  have fin : wpAny (model prog w) A (subscripted slice false o i) (fun r s₃ => wpAny (model prog w) A (letTemporaryGo value o r >>= fun _ => pure r) Q E s₃) E s₂ := by
    rw [hs o i]
    exact wpAny_operating (wpAny_mono h₂ (fun r s₃ h₃ => wpAny_bind (wpAny_letTemporaryGo (wpAny_pure h₃))) fun _ _ x => x)
  first
    | exact wpAny_pure (wpAny_bind fin)
    | exact wpAny_bind (wpAny_pure (wpAny_bind fin))
    | exact wpAny_bind fin

theorem dict_typeIs {X : Cx} {pins : List (Addr × Obj)} {σ : St} {H : Hp} {s : Shared} {a : Addr} {y : V} {o : Option V} (I : Inv X pins σ H s) (g : DGet H a y o) : s.TypeIs (.ref a) "dict" := by
  rcases g with ⟨kvs, k, e, _, _⟩ | ⟨kvs, k, b, e, _, _, _⟩
  · obtain ⟨_, _, vs, _, dd⟩ := dk_rd I.hok e
    exact dd.typeIs
  · obtain ⟨_, _, xs, _, dd⟩ := dt_rd I.hok e
    exact dd.typeIs
theorem dict_noDict {X : Cx} {pins : List (Addr × Obj)} {σ : St} {H : Hp} {s : Shared} {a : Addr} {y : V} {o : Option V} (I : Inv X pins σ H s) (g : DGet H a y o) :
    ∀ b, Value.ref a = .ref b → ∃ ob, s.heap.get? b = some ob ∧ ob.dict = none := fun b q => by
  cases q
  rcases g with ⟨kvs, k, e, _, _⟩ | ⟨kvs, k, b, e, _, _, _⟩
  · obtain ⟨_, _, vs, _, ob, _, _, h1, h2, _⟩ := dk_rd I.hok e
    exact ⟨ob, h1, h2.2.1⟩
  · obtain ⟨_, _, xs, _, ob, _, _, h1, h2, _⟩ := dt_rd I.hok e
    exact ⟨ob, h1, h2.2.1⟩

/-- d[y] -/
def tDGet (td ty : TE) : TE := fun σ H Q => td σ H fun x H1 => ty σ H1 fun y H2 => ∃ a v, x = .ref a ∧ DGet H2 a y (some v) ∧ Q v H2
/-- y in d, y not in d -/
def tDIn (ty td : TE) : TE := fun σ H Q => ty σ H fun y H1 => td σ H1 fun x H2 => ∃ a o, x = .ref a ∧ DGet H2 a y o ∧ Q (.bl o.isSome) H2
def tDNotIn (ty td : TE) : TE := fun σ H Q => ty σ H fun y H1 => td σ H1 fun x H2 => ∃ a o, x = .ref a ∧ DGet H2 a y o ∧ Q (.bl (!o.isSome)) H2
/-- d[y] = v -/
def sDPut (td ty tv : TE) : TS := fun D σ H => tv σ H fun v H1 => td σ H1 fun x H2 => ty σ H2 fun y H3 => ∃ a H4, x = .ref a ∧ DPut H3 a y v H4 ∧ D.nx σ H4
/-- d[y] op= v -/
def sDAug (td ty tv : TE) (rd : V → V → Hp → VK → Prop) : TS := fun D σ H => td σ H fun x H1 => ty σ H1 fun y H2 => ∃ a v, x = .ref a ∧ DGet H2 a y (some v) ∧
  tv σ H2 fun y2 H3 => rd v y2 H3 fun z H4 => ∃ H5, DPut H4 a y z H5 ∧ D.nx σ H5
/-- del d[y] -/
def sDDel (td ty : TE) : TS := fun D σ H => td σ H fun x H1 => ty σ H1 fun y H2 => ∃ a kvs k, x = .ref a ∧ H2 a = some (.dK kvs) ∧ y = kV k ∧ (valV kvs k).isSome = true ∧ D.nx σ (upd H2 a (.dK (dropK kvs k)))

section
variable {X : Cx} {o i e value : Expr} {pos pos' tpos : Pos} {td ty tv : TE}
theorem pe_dget (hu : X.A.units + 1 < cLine) (ho : PE X o td) (hi : PE X i ty) (hs : NoSl i) : PE X (.Subscript o i pos) (tDGet td ty) := by
  intro pins s σ H Q I h
  refine subD_of PySem.F.slot_dict_getitem.lookup hs (thn (ho pins s σ H _ I h) fun u s1 ⟨x, H1, I1, rx, q1⟩ => thn (hi pins s1 σ H1 _ I1 q1) fun iv s2 ⟨y, H2, I2, ry, a, v, ex, g, q2⟩ => ?_)
  subst ex
  obtain rfl : u = Value.ref a := rx
  exact ⟨dict_typeIs I2 g, d_getItem hu I2 g ry fun w' s3 I3 rw' => ⟨v, H2, I3, rw', q2⟩⟩
theorem pc_din (hu : X.A.units + 1 < cLine) (hi : PE X i ty) (ho : PE X o td) : PC X .In i o (tDIn ty td) := by
  intro pins s σ H Q I h
  refine thn (hi pins s σ H _ I h) fun iv s1 ⟨y, H1, I1, ry, q1⟩ => thn (ho pins s1 σ H1 _ I1 q1) fun u s2 ⟨x, H2, I2, rx, a, ov, ex, g, q2⟩ => ?_
  subst ex
  obtain rfl : u = Value.ref a := rx
  exact d_in hu I2 g ry fun s3 I3 => ⟨.bl ov.isSome, H2, I3, rfl, q2⟩
theorem pc_dnotin (hu : X.A.units + 1 < cLine) (hi : PE X i ty) (ho : PE X o td) : PC X .NotIn i o (tDNotIn ty td) := by
  intro pins s σ H Q I h
  refine thn (hi pins s σ H _ I h) fun iv s1 ⟨y, H1, I1, ry, q1⟩ => thn (ho pins s1 σ H1 _ I1 q1) fun u s2 ⟨x, H2, I2, rx, a, ov, ex, g, q2⟩ => ?_
  subst ex
  obtain rfl : u = Value.ref a := rx
  exact d_notIn hu I2 g ry fun s3 I3 => ⟨.bl (!ov.isSome), H2, I3, rfl, q2⟩
theorem ps_dput (hu : X.A.units + 1 < cLine) (ho : PE X o td) (hi : PE X i ty) (hv : PE X value tv) (hs : swapsWith value (some (.Subscript o i pos')) pos.line X.env = pure false) :
    PS X (.Assign [.Subscript o i pos'] value pos) (sDPut td ty tv) := by
  intro pins s σ H D I h
  refine wpAny_Assign_Subscript (thn (hv pins s σ H _ I h) fun r s1 ⟨v, H1, I1, rv, q1⟩ => thn (ho pins s1 σ H1 _ I1 q1) fun u s2 ⟨x, H2, I2, rx, q2⟩ => thn (hi pins s2 σ H2 _ I2 q2) fun iv s3 ⟨y, H3, I3, ry, a, H4, ex, g, q3⟩ => ?_) hs
  subst ex
  obtain rfl : u = Value.ref a := rx
  exact d_setItem hu I3 g ry rv fun s4 I4 => ⟨σ, H4, I4, q3⟩
theorem ps_daug {op : Operator} {rd : V → V → Hp → VK → Prop} (hu : X.A.units + 1 < cLine) (ho : PE X o td) (hi : PE X i ty) (hv : PE X value tv) (hop : InOp X op rd)
    (ha : ∀ ov iv new, augStore i ov iv new = (do holding [new, ov, iv] (setItem ov iv new); release [new, ov, iv] []; pure .next)) : PS X (.AugAssign (.Subscript o i tpos) op value pos) (sDAug td ty tv rd) := by
  intro pins s σ H D I h
  refine wpAny_AugAssign_SubscriptAny (thn (ho pins s σ H _ I h) fun u s1 ⟨x, H1, I1, rx, q1⟩ => thn (hi pins s1 σ H1 _ I1 q1) fun iv s2 ⟨y, H2, I2, ry, a, v, ex, g, q2⟩ => ?_) ha
  subst ex
  obtain rfl : u = Value.ref a := rx
  refine d_getItem hu I2 g ry fun w' s3 I3 rw' => thn (hv pins s3 σ H2 _ I3 q2) fun w2 s4 ⟨y2, H3, I4, ry2, q3⟩ => thn (hop pins s4 σ H3 v y2 w' w2 _ I4 rw' ry2 q3) fun w3 s5 ⟨z, H4, I5, rz, H5, g5, q4⟩ => ?_
  exact d_setItem hu I5 g5 ry rz fun s6 I6 => ⟨σ, H5, I6, q4⟩
theorem ps_ddel (ho : PE X o td) (hi : PE X i ty) : PS X (.Delete [.Subscript o i tpos] pos) (sDDel td ty) := by
  intro pins s σ H D I h
  refine wpAny_Delete (wpAny_deleteEach_cons (wpAny_delete_Subscript (thn (ho pins s σ H _ I h) fun u s1 ⟨x, H1, I1, rx, q1⟩ => thn (hi pins s1 σ H1 _ I1 q1) fun iv s2 ⟨y, H2, I2, ry, a, kvs, k, ex, e, ey, l, q2⟩ => ?_)))
  subst ex ey
  obtain rfl : u = Value.ref a := rx
  exact d_delItem I2 e ry l fun s3 I3 => wpAny_deleteEach_nil ⟨σ, _, I3, q2⟩
end


/-! ### displays -/
theorem dk_empty {P : Program} {w : World} {H : Hp} (h : Heap) (hb : sysModules < h.objs.size) : ObjOk P w H (h.push { cls := .type "dict", data := .dict #[] }) h.objs.size (.dK []) :=
  ⟨Nat.zero_le _, beq_eq_false_iff_ne.mpr (Ne.symm (Nat.ne_of_lt hb)), [], .nil, Heap.DictOf.new h⟩
theorem dt_empty {P : Program} {w : World} {H : Hp} (h : Heap) (hb : sysModules < h.objs.size) : ObjOk P w H (h.push { cls := .type "dict", data := .dict #[] }) h.objs.size (.dT []) :=
  ⟨Nat.zero_le _, beq_eq_false_iff_ne.mpr (Ne.symm (Nat.ne_of_lt hb)), [], .nil, _, #[], 0, Heap.get?_push_size _ rfl, ⟨rfl, rfl, rfl⟩, rfl, rfl, List.nodup_nil⟩
/-- {}, to be a dict of the kind that is wanted -/
def tDNewK : TE := fun _ H Q => ∀ p, H p = none → Q (.ref p) (upd H p (.dK []))
def tDNewT : TE := fun _ H Q => ∀ p, H p = none → Q (.ref p) (upd H p (.dT []))
section
variable {X : Cx} {pos : Pos}
theorem pe_dnewK : PE X (.Dict [] [] pos) tDNewK := fun pins s σ H Q I h =>
  wpAny_Dict_empty ⟨.ref s.heap.objs.size, _, I.laid (a := s.heap.objs.size) (o := .dK []) (t' := s.toks) (fun _ _ q => Heap.get?_push_of_some _ q) (Nat.le_refl _) (dk_empty s.heap I.big), rfl, h _ (I.hok.fresh (Nat.le_refl _))⟩
theorem pe_dnewT : PE X (.Dict [] [] pos) tDNewT := fun pins s σ H Q I h =>
  wpAny_Dict_empty ⟨.ref s.heap.objs.size, _, I.laid (a := s.heap.objs.size) (o := .dT []) (t' := s.toks) (fun _ _ q => Heap.get?_push_of_some _ q) (Nat.le_refl _) (dt_empty s.heap I.big), rfl, h _ (I.hok.fresh (Nat.le_refl _))⟩
end

/-- the pairs of a display, from the left -/
def tPairs : List (TE × TE) → St → Hp → (List (V × V) → Hp → Prop) → Prop
  | [], _, H, Q => Q [] H
  | (tk, tv) :: r, σ, H, Q => tk σ H fun x H1 => tv σ H1 fun y H2 => tPairs r σ H2 fun ps H3 => Q ((x, y) :: ps) H3
abbrev VV : List (V × V) → List (Value × Value) → Prop := Paired fun p q => RelV p.1 q.1 ∧ RelV p.2 q.2
def PPs (X : Cx) (pos : Pos) (keys : List (Option Expr)) (values : List Expr) (trs : List (TE × TE)) : Prop :=
  ∀ (pins : List (Addr × Obj)) (s : Shared) (σ : St) (H : Hp) (Q : List (V × V) → Hp → Prop), Inv X pins σ H s → tPairs trs σ H Q →
    wpAny (model X.prog X.w) X.A (evalPairs (pairTrees keys values X.env pos)) (fun vs s' => ∃ ps H', Inv X pins σ H' s' ∧ VV ps vs ∧ Q ps H') X.xe s
theorem pps_nil {X : Cx} {pos : Pos} : PPs X pos [] [] [] := fun pins s σ H Q I h => pairTrees_nil_walk ⟨[], H, I, .nil, h⟩
theorem pps_cons {X : Cx} {pos : Pos} {k v : Expr} {ks : List (Option Expr)} {vs : List Expr} {tk tv : TE} {trs : List (TE × TE)} (hk : PE X k tk) (hv : PE X v tv) (hr : PPs X pos ks vs trs) :
    PPs X pos (some k :: ks) (v :: vs) ((tk, tv) :: trs) := fun pins s σ H Q I h =>
  pairTrees_cons_walk (thn (hk pins s σ H _ I h) fun u s1 ⟨x, H1, I1, rx, q1⟩ => thn (hv pins s1 σ H1 _ I1 q1) fun w2 s2 ⟨y, H2, I2, ry, q2⟩ =>
    thn (hr pins s2 σ H2 _ I2 q2) fun ws s3 ⟨ps, H3, I3, rel, q3⟩ => ⟨(x, y) :: ps, H3, I3, .cons ⟨rx, ry⟩ rel, q3⟩)

def mergeK (kvs more : List (Key × V)) : List (Key × V) := more.foldl (fun acc kv => putK acc kv.1 kv.2) kvs
theorem KV.merge : ∀ {more : List (Key × V)} {rs : List (Key × Value)} {kvs : List (Key × V)} {vs : List (Key × Value)}, KV more rs → KV kvs vs → KV (mergeK kvs more) (merged vs rs) := by
  intro more rs kvs vs r
  unfold KV at r
  induction r generalizing kvs vs with
  | nil => intro q; exact q
  | @cons p q ps qs h t ih =>
    intro r0
    have e : KV (putK kvs p.1 p.2) (stored vs q.1 q.2) := by
      have := r0.put p.1 h.2
      rw [← h.1]; exact this
    exact ih e
theorem length_mergeK : ∀ (more kvs : List (Key × V)), (mergeK kvs more).length ≤ kvs.length + more.length
  | [], kvs => by show kvs.length ≤ kvs.length + 0; omega
  | p :: r, kvs => by
    have h1 := length_mergeK r (putK kvs p.1 p.2)
    have h2 := length_putK kvs p.1 p.2
    show (mergeK (putK kvs p.1 p.2) r).length ≤ _
    rw [List.length_cons]; omega
theorem carries_of {P : Program} {w : World} : ∀ {kvs : List (Key × V)} {ws : List (Value × Value)}, VV (kvs.map fun kv => (kV kv.1, kv.2)) ws → ∃ rs, Carries (mixKind P w) ws rs ∧ KV kvs rs
  | [], _, r => by rw [List.map_nil] at r; cases r; exact ⟨[], True.intro, .nil⟩
  | p :: kvs, _, r => by
    rw [List.map_cons] at r
    cases r with
    | @cons a b as bs h t =>
      obtain ⟨rs, c, q⟩ := carries_of (P := P) (w := w) t
      obtain ⟨b1, b2⟩ := b
      exact ⟨(p.1, b2) :: rs, ⟨kV_is h.1, rfl, c⟩, .cons ⟨rfl, h.2⟩ q⟩
/-- {k: v, ..} with keys ints and texts; the new dict stands empty while the pairs are made -/
def tDisp (trs : List (TE × TE)) : TE := fun σ H Q => ∀ p, H p = none → tPairs trs σ (upd H p (.dK [])) fun ps H2 => H2 p = some (.dK []) ∧ ∃ kvs : List (Key × V), ps = kvs.map (fun kv => (kV kv.1, kv.2)) ∧ kvs.length ≤ 15 ∧ Q (.ref p) (upd H2 p (.dK (mergeK [] kvs)))
theorem pe_disp {X : Cx} {pos : Pos} {keys : List (Option Expr)} {values : List Expr} {trs : List (TE × TE)} (h : PPs X pos keys values trs) (hall : keys.all (·.isSome) = true) (hl : keys.length = values.length) (h0 : keys ≠ [])
    (h15 : keys.length ≤ 15) : PE X (.Dict keys values pos) (tDisp trs) := by
  intro pins s σ H Q I q
  have hn := I.hok.fresh (Nat.le_refl s.heap.objs.size)
  have I1 := I.laid (a := s.heap.objs.size) (o := .dK []) (h' := s.heap.push { cls := .type "dict", data := .dict #[] }) (t' := s.toks) (fun _ _ q => Heap.get?_push_of_some _ q) (Nat.le_refl _) (dk_empty s.heap I.big)
  refine wpAny_Dict_walk (knd := mixKind X.prog X.w) hall hl h0 h15 (thn (h pins _ σ _ _ I1 (q _ hn)) fun ws s2 ⟨ps, H2, I2, rel, e, kvs, ep, lk, q2⟩ => ?_)
  subst ep
  obtain ⟨rs, c, rk⟩ := carries_of (P := X.prog) (w := X.w) rel
  obtain ⟨z, hd, vs0, r0, dd⟩ := dk_of I2.hok e
  cases r0
  refine ⟨rs, c, dd, fun h' dd' hs => ⟨.ref s.heap.objs.size, _, ?_, rfl, q2⟩⟩
  have hz : (mergeK [] kvs).length ≤ sizeLine := by
    have h1 := length_mergeK kvs []
    rw [List.length_nil] at h1
    rw [sizeLine_eq]; omega
  have he : ∃ q, h'.get? s.heap.objs.size = some q := let ⟨q, _, _, hq, _⟩ := dd'; ⟨q, hq⟩
  exact d_write I2 (by rw [e]; exact True.intro) hs he (dk_new hz hd (rk.merge .nil) dd')


/-! ### methods -/
/-- a method call o.m(e) of a built-in, with one argument: what must be seen of the text -/
structure M1 (X : Cx) (o : Expr) (m : Str) (apos : Pos) (e : Expr) (cpos : Pos) : Prop where
  base : attributeBase o m X.env (eval o X.env) = eval o X.env
  few : ((backTo cpos (starEach [e] X.env)).all (fun x => !x.1) && (backToKw cpos (keywordEach [] X.env)).all (fun x => x.1.isSome)
    && decide (([e] : List Expr).length + ([] : List Keyword).length + (if ([] : List Keyword).isEmpty then 0 else 1) < 30)) = true
  line : (apos.endLine == cpos.line) = true
  trees : backTo cpos (starEach [e] X.env) = [(false, eval e X.env)]
structure M2 (X : Cx) (o : Expr) (m : Str) (apos : Pos) (e f : Expr) (cpos : Pos) : Prop where
  base : attributeBase o m X.env (eval o X.env) = eval o X.env
  few : ((backTo cpos (starEach [e, f] X.env)).all (fun x => !x.1) && (backToKw cpos (keywordEach [] X.env)).all (fun x => x.1.isSome)
    && decide (([e, f] : List Expr).length + ([] : List Keyword).length + (if ([] : List Keyword).isEmpty then 0 else 1) < 30)) = true
  line : (apos.endLine == cpos.line) = true
  trees : backTo cpos (starEach [e, f] X.env) = [(false, eval e X.env), (false, eval f X.env)]

/-- a is a dict, whatever its keys -/
def IsD (H : Hp) (a : Addr) : Prop := (∃ kvs, Rd H a (.dK kvs)) ∨ ∃ kvs, Rd H a (.dT kvs)
theorem isD_at {X : Cx} {pins : List (Addr × Obj)} {σ : St} {H : Hp} {s : Shared} {a : Addr} (I : Inv X pins σ H s) (d : IsD H a) :
    s.TypeIs (.ref a) "dict" ∧ (∀ b, Value.ref a = .ref b → ∃ ob, s.heap.get? b = some ob ∧ ob.dict = none) ∧ (a == sysModules) = false := by
  rcases d with ⟨kvs, e⟩ | ⟨kvs, e⟩
  · obtain ⟨_, hd, vs, _, dd⟩ := dk_rd I.hok e
    refine ⟨dd.typeIs, fun b q => ?_, hd⟩
    cases q
    obtain ⟨ob, _, _, h1, h2, _⟩ := dd
    exact ⟨ob, h1, h2.2.1⟩
  · obtain ⟨_, hd, xs, _, dd⟩ := dt_rd I.hok e
    refine ⟨dd.typeIs, fun b q => ?_, hd⟩
    cases q
    obtain ⟨ob, _, _, h1, h2, _⟩ := dd
    exact ⟨ob, h1, h2.2.1⟩

section
variable {X : Cx} {pins : List (Addr × Obj)} {σ : St} {H : Hp} {s : Shared} {a : Addr} {y d : V} {u r : Value} {o : Option V} {A : Around} {E : Value → Shared → Prop}
/-- d.get(y) -/
theorem d_get1 {Q : Value → Shared → Prop} (hu : A.units + 1 < cLine) (I : Inv X pins σ H s) (g : DGet H a y o) (ry : RelV y u) (h : ∀ w' s', Inv X pins σ H s' → RelV (o.getD .non) w' → Q w' s') :
    wpAny (model X.prog X.w) A (call (.builtin "dict.get") [.ref a, u]) Q E s := by
  rcases g with ⟨kvs, k, e, ey, l⟩ | ⟨kvs, k, b, e, ey, eb, l⟩
  · subst ey
    obtain ⟨z, hd, vs, rel, dd⟩ := dk_rd I.hok e
    refine call_meetsIn PySem.F.slot_dict_get dd.typeIs PySem.F.entry_dict_get (PySem.F.args_dict_get_2 _ _) (meets_dict_get (mixKind X.prog X.w) a (kV_is ry) hd) ⟨_, dd.mapOf, h _ _ (I.tok _) ?_⟩
    rw [l]
    exact (rel.val k).getD rfl
  · subst ey
    cases (show u = Value.ref b from ry)
    obtain ⟨z, hd, xs, rel, dd⟩ := dt_rd I.hok e
    refine call_meetsIn PySem.F.slot_dict_get dd.typeIs PySem.F.entry_dict_get (PySem.F.args_dict_get_2 _ _) (meetsH_dict_get (tupleKind (mixKind X.prog X.w)) a b hd) ⟨tupleKind_room_in1 hu, k, xs, key_of I.hok eb, dd, h _ _ (I.tok _) ?_⟩
    rw [l]
    exact (rel.val k).getD rfl
/-- d.get(y, x) -/
theorem d_get2 {Q : Value → Shared → Prop} (hu : A.units + 1 < cLine) (I : Inv X pins σ H s) (g : DGet H a y o) (ry : RelV y u) (rd : RelV d r) (h : ∀ w' s', Inv X pins σ H s' → RelV (o.getD d) w' → Q w' s') :
    wpAny (model X.prog X.w) A (call (.builtin "dict.get") [.ref a, u, r]) Q E s := by
  rcases g with ⟨kvs, k, e, ey, l⟩ | ⟨kvs, k, b, e, ey, eb, l⟩
  · subst ey
    obtain ⟨z, hd, vs, rel, dd⟩ := dk_rd I.hok e
    refine call_meetsIn PySem.F.slot_dict_get dd.typeIs PySem.F.entry_dict_get (PySem.F.args_dict_get_3 _ _ _) (meets_dict_get_default (mixKind X.prog X.w) a (kV_is ry) hd r) ⟨_, dd.mapOf, h _ _ (I.tok _) ?_⟩
    rw [l]
    exact (rel.val k).getD rd
  · subst ey
    cases (show u = Value.ref b from ry)
    obtain ⟨z, hd, xs, rel, dd⟩ := dt_rd I.hok e
    refine call_meetsIn PySem.F.slot_dict_get dd.typeIs PySem.F.entry_dict_get (PySem.F.args_dict_get_3 _ _ _) (meetsH_dict_get_default (tupleKind (mixKind X.prog X.w)) a b hd r) ⟨tupleKind_room_in1 hu, k, xs, key_of I.hok eb, dd, h _ _ (I.tok _) ?_⟩
    rw [l]
    exact (rel.val k).getD rd
end

def tDGet1 (td ty : TE) : TE := fun σ H Q => td σ H fun x H1 => ∃ a, x = .ref a ∧ IsD H1 a ∧ ty σ H1 fun y H2 => ∃ o, DGet H2 a y o ∧ Q (o.getD .non) H2
def tDGet2 (td ty tx : TE) : TE := fun σ H Q => td σ H fun x H1 => ∃ a, x = .ref a ∧ IsD H1 a ∧ ty σ H1 fun y H2 => tx σ H2 fun z H3 => ∃ o, DGet H3 a y o ∧ Q (o.getD z) H3
/-- d.pop(k): there; d.pop(k, x): there or not -/
def tDPop1 (td ty : TE) : TE := fun σ H Q => td σ H fun x H1 => ∃ a, x = .ref a ∧ IsD H1 a ∧ ty σ H1 fun y H2 => ∃ kvs k v, H2 a = some (.dK kvs) ∧ y = kV k ∧ valV kvs k = some v ∧ Q v (upd H2 a (.dK (dropK kvs k)))
def tDPop2 (td ty tx : TE) : TE := fun σ H Q => td σ H fun x H1 => ∃ a, x = .ref a ∧ IsD H1 a ∧ ty σ H1 fun y H2 => tx σ H2 fun z H3 => ∃ kvs k, H3 a = some (.dK kvs) ∧ y = kV k ∧
  (∀ v, valV kvs k = some v → Q v (upd H3 a (.dK (dropK kvs k)))) ∧ (valV kvs k = none → Q z H3)
section
variable {X : Cx} {o e f : Expr} {apos cpos : Pos} {td ty tx : TE}
theorem pe_dget1 (hu : X.A.units + 1 < cLine) (ho : PE X o td) (he : PE X e ty) (m : M1 X o "get" apos e cpos) : PE X (.Call (.Attribute o "get" apos) [e] [] cpos) (tDGet1 td ty) := by
  intro pins s σ H Q I h
  refine wpAny_Call_method m.base m.few m.line PySem.F.plainAttrs_dict PySem.F.slot_dict_get PySem.F.type_dict_get (thn (ho pins s σ H _ I h) fun u s1 ⟨x, H1, I1, rx, a, ex, d, q1⟩ => ?_)
  subst ex
  obtain rfl : u = Value.ref a := rx
  obtain ⟨t1, t2, _⟩ := isD_at I1 d
  refine ⟨t1, t2, ?_⟩
  rw [m.trees]
  refine Calls.callWith_builtin rfl (Calls.evalArgs_plain (Calls.spliced_cons (thn (he pins s1 σ H1 _ I1 q1) fun iv s2 ⟨y, H2, I2, ry, ov, g, q2⟩ => Calls.spliced_nil ?_)))
  exact d_get1 hu I2 g ry fun w' s3 I3 rw' => ⟨_, H2, I3, rw', q2⟩
theorem pe_dget2 (hu : X.A.units + 1 < cLine) (ho : PE X o td) (he : PE X e ty) (hf : PE X f tx) (m : M2 X o "get" apos e f cpos) : PE X (.Call (.Attribute o "get" apos) [e, f] [] cpos) (tDGet2 td ty tx) := by
  intro pins s σ H Q I h
  refine wpAny_Call_method m.base m.few m.line PySem.F.plainAttrs_dict PySem.F.slot_dict_get PySem.F.type_dict_get (thn (ho pins s σ H _ I h) fun u s1 ⟨x, H1, I1, rx, a, ex, d, q1⟩ => ?_)
  subst ex
  obtain rfl : u = Value.ref a := rx
  obtain ⟨t1, t2, _⟩ := isD_at I1 d
  refine ⟨t1, t2, ?_⟩
  rw [m.trees]
  refine Calls.callWith_builtin rfl (Calls.evalArgs_plain (Calls.spliced_cons (thn (he pins s1 σ H1 _ I1 q1) fun iv s2 ⟨y, H2, I2, ry, q2⟩ =>
    Calls.spliced_cons (thn (hf pins s2 σ H2 _ I2 q2) fun fv s3 ⟨z, H3, I3, rz, ov, g, q3⟩ => Calls.spliced_nil ?_))))
  exact d_get2 hu I3 g ry rz fun w' s4 I4 rw' => ⟨_, H3, I4, rw', q3⟩
theorem pe_dpop1 (ho : PE X o td) (he : PE X e ty) (m : M1 X o "pop" apos e cpos) : PE X (.Call (.Attribute o "pop" apos) [e] [] cpos) (tDPop1 td ty) := by
  intro pins s σ H Q I h
  refine wpAny_Call_method m.base m.few m.line PySem.F.plainAttrs_dict PySem.F.slot_dict_pop PySem.F.type_dict_pop (thn (ho pins s σ H _ I h) fun u s1 ⟨x, H1, I1, rx, a, ex, d, q1⟩ => ?_)
  subst ex
  obtain rfl : u = Value.ref a := rx
  obtain ⟨t1, t2, _⟩ := isD_at I1 d
  refine ⟨t1, t2, ?_⟩
  rw [m.trees]
  refine Calls.callWith_builtin rfl (Calls.evalArgs_plain (Calls.spliced_cons (thn (he pins s1 σ H1 _ I1 q1) fun iv s2 ⟨y, H2, I2, ry, kvs, k, v, ea, ey, l, q2⟩ => Calls.spliced_nil ?_)))
  subst ey
  exact d_pop I2 ea ry l (.inl rfl) fun w' s3 I3 rw' => ⟨v, _, I3, rw', q2⟩
theorem pe_dpop2 (ho : PE X o td) (he : PE X e ty) (hf : PE X f tx) (m : M2 X o "pop" apos e f cpos) : PE X (.Call (.Attribute o "pop" apos) [e, f] [] cpos) (tDPop2 td ty tx) := by
  intro pins s σ H Q I h
  refine wpAny_Call_method m.base m.few m.line PySem.F.plainAttrs_dict PySem.F.slot_dict_pop PySem.F.type_dict_pop (thn (ho pins s σ H _ I h) fun u s1 ⟨x, H1, I1, rx, a, ex, d, q1⟩ => ?_)
  subst ex
  obtain rfl : u = Value.ref a := rx
  obtain ⟨t1, t2, _⟩ := isD_at I1 d
  refine ⟨t1, t2, ?_⟩
  rw [m.trees]
  refine Calls.callWith_builtin rfl (Calls.evalArgs_plain (Calls.spliced_cons (thn (he pins s1 σ H1 _ I1 q1) fun iv s2 ⟨y, H2, I2, ry, q2⟩ =>
    Calls.spliced_cons (thn (hf pins s2 σ H2 _ I2 q2) fun fv s3 ⟨z, H3, I3, rz, kvs, k, ea, ey, q3, q4⟩ => Calls.spliced_nil ?_))))
  subst ey
  cases l : valV kvs k with
  | some v => exact d_pop I3 ea ry l (.inr ⟨fv, rfl⟩) fun w' s4 I4 rw' => ⟨v, _, I4, rw', q3 v l⟩
  | none => exact d_popD I3 ea ry l fun s4 I4 => ⟨z, H3, I4, rz, q4 l⟩
end

/-! ### dict(d): a copy -/
section
variable {X : Cx} {pins : List (Addr × Obj)} {σ : St} {H : Hp} {s : Shared} {a : Addr} {kvs : List (Key × V)} {A : Around} {E : Value → Shared → Prop}
theorem d_copyOf {Q : Value → Shared → Prop} (I : Inv X pins σ H s) (e : Rd H a (.dK kvs)) (h : ∀ p s', H p = none → Inv X pins σ (upd H p (.dK kvs)) s' → Q (.ref p) s') : wpAny (model X.prog X.w) A (call (.type "dict") [.ref a]) Q E s := by
  obtain ⟨z, hd, vs, rel, dd⟩ := dk_rd I.hok e
  refine kt_call_dict hd dd (by rw [← rel.length]; exact z) fun h' dd' hs => ?_
  refine h _ _ (I.hok.fresh (Nat.le_refl _)) (I.laid (a := s.heap.objs.size) (o := .dK kvs) (t' := s.toks) (fun b q hq => ?_) (Nat.le_refl _) (dk_new z (beq_eq_false_iff_ne.mpr (Ne.symm (Nat.ne_of_lt I.big))) rel dd'))
  exact (hs.2 b (Nat.ne_of_lt (Heap.lt_size hq))).trans (Heap.get?_push_of_some _ hq)
end


section
variable {X : Cx} {pins : List (Addr × Obj)} {σ : St} {H : Hp} {s : Shared} {a : Addr} {y : V} {u : Value} {A : Around} {E : Value → Shared → Prop}
/-- d[y], not there: a KeyError -/
theorem d_missing {Q : Value → Shared → Prop} (hu : A.units + 1 < cLine) (hh : A.handled = none) (I : Inv X pins σ H s) (g : DGet H a y none) (ry : RelV y u)
    (h : ∀ h' e t', Heap.NewExc s.heap h' e "KeyError" → E (.ref e) { s with heap := h', toks := t' }) : wpAny (model X.prog X.w) A (getItem (.ref a) u) Q E s := by
  rcases g with ⟨kvs, k, e, ey, l⟩ | ⟨kvs, k, b, e, ey, eb, l⟩
  · subst ey
    obtain ⟨z, hd, vs, rel, dd⟩ := dk_rd I.hok e
    have hn : valueAt vs k = none := RelO.none_of (by rw [l]; exact rel.val k)
    exact wpAny_getItem_missing_of (kV_is ry) hd hh dd.mapOf hn fun h' ex ne => h h' ex _ ne
  · subst ey
    cases (show u = Value.ref b from ry)
    obtain ⟨z, hd, xs, rel, dd⟩ := dt_rd I.hok e
    have hn : (atKey xs k).map (·.2) = none := RelO.none_of (by rw [l]; exact rel.val k)
    exact wpAny_getItem_missing_heap (tupleKind_room_in1 hu) (key_of I.hok eb) hd hh dd (Option.map_eq_none_iff.mp hn) fun h' ex ne => h h' ex _ ne
end
end L2

namespace Att
open PySem PySem.W PySem.Calls PyProof.Rows

/-! ### the script -/
theorem ints_of_wellAll {P : Params} {h : Heap} : ∀ (ns : List Int) (vs : List Value), WellAll P h vs (ns.map WData.int) → IntsAre vs ns := by
  intro ns
  induction ns with
  | nil =>
    intro vs w
    rw [List.map_nil] at w
    cases w
    exact .nil
  | cons n ns ih =>
    intro vs w
    rw [List.map_cons] at w
    cases w with
    | cons a b =>
      cases a
      exact .cons _ _ (ih _ b)

theorem script_of {l : OpenLaw} {n : Nat} (hn : l.most = some n) {P : Params} {h : Heap} {args : List WData} {vals : List Value}
    (hpre : l.row.toRowW.claim.pre args = true) (hwl : WellAll P h vals args) :
    ∃ a vs ns, vals = [Value.ref a] ∧ args = [WData.list (ns.map WData.int)] ∧ h.get? a = some { cls := .type "list", data := .seq vs.toArray } ∧ IntsAre vs ns ∧ ns.length ≤ n := by
  have hsh : WShape.hasAll [] args [.list .int] = true := (pre_splitW hpre).1
  have hc : l.pre.holds [] { args := args } = true := (pre_splitW hpre).2
  obtain ⟨d, r, rfl, h1, h2⟩ := hasAllW_cons hsh
  obtain rfl := hasAllW_nil h2
  obtain ⟨xs, rfl, h3⟩ := hasW_list h1
  obtain ⟨ns, rfl⟩ := items_int h3
  have hlen : ns.length ≤ n := by
    unfold OpenLaw.pre at hc
    have h4 : (WTm.not (.lt (.lit (.int (n : Int))) (.len (.arg 0)))).holds [] { args := [.list (ns.map .int)] } = true := by
      have h4 := (holds_andW hc).1
      rw [hn] at h4
      exact h4
    have h5 := condW_of h4 (w_not (w_lt w_lit (w_len_list (w_arg rfl))))
    rw [List.length_map] at h5
    refine Nat.le_of_not_lt fun q => ?_
    have q' : (n : Int) < ((ns.length : Nat) : Int) := by omega
    first
      | (rw [decide_eq_true q'] at h5; exact absurd h5 (by decide))
      | (simp at h5; omega)
  cases hwl with
  | cons w1 w2 =>
    cases w2
    cases w1 with
    | list ho hall => exact ⟨_, _, ns, rfl, rfl, ho, ints_of_wellAll ns _ hall, hlen⟩

theorem post_true (l : OpenLaw) (args : List WData) : l.row.toRowW.claim.post args (.bool true) args = true :=
  postW_of (r := l.row.toRowW) (X := (true == true))
    (show WShape.has [] (.bool true) .bool = true by first | rfl | decide | simp [WShape.has, WShape.arms, WShape.armsAll])
    (show (WTm.eq .res (.lit (.bool true))).value [] { args := args, res := some (.bool true), after := args } = some (.bool (true == true)) from w_eq_bool (w_res rfl) w_lit) rfl

/-! ### the attachment: holds_open's last premise (the goal 'hc' behind k_head) from a wpAny of the law's body -/
theorem attach {l : OpenLaw} {n : Nat} {q : Program} {loose : List Str} {XP : (Str → Option Value) → Heap → Prop} {YP : World → Heap → Prop} {d : DefRec} {x : Str}
    (hn : l.most = some n) (hdf : d.params.defaults = [])
    (hbind : ∀ pm cd doc v : Value, bindArgs (docDef d.name d.params d.body d.scope pm cd doc) ⟨[v], []⟩ = pure [(x, v)])
    (hx : d.scope.names.lookup x = some .local ∨ d.scope.names.lookup x = some .cell)
    (hk : d.scope.kind = .function) (hco : d.scope.isCoroutine = false) (hgen : d.scope.isGenerator = false)
    (body : ∀ (w : World) (s₀ s₁ s : Shared) (mg mb : Str → Option Value) (fa : Addr) (o : Obj) (pm cd doc : Value) (a : Addr) (vs : List Value) (ns : List Int),
      Ground q loose [] XP w s₀ mg mb s₁.heap → YP w s₁.heap →
      s₁.heap.get? fa = some o → o.data = .func (docDef d.name d.params d.body d.scope pm cd doc) → s₁.heap.CodeRec cd d.name → mg d.name = some (.ref fa) →
      s₁.heap.get? a = some { cls := .type "list", data := .seq vs.toArray } → IntsAre vs ns → ns.length ≤ n →
      s.gens = #[] → s.os = s₁.os →
      Fr s₁.heap s₁.heap.objs.size s.heap (bindL (envOfC d.name d.scope s₁.heap.objs.size fa cd).kindOf [(x, .ref a)] fun _ => none) →
      Cl s₁.heap.objs.size (cellsFrom (s₁.heap.objs.size + 1) d.scope.names []) s.heap (bindC (envOfC d.name d.scope s₁.heap.objs.size fa cd).kindOf [(x, .ref a)] fun _ => none) →
      wpAny (model l.prog w) (callerA.deeper (envOfC d.name d.scope s₁.heap.objs.size fa cd)) (execs d.body (envOfC d.name d.scope s₁.heap.objs.size fa cd))
        (fun f s' => f = .ret (.bool true) ∧ OldK s₁.heap s'.heap ∧ s'.os = s₁.os ∧ AllBare s'.gens) (fun _ _ => False) s) :
    WalkO q loose XP YP l.row.toRowW d [] (fun f vs => PySem.call f vs) := by
  intro w s₀ s₁ mg mb G Y fa o pm cd doc dV kV ho hd hcd hD hmg hg args vals as hpre hlay hrd hwl hlo
  obtain rfl : dV = .none := Dflts.none hD hdf
  obtain rfl : kV = .none := Dflts.noKw hD
  obtain ⟨a, vs, ns, rfl, rfl, hobj, hints, hlen⟩ := script_of hn hpre hwl
  refine enter_call ?_
  refine call_cells_ret (o := o) (by rw [depth_caller]; decide) ho (fd_plain hd) G.T.nolimit hcd (hbind pm cd doc (.ref a)) (fun y hy => ?_) (fun h₁ tk F X => ?_) hco hgen hk
  · obtain rfl : y = (x, Value.ref a) := List.mem_singleton.mp hy
    rcases hx with e | e
    · exact .inl e
    · exact .inr ⟨e, cellsFrom_some _ _ _ (.inl e)⟩
  · refine wpAny_mono (body w s₀ s₁ { s₁ with heap := h₁, toks := tk } mg mb fa o pm cd doc a vs ns G Y ho (fd_plain hd) hcd hmg hobj hints hlen hg rfl F X) (fun f s' hq => ?_) (fun _ _ hq => hq)
    obtain ⟨rfl, h2, h3, h4⟩ := hq
    exact ⟨.inl ⟨.bool true, .bool true, [], rfl, fun _ => rfl, .bool true, post_true l _, fun _ => ⟨List.Pairwise.nil, fun _ hm => (nomatch hm)⟩⟩, h2, h3, h4⟩

/-- the same from a codeAny of the CALL (for a layer whose function contracts speak of calls) -/
theorem attach_call {l : OpenLaw} {n : Nat} {q : Program} {loose : List Str} {XP : (Str → Option Value) → Heap → Prop} {YP : World → Heap → Prop} {d : DefRec}
    (hn : l.most = some n) (hdf : d.params.defaults = [])
    (call : ∀ (w : World) (s₀ s₁ : Shared) (mg mb : Str → Option Value) (fa : Addr) (o : Obj) (pm cd doc : Value) (a : Addr) (vs : List Value) (ns : List Int),
      Ground q loose [] XP w s₀ mg mb s₁.heap → YP w s₁.heap →
      s₁.heap.get? fa = some o → o.data = .func (docDef d.name d.params d.body d.scope pm cd doc) → s₁.heap.CodeRec cd d.name → mg d.name = some (.ref fa) →
      s₁.heap.get? a = some { cls := .type "list", data := .seq vs.toArray } → IntsAre vs ns → ns.length ≤ n → s₁.gens = #[] →
      codeAny (model l.prog w) callerA (.call (.ref fa) ⟨[.ref a], []⟩) (fun r s' => r = .ok (.ret (.bool true)) ∧ OldK s₁.heap s'.heap ∧ s'.os = s₁.os ∧ AllBare s'.gens) s₁) :
    WalkO q loose XP YP l.row.toRowW d [] (fun f vs => PySem.call f vs) := by
  intro w s₀ s₁ mg mb G Y fa o pm cd doc dV kV ho hd hcd hD hmg hg args vals as hpre hlay hrd hwl hlo
  obtain rfl : dV = .none := Dflts.none hD hdf
  obtain rfl : kV = .none := Dflts.noKw hD
  obtain ⟨a, vs, ns, rfl, rfl, hobj, hints, hlen⟩ := script_of hn hpre hwl
  refine enter_call (codeAny_mono (call w s₀ s₁ mg mb fa o pm cd doc a vs ns G Y ho (fd_plain hd) hcd hmg hobj hints hlen hg) fun r s' hq => ?_)
  obtain ⟨rfl, h2, h3, h4⟩ := hq
  exact ⟨.inl ⟨.bool true, .bool true, [], rfl, fun _ => rfl, .bool true, post_true l _, fun _ => ⟨List.Pairwise.nil, fun _ hm => (nomatch hm)⟩⟩, h2, h3, h4⟩

/-- the same where the top left finished generators (o_head chose holds_openN): nothing may have changed at all and no generator may be left -/
theorem attachN {l : OpenLaw} {n : Nat} {q : Program} {loose : List Str} {XP : (Str → Option Value) → Heap → Prop} {YP : World → Heap → Prop} {d : DefRec} {x : Str}
    (hn : l.most = some n) (hdf : d.params.defaults = [])
    (hbind : ∀ pm cd doc v : Value, bindArgs (docDef d.name d.params d.body d.scope pm cd doc) ⟨[v], []⟩ = pure [(x, v)])
    (hx : d.scope.names.lookup x = some .local ∨ d.scope.names.lookup x = some .cell)
    (hk : d.scope.kind = .function) (hco : d.scope.isCoroutine = false) (hgen : d.scope.isGenerator = false)
    (body : ∀ (w : World) (s₀ s₁ s : Shared) (mg mb : Str → Option Value) (fa : Addr) (o : Obj) (pm cd doc : Value) (a : Addr) (vs : List Value) (ns : List Int),
      Ground q loose [] XP w s₀ mg mb s₁.heap → YP w s₁.heap →
      s₁.heap.get? fa = some o → o.data = .func (docDef d.name d.params d.body d.scope pm cd doc) → s₁.heap.CodeRec cd d.name → mg d.name = some (.ref fa) →
      s₁.heap.get? a = some { cls := .type "list", data := .seq vs.toArray } → IntsAre vs ns → ns.length ≤ n →
      s.gens = #[] → s.os = s₁.os →
      Fr s₁.heap s₁.heap.objs.size s.heap (bindL (envOfC d.name d.scope s₁.heap.objs.size fa cd).kindOf [(x, .ref a)] fun _ => none) →
      Cl s₁.heap.objs.size (cellsFrom (s₁.heap.objs.size + 1) d.scope.names []) s.heap (bindC (envOfC d.name d.scope s₁.heap.objs.size fa cd).kindOf [(x, .ref a)] fun _ => none) →
      wpAny (model l.prog w) (callerA.deeper (envOfC d.name d.scope s₁.heap.objs.size fa cd)) (execs d.body (envOfC d.name d.scope s₁.heap.objs.size fa cd))
        (fun f s' => f = .ret (.bool true) ∧ (∀ b o, s₁.heap.get? b = some o → s'.heap.get? b = some o) ∧ s'.os = s₁.os ∧ s'.gens = #[]) (fun _ _ => False) s) :
    WalkN q loose XP YP l.row.toRowW d [] (fun f vs => PySem.call f vs) := by
  intro w s₀ s₁ mg mb G Y fa o pm cd doc dV kV ho hd hcd hD hmg hg args vals as hpre hlay hrd hwl hlo
  obtain rfl : dV = .none := Dflts.none hD hdf
  obtain rfl : kV = .none := Dflts.noKw hD
  obtain ⟨a, vs, ns, rfl, rfl, hobj, hints, hlen⟩ := script_of hn hpre hwl
  refine enter_callW ?_
  refine call_cells_ret (o := o) (by rw [depth_caller]; decide) ho (fd_plain hd) G.T.nolimit hcd (hbind pm cd doc (.ref a)) (fun y hy => ?_) (fun h₁ tk F X => ?_) hco hgen hk
  · obtain rfl : y = (x, Value.ref a) := List.mem_singleton.mp hy
    rcases hx with e | e
    · exact .inl e
    · exact .inr ⟨e, cellsFrom_some _ _ _ (.inl e)⟩
  · refine wpAny_mono (body w s₀ s₁ { s₁ with heap := h₁, toks := tk } mg mb fa o pm cd doc a vs ns G Y ho (fd_plain hd) hcd hmg hobj hints hlen hg rfl F X) (fun f s' hq => ?_) (fun _ _ hq => hq)
    obtain ⟨rfl, h2, h3, h4⟩ := hq
    exact ⟨.inl ⟨.bool true, .bool true, [], rfl, fun _ => rfl, .bool true, post_true l _, fun _ => ⟨List.Pairwise.nil, fun _ hm => (nomatch hm)⟩⟩, h2, h3, h4⟩

/-! ### rules over ANY heap (no ledger) from facts about the written part K: the library's own take a ledger (News) for what they write -/
section
variable {prog : Program} {w : World} {A : Around} {E : Value → Shared → Prop} {s : Shared} {K : Frag}

/-- a def of the module, or a method (qual 'C.m'), entered: the frame is the next address; cells behind it -/
theorem call_fn {R : Result → Shared → Prop} {name qual : Str} {params : Arguments} {body : List Stmt} {scope : Scope} {dV kV doc pm cdv ct oc : Value} {an od : Option Addr} {osl : Array (Option Value)} {f : Addr} {args : Args} {binds : List (Str × Value)}
    (X : K.In s.heap) (hlim : s.heap.NoLimit) (ho : K.lookup f = some ⟨oc, od, .func (fnOf name qual params body scope dV kV doc pm an cdv ct), osl⟩) (hcd : codeIn K cdv qual = true) (hroom : A.depth < recursionLimit)
    (hbind : BindsTo s (fnOf name qual params body scope dV kV doc pm an cdv ct) args binds)
    (hkind : (binds.all fun y => scope.names.lookup y.1 == some .local || scope.names.lookup y.1 == some .cell) = true)
    (h : ∀ s₁, InCallC s s.heap.objs.size (bindL (envOfC qual scope s.heap.objs.size f cdv).kindOf binds fun _ => none) (cellsFrom (s.heap.objs.size + 1) scope.names [])
        (bindC (envOfC qual scope s.heap.objs.size f cdv).kindOf binds fun _ => none) s₁ →
      wpAny (model prog w) (A.deeper (envOfC qual scope s.heap.objs.size f cdv)) (execs body (envOfC qual scope s.heap.objs.size f cdv))
        (fun fl s' => R (.ok (.ret (match fl with | .ret v => v | _ => .none))) s')
        (fun e s' => wpAny (model prog w) (A.deeper (envOfC qual scope s.heap.objs.size f cdv)) (leaving (envOfC qual scope s.heap.objs.size f cdv) e) (fun _ s'' => R (.error e) s'') (fun e' s'' => R (.error e') s'') s') s₁)
    (hco : scope.isCoroutine = false) (hgen : scope.isGenerator = false) (hk : scope.kind = .function) : codeAny (model prog w) A (.call (.ref f) args) R s := by
  refine codeAny_call_function hroom (X _ _ ho) rfl hco hgen rfl (codeRec_of X hcd) (hbind _ _ _ _ ?_)
  refine wpAny_newFunctionEnv_cells hk (kindsX hkind _) fun env he s₁ x => ?_
  subst he
  exact ⟨hlim.keeps x.toInCall.keep, codeAny_func (h s₁ x)⟩

/-- C(..): dict at size, instance at size + 1, then __init__ -/
theorem make_obj {R : Result → Shared → Prop} {C fI : Addr} {rest : List Value} {kw : List (Str × Value)}
    (X : K.In s.heap) (hm : makesIn K C = true) (hi : findIn K (.ref C) "__init__" = some (some (.ref fI))) (hf : isFn K (.ref fI) = true)
    (h : codeAny (model prog w) (A.under (.builtin "type.__call__" ⟨.ref C :: rest, kw⟩)) (.call (.ref fI) ⟨.ref (s.heap.objs.size + 1) :: rest, kw⟩) (InitBack (s.heap.objs.size + 1) R)
      { s with heap := (s.heap.push emptyDict).push (instObj C s.heap.objs.size) }) : codeAny (model prog w) A (.call (.ref C) ⟨rest, kw⟩) R s := by
  obtain ⟨hh, g, d, t, os⟩ := s
  exact make_core (makes_of X hm) (looks_findIn X hi) (fun self => bind_fn X self (beq_iff_eq.mp hf)) (.inl rfl) h

/-- x.name where the instance's dict holds the name and the class does not -/
theorem get_field {x C : Addr} {ox : Obj} {es : List DictEntry} {n : Nat} {name : Str} {expr : Bool} {v : Value} {Q : Value → Shared → Prop}
    (X : K.In s.heap) (I : PySem.W.InstAt s.heap x ox C (some (dictOf es n))) (hg : plainGet K C name = true) (hh : hasDictIn K C = true) (ha : findIn K (.ref C) name = some none)
    (hl : getL name es = some (some v)) (hv : handedIn v = true) (h : Q v { s with toks := s.toks + 1 }) : wpAny (model prog w) A (getAttr (.ref x) name expr) Q E s :=
  get_value X I (plainGet_of hg).1 (findObj_own hh ha rfl hl) hv h

/-- x.m(..): the method found in the class -/
theorem get_method {x C f : Addr} {ox : Obj} {es : List DictEntry} {n : Nat} {name : Str} {pl : Sem Bool} {Q : Value × List Value → Shared → Prop}
    (X : K.In s.heap) (I : PySem.W.InstAt s.heap x ox C (some (dictOf es n))) (hg : plainGet K C name = true) (hf : findIn K (.ref C) name = some (some (.ref f))) (ht : isFn K (.ref f) = true)
    (hl : getL name es = some none) (h : Q (.ref f, [.ref x]) s) : wpAny (model prog w) A (getMethod (.ref x) name pl) Q E s :=
  method_fn X I (plainGet_of hg).1 (plainGet_of hg).2 hf (beq_iff_eq.mp ht) (by show (lookIn name (dictOf es n)).map _ = _; rw [lookIn_dict, hl]; rfl) h

/-! the whole heap as the ledger: makes every rule that writes through a ledger a rule over any heap -/
def noObjs (h : Heap) : Heap := { h with objs := #[] }
theorem noObjs_get (h : Heap) (b : Addr) : (noObjs h).get? b = none := by
  cases e : (noObjs h).get? b with
  | none => rfl
  | some o => exact absurd (Heap.lt_size e) (Nat.not_lt_zero _)
def ledger (h : Heap) (L d : Addr) : List (Addr × Obj) := (List.range h.objs.size).filterMap fun a => if a = L ∨ a = d then none else (h.get? a).map fun o => (a, o)
theorem mem_ledger {h : Heap} {L d a : Addr} {o : Obj} : (a, o) ∈ ledger h L d ↔ a ≠ L ∧ a ≠ d ∧ h.get? a = some o := by
  unfold ledger
  rw [List.mem_filterMap]
  constructor
  · rintro ⟨b, _, e⟩
    split at e
    · cases e
    · rename_i hb
      obtain ⟨o', ho, e'⟩ := Option.map_eq_some_iff.mp e
      cases e'
      exact ⟨fun q => hb (.inl q), fun q => hb (.inr q), ho⟩
  · rintro ⟨n1, n2, ho⟩
    refine ⟨a, List.mem_range.mpr (Heap.lt_size ho), ?_⟩
    rw [if_neg (show ¬ (a = L ∨ a = d) from fun q => q.elim n1 n2), ho] <;> rfl
theorem news_ledger {h : Heap} {L d : Addr} {od : Obj} (hne : d ≠ L) (ho : h.get? d = some od) : News (noObjs h) L h ([] ++ (d, od) :: ledger h L d) := by
  rintro ⟨a, o⟩ hp
  rcases List.mem_cons.mp hp with e | hp
  · cases e
    exact ⟨ho, hne, noObjs_get _ _⟩
  · obtain ⟨n1, n2, e⟩ := mem_ledger.mp hp
    exact ⟨e, n1, noObjs_get _ _⟩
theorem fr_all {h : Heap} {L : Addr} {m : Str → Option Value} (n : h.Ns L m) : Fr (noObjs h) L h m :=
  ⟨n, fun b o e => (by rw [noObjs_get] at e; cases e), Nat.zero_le _⟩
/-- Upd of the head entry (for append_K, setItem_K ..) -/
theorem upd_ledger {h : Heap} {L d : Addr} {o o' : Obj} : Upd d o o' ((d, o) :: ledger h L d) ((d, o') :: ledger h L d) :=
  .head fun ⟨_, _⟩ hp => (mem_ledger.mp hp).2.1

/-- x.name = v over any heap: L is any namespace of the heap (the frame's, say): its map stays, its object is not told; all else but the dict stays -/
theorem set_field {x C dx L : Addr} {ox : Obj} {m : Str → Option Value} {es es' : List DictEntry} {n n' : Nat} {name : Str} {v : Value} {Q : Unit → Shared → Prop}
    (X : K.In s.heap) (I : PySem.W.InstAt s.heap x ox C (some (dictOf es n))) (hd : ox.dict = some dx) (hL : s.heap.Ns L m) (hne : dx ≠ L)
    (hs : findIn K (.ref C) "__setattr__" = some (some (.builtin "object.__setattr__"))) (hp : plainOver K C = true) (ht : takerIn K C name = some none) (hh : hasDictIn K C = true) (hl : (getL name es).isSome = true)
    (e : (putL name (PyData.keyHash w.params name) (.str name (s.toks + 1)) v es, putN name es n) = (es', n')) (hz : es'.length ≤ 1000)
    (h : ∀ h' : Heap, h'.Ns L m → h'.get? dx = some (dictOf es' n') → (∀ b o, b ≠ dx → b ≠ L → s.heap.get? b = some o → h'.get? b = some o) → Q () { s with heap := h', toks := s.toks + 2 }) :
    wpAny (model prog w) A (setAttr (.ref x) name v) Q E s := by
  obtain ⟨e1, e2⟩ := Prod.mk.inj e
  have hdx : s.heap.get? dx = some (dictOf es n) := by
    have := I.dict
    rw [hd] at this
    exact this
  refine set_plain X I hs (osa_dict (s := { s with toks := s.toks + 1 }) (h₀ := noObjs s.heap) (L := L) (m := m) (od := dictOf es n) (od' := dictOf es' n') (es := es') (n := n') (pre := []) (post := ledger s.heap L dx)
    (fr_all hL) (news_ledger hne hdx) X I hd hp ht hh hl (fun _ q => nomatch q) (fun ⟨_, _⟩ q => (mem_ledger.mp q).2.1) (by rw [putName_dict, e1, e2]) rfl hz fun h' F' N' => ?_)
  exact h h' F'.ns (N'.get (List.Mem.head _)) fun b o n1 n2 ho => N'.get (List.Mem.tail _ (mem_ledger.mpr ⟨n2, n1, ho⟩))
end
end Att

namespace L2
open PySem PySem.Spec PyProof.Rows

theorem vals_ints : ∀ {vs : List Value} {ns : List Int}, IntsAre vs ns → Vals (ns.map V.int) vs
  | _, _, .nil => .nil
  | _, _, .cons n t h => .cons ⟨t, rfl⟩ (vals_ints h)

/-- nothing is tracked but the script, known to the object (or it is an object of the module) -/
def Only (H : Hp) : Prop := ∀ b, H b = none ∨ ∃ o xs, H b = some (.frz o (.lst xs))

/-- THE HEAD: the law's promise, at the heap behind the top. F, the promise of the law's def, may use that base is part of the heap (so K.In base, base.Ns mainGlobals mg stand in Mod) -/
theorem law_call {P : Program} {w : World} {K : PySem.W.Frag} {mg mb : Str → Option Value} {CX : CXT} {k : Nat} {fa a : Addr} {fd : FuncData} {x : Str} {sp : Sp} {s₁ : Shared} {vs : List Value} {ns : List Int}
    (KX : K.In s₁.heap) (hns : s₁.heap.Ns mainGlobals mg) (hb : s₁.heap.Ns builtinsNs mb) (hbb : ∀ x : Str, x ≠ "__name__" → mb x = bootBuiltins x) (hlim : s₁.heap.NoLimit) (hg : s₁.gens = #[])
    (ha : s₁.heap.get? a = some { cls := .type "list", data := .seq vs.toArray }) (hi : IntsAre vs ns) (hl : ns.length ≤ sizeLine) (hr : Room k callerA)
    (F : ∀ base : Heap, K.In base → base.Ns mainGlobals mg → FnOk P w K mg base CX k fa fd [x] sp) (hbind : ∀ (s : Shared) (u : Value), BindsTo s fd ⟨[u], []⟩ [(x, u)])
    (hsp : ∀ H : Hp, Only H → SqL K H a (ns.map V.int) → sp [.ref a] H (fun v _ => v = .bl true) fun _ _ _ => False)
    (hCX : ∀ H e s', CX [] H s₁ (fun _ _ _ => False) e s' → False) :
    codeAny (model P w) callerA (.call (.ref fa) ⟨[.ref a], []⟩) (fun r s' => r = .ok (.ret (.bool true)) ∧ OldK s₁.heap s'.heap ∧ s'.os = s₁.os ∧ AllBare s'.gens) s₁ := by
  have rv := vals_ints hi
  have lenV := hi.length
  -- from an abstract heap in which nothing but the script may be tracked
  have core : ∀ H : Hp, Only H → SqL K H a (ns.map V.int) → HOk P w H s₁.heap → (∀ b, H b ≠ none → b = a) → (H a ≠ none → K.lookup a = none) →
      codeAny (model P w) callerA (.call (.ref fa) ⟨[.ref a], []⟩) (fun r s' => r = .ok (.ret (.bool true)) ∧ OldK s₁.heap s'.heap ∧ s'.os = s₁.os ∧ AllBare s'.gens) s₁ := by
    intro H hO hS hok hA hK
    have base_of : ∀ {b : Addr} {o : Obj}, s₁.heap.get? b = some o → H b = none → (hidT s₁.heap H).get? b = some o := fun e n => hidT_get e n
    have noA : ∀ {b : Addr} {o : Obj} {es : Array DictEntry} {ep : Nat}, s₁.heap.get? b = some o → o.data = .dict es ep → H b = none := fun {b o es ep} e d => by
      cases q : H b with
      | none => rfl
      | some u =>
        have e' : b = a := hA b (by rw [q]; simp)
        subst e'
        rw [ha] at e; cases e
        have d' : Data.seq vs.toArray _ = Data.dict es ep := d
        cases d'
    have nsK : ∀ {b : Addr} {m : Str → Option Value}, s₁.heap.Ns b m → (hidT s₁.heap H).Ns b m := fun {b m} ⟨o, es, ep, e, d, r⟩ => ⟨o, es, ep, base_of e (noA e d), d, r⟩
    have hKb : K.In (hidT s₁.heap H) := fun b o e => base_of (KX b o e) (by
      cases q : H b with
      | none => rfl
      | some u =>
        have e' : b = a := hA b (by rw [q]; simp)
        subst e'
        rw [hK (by rw [q]; simp)] at e; cases e)
    have hM : Mod K mg (hidT s₁.heap H) := ⟨hKb, nsK hns, ⟨mb, nsK hb, hbb⟩, let ⟨mc, h1, h2⟩ := hlim; ⟨mc, nsK h1, h2⟩⟩
    have e0 : Env0 P w K mg (hidT s₁.heap H) callerA [] s₁ H := ⟨rfl, hM, fun b o e => of_hidT e, Nat.le_of_eq (hidT_size _ _), trivial, fun b hb => absurd (show b ∈ ([] : List Addr) from hb) (by simp), hok, .of_eq hg⟩
    refine codeAny_mono ((F _ hKb (nsK hns)).run callerA [] s₁ H ⟨[.ref a], []⟩ [.ref a] [.ref a] _ _ hr e0 (hbind s₁ (.ref a)) (.cons rfl .nil) (hsp H hO hS)) fun r s' h => ?_
    cases r with
    | error e => exact (hCX H e s' h).elim
    | ok fl =>
      cases fl with
      | next => exact False.elim h
      | brk => exact False.elim h
      | cont => exact False.elim h
      | ret u =>
        obtain ⟨v, H', os, bare, un, hok', r', q⟩ := h
        have q' : v = .bl true := q
        subst q'
        obtain rfl : u = Value.bool true := r'
        refine ⟨rfl, OldK.of_keep fun b o e => ?_, os, bare⟩
        cases q : H b with
        | none => exact un.keep b o e q (by intro z; exact absurd (show b ∈ ([] : List Addr) from z) (by simp)) (by simp)
        | some u =>
          rcases hO b with z | ⟨ob, xs, z⟩
          · rw [q] at z; cases z
          · have z2 := un.frzs b ob _ z
            obtain ⟨e1, _⟩ := hok b _ z
            obtain ⟨e2, _⟩ := hok' b _ z2
            rw [e] at e1; cases e1
            exact e2
  cases hk : K.lookup a with
  | some o =>
    -- the script is one of the module's own objects
    have e := KX a o hk
    rw [ha] at e
    cases e
    refine core (fun _ => none) (fun _ => .inl rfl) (.inr ⟨_, vs.toArray, _, hk, rfl, rfl, rfl, by rw [List.size_toArray, lenV]; exact hl, by simpa using rv⟩) (fun b u z => by have z' : (none : Option HO) = some u := z; cases z') (fun b z => absurd rfl z) fun z => absurd rfl z
  | none =>
    refine core (fun b => if b = a then some (.frz { cls := .type "list", data := .seq vs.toArray } (.lst (ns.map V.int))) else none) (fun b => ?_) (.inl (.inr ⟨{ cls := .type "list", data := .seq vs.toArray }, if_pos rfl⟩)) (fun b u z => ?_) (fun b z => ?_) fun _ => hk
    · by_cases hb : b = a
      · exact .inr ⟨_, _, if_pos hb⟩
      · exact .inl (if_neg hb)
    · by_cases hb : b = a
      · have z' := (if_pos hb).symm.trans z
        cases z'
        subst hb
        exact ⟨ha, by rw [List.length_map]; exact hl, vs, _, rv, ha⟩
      · have z' := (if_neg hb).symm.trans z
        cases z'
    · by_cases hb : b = a
      · exact hb
      · exact absurd (if_neg hb) z
end L2

namespace L2
open PySem PySem.Spec PyProof.Rows

abbrev KOf {K : PySem.W.Frag} {h : Heap} (_ : K.In h) : PySem.W.Frag := K

/-- the goal that k_head leaves (case hc), from the law's promise. F gives the function object fd (K's own) once, then the promise over every base -/
theorem walk_of {l : PySem.W.OpenLaw} {n k : Nat} {q : Program} {loose : List Str} {XP : (Str → Option Value) → Heap → Prop} {YP : World → Heap → Prop} {d : DefRec} {K : Params → PySem.W.Frag} {CX : World → CXT} {sp : World → Sp} {x : Str}
    (hn : l.most = some n) (hn2 : n ≤ sizeLine) (hdf : d.params.defaults = []) (hr : Room k callerA)
    (hY : ∀ (w : World) (h : Heap), YP w h → (K w.params).In h)
    (F : ∀ (w : World) (mg : Str → Option Value) (fa : Addr) (h : Heap), (K w.params).In h → h.Ns mainGlobals mg → mg d.name = some (.ref fa) →
      ∃ fd : FuncData, (∀ (s : Shared) (u : Value), BindsTo s fd ⟨[u], []⟩ [(x, u)]) ∧
        ∀ base : Heap, (K w.params).In base → base.Ns mainGlobals mg → FnOk l.prog w (K w.params) mg base (CX w) k fa fd [x] (sp w))
    (hsp : ∀ (w : World) (H : Hp) (a : Addr) (ns : List Int), ns.length ≤ n → Only H → SqL (K w.params) H a (ns.map V.int) → sp w [.ref a] H (fun v _ => v = .bl true) fun _ _ _ => False)
    (hCX : ∀ (w : World) (H : Hp) (s : Shared) (e : Value) (s' : Shared), CX w [] H s (fun _ _ _ => False) e s' → False) :
    PySem.W.WalkO q loose XP YP l.row.toRowW d [] (fun f vs => PySem.call f vs) := by
  refine Att.attach_call hn hdf fun w s₀ s₁ mg mb fa o pm cd doc a vs ns G Y ho hd hcd hmg hobj hints hlen hg => ?_
  have KX := hY w _ Y
  obtain ⟨fd, hb, hF⟩ := F w mg fa _ KX G.T.g hmg
  exact law_call KX G.T.g G.T.b G.T.builtins G.T.nolimit hg hobj hints (Nat.le_trans hlen hn2) hr hF hb (fun H hO hS => hsp w H a ns hlen hO hS) fun H e s' => hCX w H s₁ e s'
/-- the same where the promise hangs on the written part alone: (sp := My.sp_law), no hole under a binder -/
theorem walk_ofK {l : PySem.W.OpenLaw} {n k : Nat} {q : Program} {loose : List Str} {XP : (Str → Option Value) → Heap → Prop} {YP : World → Heap → Prop} {d : DefRec} {K : Params → PySem.W.Frag} {CX : CXT} {sp : PySem.W.Frag → Sp} {x : Str}
    (hn : l.most = some n) (hn2 : n ≤ sizeLine) (hdf : d.params.defaults = []) (hr : Room k callerA)
    (hY : ∀ (w : World) (h : Heap), YP w h → (K w.params).In h)
    (F : ∀ (w : World) (mg : Str → Option Value) (fa : Addr) (h : Heap), (K w.params).In h → h.Ns mainGlobals mg → mg d.name = some (.ref fa) →
      ∃ fd : FuncData, (∀ (s : Shared) (u : Value), BindsTo s fd ⟨[u], []⟩ [(x, u)]) ∧
        ∀ base : Heap, (K w.params).In base → base.Ns mainGlobals mg → FnOk l.prog w (K w.params) mg base CX k fa fd [x] (sp (K w.params)))
    (hsp : ∀ (K : PySem.W.Frag) (H : Hp) (a : Addr) (ns : List Int), ns.length ≤ n → Only H → SqL K H a (ns.map V.int) → sp K [.ref a] H (fun v _ => v = .bl true) fun _ _ _ => False)
    (hCX : ∀ (H : Hp) (s : Shared) (e : Value) (s' : Shared), CX [] H s (fun _ _ _ => False) e s' → False) :
    PySem.W.WalkO q loose XP YP l.row.toRowW d [] (fun f vs => PySem.call f vs) :=
  walk_of (K := K) (CX := fun _ => CX) (sp := fun w => sp (K w.params)) hn hn2 hdf hr hY F (fun w H a ns h1 h2 h3 => hsp (K w.params) H a ns h1 h2 h3) fun _ H s e s' => hCX H s e s'
end L2

/- THE LAST THEOREM (shape; LID, My.* are yours):
   My.Adr: a structure of the addresses that your layer names (classes, functions); My.Txt K t: a structure (Prop) of the equations over K;
   My.txt_mk : {K} {implicit addresses ..} (e1 : nsIn K mainGlobals "law" = some (some (.ref f))) (e2 : K.lookup f = some ⟨oc, od, .func (fnOf "law" "law" params body scope dV kV doc pm an cdv ct), sl⟩) (e3 : codeIn K cdv "law" = true) .. : ∃ t, My.Txt K t

set_option maxRecDepth 100000 in
set_option maxHeartbeats 0 in
theorem PySem.Challenge.cw_LID_holds : PySem.Challenge.rw_LID.Holds := by
  w_on; o_law; k_head; (case hw => w_witness2)
  k_fill
  refine L2.walk_of (l := PySem.Challenge.rw_LID) (n := 63) (k := 40) (x := "script") (CX := fun w => ..) (sp := fun _ => My.sp_law) rfl (by decide) rfl ⟨rfl, by decide, by decide⟩ (fun w h Y => PySem.W.kIn_of Y) ?F ?S ?C
  case F =>
    intro w mg fa h KX G hmg
    have T : ∃ t, My.Txt (L2.KOf KX) t := by
      dsimp only [L2.KOf]                          -- K must stand as «<heap const> w.params» for k_is
      refine' My.txt_mk ?e1 ?e2 ?e3 ..
      (case e1 => PySem.W.k_is)                    -- in the order: a name -> its address -> its object -> its parts
      (case e2 => PySem.W.k_is)
      ..
    obtain ⟨t, T⟩ := T
    have e0 := hmg.symm.trans (PySem.W.mg_of KX G T.law)
    cases e0                                       -- fa is the law's own address
    exact ⟨_, fun s u => .of_eq rfl, fun base kb nb => My.law_fn T kb nb⟩     -- if «.of_eq rfl» comes too early: refine' ⟨_, ?b, fun base kb nb => My.law_fn T kb nb⟩; exact fun s u => .of_eq rfl
  case S => exact fun w H a ns hl hO hS => ..
  case C => exact ..
(the tactic k_is has no namespace: write k_is) -/

/-! SHORT WORDS over the layer: a def of the text, its body, what a loop and a test want. -/
namespace L2
open PySem PySem.Spec PyProof.Rows

/-! ### the text by places -/
/-- the j-th statement of a class's body -/
def inClass (s : Stmt) (j : Nat) : Stmt := match s with
  | .ClassDef _ _ _ body _ _ _ _ _ _ _ => body.getD j (.Pass ⟨0, 0, 0, 0⟩)
  | _ => .Pass ⟨0, 0, 0, 0⟩
def defArgs (s : Stmt) : Arguments := match s with
  | .FunctionDef _ a _ _ _ _ _ _ _ _ => a
  | _ => { posonlyargs := [], args := [], vararg := none, kwonlyargs := [], kw_defaults := [], kwarg := none, defaults := [] }
def defBody (s : Stmt) : List Stmt := match s with
  | .FunctionDef _ _ b _ _ _ _ _ _ _ => b
  | _ => []
def defScope (s : Stmt) : Scope := match s with
  | .FunctionDef _ _ _ _ _ _ sc _ _ _ => sc
  | _ => { kind := .function, names := [], isGenerator := false, isCoroutine := false }

/-! ### no exception leaves a def -/
abbrev CX0 : CXT := fun _ _ _ _ _ _ => False
abbrev E0 : XK := fun _ _ _ => False
theorem pass0 {X : Cx} : Passes CX0 X E0 := fun _ _ _ _ _ _ _ h => h.elim

/-! ### a def (or method) of the text as it stands behind the top -/
structure Fun (K : PySem.W.Frag) (x qual : Str) (st : Stmt) (f : Addr) (fd : FuncData) : Prop where
  ex : ∃ (oc : Value) (od : Option Addr) (kV doc pm : Value) (an : Option Addr) (cdv ct : Value) (osl : Array (Option Value)),
    fd = PySem.W.fnOf x qual (defArgs st) (defBody st) (defScope st) .none kV doc pm an cdv ct ∧ K.lookup f = some ⟨oc, od, .func fd, osl⟩ ∧ PySem.W.codeIn K cdv qual = true
  kp : PySem.W.keepIn K (.ref f) = true
section
variable {P : Program} {w : World} {K : PySem.W.Frag} {mg : Str → Option Value} {base : Heap}
/-- THE RULE for a def: its body as a term of rules, and the reading of that term -/
theorem Fun.ok {x qual : Str} {st : Stmt} {f : Addr} {fd : FuncData} {N ps : List Str} {k : Nat} {sp : Sp} (F : Fun K x qual st f fd) (S : FnScope N ps (defScope st)) (len : ∀ vs H Q E, sp vs H Q E → vs.length = ps.length)
    (hbody : ∀ (cdv : Value) (A : Around) (outer : List Env) (s : Shared) (H : Hp) (vs : List V) (Q : VK) (E : XK), Room k (A.deeper (envOfC qual (defScope st) s.heap.objs.size f cdv)) → sp vs H Q E →
      ∃ t, PSs (cxOf CX0 P w K mg base N qual (defScope st) f cdv A outer s H E).nox (defBody st) t ∧ t { nx := fun _ H' => Q .non H', rt := Q } (start N vs) H) : FnOk P w K mg base CX0 (k + 1) f fd ps sp := by
  obtain ⟨oc, od, kV, doc, pm, an, cdv, ct, osl, rfl, lk, hcd⟩ := F.ex
  refine fn_of lk hcd S len fun A outer s H vs Q E hr hsp => ?_
  obtain ⟨t, h, q⟩ := hbody cdv A outer s H vs Q E hr hsp
  exact ⟨t, h.nox, q⟩
/-- how its arguments bind (no defaults): h is «fun _ _ _ _ _ _ us hl => match us, hl with | [_, _], _ => rfl», one _ a parameter -/
theorem Fun.binds {x qual : Str} {st : Stmt} {f : Addr} {fd : FuncData} {ps : List Str} (F : Fun K x qual st f fd)
    (h : ∀ (kV doc pm : Value) (an : Option Addr) (cdv ct : Value) (us : List Value), us.length = ps.length → bindArgs (PySem.W.fnOf x qual (defArgs st) (defBody st) (defScope st) .none kV doc pm an cdv ct) ⟨us, []⟩ = pure (ps.zip us)) : Binds K fd ps [] := by
  obtain ⟨oc, od, kV, doc, pm, an, cdv, ct, osl, rfl, lk, hcd⟩ := F.ex
  exact .all (h kV doc pm an cdv ct)
theorem fun_mk {x qual : Str} {st : Stmt} {f : Addr} {oc : Value} {od an : Option Addr} {osl : Array (Option Value)} {kV doc pm cdv ct : Value} (l : K.lookup f = some ⟨oc, od, .func (PySem.W.fnOf x qual (defArgs st) (defBody st) (defScope st) .none kV doc pm an cdv ct), osl⟩)
    (c : PySem.W.codeIn K cdv qual = true) (k : PySem.W.keepIn K (.ref f) = true) : Fun K x qual st f (PySem.W.fnOf x qual (defArgs st) (defBody st) (defScope st) .none kV doc pm an cdv ct) := ⟨⟨oc, od, kV, doc, pm, an, cdv, ct, osl, rfl, l, c⟩, k⟩
end
theorem hu_of {A : Around} {k : Nat} (hr : Room k A) : A.units + 1 < cLine := Nat.lt_of_le_of_lt (Nat.add_le_add_left (by decide : 1 ≤ 64) _) hr.units
theorem small1000 {n : Nat} (h : n ≤ 1000) : n < sizeLine := Nat.lt_of_le_of_lt h (by decide)

/-! ### expressions in short: the name that stands in the i-th slot -/
section
variable {X : Cx}
theorem pv (i : Nat) {x : Str} {pos : Pos} (hN : X.N[i]? = some x := by rfl) (hv : Vis X.env.scope x := by first | exact Or.inl rfl | exact Or.inr (Or.inl rfl) | exact Or.inr (Or.inr rfl)) (hd : (x == ("__debug__" : Str)) = false := by decide)
    (hcd : (x == ("__classdict__" : Str)) = false := by decide) : PE X (.Name x pos) (tVar i) := pe_var hN hv hd hcd
/-- len of a dict -/
theorem call_lenD : CallR X (.builtin "len") (fun xs H Q => ∃ a kvs, xs = [V.ref a] ∧ H a = some (.dK kvs) ∧ Q (.int kvs.length) H) := by
  intro pins s σ H xs us Q I r h
  obtain ⟨a, kvs, rfl, ha, q⟩ := h
  obtain ⟨u, rfl, ru⟩ := vals1 r
  cases ru
  exact d_len I (.inl ha) fun t s' I' => ⟨.int kvs.length, H, I', ⟨t, rfl⟩, q⟩
end

/-! ### tests -/
theorem iteF {A B : Prop} (h : B) : if false = true then A else B := by
  rw [if_neg Bool.false_ne_true]
  exact h
theorem iteT {A B : Prop} (h : A) : if true = true then A else B := by
  rw [if_pos rfl]
  exact h
theorem ite2 {c A B : Prop} [Decidable c] (h1 : c → A) (h2 : ¬ c → B) : if c then A else B := by
  by_cases h : c
  · rw [if_pos h]
    exact h1 h
  · rw [if_neg h]
    exact h2 h
theorem iteNS {c A B : Prop} [Decidable c] (hc : c) (h : B) : if (!decide c) = true then A else B := by
  rw [decide_eq_true hc]
  exact iteF h

/-! ### heaps -/
/-- all that was tracked is as it was -/
def Same (H H' : Hp) : Prop := ∀ b o, H b = some o → H' b = some o
theorem Same.refl (H : Hp) : Same H H := fun _ _ h => h
theorem Same.trans {H H1 H2 : Hp} (a : Same H H1) (b : Same H1 H2) : Same H H2 := fun c o h => b c o (a c o h)
theorem Same.free {H H' : Hp} (e : Same H H') {l : Addr} (h : H' l = Option.none) : H l = Option.none := by
  cases q : H l with
  | none => rfl
  | some o =>
    rw [e l o q] at h
    cases h
theorem Same.seq {K : PySem.W.Frag} {H H' : Hp} {a : Addr} {xs : List V} (e : Same H H') (h : SqL K H a xs) : SqL K H' a xs := by
  rcases h with (h | ⟨o, h⟩) | h
  · exact .inl (.inl (e _ _ h))
  · exact .inl (.inr ⟨o, e _ _ h⟩)
  · exact .inr h

/-! ### a dict's pairs: keys that differ -/
section
variable {κ : Type} [DecidableEq κ]
theorem valV_not {kvs : List (κ × V)} {k : κ} (h : valV kvs k = none) : ¬ k ∈ kvs.map (·.1) := by
  intro m
  obtain ⟨p, hp, e⟩ := List.mem_map.mp m
  have q : (kvs.any fun kv => decide (kv.1 = k)) = true := List.any_eq_true.mpr ⟨p, hp, decide_eq_true e⟩
  rw [valV_any, h] at q
  exact absurd q (by simp)
theorem valV_in {kvs : List (κ × V)} {k : κ} {v : V} (h : valV kvs k = some v) : k ∈ kvs.map (·.1) := by
  have q : (kvs.any fun kv => decide (kv.1 = k)) = true := by
    rw [valV_any, h]
    all_goals rfl
  obtain ⟨p, hp, e⟩ := List.any_eq_true.mp q
  exact List.mem_map.mpr ⟨p, hp, of_decide_eq_true e⟩
theorem nd_snoc : ∀ {l : List κ} {k : κ}, l.Nodup → ¬ k ∈ l → (l ++ [k]).Nodup
  | [], k, _, _ => by simp
  | a :: r, k, h, hk => by
    obtain ⟨h1, h2⟩ := List.nodup_cons.mp h
    show (a :: (r ++ [k])).Nodup
    refine List.nodup_cons.mpr ⟨fun m => ?_, nd_snoc h2 fun m => hk (List.mem_cons.mpr (Or.inr m))⟩
    rcases List.mem_append.mp m with q | q
    · exact h1 q
    · exact hk (List.mem_cons.mpr (Or.inl (List.mem_singleton.mp q).symm))
theorem nd_putK {kvs : List (κ × V)} {k : κ} (v : V) (hn : (kvs.map (·.1)).Nodup) (h : valV kvs k = none) : ((putK kvs k v).map (·.1)).Nodup := by
  rw [putK_new v h, List.map_append]
  exact nd_snoc hn (valV_not h)
theorem dropK_pos {p : κ × V} {r : List (κ × V)} {k : κ} (e : p.1 = k) : dropK (p :: r) k = dropK r k := by
  unfold dropK
  rw [List.filter_cons, if_neg (by simp [e])]
theorem dropK_neg {p : κ × V} {r : List (κ × V)} {k : κ} (e : ¬ p.1 = k) : dropK (p :: r) k = p :: dropK r k := by
  unfold dropK
  rw [List.filter_cons, if_pos (by simp [e])]
theorem dropK_no : ∀ {kvs : List (κ × V)} {k : κ}, ¬ k ∈ kvs.map (·.1) → dropK kvs k = kvs
  | [], _, _ => rfl
  | p :: r, k, h => by
    have h' : ¬ k ∈ r.map (·.1) := fun m => by
      obtain ⟨q, hq, e⟩ := List.mem_map.mp m
      exact h (List.mem_map.mpr ⟨q, List.mem_cons.mpr (Or.inr hq), e⟩)
    rw [dropK_neg fun e => h (List.mem_map.mpr ⟨p, List.mem_cons.mpr (Or.inl rfl), e⟩), dropK_no h']
theorem dropK_mem {kvs : List (κ × V)} {k : κ} {p : κ × V} (h : p ∈ dropK kvs k) : p ∈ kvs := (List.mem_filter.mp h).1
theorem nd_dropK : ∀ {kvs : List (κ × V)} {k : κ}, (kvs.map (·.1)).Nodup → ((dropK kvs k).map (·.1)).Nodup
  | [], _, _ => List.nodup_nil
  | p :: r, k, h => by
    have h : (p.1 :: r.map (·.1)).Nodup := h
    obtain ⟨h1, h2⟩ := List.nodup_cons.mp h
    by_cases e : p.1 = k
    · rw [dropK_pos e]
      exact nd_dropK h2
    · rw [dropK_neg e]
      show (p.1 :: (dropK r k).map (·.1)).Nodup
      refine List.nodup_cons.mpr ⟨fun m => h1 ?_, nd_dropK h2⟩
      obtain ⟨q, hq, eq⟩ := List.mem_map.mp m
      exact List.mem_map.mpr ⟨q, dropK_mem hq, eq⟩
theorem dropK_len : ∀ {kvs : List (κ × V)} {k : κ}, (kvs.map (·.1)).Nodup → k ∈ kvs.map (·.1) → (dropK kvs k).length + 1 = kvs.length
  | [], _, _, m => by simp at m
  | p :: r, k, h, m => by
    have h : (p.1 :: r.map (·.1)).Nodup := h
    have m : k = p.1 ∨ k ∈ r.map (·.1) := List.mem_cons.mp m
    obtain ⟨h1, h2⟩ := List.nodup_cons.mp h
    by_cases e : p.1 = k
    · subst e
      rw [dropK_pos rfl, dropK_no h1]
      all_goals rfl
    · have m' : k ∈ r.map (·.1) := m.resolve_left fun z => e z.symm
      have q := dropK_len h2 m'
      rw [dropK_neg e, List.length_cons, List.length_cons]
      omega
end
end L2

set_option Elab.async false
set_option linter.all false
set_option maxRecDepth 100000
namespace L2
open PySem PySem.Spec PyProof.Rows

theorem lsz {h : Heap} {b : Nat} {o : Obj} (e : h.get? b = some o) : b < h.objs.size := Heap.lt_size e
theorem neN {a b : Nat} (h : a ≠ b) : a ≠ b := h
theorem ltN {a b : Nat} (h : a < b) : a < b := h
theorem cellN {h : Heap} {c : Nat} {v : Option Value} (q : h.IsCell c v) : c < h.objs.size := q.lt

/-! ### list comprehensions -/
structure LcScope (Xs : Scope) (N : List Str) (sc : Scope) (N' : List Str) (ix : List (Option Nat)) : Prop where
  kind : sc.kind = .function
  nc : ∀ y ∈ sc.names, y.2 ≠ .cell
  loc : ∀ y ∈ sc.names, y.2 = .local → sc.names.lookup y.1 = some .local
  fr : ∀ y ∈ sc.names, y.2 = .free → (Xs.names.lookup y.1 = some .cell ∨ Xs.names.lookup y.1 = some .free)
  nd : N'.Nodup
  len : ix.length = N'.length
  map : ((ix.zip N').all fun p => match p.1 with | none => true | some j => decide (N[j]? = some p.2) && decide (sc.names.lookup p.2 = some .free)) = true

theorem LcScope.at {Xs : Scope} {N : List Str} {sc : Scope} {N' : List Str} {ix : List (Option Nat)} (S : LcScope Xs N sc N' ix) {i j : Nat} {x : Str} (h1 : ix[i]? = some (some j)) (h2 : N'[i]? = some x) :
    N[j]? = some x ∧ sc.names.lookup x = some .free := by
  have hm : ((some j, x) : Option Nat × Str) ∈ ix.zip N' := by
    refine List.mem_of_getElem? (i := i) ?_
    rw [List.getElem?_zip_eq_some]
    exact ⟨h1, h2⟩
  have q := List.all_eq_true.mp S.map _ hm
  simp only [Bool.and_eq_true, decide_eq_true_eq] at q
  exact q

/-- the block's first state -/
def blkSt (ix : List (Option Nat)) (σ : St) : St := ix.map fun o => match o with | some j => (σ[j]?).getD none | none => none

def blk (X : Cx) (sc : Scope) (N' : List Str) (cl : List (Str × Addr)) (C : Addr) (s2 : Shared) (H2 : Hp) (fp : List Addr) : Cx where
  prog := X.prog
  w := X.w
  K := X.K
  mg := X.mg
  base := X.base
  A := X.A
  N := N'
  s₀ := s2
  H₀ := H2
  env := compEnvC sc cl C X.env
  outer := X.stack
  stack := X.stack
  ex := fp
  calm := X.calm
  fn := fun _ => false
  pn := []
  xe := fun _ _ => False

/-- the closure of a block -/
theorem closure_ok {env : Env} : ∀ (names : List (Str × NameKind)) (cs : List (Str × Addr)), (∀ y ∈ names, y.2 = .free → ∃ c, env.cells.lookup y.1 = some c) →
    ∃ cl, (forIn names cs fun (x : Str × NameKind) (c : List (Str × Addr)) => (match x with | (name, kind) => do
        let c ← if (kind == NameKind.free) = true then do let a ← cellOf env name; pure ((name, a) :: c) else pure c
        pure (ForInStep.yield c) : Sem (ForInStep (List (Str × Addr))))) = pure cl ∧ (∀ x c, cl.lookup x = some c → cs.lookup x = some c ∨ (env.cells.lookup x = some c ∧ (x, NameKind.free) ∈ names)) ∧ (∀ x, ((x, NameKind.free) ∈ names ∨ (∃ c, cs.lookup x = some c)) → ∃ c, cl.lookup x = some c)
  | [], cs, _ => ⟨cs, rfl, fun _ _ h => .inl h, fun x h => h.elim (fun z => nomatch z) fun z => z⟩
  | (n, k) :: r, cs, h => by
    by_cases hk : k = .free
    · subst hk
      obtain ⟨c, hc⟩ := h (n, .free) List.mem_cons_self rfl
      obtain ⟨cl, e, h1, h2⟩ := closure_ok r ((n, c) :: cs) fun y hy => h y (List.mem_cons_of_mem _ hy)
      refine ⟨cl, ?_, fun x d hd => ?_, fun x hx => ?_⟩
      · rw [List.forIn_cons, ← e]
        simp only [beq_self_eq_true, if_true, cellOf, hc, pure_bind]
      · rcases h1 x d hd with z | ⟨z1, z2⟩
        · rw [List.lookup_cons] at z
          by_cases hx : (x == n) = true
          · rw [hx] at z
            have hx' : x = n := eq_of_beq hx
            subst hx'
            cases z
            exact .inr ⟨hc, List.mem_cons_self⟩
          · have hx' : (x == n) = false := by simpa using hx
            rw [hx'] at z
            exact .inl z
        · exact .inr ⟨z1, List.mem_cons_of_mem _ z2⟩
      · refine h2 x ?_
        rcases hx with hx | ⟨d, hd⟩
        · rcases List.mem_cons.mp hx with z | z
          · injection z with z1 _
            subst z1
            exact .inr ⟨c, by rw [List.lookup_cons]; simp⟩
          · exact .inl z
        · by_cases hx : (x == n) = true
          · exact .inr ⟨c, by rw [List.lookup_cons, hx]⟩
          · have hx' : (x == n) = false := by simpa using hx
            exact .inr ⟨d, by rw [List.lookup_cons, hx']; exact hd⟩
    · obtain ⟨cl, e, h1, h2⟩ := closure_ok r cs fun y hy => h y (List.mem_cons_of_mem _ hy)
      refine ⟨cl, ?_, fun x d hd => ?_, fun x hx => ?_⟩
      · have hb : (k == NameKind.free) = false := by simpa using hk
        rw [List.forIn_cons, ← e]
        simp only [hb, Bool.false_eq_true, if_false, pure_bind]
      · rcases h1 x d hd with z | ⟨z1, z2⟩
        · exact .inl z
        · exact .inr ⟨z1, List.mem_cons_of_mem _ z2⟩
      · refine h2 x ?_
        rcases hx with hx | hx
        · rcases List.mem_cons.mp hx with z | z
          · injection z with _ z2
            exact absurd z2.symm hk
          · exact .inl z
        · exact .inr hx

theorem closureFor_ok {sc : Scope} {env : Env} (h : ∀ y ∈ sc.names, y.2 = .free → ∃ c, env.cells.lookup y.1 = some c) :
    ∃ cl, closureFor sc env = pure cl ∧ (∀ x c, cl.lookup x = some c → env.cells.lookup x = some c ∧ (x, NameKind.free) ∈ sc.names) ∧ (∀ x, (x, NameKind.free) ∈ sc.names → ∃ c, cl.lookup x = some c) := by
  obtain ⟨cl, e, h1, h2⟩ := closure_ok (env := env) sc.names [] h
  refine ⟨cl, ?_, fun x c hc => (h1 x c hc).resolve_left (fun z => nomatch z), fun x hx => h2 x (.inl hx)⟩
  unfold closureFor
  have e' : (forIn sc.names ([] : List (Str × Addr)) fun x r => (match x with | (name, kind) => if (kind == NameKind.free) = true then do let a ← cellOf env name; pure (ForInStep.yield ((name, a) :: r)) else pure (ForInStep.yield r) : Sem (ForInStep (List (Str × Addr))))) = pure cl := by
    rw [← e]
    first
      | rfl
      | (congr 1
         funext x r
         obtain ⟨n, k⟩ := x
         by_cases hk : (k == NameKind.free) = true
         · simp only [hk, if_true, pure_bind]
         · simp only [hk, if_false, pure_bind, Bool.false_eq_true])
      | simp only [pure_bind]
  simpa using e'

theorem lookup_relabel {env : Env} : ∀ {names : List (Str × NameKind)} {x : Str},
    (names.map fun (n, k) => if (k == NameKind.free && env.scope.kind == .function && env.kindOf n == some .cell) then (n, NameKind.cell) else (n, k)).lookup x =
      (names.lookup x).map fun k => if (k == NameKind.free && env.scope.kind == .function && env.kindOf x == some .cell) then NameKind.cell else k
  | [], _ => rfl
  | (n, k) :: r, x => by
    have ih := @lookup_relabel env r x
    show List.lookup x ((if (k == NameKind.free && env.scope.kind == .function && env.kindOf n == some .cell) = true then (n, NameKind.cell) else (n, k)) :: _) = _
    cases hx : x == n with
    | true =>
      have e : x = n := eq_of_beq hx
      subst e
      by_cases hc : (k == NameKind.free && env.scope.kind == .function && env.kindOf x == some .cell) = true
      · rw [if_pos hc, List.lookup_cons, List.lookup_cons, hx]
        simp only [Option.map_some, hc, if_true]
      · rw [if_neg hc, List.lookup_cons, List.lookup_cons, hx]
        simp only [Option.map_some, hc, if_false]
        simp
    | false =>
      by_cases hc : (k == NameKind.free && env.scope.kind == .function && env.kindOf n == some .cell) = true
      · rw [if_pos hc, List.lookup_cons, List.lookup_cons, hx]; exact ih
      · rw [if_neg hc, List.lookup_cons, List.lookup_cons, hx]; exact ih

/-- the tests of a clause -/
def PFs (X : Cx) (ifs : List Expr) (t : TT) : Prop :=
  ∀ (pins : List (Addr × Obj)) (s : Shared) (σ : St) (H : Hp) (Q : Bool → Hp → Prop), Inv X pins σ H s → t σ H Q →
    wpAny (model X.prog X.w) X.A (forIn ifs true fun c r => if r = true then do let ok ← isTrue c X.env (eval c X.env); pure (ForInStep.yield ok) else pure (ForInStep.yield r)) (TP X pins σ Q) X.xe s
def tAll : TT := fun _ H Q => Q true H
theorem pfs_nil {X : Cx} : PFs X [] tAll := fun pins s σ H Q I h => by
  rw [List.forIn_nil]
  exact wpAny_pure ⟨H, I, h⟩
theorem pfs_one {X : Cx} {c : Expr} {t : TT} (hc : PT X c t) : PFs X [c] t := fun pins s σ H Q I h => by
  rw [List.forIn_cons]
  simp only [if_true, bind_assoc, pure_bind]
  refine wpAny_bind (thn (hc pins s σ H Q I h) fun b s1 q => ?_)
  rw [List.forIn_nil]
  exact wpAny_pure q

/-- [elt for tg in iter if tests]: D the new list; W by the turn, a measure, the block's names, the list so far, the heap -/
def tLc (ix : List (Option Nat)) (wi : TI) (g : TG) (tf : TT) (te : TE) : TE := fun σ H Q => wi σ H fun J H1 => ∀ D, H1 D = none → ∃ W : Nat → Nat → St → List V → Hp → Prop,
  (∃ m, W 0 m (blkSt ix σ) [] (upd H1 D (.lst []))) ∧ ∀ i m σ' ys H, W i m σ' ys H → H D = some (.lst ys) ∧
    ((J.stop i H ∧ Q (.ref D) H) ∨ (J.go i H ∧ ∀ x H', J.yld i H x H' → g x σ' H' fun σ2 H2 => tf σ2 H2 fun b H3 =>
      if b = true then te σ2 H3 fun y H4 => H4 D = some (.lst ys) ∧ ys.length + 1 ≤ sizeLine ∧ ∃ m', m' < m ∧ W (i + 1) m' σ2 (ys ++ [y]) (upd H4 D (.lst (ys ++ [y]))) else ∃ m', m' < m ∧ W (i + 1) m' σ2 ys H3))

theorem codeAny_compLoop_go {prog : Program} {w : World} {A : Around} {R : Result → Shared → Prop} {s : Shared} {elt target iter : Expr} {ifs : List Expr} {scope : Scope} {pos : Pos} {it acc : Value} {env : Env} (I : Nat → Shared → Prop)
    (turn : ∀ n s, I n s → wpAny (model prog w) A (pyNext it) (fun r s₁ => match r with
      | none => R (.ok .next) s₁
      | some v => wpAny (model prog w) A (letOwnedTupleGo target it v) (fun _ s₁' => wpAny (model prog w) A (assign target env v) (fun _ s₂ =>
          wpAny (model prog w) A (forIn ifs true fun c r => if r = true then do let ok ← isTrue c env (eval c env); pure (ForInStep.yield ok) else pure (ForInStep.yield r)) (fun ok s₃ =>
            if ok = true then wpAny (model prog w) A (eval elt env) (fun x s₄ =>
              wpAny (model prog w) A (call (.builtin "list.append") [acc, x]) (fun _ s₅ => ∃ m, m < n ∧ I m s₅) (fun _ _ => False) s₄) (fun _ _ => False) s₃
            else ∃ m, m < n ∧ I m s₃) (fun _ _ => False) s₂) (fun _ _ => False) s₁') (fun _ _ => False) s₁) (fun _ _ => False) s)
    (n : Nat) (h : I n s) :
    codeAny (model prog w) A (.compLoop (.ListComp elt [⟨target, iter, ifs, 0⟩] scope pos) 0 it acc env) R s := by
  refine codeAny_loop rfl I (fun n s hI => ?_) n h
  show wpAny _ A ((compTurn (.ListComp elt [⟨target, iter, ifs, 0⟩] scope pos) 0 it acc env).onRaise (fun x => do noteFrame x env; theTreesLotGoes x)) _ _ s
  refine wpAny_noted ?_
  rw [compTurn_list]
  refine wpAny_bind (wpAny_standAt (wpAny_bind (wpAny_mono (turn n s hI) (fun r s₁ h₁ => ?_) fun _ _ h' => h'.elim)))
  cases r with
  | none => exact wpAny_pure h₁
  | some v =>
    refine wpAny_bind (wpAny_mono h₁ (fun _ s₁' h₁' => ?_) fun _ _ h' => h'.elim)
    refine wpAny_bind (wpAny_mono h₁' (fun _ s₂ h₂ => wpAny_bind (wpAny_mono h₂ (fun ok s₃ h₃ => ?_) fun _ _ h' => h'.elim)) fun _ _ h' => h'.elim)
    cases ok with
    | false => exact wpAny_pure ⟨rfl, h₃⟩
    | true =>
      have h₃' : wpAny (model prog w) A (eval elt env) (fun x s₄ =>
              wpAny (model prog w) A (call (.builtin "list.append") [acc, x]) (fun _ s₅ => ∃ m, m < n ∧ I m s₅) (fun _ _ => False) s₄) (fun _ _ => False) s₃ := h₃
      exact wpAny_bind (wpAny_bind (wpAny_mono h₃' (fun x s₄ h₄ => wpAny_bind (wpAny_mono h₄ (fun _ s₅ h₅ => wpAny_pure (wpAny_pure ⟨rfl, h₅⟩)) fun _ _ h' => h'.elim)) fun _ _ h' => h'.elim))

section
variable {X : Cx} {elt tg iter : Expr} {ifs : List Expr} {sc : Scope} {pos : Pos} {N' : List Str} {ix : List (Option Nat)} {wi : TI} {g : TG} {tf : TT} {te : TE}

/-- what is known of the block's own dict behind it -/
structure CFree (X : Cx) (pins : List (Addr × Obj)) (H : Hp) (C : Addr) : Prop where
  hn : H C = none
  hL : C ≠ X.env.locals
  ab : X.s₀.heap.objs.size ≤ C
  cl : ∀ x c, X.env.cells.lookup x = some c → c ≠ C
  pn : ∀ p ∈ X.pn ++ pins, p.1 ≠ C

theorem lc_core (hc : X.calm = true) (S : LcScope X.env.scope X.N sc N' ix)
    (hg : ∀ cl C s2 H2 fp, PG (blk X sc N' cl C s2 H2 fp) tg g) (hf : ∀ cl C s2 H2 fp, PFs (blk X sc N' cl C s2 H2 fp) ifs tf) (he : ∀ cl C s2 H2 fp, PE (blk X sc N' cl C s2 H2 fp) elt te)
    {pins : List (Addr × Obj)} {σ : St} {H2 : Hp} {s2 : Shared} {cl : List (Str × Addr)} (hcl1 : ∀ x c, cl.lookup x = some c → X.env.cells.lookup x = some c ∧ (x, NameKind.free) ∈ sc.names) (hcl2 : ∀ x, (x, NameKind.free) ∈ sc.names → ∃ c, cl.lookup x = some c)
    {it : Addr} {fp : List Addr} {tn : Nat → Heap → Prop} {J : It} {Q : VK} (I2 : Inv X pins σ H2 s2) (T : Turn X.prog X.w X.K tg J fp it tn) (st2 : tn 0 s2.heap) (f2 : ∀ b ∈ fp, FpOk X pins H2 b)
    (hW : ∀ D, H2 D = none → ∃ W : Nat → Nat → St → List V → Hp → Prop,
      (∃ m, W 0 m (blkSt ix σ) [] (upd H2 D (.lst []))) ∧ ∀ i m σ' ys H, W i m σ' ys H → H D = some (.lst ys) ∧
        ((J.stop i H ∧ Q (.ref D) H) ∨ (J.go i H ∧ ∀ x H', J.yld i H x H' → g x σ' H' fun σ2 H2 => tf σ2 H2 fun b H3 =>
          if b = true then te σ2 H3 fun y H4 => H4 D = some (.lst ys) ∧ ys.length + 1 ≤ sizeLine ∧ ∃ m', m' < m ∧ W (i + 1) m' σ2 (ys ++ [y]) (upd H4 D (.lst (ys ++ [y]))) else ∃ m', m' < m ∧ W (i + 1) m' σ2 ys H3)))
    {RR : Value → Addr → Result → Shared → Prop} {E : Value → Shared → Prop}
    (hRR : ∀ D C m s' H', Inv X pins σ H' s' → Q (.ref D) H' → s'.heap.Ns C m → CFree X pins H' C → RR (.ref D) C (.ok .next) s') :
    wpAny (model X.prog X.w) X.A (newList []) (fun acc s₃ => wpAny (model X.prog X.w) X.A (newFunctionEnv sc X.env.globals cl [] X.env.qual none .none (some X.env)) (fun cenv s₄ =>
      codeAny (model X.prog X.w) X.A (.compStart (.ListComp elt [⟨tg, iter, ifs, 0⟩] sc pos) 0 (.ref it) acc { cenv with scope := relabel sc X.env }) (RR acc cenv.locals) s₄) E s₃) E s2 := by
  refine wpAny_newObj_type (wpAny_newFunctionEnv S.nc (by intro y hy; simp at hy) (fun h₁ hns₁ hsb₁ => ?_) S.kind)
  dsimp only at hns₁ hsb₁ ⊢
  generalize hH2 : s2.heap.push { cls := .type "list", dict := none, data := .seq ([] : List Value).toArray } = G2 at hns₁ hsb₁ ⊢
  have hC : G2.objs.size = s2.heap.objs.size + 1 := by rw [← hH2, Heap.size_push]
  obtain ⟨D, hD⟩ : ∃ D : Nat, s2.heap.objs.size = D := ⟨_, rfl⟩
  obtain ⟨C, hCC⟩ : ∃ C : Nat, G2.objs.size = C := ⟨_, rfl⟩
  simp only [hD, hCC] at hns₁ hsb₁ hC ⊢
  have hDC : D ≠ C := by omega
  have old : ∀ b o, s2.heap.get? b = some o → h₁.get? b = some o := fun b o e => by
    have hb := lsz e
    exact hsb₁.extBut b o (neN (by omega)) (Heap.get?_push_of_some _ (hH2 ▸ Heap.get?_push_of_some _ e))
  have hacc : h₁.get? D = some { cls := .type "list", data := .seq ([] : List Value).toArray } := by
    refine hsb₁.extBut D _ hDC (Heap.get?_push_of_some _ ?_)
    rw [← hH2, ← hD]
    exact Heap.get?_push_size _ rfl
  have hD2 : H2 D = none := I2.hok.fresh (by omega)
  have hC2 : H2 C = none := I2.hok.fresh (by omega)
  obtain ⟨W, ⟨m0, w0⟩, turn⟩ := hW D hD2
  have cellX : ∀ x c, cl.lookup x = some c → ∃ v, s2.heap.IsCell c v := fun x c e => I2.cell x c (hcl1 x c e).1
  have cltD : ∀ x c, cl.lookup x = some c → c < D := fun x c e => by
    obtain ⟨v, q⟩ := cellX x c e
    have := cellN q
    exact ltN (by omega)
  have fpD : ∀ b ∈ fp, b < D := fun b hb => by
    obtain ⟨o, e, _⟩ := T.obj 0 _ st2 b hb
    have := lsz e
    exact ltN (by omega)
  -- the block's context
  have Yok : (blk X sc N' cl C s2 H2 fp).Ok := by
    refine ⟨I2.ok.mod, S.kind, I2.ok.glob, I2.ok.blt, ?_, ?_, ?_, ?_, I2.ok.hd, I2.ok.frames, .inl rfl, ?_, I2.bs, ?_, ?_, ?_, I2.stack, I2.stkFree⟩
    · show s2.heap.objs.size ≤ C
      omega
    · intro x y c e1 e2
      exact I2.ok.inj x y c (hcl1 x c e1).1 (hcl1 y c e2).1
    · intro x hx
      have hx' : (relabel sc X.env).names.lookup x = some .cell ∨ (relabel sc X.env).names.lookup x = some .free := hx
      unfold relabel at hx'
      rw [lookup_relabel] at hx'
      cases q : sc.names.lookup x with
      | none => rw [q] at hx'; simp at hx'
      | some k =>
        have hm := PySem.mem_of_lookup q
        by_cases hk : k = .free
        · subst hk
          exact hcl2 x hm
        · have hk2 : k ≠ .cell := S.nc _ hm
          rw [q] at hx'
          have hb : (k == NameKind.free) = false := by simpa using hk
          simp only [Option.map_some, hb, Bool.false_and, Bool.false_eq_true, if_false] at hx'
          rcases hx' with z | z
          · exact absurd (Option.some.inj z) hk2
          · exact absurd (Option.some.inj z) hk
    · intro x c hfn
      exact absurd hfn Bool.false_ne_true
    · intro b hb
      refine ⟨?_, fun x c e z => (f2 b hb).2.2.2.2.1 x c (hcl1 x c e).1 z⟩
      show b ≠ C
      have := ltN (fpD b hb)
      exact neN (by omega)
    · show X.base.objs.size ≤ s2.heap.objs.size
      exact Nat.le_trans I2.ok.bsz I2.sz
    · intro b o e hb
      rcases (f2 b hb).2.2.2.1 with z | z
      · exact I2.ok.noex b o e z
      · have h1 := lsz (h := X.base) e
        have h2 := I2.ok.bsz
        omega
    · intro b hb z
      rcases List.mem_cons.mp (I2.stkSub b z) with q | q
      · exact (f2 b hb).2.1 q
      · exact (f2 b hb).2.2.1 q
  have un0 : Un (frs X.stack) fp H2 (upd H2 D (.lst [])) s2.heap h₁ := Un.laid old (by omega) hD2
  have hok0 : HOk X.prog X.w (upd H2 D (.lst [])) h₁ := I2.hok.laid old (by omega) ⟨Nat.zero_le _, [], 0, .nil, hacc⟩
  have IY : ∀ tk, Inv (blk X sc N' cl C s2 H2 fp) [] (blkSt ix σ) (upd H2 D (.lst [])) { s2 with heap := h₁, toks := tk } := fun tk => by
    refine ⟨Yok, rfl, I2.bare, un0, ⟨_, hns₁, fun i x v e1 e2 e3 => ?_⟩, fun x c e => ?_, ?_, fun x c e => ?_, fun p hp => absurd (show p ∈ ([] : List (Addr × Obj)) from hp) (by simp), hok0, ?_⟩
    · have e1' : N'[i]? = some x := e1
      unfold blkSt at e2
      rw [List.getElem?_map] at e2
      cases q : ix[i]? with
      | none => rw [q] at e2; cases e2
      | some o =>
        cases o with
        | none => rw [q] at e2; cases e2
        | some j =>
          rw [q] at e2
          have e2' : (σ[j]?).getD none = some v := Option.some.inj e2
          have e4 : σ[j]? = some (some v) := by
            cases z : σ[j]? with
            | none => rw [z] at e2'; cases e2'
            | some y => rw [z] at e2'; exact congrArg some e2'
          obtain ⟨a1, a2⟩ := S.at q e1'
          have hmem := PySem.mem_of_lookup a2
          have hk := S.fr _ hmem rfl
          obtain ⟨m, _, hl⟩ := I2.loc
          obtain ⟨u, r, l⟩ := hl j x v a1 e4 (.inr hk)
          refine ⟨u, r, .inr ⟨?_, ?_⟩⟩
          · show (relabel sc X.env).names.lookup x = some .cell ∨ (relabel sc X.env).names.lookup x = some .free
            unfold relabel
            rw [lookup_relabel, a2]
            by_cases hb : (X.env.scope.kind == .function && X.env.kindOf x == some .cell) = true
            · left
              simp only [Option.map_some, beq_self_eq_true, Bool.true_and, hb, if_true]
            · right
              simp only [Option.map_some, beq_self_eq_true, Bool.true_and, hb, if_false, Bool.false_eq_true]
          · obtain ⟨c, hcx⟩ := hcl2 x hmem
            have hcX := (hcl1 x c hcx).1
            refine ⟨c, hcx, ?_⟩
            rcases l with ⟨k, _⟩ | ⟨k, c', e', z⟩
            · have k' : X.env.scope.names.lookup x = some .local := k
              rcases hk with y | y <;> rw [k'] at y <;> cases y
            · rw [hcX] at e'
              cases e'
              obtain ⟨o, ho, hd⟩ := z
              exact ⟨o, old _ _ ho, hd⟩
    · obtain ⟨v, o, ho, hd⟩ := cellX x c e
      exact ⟨v, o, old _ _ ho, hd⟩
    · show upd H2 D (.lst []) C = none
      rw [upd_ne (Ne.symm hDC)]
      exact hC2
    · have hlt := ltN (cltD x c e)
      show upd H2 D (.lst []) c = none
      rw [upd_ne (neN (by omega))]
      exact I2.freeC x c (hcl1 x c e).1
    · unfold blkSt
      rw [List.length_map]
      exact S.len
  have fpY : ∀ {pins' : List (Addr × Obj)} {H' : Hp}, (∀ b ∈ fp, H' b = none) → (∀ p ∈ pins', p.1 ∉ fp) → ∀ b ∈ fp, FpOk (blk X sc N' cl C s2 H2 fp) pins' H' b := fun hn hp b hb => by
    refine ⟨hn b hb, ?_, ?_, .inl hb, fun x c e z => (f2 b hb).2.2.2.2.1 x c (hcl1 x c e).1 z, fun p hpp z => ?_⟩
    · show b ≠ C
      have := ltN (fpD b hb)
      exact neN (by omega)
    · exact Yok.exfs b hb
    · have hpp' : p ∈ ([] : List (Addr × Obj)) ++ _ := hpp
      rw [List.nil_append] at hpp'
      exact hp p hpp' (z ▸ hb)
  have loop : ∀ s₃ : Shared, s₃ = { s2 with heap := h₁, toks := s2.toks + ([] : List (Str × Value)).length } →
      codeAny (model X.prog X.w) X.A (.compLoop (.ListComp elt [⟨tg, iter, ifs, 0⟩] sc pos) 0 (.ref it) (.ref D) (compEnvC sc cl C X.env)) (RR (.ref D) C) s₃ := by
    rintro s₃ rfl
    refine codeAny_compLoop_go (fun n s' => ∃ i σ' ys H', Inv (blk X sc N' cl C s2 H2 fp) [] σ' H' s' ∧ tn i s'.heap ∧ (∀ b ∈ fp, H' b = none) ∧ W i n σ' ys H') ?_ m0
      ⟨0, _, [], _, IY _, T.keep _ _ _ st2 (fun b _ o e => old b o e), fun b hb => by rw [upd_ne (Nat.ne_of_lt (fpD b hb))]; exact (f2 b hb).1, w0⟩
    rintro n s3 ⟨i, σ3, ys, H3, I3, st3, fr3, w3⟩
    obtain ⟨hDl, w3⟩ := turn i n σ3 ys H3 w3
    rcases w3 with ⟨stop, qn⟩ | ⟨go, step⟩
    · refine thn (T.done (blk X sc N' cl C s2 H2 fp) rfl rfl rfl hc i [] s3 σ3 H3 _ I3 (fpY fr3 (by simp)) st3 stop) fun r s4 ⟨hr, I4⟩ => ?_
      subst hr
      obtain ⟨m, hn, _⟩ := I4.loc
      refine hRR D C m s4 H3 (I2.call' (ch := fp) I4.os I4.base I4.hok I4.bare fun b hb => ?_) qn hn ?_
      · obtain ⟨a0, a1, a2, a3, a4, a5⟩ := f2 b hb
        exact ⟨a3, a1, a4, a5⟩
      · refine ⟨I4.free, ?_, ?_, fun x c e z => ?_, fun p hp z => ?_⟩
        · have := ltN I2.lt
          exact neN (by omega)
        · have := I2.sz
          omega
        · obtain ⟨v, q⟩ := I2.cell x c e
          have := cellN q
          exact neN (a := c) (b := C) (by omega) z
        · have := lsz (I2.pin p hp).1
          exact neN (a := p.1) (b := C) (by omega) z
    · refine thn (T.item (blk X sc N' cl C s2 H2 fp) rfl rfl rfl hc i [] s3 σ3 H3 (fun _ _ => False) I3 (fpY fr3 (by simp)) st3 go) fun r s4 ⟨u, hr, h4⟩ => ?_
      subst hr
      refine thn h4 fun _ s5 ⟨x, H5, I5, r5, y5, st5, fr5⟩ => ?_
      have I5' := I5.pinned (fpY fr5 (by simp)) (T.obj _ _ st5)
      refine thn (hg _ _ _ _ _ _ s5 σ3 H5 x u _ I5' r5 (step x H5 y5)) fun _ s6 ⟨σ6, H6, I6, q6⟩ => ?_
      refine thn (hf _ _ _ _ _ _ s6 σ6 H6 _ I6 q6) fun b s7 ⟨H7, I7, q7⟩ => ?_
      have keepT : ∀ {s8 : Shared} {σ8 : St} {H8 : Hp}, Inv (blk X sc N' cl C s2 H2 fp) ([] ++ pinsAt fp s5.heap) σ8 H8 s8 → tn (i + 1) s8.heap ∧ ∀ b ∈ fp, H8 b = none := fun {s8 σ8 H8} I8 => by
        refine ⟨T.keep _ _ _ st5 fun b hb o e => (I8.pin (b, o) (List.mem_append_right _ (List.mem_append_right _ (mem_pinsAt hb e)))).1, fun b hb => ?_⟩
        obtain ⟨o, e, d⟩ := T.obj _ _ st5 b hb
        exact (I8.pin (b, o) (List.mem_append_right _ (List.mem_append_right _ (mem_pinsAt hb e)))).2.1
      cases b with
      | false =>
        have q7' : ∃ m', m' < n ∧ W (i + 1) m' σ6 ys H7 := q7
        obtain ⟨m', hm, w7⟩ := q7'
        rw [if_neg Bool.false_ne_true]
        obtain ⟨t7, fr7⟩ := keepT I7
        exact ⟨m', hm, i + 1, σ6, ys, H7, I7.unpinned, t7, fr7, w7⟩
      | true =>
        rw [if_pos rfl]
        rw [if_pos rfl] at q7
        refine thn (he _ _ _ _ _ _ s7 σ6 H7 _ I7 q7) fun yv s8 ⟨y, H8, I8, r8, hD8, hz8, m', hm, w8⟩ => ?_
        obtain ⟨z, its, k, rv, hl8, e8⟩ := I8.lstM hD8
        obtain ⟨t8, fr8⟩ := keepT I8
        refine wpAny_list_append_plain (s := s8) (items := its.toArray) (hsz := by rw [List.size_toArray]; omega) ⟨_, e8⟩ fun h9 hl9 hs9 => ?_
        obtain ⟨k9, e9⟩ := hl9
        have hv9 : Vals (ys ++ [y]) (its ++ [yv]) := Vals.append rv (.cons r8 .nil)
        have I9 : Inv (blk X sc N' cl C s2 H2 fp) ([] ++ pinsAt fp s5.heap) σ6 (upd H8 D (.lst (ys ++ [y]))) { s8 with heap := h9, toks := s8.toks } := by
          refine I8.write (x := D) (e := D) (by rw [hD8]; exact trivial) (.inl rfl) (fun b u hb hu => (hs9.2 b hb).trans hu) ⟨_, e9⟩ ?_
          refine ⟨by rw [List.length_append, List.length_singleton]; exact hz8, its ++ [yv], k9, hv9, ?_⟩
          rw [e9]
          simp
        obtain ⟨t9, fr9⟩ := keepT I9
        exact ⟨m', hm, i + 1, σ6, _, _, I9.unpinned, t9, fr9, w8⟩
  exact codeAny_compStart_list (loop _ rfl) (T.self _ 0 _ _ _ (T.keep _ _ _ st2 fun b _ o e => old b o e) (loop _ rfl))

theorem pe_lc (hc : X.calm = true) (S : LcScope X.env.scope X.N sc N' ix) (hi : PI X tg iter wi)
    (hg : ∀ cl C s2 H2 fp, PG (blk X sc N' cl C s2 H2 fp) tg g) (hf : ∀ cl C s2 H2 fp, PFs (blk X sc N' cl C s2 H2 fp) ifs tf) (he : ∀ cl C s2 H2 fp, PE (blk X sc N' cl C s2 H2 fp) elt te)
    (hs : ∀ x, foldedSetIterable iter X.env x = pure x := by intro _; rfl) : PE X (.ListComp elt [⟨tg, iter, ifs, 0⟩] sc pos) (tLc ix wi g tf te) := by
  intro pins s σ H Q I h
  rw [eval_ListComp]
  have hcells : ∀ y ∈ sc.names, y.2 = .free → ∃ c, X.env.cells.lookup y.1 = some c := fun y hy hk => I.ok.has y.1 (S.fr y hy hk)
  obtain ⟨cl, hclos, hcl1, hcl2⟩ := closureFor_ok hcells
  refine wpAny_comprehension_free (use := none) rfl hs hclos S.kind S.loc (thn (hi pins s σ H _ I h) fun v s1 h1 => thn h1 fun itv s2 h2 => ?_)
  obtain ⟨it, fp, tn, J, H2, rfl, I2, T, st2, f2, hW⟩ := h2
  refine lc_core (RR := fun acc C => compPost (model X.prog X.w) X.A X.xe none (EP X pins σ Q) acc C) hc S hg hf he hcl1 hcl2 I2 T st2 f2 hW fun D C m s' H' I' q hn F => ?_
  refine ⟨m, hn, fun h' hs' => ⟨.ref D, H', ?_, rfl, q⟩⟩
  exact I'.turned (it := C) (t' := s'.toks) (fun b o hb e => (hs'.2 b hb).trans e) F.hn F.hL (.inr F.ab) F.cl F.pn

/-- name = [..] where the store comes ahead of the block's end -/
theorem ps_setlc {i : Nat} {x : Str} {px spos : Pos} (hc : X.calm = true) (hN : X.N.Nodup) (hi' : X.N[i]? = some x) (hx : X.env.scope.names.lookup x = some .local) (S : LcScope X.env.scope X.N sc N' ix) (hi : PI X tg iter wi)
    (hg : ∀ cl C s2 H2 fp, PG (blk X sc N' cl C s2 H2 fp) tg g) (hf : ∀ cl C s2 H2 fp, PFs (blk X sc N' cl C s2 H2 fp) ifs tf) (he : ∀ cl C s2 H2 fp, PE (blk X sc N' cl C s2 H2 fp) elt te)
    (hsw : swapsWith (.ListComp elt [⟨tg, iter, ifs, 0⟩] sc pos) (some (.Name x px)) spos.line X.env = pure true := by rfl)
    (hs : ∀ x, foldedSetIterable iter X.env x = pure x := by intro _; rfl) : PS X (.Assign [.Name x px] (.ListComp elt [⟨tg, iter, ifs, 0⟩] sc pos) spos) (tAsg (tLc ix wi g tf te) (gName i)) := by
  intro pins s σ H D0 I h
  rw [exec_Assign_Name_used _ _ _ _ hsw]
  refine wpAny_bind (wpAny_standAt (wpAny_bind ?_))
  show wpAny _ X.A (do let _ ← comprehension (.ListComp elt [⟨tg, iter, ifs, 0⟩] sc pos) sc X.env _ (newList []) false (eval iter X.env) (some (assign (.Name x px) X.env))) _ _ s
  have hcells : ∀ y ∈ sc.names, y.2 = .free → ∃ c, X.env.cells.lookup y.1 = some c := fun y hy hk => I.ok.has y.1 (S.fr y hy hk)
  obtain ⟨cl, hclos, hcl1, hcl2⟩ := closureFor_ok hcells
  refine wpAny_bind (wpAny_mono (wpAny_comprehension_free (use := some (assign (.Name x px) X.env)) (Q := fun _ s' => SP X pins D0 .next s') rfl hs hclos S.kind S.loc (thn (hi pins s σ H _ I h) fun v s1 h1 => thn h1 fun itv s2 h2 => ?_)) (fun _ s' hq => wpAny_pure (wpAny_pure hq)) fun _ _ e => e)
  obtain ⟨it, fp, tn, J, H2, rfl, I2, T, st2, f2, hW⟩ := h2
  refine lc_core (RR := fun acc C => compPost (model X.prog X.w) X.A X.xe (some (assign (.Name x px) X.env)) (fun _ s' => SP X pins D0 .next s') acc C) (Q := fun x H1 => gName i x σ H1 D0.nx) hc S hg hf he hcl1 hcl2 I2 T st2 f2 hW fun D C m s' H' I' q hn F => ?_
  show wpAny _ X.A (assign (.Name x px) X.env (.ref D)) _ _ _
  refine wpAny_assign_Name (store_ok2 (v := .ref D) I' hN hi' (.inl hx) rfl (fun s'' I'' hsb => ?_) (.inr hx))
  obtain ⟨a, hsb, ha⟩ := hsb
  have haC : C ≠ a := by
    rcases ha with z | z
    · rw [z]; exact F.hL
    · exact Ne.symm (F.cl _ _ z)
  refine ⟨m, hn.sameBut hsb haC, fun h' hs' => ⟨_, H', ?_, q⟩⟩
  exact I''.turned (it := C) (t' := s''.toks) (fun b o hb e => (hs'.2 b hb).trans e) F.hn F.hL (.inr F.ab) F.cl F.pn
end
end L2

set_option Elab.async false
set_option linter.all false
set_option maxRecDepth 100000
namespace L2
open PySem PySem.Spec PyProof.Rows

section
variable {X : Cx} {a b e : Expr} {ta tb : TE} {pos : Pos}

/-! ### isinstance -/
theorem call_isinst : CallR X (.builtin "isinstance") (fun xs H Q => ∃ x c t b, xs = [x, .ty c] ∧ TyOf X.K H x t ∧ PySem.W.kitOne X.K t (.type c) = some b ∧ Q (.bl b) H) := by
  intro pins s σ H xs us Q I r h
  obtain ⟨x, c, t, b, rfl, ty, hk, q⟩ := h
  obtain ⟨u, w', rfl, ru, rw'⟩ := vals2 r
  cases (show w' = Value.type c from rw')
  exact isinst_ok I ru ty hk fun tk => ⟨.bl b, H, I.tok _, rfl, q⟩

/-! ### is True, is not True -/
theorem op_is_bl : OpR X (compareOp .Is) (fun x y H Q => ∃ i j, x = .bl i ∧ y = .bl j ∧ Q (.bl (i == j)) H) := by
  intro pins s σ H x y v u Q I rx ry h
  obtain ⟨i, j, rfl, rfl, q⟩ := h
  cases rx
  cases ry
  exact wpAny_pure ⟨.bl (i == j), H, I, by cases i <;> cases j <;> rfl, q⟩
theorem op_isnot_bl : OpR X (compareOp .IsNot) (fun x y H Q => ∃ i j, x = .bl i ∧ y = .bl j ∧ Q (.bl (!(i == j))) H) := by
  intro pins s σ H x y v u Q I rx ry h
  obtain ⟨i, j, rfl, rfl, q⟩ := h
  cases rx
  cases ry
  exact wpAny_pure ⟨.bl (!(i == j)), H, I, by cases i <;> cases j <;> rfl, q⟩

/-! ### xs != [] -/
theorem op_ne_nil (hu : X.A.units < cLine) : OpR X (compareOp .NotEq) (fun x y H Q => ∃ p q xs, x = .ref p ∧ y = .ref q ∧ SqL X.K H p xs ∧ SqL X.K H q [] ∧ Q (.bl (!xs.isEmpty)) H) := by
  intro pins s σ H x y v u Q I rx ry h
  obtain ⟨p, q, xs, rfl, rfl, hp, hq, k⟩ := h
  cases rx
  cases ry
  obtain ⟨its, r, pl, hz⟩ := I.list hp
  obtain ⟨its2, r2, pl2, hz2⟩ := I.list hq
  cases r2
  cases xs with
  | nil =>
    cases r
    refine EqBoolInt.of_rcne (SeqAt.RcNeAt.lists (e := fun _ => true) pl.isList pl2.isList rfl hu fun j h1 => absurd h1 (by simp)) ?_
    exact ⟨.bl false, H, I, rfl, k⟩
  | cons y ys =>
    have hl := r.length
    refine EqBoolInt.of_rcne (SeqAt.RcNeAt.lists_lengths pl.isList pl2.isList (by simp at hl ⊢; intro z; subst z; simp at hl) hu) ?_
    exact ⟨.bl true, H, I, rfl, k⟩

/-! ### all([..]), any([..]) of bools -/
theorem bools_of {bs : List Bool} : ∀ {us : List Value}, Vals (bs.map V.bl) us → us = bs.map Value.bool := by
  induction bs with
  | nil => intro us r; rw [List.map_nil] at r; cases r; rfl
  | cons n ns ih =>
    intro us r
    rw [List.map_cons] at r
    cases r with
    | cons r1 r2 =>
      cases r1
      rw [ih r2]
      rfl
theorem call_all_l (hc : X.calm = true) : CallR X (.builtin "all") (fun xs H Q => ∃ (p : Addr) (bs : List Bool), xs = [.ref p] ∧ SqL X.K H p (bs.map V.bl) ∧ Q (.bl (bs.all id)) H) := by
  intro pins s σ H xs us Q I r h
  obtain ⟨p, bs, rfl, hp, q⟩ := h
  obtain ⟨u, rfl, ru⟩ := vals1 r
  cases ru
  obtain ⟨its, rv, pl, hz⟩ := I.list hp
  have eb := bools_of rv
  subst eb
  have hl := pl.isList
  have hlt : p < s.heap.objs.size := by obtain ⟨_, e, _⟩ := hl; exact Heap.lt_size e
  refine call_all_walk (wpAny_pyIter_list hl ?_)
  refine ⟨s.heap.objs.size, [s.heap.objs.size, p], [s.heap.objs.size], (bs.map Value.bool).toArray.size, _, _, fun i => (bs[i]?).getD true, rfl, Walks.list (A := X.A.in1) (I.ok.hd hc) _ p (Nat.ne_of_lt hlt) (bs.map Value.bool).toArray,
    ⟨⟨_, Heap.get?_push_size _ rfl, rfl, rfl⟩, hl.push _⟩, fun i v s' Q' E' hP hQ => ?_, fun h' tk hk => ?_⟩
  · have hP' : (bs.map Value.bool)[i]? = some v := by simpa using hP
    rw [List.getElem?_map] at hP'
    cases e : bs[i]? with
    | none => rw [e] at hP'; cases hP'
    | some b =>
      rw [e] at hP'
      cases hP'
      simp only [e, Option.getD_some] at hQ
      exact wpAny_truthy_bool hQ
  · have e : ((List.range (bs.map Value.bool).toArray.size).all fun i => (bs[i]?).getD true) = bs.all id := by
      rw [List.size_toArray, List.length_map]; exact LSm.range_all bs
    rw [e]
    exact ⟨.bl (bs.all id), H, I.kept (LSm.kept_iter hk), rfl, q⟩
theorem call_any_l (hc : X.calm = true) : CallR X (.builtin "any") (fun xs H Q => ∃ (p : Addr) (bs : List Bool), xs = [.ref p] ∧ SqL X.K H p (bs.map V.bl) ∧ Q (.bl (bs.any id)) H) := by
  intro pins s σ H xs us Q I r h
  obtain ⟨p, bs, rfl, hp, q⟩ := h
  obtain ⟨u, rfl, ru⟩ := vals1 r
  cases ru
  obtain ⟨its, rv, pl, hz⟩ := I.list hp
  have eb := bools_of rv
  subst eb
  have hl := pl.isList
  have hlt : p < s.heap.objs.size := by obtain ⟨_, e, _⟩ := hl; exact Heap.lt_size e
  refine call_any_walk (wpAny_pyIter_list hl ?_)
  refine ⟨s.heap.objs.size, [s.heap.objs.size, p], [s.heap.objs.size], (bs.map Value.bool).toArray.size, _, _, fun i => (bs[i]?).getD false, rfl, Walks.list (A := X.A.in1) (I.ok.hd hc) _ p (Nat.ne_of_lt hlt) (bs.map Value.bool).toArray,
    ⟨⟨_, Heap.get?_push_size _ rfl, rfl, rfl⟩, hl.push _⟩, fun i v s' Q' E' hP hQ => ?_, fun h' tk hk => ?_⟩
  · have hP' : (bs.map Value.bool)[i]? = some v := by simpa using hP
    rw [List.getElem?_map] at hP'
    cases e : bs[i]? with
    | none => rw [e] at hP'; cases hP'
    | some b =>
      rw [e] at hP'
      cases hP'
      simp only [e, Option.getD_some] at hQ
      exact wpAny_truthy_bool hQ
  · have e : ((List.range (bs.map Value.bool).toArray.size).any fun i => (bs[i]?).getD false) = bs.any id := by
      rw [List.size_toArray, List.length_map]; exact LSm.range_any bs
    rw [e]
    exact ⟨.bl (bs.any id), H, I.kept (LSm.kept_iter hk), rfl, q⟩

/-! ### list.extend(tuple) -/
theorem list_extend_tup (l : Addr) (items : Array Value) (n : Nat) (b : Addr) (items2 : Array Value) (n2 : Nat) (dd : Option Addr) (sl : Array (Option Value)) (hs0 : ¬(!items.isEmpty && Builtin.List.listTooLong (items.size + items2.size)) = true) (hs1 : items.size ≤ sizeLine) (hs2 : items.size + items2.size ≤ sizeLine + 1) :
    Meets (Builtin.«list.extend» ⟨[.ref l, .ref b], []⟩) (fun _ R s => s.heap.get? l = some { cls := .type "list", dict := none, data := .seq items n, slots := #[] } ∧ s.heap.get? b = some { cls := .type "tuple", dict := dd, data := .seq items2 n2, slots := sl } ∧ R (.ok (.ret Value.none)) { s with heap := s.heap.update l (Obj.mapSeq fun x => x ++ items2), toks := s.toks }) :=
  .of_wp fun prog w A R s h => by
    obtain ⟨hp, g, d, tk, os⟩ := s; obtain ⟨hl, hb, h⟩ := h; have f1 := PySem.AutoSeq1.idx_int; have f2 := PySem.AutoSeq1.sub_tuple_tuple; have f3 := PySem.AutoSeq1.sub_list_list; have f4 := PySem.AutoSeq1.sub_tuple_list; have f5 := PySem.AutoSeq1.sub_list_tuple;
    have hz' : (items ++ items2).size ≤ sizeLine + 1 := by rw [Array.size_append]; exact hs2
    wp_walk using (wpAny_updateSeq hl rfl (hz := hs1) (_hz' := hz')), PySem.AutoSeq1.wpAny_loadPart' hl, PySem.AutoSeq1.wpAny_loadPart' hb; exact ⟨_, rfl, h⟩
def rExtendT (K : PySem.W.Frag) : V → List V → Hp → VK → Prop := fun x vs H Q => ∃ l b xs zs, x = .ref l ∧ vs = [.ref b] ∧ H l = some (.lst xs) ∧ SqT K H b zs ∧ xs.length + zs.length ≤ sizeLine ∧ Q .non (upd H l (.lst (xs ++ zs)))
theorem mt_extendT : MtM X "list.extend" (rExtendT X.K) := by
  intro pins s σ H x vs v us Q I rx rv h
  obtain ⟨l, b, xs, zs, rfl, rfl, hH, hB, hz, q⟩ := h
  cases rx
  obtain ⟨u, rfl, ru⟩ := rv.one
  cases ru
  obtain ⟨z, its, n, r, hl, e⟩ := I.lstM hH
  obtain ⟨its2, r2, ⟨⟨cls, dd, data, sl⟩, e2, hc, n2, hd⟩, z2⟩ := I.tuple hB
  simp only at hc hd
  subst hc hd
  have hl2 := r2.length
  have hsz : its.toArray.size + its2.toArray.size ≤ sizeLine := by rw [List.size_toArray, List.size_toArray]; omega
  have hlong : ¬ (!its.toArray.isEmpty && Builtin.List.listTooLong (its.toArray.size + its2.toArray.size)) = true := by
    rw [notLongL hsz, Bool.and_false]
    exact Bool.false_ne_true
  refine call_meets F.slot_list_extend ⟨_, e, rfl⟩ F.entry_list_extend (F.args_list_extend_2 _ _)
    (list_extend_tup l its.toArray n b its2.toArray n2 dd sl hlong (by rw [List.size_toArray]; omega) (by omega)) ⟨e, e2, ?_⟩
  refine ⟨.non, _, I.lset (its' := its ++ its2) hH e (by simp) (r.append r2) ?_, rfl, q⟩
  rw [List.length_append]
  omega

/-! ### a text's signs -/
def Its (x : Str) : It := ⟨fun i _ => i < x.cps.size, fun i H v H' => H' = H ∧ ∃ c, x.cps[i]? = some c ∧ v = .str ⟨#[c]⟩, fun i _ => x.cps.size ≤ i⟩
theorem turn_str_a {P : Program} {w : World} {K : PySem.W.Frag} {tg : Expr} (it : Addr) (x : Str) (t : Tok) (ty : String) (hty : ty = "str_ascii_iterator" ∨ ty = "str_iterator") : Turn P w K tg (Its x) [it] it (fun i h => h.IsStrIter it ty x t i ∧ i ≤ x.cps.size) where
  mem := by simp
  obj := fun i h st b hb => by
    have e : b = it := by simpa using hb
    subst e
    obtain ⟨⟨o, e, c, d⟩, _⟩ := st
    exact ⟨o, e, fun v z => by rw [d] at z; cases z⟩
  keep := fun i h h' st k => ⟨let ⟨o, ho, r⟩ := st.1; ⟨o, k it (by simp) o ho, r⟩, st.2⟩
  item := by
    intro X hP hw hK hc i pins s σ H E I hf st hg
    subst hP hw hK
    obtain ⟨f0, f1, f2, f3, f4, f5⟩ := hf it (by simp)
    have hg' : i < x.cps.size := hg
    obtain ⟨st, _⟩ := st
    rcases hty with rfl | rfl
    · refine wpAny_pyNext_ascii_item st (c := x.cps[i]) (by simp [hg']) fun h' st' sb => ?_
      have I1 : Inv X pins σ H { s with heap := h', toks := s.toks + 1 } := I.turned (fun b o hb e => (sb.2 b hb).trans e) f0 f1 f3 f4 f5
      obtain ⟨o, e, c, d⟩ := id st'
      exact ⟨_, rfl, go_of (s := { s with heap := h', toks := s.toks + 1 }) e c d (by decide) ⟨.str ⟨#[x.cps[i]]⟩, H, I1, ⟨_, rfl⟩, ⟨rfl, _, by simp [hg'], rfl⟩, ⟨st', hg'⟩, fun b hb => (hf b hb).1⟩⟩
    · refine wpAny_pyNext_wide_item st (c := x.cps[i]) (by simp [hg']) fun h' st' sb => ?_
      have I1 : Inv X pins σ H { s with heap := h', toks := s.toks + 1 } := I.turned (fun b o hb e => (sb.2 b hb).trans e) f0 f1 f3 f4 f5
      obtain ⟨o, e, c, d⟩ := id st'
      exact ⟨_, rfl, go_of (s := { s with heap := h', toks := s.toks + 1 }) e c d (by decide) ⟨.str ⟨#[x.cps[i]]⟩, H, I1, ⟨_, rfl⟩, ⟨rfl, _, by simp [hg'], rfl⟩, ⟨st', hg'⟩, fun b hb => (hf b hb).1⟩⟩
  done := by
    intro X hP hw hK hc i pins s σ H E I hf st hg
    subst hP hw hK
    obtain ⟨f0, f1, f2, f3, f4, f5⟩ := hf it (by simp)
    obtain ⟨st, _⟩ := st
    have hn : x.cps[i]? = none := by
      have hg' : x.cps.size ≤ i := hg
      simp [hg']
    rcases hty with rfl | rfl
    · exact wpAny_pyNext_ascii_end (I.ok.hd hc) st hn fun h' eb => ⟨rfl, I.turned (t' := s.toks) (fun b o hb e => eb b o hb e) f0 f1 f3 f4 f5⟩
    · exact wpAny_pyNext_wide_end (I.ok.hd hc) st hn fun h' eb => ⟨rfl, I.turned (t' := s.toks) (fun b o hb e => eb b o hb e) f0 f1 f3 f4 f5⟩
  self := fun _ _ _ _ _ st h => by
    obtain ⟨st, _⟩ := st
    rcases hty with rfl | rfl
    · exact wpAny_pyIter_striter_ascii st h
    · exact wpAny_pyIter_striter_wide st h
def iStr (tl : TE) : TI := fun σ H R => tl σ H fun x H1 => ∃ z, x = .str z ∧ R (Its z) H1
theorem pi_str {tg l : Expr} {tl : TE} (hl : PE X l tl) : PI X tg l (iStr tl) := by
  intro pins s σ H R I h
  refine thn (hl pins s σ H _ I h) fun v s1 ⟨x, H1, I1, r1, q1⟩ => ?_
  obtain ⟨z, e, q⟩ := q1
  subst e
  obtain ⟨t, rfl⟩ := r1
  have fin : ∀ (ty : String) (hty : ty = "str_ascii_iterator" ∨ ty = "str_iterator") (o : Obj), (s1.heap.push o).IsStrIter s1.heap.objs.size ty z t 0 → PIE X pins σ tg R (.ref s1.heap.objs.size) { s1 with heap := s1.heap.push o } := fun ty hty o st => by
    refine ⟨s1.heap.objs.size, [s1.heap.objs.size], _, _, H1, rfl, I1.kept (t' := s1.toks) fun b o e => Heap.get?_push_of_some _ e, turn_str_a _ z t ty hty, ⟨st, Nat.zero_le _⟩, fun b hb => ?_, q⟩
    have e : b = s1.heap.objs.size := by simpa using hb
    subst e
    exact I1.fpOk (Nat.le_refl _) (I1.hok.fresh (Nat.le_refl _))
  cases ha : z.cps.all (· < 128)
  · exact wpAny_pyIter_wide ha (fin _ (.inr rfl) _ ⟨_, Heap.get?_push_size _ rfl, rfl, rfl⟩)
  · exact wpAny_pyIter_ascii ha (fin _ (.inl rfl) _ ⟨_, Heap.get?_push_size _ rfl, rfl, rfl⟩)
end

/-! ### a call of what a name holds -/
section
variable {X : Cx} {CX : CXT} {k : Nat} {f : Addr} {fd : FuncData} {ps : List Str} {sp : Sp} {dvs : List V} {ds : List Value} {E : XK} {x : Str} {p pos : Pos} {e : Expr} {es : List Expr} {ta : TE} {t : TA}
def tCallV (f : Addr) (sp : Sp) (dvs : List V) (E : XK) (ta : TE) (t : TA) : TE := fun σ H Q => ta σ H fun x H1 => x = .ref f ∧ t σ H1 fun vs H2 => sp (vs ++ dvs) H2 Q E
theorem pe_callv (F : FnOk X.prog X.w X.K X.mg X.base CX k f fd ps sp) (hr : Room k X.A) (hf : PE X (.Name x p) ta) (hk : PySem.W.keepIn X.K (.ref f) = true) (hb : Binds X.K fd ps ds) (hd : Vals dvs ds) (hx : Passes CX X E)
    (ha : PA X (e :: es) t) (he : starEach (e :: es) X.env = (false, eval e X.env) :: starEach es X.env := by rfl) (hpl : (backTo pos (starEach es X.env)).any (·.1) = false := by rfl) :
    PE X (.Call (.Name x p) (e :: es) [] pos) (tCallV f sp dvs E ta t) := by
  intro pins s σ H Q I h
  refine wpAny_Call_Name_kw (thn (hf pins s σ H _ I h) fun v s1 ⟨y, H1, I1, r1, ey, q1⟩ => ?_)
  subst ey
  cases r1
  refine PySem.W.callWith_K (h₀ := X.base) I.ok.mod.kin hk (thn (ha pos pins s1 σ H1 _ I1 q1) fun us s2 ⟨vs, H2, I2, r, q⟩ => ⟨I2.kIn, ?_⟩) he hpl
  exact run_fn F hr hb hd hx I2 r q
end

/-! ### xs[a:b] = ys -/
section
variable {X : Cx} {o : Expr} {lo hi : Expr} {to tl th : TE} {pos p2 : Pos}
def gSlice (to tl th : TE) : TG := fun v σ H Q => to σ H fun x H1 => tl σ H1 fun i H2 => th σ H2 fun j H3 => ∃ l b xs ys a c, x = .ref l ∧ v = .ref b ∧ i = .int a ∧ j = .int c ∧ H3 l = some (.lst xs) ∧ H3 b = some (.lst ys) ∧ l ≠ b ∧ 0 ≤ a ∧ a ≤ c ∧ c ≤ xs.length ∧ xs.length + ys.length ≤ sizeLine ∧
  Q σ (upd H3 l (.lst (xs.take a.toNat ++ ys ++ xs.drop c.toNat)))
theorem pg_slice (ho : PE X o to) (hl : PE X lo tl) (hh : PE X hi th)
    (ha : ∀ v, assign (.Subscript o (.Slice (some lo) (some hi) none p2) pos) X.env v = (do
      let ov ← holding [v] (eval o X.env)
      let iv ← holding [v, ov] (eval (.Slice (some lo) (some hi) none p2) X.env)
      standAt pos
      holding [v, ov, iv] (setItem ov iv v)
      release [iv, v, ov] []) := by intro _; rfl) : PG X (.Subscript o (.Slice (some lo) (some hi) none p2) pos) (gSlice to tl th) := by
  intro pins s σ H v u Q I r h
  rw [ha]
  refine wpAny_bind (wpAny_holding (thn (ho pins s σ H _ I h) fun ov s1 ⟨x, H1, I1, r1, q1⟩ => ?_))
  refine wpAny_bind (wpAny_holding (wpAny_Slice ?_))
  rw [evalPart_some, evalPart_some, evalPart_none]
  refine thn (hl pins s1 σ H1 _ I1 q1) fun vl s2 ⟨i, H2, I2, r2, q2⟩ => thn (hh pins s2 σ H2 _ I2 q2) fun vu s3 ⟨j, H3, I3, r3, q3⟩ => wpAny_pure ?_
  obtain ⟨l, b, xs, ys, a, c, rfl, rfl, rfl, rfl, hH, hB, hne, h0, hac, hc, hz, q⟩ := q3
  cases r
  cases r1
  have I4 : Inv X pins σ H3 { s3 with heap := s3.heap.push { cls := .type "slice", data := .fields #[vl, vu, .none] } } := I3.kept (t' := s3.toks) fun b ob q => Heap.get?_push_of_some _ q
  refine wpAny_bind (wpAny_standAt (wpAny_bind (wpAny_holding (set_slice I4 hH hB hne (Heap.IsSliceOf.new ..) r2 r3 h0 hac hc hz fun s' I' => ?_))))
  exact wpAny_release ⟨σ, _, I', q⟩
end
end L2

set_option Elab.async false
set_option linter.all false
set_option maxRecDepth 100000
namespace L2
open PySem PySem.Spec PyProof.Rows

/-! ### heaps -/
def SameX (l : Addr) (H H' : Hp) : Prop := ∀ b u, b ≠ l → H b = some u → H' b = some u
theorem same_new {H : Hp} {p : Addr} (h : H p = none) (o : HO) : Same H (upd H p o) := fun b u q => by rw [upd_ne (ne_of_none q h)]; exact q
theorem samex_upd {H : Hp} {p : Addr} (o : HO) : SameX p H (upd H p o) := fun b u n q => by rw [upd_ne n]; exact q
theorem Same.x {H H' : Hp} (h : Same H H') (l : Addr) : SameX l H H' := fun b u _ q => h b u q
theorem SameX.trans {l : Addr} {H H1 H2 : Hp} (a : SameX l H H1) (b : SameX l H1 H2) : SameX l H H2 := fun c u n q => b c u n (a c u n q)
/-- tuples stay -/
def Tups (H H' : Hp) : Prop := ∀ b xs, H b = some (.tup xs) → H' b = some (.tup xs)
theorem Same.tups {H H' : Hp} (h : Same H H') : Tups H H' := fun b xs q => h b _ q
theorem SameX.tups {l : Addr} {H H' : Hp} {ys : List V} (h : SameX l H H') (hl : H l = some (.lst ys)) : Tups H H' := fun b xs q => h b _ (ne_of q hl (by intro z; cases z)) q
theorem SameX.tupsK {l : Addr} {H H' : Hp} {ys : List (Key × V)} (h : SameX l H H') (hl : H l = some (.dK ys)) : Tups H H' := fun b xs q => h b _ (ne_of q hl (by intro z; cases z)) q
theorem Tups.trans {H H1 H2 : Hp} (a : Tups H H1) (b : Tups H1 H2) : Tups H H2 := fun c xs q => b c xs (a c xs q)
theorem Tups.refl (H : Hp) : Tups H H := fun _ _ q => q

/-! ### rules whose heap is a letter -/
def newO (H : Hp) (o : HO) (Q : VK) : Prop := ∀ p H', Same H H' → H' p = some o → H p = none → Q (.ref p) H'
theorem newO.at {H : Hp} {o : HO} {Q : VK} (h : newO H o Q) (p : Addr) (hp : H p = none) : Q (.ref p) (upd H p o) := h p _ (same_new hp o) upd_same hp
def updO (H : Hp) (l : Addr) (o : HO) (Q : Hp → Prop) : Prop := ∀ H', SameX l H H' → H' l = some o → Q H'
theorem updO.at {H : Hp} {l : Addr} {o : HO} {Q : Hp → Prop} (h : updO H l o Q) : Q (upd H l o) := h _ (samex_upd o) upd_same

theorem OpR.mono {X : Cx} {f : Value → Value → Sem Value} {r r' : R2} (h : OpR X f r) (hr : ∀ x y H Q, r' x y H Q → r x y H Q) : OpR X f r' := fun pins s σ H x y v u Q I rx ry q => h pins s σ H x y v u Q I rx ry (hr _ _ _ _ q)
theorem CallR.mono {X : Cx} {f : Value} {r r' : List V → Hp → VK → Prop} (h : CallR X f r) (hr : ∀ xs H Q, r' xs H Q → r xs H Q) : CallR X f r' := fun pins s σ H xs us Q I rx q => h pins s σ H xs us Q I rx (hr _ _ _ q)
theorem MtM.mono {X : Cx} {id : String} {r r' : V → List V → Hp → VK → Prop} (h : MtM X id r) (hr : ∀ x xs H Q, r' x xs H Q → r x xs H Q) : MtM X id r' := fun pins s σ H x xs v us Q I rx rv q => h pins s σ H x xs v us Q I rx rv (hr _ _ _ _ q)
theorem PSet.mono {X : Cx} {r r' : TSet} (h : PSet X r) (hr : ∀ o i v H Q, r' o i v H Q → r o i v H Q) : PSet X r' := fun pins s σ H o i v ov iv u Q I ro ri rv q => h pins s σ H o i v ov iv u Q I ro ri rv (hr _ _ _ _ _ q)
theorem SlR.mono {X : Cx} {r r' : V → Option Int → Option Int → Hp → VK → Prop} (h : SlR X r) (hr : ∀ x lo hi H Q, r' x lo hi H Q → r x lo hi H Q) : SlR X r' := fun pins s σ H x v vl vu lo hi sl Q I rx hs pl pu q => h pins s σ H x v vl vu lo hi sl Q I rx hs pl pu (hr _ _ _ _ _ q)

section
variable {X : Cx} {e o : Expr} {es : List Expr} {te : TE} {t : TA} {pos : Pos}
def tTupN (t : TA) : TE := fun σ H Q => t σ H fun xs H1 => xs.length ≤ sizeLine ∧ newO H1 (.tup xs) Q
def tLstN (t : TA) : TE := fun σ H Q => t σ H fun xs H1 => xs.length ≤ sizeLine ∧ newO H1 (.lst xs) Q
theorem pe_tupN {x1} (h : PA X es t) : PE X (.Tuple es x1 pos) (tTupN t) := by
  intro pins s σ H Q I hq
  refine wpAny_Tuple_spliced (thn (h pos pins s σ H _ I hq) fun us s1 ⟨xs, H1, I1, r, z, q⟩ => ⟨by rw [← r.length]; exact z, ?_⟩)
  have hf : H1 s1.heap.objs.size = none := I1.hok.fresh (Nat.le_refl _)
  refine ⟨.ref s1.heap.objs.size, upd H1 s1.heap.objs.size (.tup xs), I1.laid (t' := s1.toks) (fun b u e => Heap.get?_push_of_some _ e) (Nat.le_refl _) ?_, rfl, q.at _ hf⟩
  exact ⟨z, us, r, ⟨_, Heap.get?_push_size _ rfl, rfl, _, rfl⟩⟩
theorem pe_lstN (h : PA X es t) : PE X (.List es pos) (tLstN t) := by
  intro pins s σ H Q I hq
  refine wpAny_List_spliced (thn (h pos pins s σ H _ I hq) fun us s1 ⟨xs, H1, I1, r, z, q⟩ => ⟨by rw [← r.length]; exact z, ?_⟩)
  have hf : H1 s1.heap.objs.size = none := I1.hok.fresh (Nat.le_refl _)
  refine ⟨.ref s1.heap.objs.size, upd H1 s1.heap.objs.size (.lst xs), I1.laid (t' := s1.toks) (fun b u e => Heap.get?_push_of_some _ e) (Nat.le_refl _) ?_, rfl, q.at _ hf⟩
  exact ⟨z, us, 0, r, Heap.get?_push_size _ rfl⟩
def tDictN : TE := fun _ H Q => newO H (.dK []) Q
theorem pe_dictN : PE X (.Dict [] [] pos) tDictN := fun pins s σ H Q I h => pe_dnewK pins s σ H Q I fun p hp => h.at p hp

/-- a + b: ints, texts, lists, tuples -/
def rPlus (K : PySem.W.Frag) : R2 := fun x y H Q => match x with
  | .int i => ∃ j, y = .int j ∧ Q (.int (i + j)) H
  | .str i => ∃ j, y = .str j ∧ i.length + j.length ≤ sizeLine ∧ Q (.str (i ++ j)) H
  | .ref a => (∃ b xs zs, y = .ref b ∧ H a = some (.lst xs) ∧ H b = some (.lst zs) ∧ xs.length + zs.length ≤ sizeLine ∧ newO H (.lst (xs ++ zs)) Q) ∨ rCatT K x y H Q
  | _ => False
theorem op_addA : OpR X (binaryOp .Add) (rPlus X.K) := by
  refine ((op_add.or op_add_str).or (op_cat.or op_catT)).mono fun x y H Q h => ?_
  unfold rPlus at h
  cases x with
  | int i => obtain ⟨j, rfl, q⟩ := h; exact .inl (.inl ⟨i, j, rfl, rfl, q⟩)
  | str i => obtain ⟨j, rfl, hl, q⟩ := h; exact .inl (.inr ⟨i, j, rfl, rfl, hl, q⟩)
  | ref a =>
    rcases h with ⟨b, xs, zs, rfl, h1, h2, hz, q⟩ | h
    · exact .inr (.inl ⟨a, b, xs, zs, rfl, rfl, h1, h2, hz, fun p hp => q.at p hp⟩)
    · exact .inr (.inr h)
  | _ => exact h.elim
theorem op_mulA : OpR X (binaryOp .Mult) (rI IntMulOk fun i j => .int (i * j)) := opI fun _ _ _ _ _ _ _ hc q => mul_int q hc

def rSlLN (K : PySem.W.Frag) : V → Option Int → Option Int → Hp → VK → Prop := fun x lo hi H Q => ∃ a xs, x = .ref a ∧ SqL K H a xs ∧ newO H (.lst (cutV xs lo hi)) Q
theorem sl_listN : SlR X (rSlLN X.K) := sl_list.mono fun x lo hi H Q ⟨a, xs, e, h, q⟩ => ⟨a, xs, e, h, fun p hp => q.at p hp⟩
theorem call_listN : CallR X (.type "list") (fun xs H Q => ∃ p ys, xs = [.ref p] ∧ (SqL X.K H p ys ∨ SqT X.K H p ys) ∧ newO H (.lst ys) Q) := call_list_of.mono fun xs H Q ⟨p, ys, e, h, q⟩ => ⟨p, ys, e, h, fun l hl => q.at l hl⟩
theorem call_tupleN : CallR X (.type "tuple") (fun xs H Q => ∃ p ys, xs = [.ref p] ∧ SqL X.K H p ys ∧ newO H (.tup ys) Q) := call_tuple_of.mono fun xs H Q ⟨p, ys, e, h, q⟩ => ⟨p, ys, e, .inl ⟨h, fun l hl => q.at l hl⟩⟩
def rAppendN : V → List V → Hp → VK → Prop := fun x vs H Q => ∃ l xs y, x = .ref l ∧ vs = [y] ∧ H l = some (.lst xs) ∧ xs.length < sizeLine ∧ updO H l (.lst (xs ++ [y])) (Q .non)
theorem mt_appendN : MtM X "list.append" rAppendN := mt_append.mono fun x xs H Q ⟨l, ys, y, e1, e2, h, hz, q⟩ => ⟨l, ys, y, e1, e2, h, hz, q.at⟩
def rExtendTN (K : PySem.W.Frag) : V → List V → Hp → VK → Prop := fun x vs H Q => ∃ l b xs zs, x = .ref l ∧ vs = [.ref b] ∧ H l = some (.lst xs) ∧ SqT K H b zs ∧ xs.length + zs.length ≤ sizeLine ∧ updO H l (.lst (xs ++ zs)) (Q .non)
theorem mt_extendTN : MtM X "list.extend" (rExtendTN X.K) := mt_extendT.mono fun x xs H Q ⟨l, b, ys, zs, e1, e2, h1, h2, hz, q⟩ => ⟨l, b, ys, zs, e1, e2, h1, h2, hz, q.at⟩
def rPopN : V → List V → Hp → VK → Prop := fun x vs H Q => ∃ l xs y, x = .ref l ∧ vs = [] ∧ H l = some (.lst (xs ++ [y])) ∧ updO H l (.lst xs) (Q y)
theorem mt_popN : MtM X "list.pop" rPopN := mt_pop.mono fun x xs H Q ⟨l, ys, y, e1, e2, h, q⟩ => ⟨l, ys ++ [y], y, e1, e2, h, by simp, by rw [List.dropLast_concat]; exact q.at⟩
def rSetLN : TSet := fun o i v H Q => ∃ p xs k j, o = .ref p ∧ i = .int k ∧ H p = some (.lst xs) ∧ ixN xs.length k = some j ∧ updO H p (.lst (xs.set j v)) Q
theorem set_listN : PSet X rSetLN := set_list.mono fun o i v H Q ⟨p, xs, k, j, e1, e2, h, hj, q⟩ => ⟨p, xs, k, j, e1, e2, h, hj, q.at⟩
def rSetDN : TSet := fun o i v H Q => ∃ p kvs k, o = .ref p ∧ i = kV k ∧ H p = some (.dK kvs) ∧ kvs.length < sizeLine ∧ updO H p (.dK (putK kvs k v)) Q
theorem set_dictN (hu : X.A.units + 1 < cLine) : PSet X rSetDN := fun pins s σ H o i v ov iv u Q I ro ri rv h => by
  obtain ⟨p, kvs, k, rfl, rfl, hp, hz, q⟩ := h
  cases ro
  exact d_setItem hu I (DPut.k hp hz) ri rv fun s' I' => ⟨_, I', q.at⟩
theorem op_inD (hu : X.A.units + 1 < cLine) : OpR X (compareOp .In) (fun x y H Q => ∃ a kvs k, x = kV k ∧ y = .ref a ∧ H a = some (.dK kvs) ∧ Q (.bl (valV kvs k).isSome) H) := fun pins s σ H x y v u Q I rx ry h => by
  obtain ⟨a, kvs, k, rfl, rfl, ha, q⟩ := h
  cases ry
  exact d_in hu I (DGet.k ha) rx fun s' I' => ⟨.bl (valV kvs k).isSome, H, I', rfl, q⟩
end

/-! ### the rules with the written part as a letter -/
section
variable {X : Cx} (K : PySem.W.Frag) (hK : X.K = K) {a e o : Expr} {es : List Expr} {ta to : TE} {t : TA} {pos : Pos} {name : Str} {apos cpos : Pos} {T idn : String} {r : V → List V → Hp → VK → Prop} {tg l : Expr} {tl : TE}
include hK
theorem ix_seqk : IxR X (rIx K) := hK ▸ ix_seq
theorem op_addk : OpR X (binaryOp .Add) (rPlus K) := hK ▸ op_addA
theorem sl_listk : SlR X (rSlLN K) := hK ▸ sl_listN
theorem mt_extendTk : MtM X "list.extend" (rExtendTN K) := hK ▸ mt_extendTN
def rLen (K : PySem.W.Frag) : List V → Hp → VK → Prop := fun xs H Q => ∃ x n, xs = [x] ∧ LenV K x H n ∧ Q (.int n) H
theorem call_lenk : CallR X (.builtin "len") (rLen K) := hK ▸ call_len
def rIsi (K : PySem.W.Frag) : List V → Hp → VK → Prop := fun xs H Q => ∃ x c t b, xs = [x, .ty c] ∧ TyOf K H x t ∧ PySem.W.kitOne K t (.type c) = some b ∧ Q (.bl b) H
theorem call_isik : CallR X (.builtin "isinstance") (rIsi K) := hK ▸ call_isinst
def rListC (K : PySem.W.Frag) : List V → Hp → VK → Prop := fun xs H Q => ∃ p ys, xs = [.ref p] ∧ (SqL K H p ys ∨ SqT K H p ys) ∧ newO H (.lst ys) Q
theorem call_listk : CallR X (.type "list") (rListC K) := hK ▸ call_listN
def rTupC (K : PySem.W.Frag) : List V → Hp → VK → Prop := fun xs H Q => ∃ p ys, xs = [.ref p] ∧ SqL K H p ys ∧ newO H (.tup ys) Q
theorem call_tuplek : CallR X (.type "tuple") (rTupC K) := hK ▸ call_tupleN
def rAllB (K : PySem.W.Frag) : List V → Hp → VK → Prop := fun xs H Q => ∃ (p : Addr) (bs : List Bool), xs = [.ref p] ∧ SqL K H p (bs.map V.bl) ∧ Q (.bl (bs.all id)) H
theorem call_allk (hc : X.calm = true) : CallR X (.builtin "all") (rAllB K) := hK ▸ call_all_l hc
def rAnyB (K : PySem.W.Frag) : List V → Hp → VK → Prop := fun xs H Q => ∃ (p : Addr) (bs : List Bool), xs = [.ref p] ∧ SqL K H p (bs.map V.bl) ∧ Q (.bl (bs.any id)) H
theorem call_anyk (hc : X.calm = true) : CallR X (.builtin "any") (rAnyB K) := hK ▸ call_any_l hc
theorem op_ink : OpR X (compareOp .In) (rIn K false) := hK ▸ op_in_seq
theorem op_notInk : OpR X (compareOp .NotIn) (rIn K true) := hK ▸ op_notIn_seq
def rNeNil (K : PySem.W.Frag) : R2 := fun x y H Q => ∃ p q xs, x = .ref p ∧ y = .ref q ∧ SqL K H p xs ∧ SqL K H q [] ∧ Q (.bl (!xs.isEmpty)) H
theorem op_ne_nilk (hu : X.A.units < cLine) : OpR X (compareOp .NotEq) (rNeNil K) := hK ▸ op_ne_nil hu
def tTru (K : PySem.W.Frag) (ta : TE) : TT := fun σ H Q => ta σ H fun x H' => ∃ k, TruV K x H' k ∧ Q k H'
theorem pt_truthk (ha : PE X a ta) (he : ∀ whole, isTrue a X.env whole = (do let v ← whole; standAt a.pos; holding [v] (truthy v))) : PT X a (tTru K ta) := hK ▸ pt_truth ha he
theorem pi_listk (hl : PE X l tl) : PI X tg l (iList K tl) := hK ▸ pi_list hl
theorem pi_tupk (hl : PE X l tl) : PI X tg l (iTup K tl) := hK ▸ pi_tup hl
theorem pe_bm0k (pa : PlainAttrs T) (slot : Slot T name idn) (hty : typeOf (.builtin idn) = pure (.type "method_descriptor")) (hm : MtR X idn r) (ho : PE X o to)
    (hbase : attributeBase o name X.env (eval o X.env) = eval o X.env := by rfl) (hline : (apos.endLine == cpos.line) = true := by rfl) : PE X (.Call (.Attribute o name apos) [] [] cpos) (tBM0 K T r to) := hK ▸ pe_bm0 pa slot hty hm ho hbase hline
theorem pe_bmk (pa : PlainAttrs T) (slot : Slot T name idn) (hty : typeOf (.builtin idn) = pure (.type "method_descriptor")) (hm : MtR X idn r) (ho : PE X o to) (ha : PA X (e :: es) t)
    (hbase : attributeBase o name X.env (eval o X.env) = eval o X.env := by rfl)
    (hfew : ((backTo cpos (starEach (e :: es) X.env)).all (fun x => !x.1) && (backToKw cpos (keywordEach [] X.env)).all (fun x => x.1.isSome)
      && decide ((e :: es).length + ([] : List Keyword).length + (if ([] : List Keyword).isEmpty then 0 else 1) < 30)) = true := by rfl)
    (hline : (apos.endLine == cpos.line) = true := by rfl) (hs : starEach (e :: es) X.env = (false, eval e X.env) :: starEach es X.env := by rfl) (hplain : (backTo cpos (starEach es X.env)).any (·.1) = false := by rfl) :
    PE X (.Call (.Attribute o name apos) (e :: es) [] cpos) (tBM K T r to t) := hK ▸ pe_bm pa slot hty hm ho ha hbase hfew hline hs hplain
omit hK
theorem op_mulS : OpR X (binaryOp .Mult) (fun x y H Q => ∃ i n, x = .str i ∧ y = .int n ∧ MulOk i n ∧ Q (.str (Txt.mul i n)) H) := by
  intro pins s σ H x y v u Q I rx ry h
  obtain ⟨i, n, rfl, rfl, hm, q⟩ := h
  obtain ⟨t, rfl⟩ := rx
  obtain ⟨t', rfl⟩ := ry
  exact SB.mul hm fun t' k => ⟨.str _, H, I.tok _, ⟨_, rfl⟩, q⟩
end

/-! ### a def of the text as its callers see it -/
structure Cal (P : Program) (w : World) (K : PySem.W.Frag) (mg : Str → Option Value) (base : Heap) (x : Str) (k : Nat) (ps : List Str) (sp : Sp) where
  f : Addr
  fd : FuncData
  ok : FnOk P w K mg base CX0 k f fd ps sp
  bi : Binds K fd ps []
  kp : PySem.W.keepIn K (.ref f) = true
  at' : mg x = some (.ref f)
section
variable {X : Cx} {k k' : Nat} {ps : List Str} {sp : Sp} {x : Str} {p pos : Pos} {e : Expr} {es : List Expr} {t : TA} {ta : TE}
def tCalC (sp : Sp) (t : TA) : TE := fun σ H Q => t σ H fun vs H1 => sp vs H1 Q E0
theorem pe_cal (G : Cal X.prog X.w X.K X.mg X.base x k ps sp) (hr : Room k' X.A) (hk : k ≤ k') (hg : Gl X x) (ha : PA X (e :: es) t) (hdb : (x == ("__debug__" : Str)) = false := by decide)
    (he : starEach (e :: es) X.env = (false, eval e X.env) :: starEach es X.env := by rfl) (hpl : (backTo pos (starEach es X.env)).any (·.1) = false := by rfl) :
    PE X (.Call (.Name x p) (e :: es) [] pos) (tCalC sp t) := by
  intro pins s σ H Q I h
  refine wpAny_Call_Name_kw (ld_glob I hg G.at' ?_ hdb)
  refine PySem.W.callWith_K (h₀ := X.base) I.ok.mod.kin G.kp (thn (ha pos pins s σ H _ I h) fun us s1 ⟨vs, H1, I1, r, q⟩ => ⟨I1.kIn, ?_⟩) he hpl
  refine run_fn (dvs := []) (ds := []) G.ok (hr.mono hk) G.bi .nil pass0 I1 r ?_
  rw [List.append_nil]
  exact q
/-- .. the name's value is the def -/
def tCalV (f : Addr) (sp : Sp) (ta : TE) (t : TA) : TE := fun σ H Q => ta σ H fun x H1 => x = .ref f ∧ t σ H1 fun vs H2 => sp vs H2 Q E0
theorem pe_calv {x' : Str} (G : Cal X.prog X.w X.K X.mg X.base x' k ps sp) (hr : Room k' X.A) (hk : k ≤ k') (hf : PE X (.Name x p) ta) (ha : PA X (e :: es) t)
    (he : starEach (e :: es) X.env = (false, eval e X.env) :: starEach es X.env := by rfl) (hpl : (backTo pos (starEach es X.env)).any (·.1) = false := by rfl) :
    PE X (.Call (.Name x p) (e :: es) [] pos) (tCalV G.f sp ta t) := by
  intro pins s σ H Q I h
  refine pe_callv (dvs := []) (ds := []) (E := E0) G.ok (hr.mono hk) hf G.kp G.bi .nil pass0 ha he hpl pins s σ H Q I ?_
  unfold tCallV
  unfold tCalV at h
  simp only [List.append_nil]
  exact h
theorem pe_def (G : Cal X.prog X.w X.K X.mg X.base x k ps sp) (hg : Gl X x) (hdb : (x == ("__debug__" : Str)) = false := by decide) : PE X (.Name x p) (tC (.ref G.f)) := pe_glob hg G.at' rfl hdb
end

/-! ### loops -/
def ForJ (J : It) (g : TG) (tb : TS) (D : Ends) (σ : St) (H1 : Hp) : Prop := ∃ W : Nat → Nat → St → Hp → Prop, (∃ m, W 0 m σ H1) ∧ ∀ i m σ H, W i m σ H →
  (J.stop i H ∧ D.nx σ H) ∨ (J.go i H ∧ ∃ N : St → Hp → Prop, (∀ σ' H', N σ' H' → ∃ m', m' < m ∧ W (i + 1) m' σ' H') ∧ ∀ x H', J.yld i H x H' → g x σ H' fun σ2 H2 => tb { D with nx := N, ct := N, bk := D.nx } σ2 H2)
section
variable {g : TG} {tb : TS} {D : Ends} {σ : St} {H : Hp}
theorem forR_by {lo : Int} {n : Nat} (Pv : Nat → St → Hp → Prop) (h0 : Pv 0 σ H)
    (hs : ∀ i σ H, i < n → Pv i σ H → g (.int (lo + i)) σ H fun σ2 H2 => tb { D with nx := Pv (i + 1), ct := Pv (i + 1), bk := D.nx } σ2 H2) (hd : ∀ σ H, Pv n σ H → D.nx σ H) : ForJ (Itr lo n) g tb D σ H := for_range Pv h0 hs hd
theorem forL_by {K : PySem.W.Frag} {a : Addr} {xs : List V} (Pv : Nat → St → Hp → Prop) (h0 : Pv 0 σ H) (hl : ∀ i σ H, i ≤ xs.length → Pv i σ H → SqL K H a xs)
    (hs : ∀ i x σ H, xs[i]? = some x → Pv i σ H → g x σ H fun σ2 H2 => tb { D with nx := Pv (i + 1), ct := Pv (i + 1), bk := D.nx } σ2 H2) (hd : ∀ σ H, Pv xs.length σ H → D.nx σ H) : ForJ (Itl K a) g tb D σ H := for_list Pv h0 hl hs hd
theorem forT_by {K : PySem.W.Frag} {a : Addr} {xs : List V} (Pv : Nat → St → Hp → Prop) (h0 : Pv 0 σ H) (hl : ∀ i σ H, i ≤ xs.length → Pv i σ H → SqT K H a xs)
    (hs : ∀ i x σ H, xs[i]? = some x → Pv i σ H → g x σ H fun σ2 H2 => tb { D with nx := Pv (i + 1), ct := Pv (i + 1), bk := D.nx } σ2 H2) (hd : ∀ σ H, Pv xs.length σ H → D.nx σ H) : ForJ (Itt K a) g tb D σ H := for_tup Pv h0 hl hs hd
end
def LcJ (ix : List (Option Nat)) (J : It) (g : TG) (tf : TT) (te : TE) (σ : St) (Q : VK) (H1 : Hp) : Prop := ∀ D, H1 D = none → ∃ W : Nat → Nat → St → List V → Hp → Prop,
  (∃ m, W 0 m (blkSt ix σ) [] (upd H1 D (.lst []))) ∧ ∀ i m σ' ys H, W i m σ' ys H → H D = some (.lst ys) ∧
    ((J.stop i H ∧ Q (.ref D) H) ∨ (J.go i H ∧ ∀ x H', J.yld i H x H' → g x σ' H' fun σ2 H2 => tf σ2 H2 fun b H3 =>
      if b = true then te σ2 H3 fun y H4 => H4 D = some (.lst ys) ∧ ys.length + 1 ≤ sizeLine ∧ ∃ m', m' < m ∧ W (i + 1) m' σ2 (ys ++ [y]) (upd H4 D (.lst (ys ++ [y]))) else ∃ m', m' < m ∧ W (i + 1) m' σ2 ys H3))

/-! ### the reading's rules -/
section
variable {t u : TS} {D : Ends} {σ : St} {H : Hp} {te ta tb : TE} {tA tB' : TT} {g : TG} {Q : VK} {QT : Bool → Hp → Prop} {QA : List V → Hp → Prop} {QS : St → Hp → Prop} {i : Nat} {v : V} {ts : TA}
theorem rd_seq (h : t { D with nx := u D } σ H) : tSeq t u D σ H := h
theorem rd_next (h : D.nx σ H) : tNext D σ H := h
theorem rd_asg (h : te σ H fun x H1 => g x σ H1 D.nx) : tAsg te g D σ H := h
theorem rd_name (h : QS (σ.set i (some v)) H) : gName i v σ H QS := h
theorem rd_var (e : σ[i]? = some (some v)) (h : Q v H) : tVar i σ H Q := ⟨v, e, h⟩
theorem rd_c (h : Q v H) : tC v σ H Q := h
theorem rd_op {r : R2} (h : ta σ H fun x H1 => tb σ H1 fun y H2 => r x y H2 Q) : tOp r ta tb σ H Q := h
theorem rd_un {r : V → Hp → VK → Prop} (h : ta σ H fun x H1 => r x H1 Q) : tUn r ta σ H Q := h
theorem rd_I0 {f : Int → Int → V} {a b : Int} (h : Q (f a b) H) : rI0 f (.int a) (.int b) H Q := ⟨a, b, rfl, rfl, h⟩
theorem rd_I {C : Int → Int → Prop} {f : Int → Int → V} {a b : Int} (c : C a b) (h : Q (f a b) H) : rI C f (.int a) (.int b) H Q := ⟨a, b, rfl, rfl, c, h⟩
theorem rd_ret (h : te σ H D.rt) : tRet te D σ H := h
theorem rd_drop (h : te σ H fun _ H1 => D.nx σ H1) : tDrop te D σ H := h
theorem rd_ifs (h : tA σ H fun b H1 => if b = true then t D σ H1 else u D σ H1) : tIfS tA t u D σ H := h
theorem rd_test (h : te σ H fun x H' => ∃ k, x = .bl k ∧ QT k H') : tTest te σ H QT := h
theorem rd_tB (h : te σ H fun x H' => ∃ k, x = .bl k ∧ QT k H') : tB te σ H QT := h
theorem rd_and (h : tA σ H fun c H1 => if c = true then tB' σ H1 QT else QT false H1) : tAnd tA tB' σ H QT := h
theorem rd_or (h : tA σ H fun c H1 => if c = true then QT true H1 else tB' σ H1 QT) : tOr tA tB' σ H QT := h
theorem rd_not (h : tA σ H fun c H1 => QT (!c) H1) : tNot tA σ H QT := h
theorem rd_andV (h : ta σ H fun x H1 => ∃ c, x = .bl c ∧ if c = true then tb σ H1 Q else Q (.bl false) H1) : tAndV ta tb σ H Q := h
theorem rd_orV (h : ta σ H fun x H1 => ∃ c, x = .bl c ∧ if c = true then Q (.bl true) H1 else tb σ H1 Q) : tOrV ta tb σ H Q := h
theorem rd_notV (h : ta σ H fun x H1 => ∃ c, x = .bl c ∧ Q (.bl (!c)) H1) : tNotV ta σ H Q := h
theorem rd_if (h : tA σ H fun c H1 => if c = true then ta σ H1 Q else tb σ H1 Q) : tIf tA ta tb σ H Q := h
theorem rd_nil (h : QA [] H) : tNil σ H QA := h
theorem rd_cons (h : ta σ H fun x H1 => ts σ H1 fun xs H2 => QA (x :: xs) H2) : tCons ta ts σ H QA := h
theorem rd_tup (h : ts σ H fun xs H1 => xs.length ≤ sizeLine ∧ newO H1 (.tup xs) Q) : tTupN ts σ H Q := h
theorem rd_lst (h : ts σ H fun xs H1 => xs.length ≤ sizeLine ∧ newO H1 (.lst xs) Q) : tLstN ts σ H Q := h
theorem rd_dict (h : newO H (.dK []) Q) : tDictN σ H Q := h
theorem rd_cb {r : List V → Hp → VK → Prop} (h : ts σ H fun vs H1 => r vs H1 Q) : tCB r ts σ H Q := h
theorem rd_cal {sp : Sp} (h : ts σ H fun vs H1 => sp vs H1 Q E0) : tCalC sp ts σ H Q := h
theorem rd_for {wi : TI} {tb : TS} (h : wi σ H fun J H1 => ForJ J g tb D σ H1) : tFor wi g tb D σ H := h
theorem rd_bl {k : Bool} {R : Bool → Prop} (h : R k) : ∃ c, V.bl k = .bl c ∧ R c := ⟨k, rfl, h⟩
theorem rd_bm0 {K : PySem.W.Frag} {T : String} {r : V → List V → Hp → VK → Prop} (h : te σ H fun x H1 => tyV K T x H1 ∧ r x [] H1 Q) : tBM0 K T r te σ H Q := h
theorem rd_bm {K : PySem.W.Frag} {T : String} {r : V → List V → Hp → VK → Prop} (h : te σ H fun x H1 => tyV K T x H1 ∧ ts σ H1 fun xs H2 => r x xs H2 Q) : tBM K T r te ts σ H Q := h
theorem rd_ix {K : PySem.W.Frag} {x y : V} (h : (rIxL K x y H Q ∨ rIxT K x y H Q ∨ rIxS x y H Q)) : rIx K x y H Q := h
theorem rd_sub {to ti : TE} {tt : TSet} (h : to σ H fun o H1 => ti σ H1 fun i H2 => tt o i v H2 fun H3 => QS σ H3) : gSub to ti tt v σ H QS := h
theorem rd_chain {r r' : R2} {tc : TE} (h : ta σ H fun x H1 => tb σ H1 fun y H2 => r x y H2 fun z H3 => ∃ k, z = .bl k ∧ (if k = true then tc σ H3 fun w' H4 => r' y w' H4 Q else Q (.bl false) H3)) : tChain r r' ta tb tc σ H Q := h
theorem rd_addI {K : PySem.W.Frag} {a b : Int} (h : Q (.int (a + b)) H) : rPlus K (.int a) (.int b) H Q := ⟨b, rfl, h⟩
theorem rd_addS {K : PySem.W.Frag} {a b : Str} (hl : a.length + b.length ≤ sizeLine) (h : Q (.str (a ++ b)) H) : rPlus K (.str a) (.str b) H Q := ⟨b, rfl, hl, h⟩
theorem rd_addL {K : PySem.W.Frag} {a b : Addr} {xs zs : List V} (h1 : H a = some (.lst xs)) (h2 : H b = some (.lst zs)) (hz : xs.length + zs.length ≤ sizeLine) (h : newO H (.lst (xs ++ zs)) Q) : rPlus K (.ref a) (.ref b) H Q := .inl ⟨b, xs, zs, rfl, h1, h2, hz, h⟩
theorem rd_ixL {K : PySem.W.Frag} {a : Addr} {n : Int} {xs : List V} (h1 : SqL K H a xs) (h2 : atI xs n = some v) (h : Q v H) : rIx K (.ref a) (.int n) H Q := .inl ⟨a, xs, n, v, rfl, rfl, h1, h2, h⟩
theorem rd_ixT {K : PySem.W.Frag} {a : Addr} {n : Int} {xs : List V} (h1 : SqT K H a xs) (h2 : atI xs n = some v) (h : Q v H) : rIx K (.ref a) (.int n) H Q := .inr (.inl ⟨a, xs, n, v, rfl, rfl, h1, h2, h⟩)
theorem rd_ixS {K : PySem.W.Frag} {z : Str} {n : Int} {c : Nat} (h1 : z.length ≤ sizeLine) (h2 : atI z.cps.toList n = some c) (h : Q (.str ⟨#[c]⟩) H) : rIx K (.str z) (.int n) H Q := .inr (.inr ⟨z, n, c, rfl, rfl, h1, h2, h⟩)
end

section
variable {σ : St} {H : Hp} {Q : VK} {v : V} {D : Ends} {ts : TA} {te ta : TE} {QS : St → Hp → Prop} {R : It → Hp → Prop}
theorem rd_par {i j : Nat} (h : ts σ H fun vs H1 => ∃ v w, vs = [v, w] ∧ D.nx ((σ.set i (some v)).set j (some w)) H1) : tPar i j ts D σ H := h
theorem rd_rng1 (h : ts σ H fun vs H1 => ∃ j : Int, vs = [.int j] ∧ -(2 ^ 62) ≤ j ∧ j < 2 ^ 62 ∧ R (Itr 0 j.toNat) H1) : iRng1 ts σ H R := h
theorem rd_rng2 (h : ts σ H fun vs H1 => ∃ i j : Int, vs = [.int i, .int j] ∧ (-(2 ^ 62) ≤ i ∧ i < 2 ^ 62 ∧ -(2 ^ 62) ≤ j ∧ j < 2 ^ 62) ∧ R (Itr i (j - i).toNat) H1) : iRng2 ts σ H R := h
theorem rd_ilist {K : PySem.W.Frag} (h : te σ H fun x H1 => ∃ a, x = .ref a ∧ (∃ xs, SqL K H1 a xs) ∧ R (Itl K a) H1) : iList K te σ H R := h
theorem rd_itup {K : PySem.W.Frag} (h : te σ H fun x H1 => ∃ a, x = .ref a ∧ (∃ xs, SqT K H1 a xs) ∧ R (Itt K a) H1) : iTup K te σ H R := h
theorem rd_istr (h : te σ H fun x H1 => ∃ z, x = .str z ∧ R (Its z) H1) : iStr te σ H R := h
theorem rd_sl {r : V → Option Int → Option Int → Hp → VK → Prop} {tl th : TO} (h : te σ H fun x H1 => tl σ H1 fun l H2 => th σ H2 fun u H3 => r x l u H3 Q) : tSl r te tl th σ H Q := h
theorem rd_part {QO : Option Int → Hp → Prop} (h : te σ H fun x H1 => ∃ i, x = .int i ∧ QO (some i) H1) : tPart te σ H QO := h
theorem rd_nopart {QO : Option Int → Hp → Prop} (h : QO none H) : tNoPart σ H QO := h
theorem rd_slice {to tl th : TE} (h : to σ H fun x H1 => tl σ H1 fun i H2 => th σ H2 fun j H3 => ∃ l b xs ys a c, x = .ref l ∧ v = .ref b ∧ i = .int a ∧ j = .int c ∧ H3 l = some (.lst xs) ∧ H3 b = some (.lst ys) ∧ l ≠ b ∧ 0 ≤ a ∧ a ≤ c ∧ c ≤ xs.length ∧ xs.length + ys.length ≤ sizeLine ∧
  QS σ (upd H3 l (.lst (xs.take a.toNat ++ ys ++ xs.drop c.toNat)))) : gSlice to tl th v σ H QS := h
theorem rd_calv {f : Addr} {sp : Sp} (h : ta σ H fun x H1 => x = .ref f ∧ ts σ H1 fun vs H2 => sp vs H2 Q E0) : tCalV f sp ta ts σ H Q := h
theorem rd_lc {ix : List (Option Nat)} {wi : TI} {g : TG} {tf : TT} (h : wi σ H fun J H1 => LcJ ix J g tf te σ Q H1) : tLc ix wi g tf te σ H Q := h
theorem rd_tru {K : PySem.W.Frag} {QT : Bool → Hp → Prop} (h : ta σ H fun x H' => ∃ k, TruV K x H' k ∧ QT k H') : tTru K ta σ H QT := h
theorem rd_all {QT : Bool → Hp → Prop} (h : QT true H) : tAll σ H QT := h
theorem atI_lt {α : Type} {xs : List α} {i : Int} (h0 : 0 ≤ i) (h1 : i < xs.length) : ∃ v, atI xs i = some v ∧ xs[i.toNat]? = some v := by
  have hk : i.toNat < xs.length := by omega
  have q : atI xs ((i.toNat : Nat) : Int) = some xs[i.toNat] := atI_nat (by rw [List.getElem?_eq_getElem hk])
  have e : ((i.toNat : Nat) : Int) = i := by omega
  rw [e] at q
  exact ⟨_, q, by rw [List.getElem?_eq_getElem hk]⟩
theorem rd_setL {p : Addr} {xs : List V} {k : Int} {j : Nat} {QH : Hp → Prop} (h1 : H p = some (.lst xs)) (hj : ixN xs.length k = some j) (h : ∀ H', SameX p H H' → H' p = some (.lst (xs.set j v)) → QH H') : rSetLN (.ref p) (.int k) v H QH := ⟨p, xs, k, j, rfl, rfl, h1, hj, h⟩
theorem rd_setD {p : Addr} {kvs : List (Key × V)} {k : Key} {QH : Hp → Prop} (h1 : H p = some (.dK kvs)) (hz : kvs.length < sizeLine) (h : ∀ H', SameX p H H' → H' p = some (.dK (putK kvs k v)) → QH H') : rSetDN (.ref p) (kV k) v H QH := ⟨p, kvs, k, rfl, rfl, h1, hz, h⟩
theorem rd_app {K : PySem.W.Frag} {l : Addr} {xs : List V} {y : V} (h1 : H l = some (.lst xs)) (hz : xs.length < sizeLine) (h : ∀ H', SameX l H H' → H' l = some (.lst (xs ++ [y])) → Q .non H') : rAppendN (.ref l) [y] H Q := ⟨l, xs, y, rfl, rfl, h1, hz, h⟩
theorem rd_pop {l : Addr} {xs : List V} {y : V} (h1 : H l = some (.lst (xs ++ [y]))) (h : ∀ H', SameX l H H' → H' l = some (.lst xs) → Q y H') : rPopN (.ref l) [] H Q := ⟨l, xs, y, rfl, rfl, h1, h⟩
theorem rd_extT {K : PySem.W.Frag} {l b : Addr} {xs zs : List V} (h1 : H l = some (.lst xs)) (h2 : SqT K H b zs) (hz : xs.length + zs.length ≤ sizeLine) (h : ∀ H', SameX l H H' → H' l = some (.lst (xs ++ zs)) → Q .non H') : rExtendTN K (.ref l) [.ref b] H Q := ⟨l, b, xs, zs, rfl, rfl, h1, h2, hz, h⟩
theorem rd_tyL {K : PySem.W.Frag} {l : Addr} {xs : List V} (h : H l = some (.lst xs)) : tyV K "list" (.ref l) H := .inl ⟨rfl, _, SqL.of h⟩
theorem mul_l {i j : Int} (h1 : -18446744073709551616 < i) (h2 : i < 18446744073709551616) : IntMulOk i j := CMul.ok (.inl ⟨h1, h2⟩)
theorem mul_r {i j : Int} (h1 : -18446744073709551616 < j) (h2 : j < 18446744073709551616) : IntMulOk i j := CMul.ok (.inr ⟨h1, h2⟩)
theorem ite_bl {c : Prop} [Decidable c] {A B : Prop} (h1 : c → A) (h2 : ¬ c → B) : if (decide c) = true then A else B := by
  by_cases h : c
  · rw [decide_eq_true h, if_pos rfl]; exact h1 h
  · rw [decide_eq_false h, if_neg Bool.false_ne_true]; exact h2 h
end
/-- both ways hand on a value of which P is known -/
theorem ite_tt {b : Bool} {t1 t2 : TE} {σ : St} {H : Hp} {Q : VK} (P : V → Hp → Prop) (hQ : ∀ v H', P v H' → Q v H') (h1 : b = true → ∀ Q' : VK, (∀ v H', P v H' → Q' v H') → t1 σ H Q') (h2 : b = false → ∀ Q' : VK, (∀ v H', P v H' → Q' v H') → t2 σ H Q') :
    if b = true then t1 σ H Q else t2 σ H Q := by
  cases b with
  | true => rw [if_pos rfl]; exact h1 rfl Q hQ
  | false => rw [if_neg Bool.false_ne_true]; exact h2 rfl Q hQ
theorem ite_ss {b : Bool} {t1 t2 : TS} {D : Ends} {σ : St} {H : Hp} (P : St → Hp → Prop) (hQ : ∀ σ' H', P σ' H' → D.nx σ' H') (h1 : b = true → ∀ N : St → Hp → Prop, (∀ σ' H', P σ' H' → N σ' H') → t1 { D with nx := N } σ H)
    (h2 : b = false → ∀ N : St → Hp → Prop, (∀ σ' H', P σ' H' → N σ' H') → t2 { D with nx := N } σ H) : if b = true then t1 D σ H else t2 D σ H := by
  cases b with
  | true => rw [if_pos rfl]; exact h1 rfl D.nx hQ
  | false => rw [if_neg Bool.false_ne_true]; exact h2 rfl D.nx hQ
theorem ite01 {b : Bool} : (0 : Int) ≤ if b = true then 1 else 0 := by cases b <;> decide
theorem small' {n : Nat} (h : n ≤ 1000) : n ≤ sizeLine := Nat.le_of_lt (small1000 h)

/-- the list comprehension by an invariant -/
def LcW (n : Nat) (P : Nat → St → List V → Hp → Addr → Prop) (D : Addr) : Nat → Nat → St → List V → Hp → Prop := fun i m σ' ys H => m = n - i ∧ i ≤ n ∧ P i σ' ys H D
def LcEnd (n : Nat) (P : Nat → St → List V → Hp → Addr → Prop) (D : Addr) (i : Nat) (ys : List V) (σ2 : St) (y : V) (H4 : Hp) : Prop :=
  H4 D = some (.lst ys) ∧ ys.length + 1 ≤ sizeLine ∧ ∃ m', m' < n - i ∧ LcW n P D (i + 1) m' σ2 (ys ++ [y]) (upd H4 D (.lst (ys ++ [y])))
def LcSkip (n : Nat) (P : Nat → St → List V → Hp → Addr → Prop) (D : Addr) (i : Nat) (ys : List V) (σ2 : St) (H3 : Hp) : Prop := ∃ m', m' < n - i ∧ LcW n P D (i + 1) m' σ2 ys H3
theorem LcEnd.mk {n : Nat} {P : Nat → St → List V → Hp → Addr → Prop} {D : Addr} {i : Nat} {ys : List V} {σ2 : St} {y : V} {H4 : Hp} (hi : i < n) (h1 : H4 D = some (.lst ys)) (h2 : ys.length + 1 ≤ sizeLine)
    (h3 : ∀ H5, SameX D H4 H5 → H5 D = some (.lst (ys ++ [y])) → P (i + 1) σ2 (ys ++ [y]) H5 D) : LcEnd n P D i ys σ2 y H4 :=
  ⟨h1, h2, n - (i + 1), by omega, rfl, hi, h3 _ (samex_upd _) upd_same⟩
theorem LcSkip.mk {n : Nat} {P : Nat → St → List V → Hp → Addr → Prop} {D : Addr} {i : Nat} {ys : List V} {σ2 : St} {H3 : Hp} (hi : i < n) (h3 : P (i + 1) σ2 ys H3 D) : LcSkip n P D i ys σ2 H3 :=
  ⟨n - (i + 1), by omega, rfl, hi, h3⟩
theorem lc_by {J : It} {g : TG} {tf : TT} {te : TE} {ix : List (Option Nat)} {σ : St} {H1 : Hp} {Q : VK} (n : Nat) (P : Nat → St → List V → Hp → Addr → Prop)
    (h0 : ∀ D H, Same H1 H → H D = some (.lst []) → H1 D = none → P 0 (blkSt ix σ) [] H D)
    (hl : ∀ i σ' ys H D, P i σ' ys H D → H D = some (.lst ys))
    (hstop : ∀ σ' ys H D, P n σ' ys H D → J.stop n H ∧ Q (.ref D) H)
    (hgo : ∀ i σ' ys H D, i < n → P i σ' ys H D → J.go i H ∧ ∀ x H', J.yld i H x H' → g x σ' H' fun σ2 H2 => tf σ2 H2 fun b H3 =>
      if b = true then te σ2 H3 (LcEnd n P D i ys σ2) else LcSkip n P D i ys σ2 H3) :
    LcJ ix J g tf te σ Q H1 := by
  intro D hD
  refine ⟨LcW n P D, ⟨n, by simp, Nat.zero_le _, h0 D _ (same_new hD _) upd_same hD⟩, ?_⟩
  rintro i m σ' ys H ⟨rfl, hi, p⟩
  refine ⟨hl _ _ _ _ _ p, ?_⟩
  by_cases hlt : i < n
  · exact .inr (hgo i σ' ys H D hlt p)
  · have e : i = n := by omega
    subst e
    exact .inl (hstop _ _ _ _ p)
end L2

set_option Elab.async false
set_option linter.all false
set_option maxRecDepth 100000
namespace L2
open PySem PySem.Spec PyProof.Rows
theorem noFill_tuple_mul : fillsNumberSlot (.type "tuple") "mul" = pure false :=
  PySem.fillsNumberSlot_seq (id := "tuple.__mul__") (r := some (.builtin "tuple.__rmul__")) F.slot_tuple_mul.lookup (by decide +kernel) F.slot_tuple_rmul.lookup (by decide +kernel)
theorem repeat_tuple : seqRepeat? (.type "tuple") = pure (some (.builtin "tuple.__mul__")) := by
  unfold seqRepeat?
  rw [PySem.seqSlot_of (T := "tuple") (name := "__mul__") (id := "tuple.__mul__") F.slot_tuple_mul.lookup (by decide +kernel), PySem.seqSlot_of (T := "tuple") (name := "__rmul__") (id := "tuple.__rmul__") F.slot_tuple_rmul.lookup (by decide +kernel)]
  rfl
theorem int_rmul_tuple (a : Int) (t : Tok) (l : Addr) (items : Array Value) (n : Nat) (dd : Option Addr) (sl : Array (Option Value)) :
    Meets (Builtin.«int.__rmul__» ⟨[.int a t, .ref l], []⟩) (fun _ R s => s.heap.get? l = some { cls := .type "tuple", dict := dd, data := .seq items n, slots := sl } ∧ R (.ok (.ret Value.notImplemented)) s) :=
  .of_wp fun prog w A R s h => by obtain ⟨hp, g, d, tk, os⟩ := s; obtain ⟨hl, h⟩ := h; wp_walk; exact ⟨_, rfl, h⟩
section
variable {X : Cx} (K : PySem.W.Frag) (hK : X.K = K)
include hK
/-- xs.count(y), of flat items -/
def rCount (K : PySem.W.Frag) : V → List V → Hp → VK → Prop := fun x vs H Q => ∃ l xs y, x = .ref l ∧ vs = [y] ∧ H l = some (.lst xs) ∧ flatV y = true ∧ xs.all flatV = true ∧ Q (.int (xs.countP fun z => eqV z y : Nat)) H
theorem count_rel {A : Around} {s : Shared} {y : V} {u : Value} (ry : RelV y u) (fy : flatV y = true) : ∀ {xs : List V} {its : List Value}, Vals xs its → xs.all flatV = true →
    ∃ e : Value → Bool, (∀ z, z ∈ its → SeqAt.EqAt A s z u (e z)) ∧ its.countP e = xs.countP fun z => eqV z y := by
  intro xs its r fs
  have inj : ∀ (z : Value) (x : V), RelV x z → ∀ x', RelV x' z → x = x' := fun z x h x' h' => h.inj h'
  refine ⟨fun z => match absV z with | some x => eqV x y | none => false, ?_, ?_⟩
  · induction r with
    | nil => intro z hz; cases hz
    | @cons x z0 xs' its' r1 r2 ih =>
      rw [List.all_cons, Bool.and_eq_true] at fs
      intro z hz
      rcases List.mem_cons.mp hz with rfl | hz
      · show SeqAt.EqAt A s z u (match absV z with | some x => eqV x y | none => false)
        rw [r1.abs]
        exact eqAt_V r1 ry fs.1 fy
      · exact ih fs.2 z hz
  · clear inj
    induction r with
    | nil => rfl
    | @cons x z0 xs' its' r1 r2 ih =>
      rw [List.all_cons, Bool.and_eq_true] at fs
      rw [List.countP_cons, List.countP_cons, ih fs.2, r1.abs]
theorem mt_count : MtM X "list.count" (rCount K) := by
  intro pins s σ H x vs v us Q I rx rv h
  obtain ⟨l, xs, y, rfl, rfl, hH, fy, fs, q⟩ := h
  cases rx
  obtain ⟨u, rfl, ru⟩ := rv.one
  obtain ⟨z, its, n, r, hl, e⟩ := I.lstM hH
  obtain ⟨ef, he, hc⟩ := count_rel K hK (X := X) (A := X.A.in1) (s := s) ru fy r fs
  refine call_meets F.slot_list_count ⟨_, e, rfl⟩ F.entry_list_count (F.args_list_count_2 _ _) (SeqAt.list_countAt l its.toArray n none #[] u ef) ⟨e, ?_, ?_⟩
  · intro z hz
    exact he z (by simpa using hz)
  · refine ⟨.int (xs.countP fun z => eqV z y : Nat), H, I.tok _, ⟨s.toks, ?_⟩, q⟩
    show Value.int ((its.toArray.toList.countP ef : Nat) : Int) s.toks = _
    rw [← hc]
/-- a text's cut -/
def rSlS : V → Option Int → Option Int → Hp → VK → Prop := fun x lo hi H Q => ∃ z, x = .str z ∧ z.length ≤ sizeLine ∧ Q (.str (Txt.slice z lo hi)) H
omit hK in
theorem sl_str : SlR X rSlS := by
  intro pins s σ H x v vl vu lo hi sl Q I rx hs pl pu h
  obtain ⟨z, rfl, hz, q⟩ := h
  obtain ⟨t, rfl⟩ := rx
  refine ⟨"str", _, F.slot_str_getitem.lookup, typeIs_str _ _ _, ?_⟩
  obtain ⟨os, hos, hcs, hds⟩ := hs
  have fin : ∀ t' k, EP X pins σ Q (.str (Txt.slice z lo hi) t') { s with toks := k } := fun t' k => ⟨.str (Txt.slice z lo hi), H, I.tok _, ⟨_, rfl⟩, q⟩
  cases pl with
  | none =>
    cases pu with
    | none => exact wpAny_getItem_str_slice (l := none) (u := none) (st := none) ⟨os, hos, hcs, hds⟩ rfl (post_val_or_str ⟨Nat.le_trans (Txt.slice_le z _ _) hz, fin⟩)
    | int j uj => exact wpAny_getItem_str_slice (l := none) (u := some (j, uj)) (st := none) ⟨os, hos, hcs, hds⟩ rfl (post_val_or_str ⟨Nat.le_trans (Txt.slice_le z _ _) hz, fin⟩)
  | int i ui =>
    cases pu with
    | none => exact wpAny_getItem_str_slice (l := some (i, ui)) (u := none) (st := none) ⟨os, hos, hcs, hds⟩ rfl (post_val_or_str ⟨Nat.le_trans (Txt.slice_le z _ _) hz, fin⟩)
    | int j uj => exact wpAny_getItem_str_slice (l := some (i, ui)) (u := some (j, uj)) (st := none) ⟨os, hos, hcs, hds⟩ rfl (post_val_or_str ⟨Nat.le_trans (Txt.slice_le z _ _) hz, fin⟩)
/-- a tuple times 3 -/
def rRep3 (K : PySem.W.Frag) : R2 := fun x y H Q => ∃ a x0, x = .ref a ∧ y = .int 3 ∧ SqT K H a [x0] ∧ newO H (.tup [x0, x0, x0]) Q
omit hK in
theorem tuple_mul3 (l : Addr) (v : Value) (n : Nat) (u : Tok) (dd : Option Addr) (sl : Array (Option Value)) :
    Meets (Builtin.«tuple.__mul__» ⟨[.ref l, .int 3 u], []⟩) (fun _ R s => s.heap.get? l = some { cls := .type "tuple", dict := dd, data := .seq #[v] n, slots := sl } ∧ R (.ok (.ret (Value.ref s.heap.objs.size))) { s with heap := s.heap.push { cls := Value.type "tuple", data := Data.seq #[v, v, v] }, toks := s.toks }) :=
  .of_wp fun prog w A R s h => by
    obtain ⟨hp, g, d, tk, os⟩ := s; obtain ⟨hl, h⟩ := h; have f1 := PySem.AutoSeq1.idx_int; have f2 := PySem.AutoSeq1.sub_tuple_tuple
    wp_walk using PySem.AutoSeq1.wpAny_loadPart' hl
    exact ⟨_, rfl, h⟩
theorem op_rep3 : OpR X (binaryOp .Mult) (rRep3 K) := by
  intro pins s σ H x y v u Q I rx ry h
  obtain ⟨a, x0, rfl, rfl, hT, q⟩ := h
  subst hK
  cases rx
  obtain ⟨t, rfl⟩ := ry
  obtain ⟨its, r, ⟨⟨cls, dd, data, sl⟩, e, hc, n, hd⟩, z⟩ := I.tuple hT
  simp only at hc hd
  subst hc hd
  obtain ⟨u0, rfl, r0⟩ := vals1 r
  refine wpAny_binaryOp_repeat_ref (T := "tuple") (U := "int") (by decide) ⟨_, e, rfl⟩ (fun s' => typeIs_int s' 3 t) noFill_tuple_mul F.fills_int_mul F.slot_int_rmul repeat_tuple F.slot_int_index.lookup
    (call_meets F.slot_int_rmul (typeIs_int s 3 t) F.entry_int_rmul (F.args_int_rmul_2 _ _) (int_rmul_tuple 3 t a _ n dd sl)
      ⟨e, rfl, ⟨_, e, rfl⟩, call_meets F.slot_tuple_mul ⟨_, e, rfl⟩ F.entry_tuple_mul (F.args_tuple_mul_2 _ _) (tuple_mul3 a u0 n t dd sl) ⟨e, ?_⟩⟩)
  refine ⟨.ref s.heap.objs.size, upd H s.heap.objs.size (.tup [x0, x0, x0]), I.laid (t' := s.toks) (fun b u e => Heap.get?_push_of_some _ e) (Nat.le_refl _) ?_, rfl, q.at _ (I.hok.fresh (Nat.le_refl _))⟩
  exact ⟨by show 3 ≤ sizeLine; decide, [u0, u0, u0], .cons r0 (.cons r0 (.cons r0 .nil)), ⟨_, Heap.get?_push_size _ rfl, rfl, _, rfl⟩⟩
/-- the whole of a tuple of two is itself -/
def rSl2 (K : PySem.W.Frag) : V → Option Int → Option Int → Hp → VK → Prop := fun x lo hi H Q => ∃ a x0 x1, x = .ref a ∧ lo = none ∧ hi = some 8 ∧ SqT K H a [x0, x1] ∧ Q x H
theorem sl_two : SlR X (rSl2 K) := by
  intro pins s σ H x v vl vu lo hi sl Q I rx hs pl pu h
  obtain ⟨a, x0, x1, rfl, rfl, rfl, hT, q⟩ := h
  subst hK
  cases rx
  obtain ⟨its, r, ht, hz⟩ := I.tuple hT
  obtain ⟨u0, u1, rfl, r0, r1⟩ := vals2 r
  refine ⟨"tuple", _, PyProof.Rows.slot_tuple_getitem.lookup, ht.typeIs, ?_⟩
  obtain ⟨os, hos, hcs, hds⟩ := id hs
  have hTs : s.TypeIs (.ref sl) "slice" := ⟨os, hos, hcs⟩
  unfold getItem
  try with_reducible refine wpAny_holding ?_
  first | refine wpAny_bind (wpAny_pure ?_) | skip
  refine wpAny_bind (wpAny_sequenceKey ht.typeIs (by decide) ?_)
  refine wpAny_bind (wpAny_callSpecial?_slot (name := Str.ofString "__getitem__") ht.typeIs PyProof.Rows.slot_tuple_getitem
    (wpAny_call_entry PyProof.Rows.slot_tuple_getitem ht.typeIs entry_tuple_getitem ?_ (args_tuple_getitem _ _)))
  show wpAny _ _ (Builtin.Tuple.tupleItemsOf (.ref a) >>= _) _ _ s
  refine wpAny_bind (tupleItemsOf_ ht ?_)
  refine wpAny_bind (wpAny_typeOf hTs ?_)
  rw [if_pos (by decide)]
  refine wpAny_bind (HT.sliceApplied_gen hs pl pu ?_)
  show wpAny _ _ (if (((HT.sIx 2 0 none : Nat) : Int) == 0 && (1 : Int) == 1 && (HT.sIx 2 2 (some 8) - HT.sIx 2 0 none) == 2) = true then _ else _) _ _ s
  rw [if_pos (by decide)]
  refine wpAny_bind ?_
  unfold Builtin.Tuple.tupleIsExact
  first
    | refine wpAny_bind (wpAny_typeOf ht.typeIs (wpAny_pure ?_))
    | refine wpAny_typeOf ht.typeIs (wpAny_pure ?_)
  first
    | rw [if_pos (by decide)]
    | rw [if_pos rfl]
  refine wpAny_bind (wpAny_rule (wpAny_pure ⟨_, rfl, ?_⟩))
  exact wpAny_pure ⟨.ref a, H, I, rfl, q⟩
end
end L2

set_option Elab.async false
set_option linter.all false
set_option maxRecDepth 100000
namespace L2
open PySem PySem.Spec PyProof.Rows
theorem PE.mono {X : Cx} {e : Expr} {t t' : TE} (h : PE X e t) (ht : ∀ σ H Q, t' σ H Q → t σ H Q) : PE X e t' := fun pins s σ H Q I q => h pins s σ H Q I (ht _ _ _ q)
section
variable {X : Cx} (K : PySem.W.Frag) (hK : X.K = K) {pos : Pos}
/-- x.strip(y) -/
def rStrip : V → List V → Hp → VK → Prop := fun x vs H Q => ∃ z y, x = .str z ∧ vs = [.str y] ∧ z.length ≤ sizeLine ∧ Q (.str (Txt.stripChars z y)) H
theorem stripBy_le (g : Nat → Bool) (z : Str) : (Txt.stripBy g true true z).length ≤ z.length := by
  unfold Txt.stripBy
  split
  · exact Nat.le_refl _
  · unfold stripped Builtin.Str.strSub
    show (z.cps.extract _ _).size ≤ z.cps.size
    rw [Array.size_extract]
    omega
theorem mt_strip : MtM X "str.strip" rStrip := by
  intro pins s σ H x vs v us Q I rx rv h
  obtain ⟨z, y, rfl, rfl, hz, q⟩ := h
  obtain ⟨t, rfl⟩ := rx
  obtain ⟨u, rfl, ru⟩ := rv.one
  obtain ⟨t', rfl⟩ := ru
  refine call_meets F.slot_str_strip (typeIs_str _ _ _) F.entry_str_strip (F.args_str_strip_2 _ _) (gives_str_strip_chars z y t t').meets ?_
  have hl := stripBy_le y.cps.contains z
  exact post_val_or_str ⟨Nat.le_trans hl hz, fun t'' k => ⟨.str (Txt.stripChars z y), H, I.tok _, ⟨_, rfl⟩, q⟩⟩
include hK
/-- xs == [] -/
def rEqNil (K : PySem.W.Frag) : R2 := fun x y H Q => ∃ p q xs, x = .ref p ∧ y = .ref q ∧ SqL K H p xs ∧ SqL K H q [] ∧ Q (.bl xs.isEmpty) H
theorem op_eq_nilk (hu : X.A.units < cLine) : OpR X (compareOp .Eq) (rEqNil K) := by
  subst hK
  intro pins s σ H x y v u Q I rx ry h
  obtain ⟨p, q, xs, rfl, rfl, hp, hq, k⟩ := h
  cases rx
  cases ry
  obtain ⟨its, r, pl, hz⟩ := I.list hp
  obtain ⟨its2, r2, pl2, hz2⟩ := I.list hq
  cases r2
  cases xs with
  | nil =>
    cases r
    refine EqBoolInt.of_rc (SeqAt.RcAt.lists (e := fun _ => true) pl.isList pl2.isList rfl hu fun j h1 => absurd h1 (by simp)) ?_
    exact ⟨.bl true, H, I, rfl, k⟩
  | cons y ys =>
    have hl := r.length
    refine EqBoolInt.of_rc (SeqAt.RcAt.lists_lengths pl.isList pl2.isList (by simp at hl ⊢; intro z; subst z; simp at hl) hu) ?_
    exact ⟨.bl false, H, I, rfl, k⟩
omit hK
def rExtendLN : V → List V → Hp → VK → Prop := fun x vs H Q => ∃ l b xs zs, x = .ref l ∧ vs = [.ref b] ∧ H l = some (.lst xs) ∧ H b = some (.lst zs) ∧ xs.length + zs.length ≤ sizeLine ∧ updO H l (.lst (xs ++ zs)) (Q .non)
theorem mt_extendLN : MtM X "list.extend" rExtendLN := mt_extend.mono fun x xs H Q ⟨l, b, ys, zs, e1, e2, h1, h2, hz, q⟩ => ⟨l, b, ys, zs, e1, e2, h1, h2, hz, q.at⟩
theorem rd_extL {H : Hp} {Q : VK} {l b : Addr} {xs zs : List V} (h1 : H l = some (.lst xs)) (h2 : H b = some (.lst zs)) (hz : xs.length + zs.length ≤ sizeLine) (h : ∀ H', SameX l H H' → H' l = some (.lst (xs ++ zs)) → Q .non H') : rExtendLN (.ref l) [.ref b] H Q := ⟨l, b, xs, zs, rfl, rfl, h1, h2, hz, h⟩
/-- {n: x}, x a name -/
def tDict1 (n : Int) (i : Nat) : TE := fun σ H Q => ∃ v, σ[i]? = some (some v) ∧ newO H (.dK [(Sum.inl n, v)]) Q
theorem pe_dict1 {k v : Expr} {n : Int} {i : Nat} (hk : PE X k (tC (.int n))) (hv : PE X v (tVar i)) : PE X (.Dict [some k] [v] pos) (tDict1 n i) := by
  refine (pe_disp (pps_cons hk hv pps_nil) rfl rfl (by simp) (show (1 : Nat) ≤ 15 by decide)).mono fun σ H Q h => ?_
  obtain ⟨w, e, h⟩ := h
  intro p hp
  refine ⟨w, e, ?_⟩
  refine ⟨upd_same, [(Sum.inl n, w)], rfl, (show (1 : Nat) ≤ 15 by decide), ?_⟩
  have e2 : upd (upd H p (.dK [])) p (.dK (mergeK [] [(Sum.inl n, w)])) = upd H p (.dK [(Sum.inl n, w)]) := by
    funext b
    by_cases hb : b = p
    · subst hb; rw [upd_same, upd_same]; rfl
    · rw [upd_ne hb, upd_ne hb, upd_ne hb]
  rw [e2]
  exact h.at p hp
theorem rd_dict1 {n : Int} {i : Nat} {σ : L2.St} {H : Hp} {Q : VK} {v : V} (e : σ[i]? = some (some v)) (h : newO H (.dK [(Sum.inl n, v)]) Q) : tDict1 n i σ H Q := ⟨v, e, h⟩
end
end L2

set_option Elab.async false
set_option linter.all false
set_option maxRecDepth 100000
namespace L2
open PySem PySem.Spec PyProof.Rows
theorem Vals.reverse' : ∀ {xs : List V} {us : List Value}, Vals xs us → Vals xs.reverse us.reverse
  | _, _, .nil => .nil
  | _, _, .cons h t => by rw [List.reverse_cons, List.reverse_cons]; exact (Vals.reverse' t).append (.cons h .nil)
/-! ### list(reversed(xs)) -/
theorem lk_len : typeLookup (.type "list_reverseiterator") (Str.ofString "__len__") = pure none := by kernel_rfl
theorem lk_hint : typeLookup (.type "list_reverseiterator") (Str.ofString "__length_hint__") = pure (some (.builtin "list_reverseiterator.__length_hint__")) := by kernel_rfl
theorem sp_hint : splitId "list_reverseiterator.__length_hint__" = some ("list_reverseiterator", "__length_hint__") := by kernel_rfl
theorem sub_rev : isSubtype (.type "list_reverseiterator") (.type "list_reverseiterator") = pure true := by kernel_rfl
theorem hint_rev {prog : Program} {w : World} {A : Around} {E : Value → Shared → Prop} {s : Shared} {r l : Addr} {i : Int} {Q : Bool → Shared → Prop} (h : s.heap.IsRevIter r l i) (q : Q false s) : wpAny (model prog w) A (Builtin.List.listLengthHint (Value.ref r)) Q E s := by
  unfold Builtin.List.listLengthHint
  refine wpAny_bind (wpAny_specialOf h.typeIs lk_len ?_)
  refine wpAny_bind (wpAny_specialOf h.typeIs lk_hint ?_)
  dsimp only
  rw [sp_hint]
  dsimp only
  refine wpAny_bind (wpAny_isInstance h.typeIs sub_rev ?_)
  rw [if_neg (by decide)]
  rw [if_pos (by decide)]
  rw [if_neg (by decide)]
  exact wpAny_pure q
theorem list_init_rev {prog : Program} {w : World} {A : Around} {s : Shared} {R : Result → Shared → Prop} {r l S : Addr} {items : Array Value} (hA : A.handled = none) (h : s.heap.IsRevIter r l (items.size - 1)) (hl : s.heap.IsList l items) (hne : l ≠ r) (hSr : S ≠ r) (hSl : S ≠ l) (hz : items.size ≤ sizeLine)
    (hS : s.heap.get? S = some { cls := Value.type "list", data := Data.seq #[] })
    (q : ∀ (h' : Heap) (tk : Nat) (acc : Array Value) (c : Nat), (∀ b o, b ≠ S → b ≠ r → s.heap.get? b = some o → h'.get? b = some o) → h'.get? S = some { cls := Value.type "list", data := Data.seq acc c } → ItemsOf (fun i v => items[items.size - 1 - i]? = some v) acc items.size → R (.ok (.ret .none)) { s with heap := h', toks := tk }) :
    wpAny (model prog w) A.in1 (Builtin.«list.__init__» { pos := [Value.ref S, Value.ref r] })
      (fun fin s' => match fin with | Fin.done f => R (Except.ok f) s' | Fin.again c' => c'.quiet = true ∧ codeAny (model prog w) A c' R s') (fun e s' => R (Except.error e) s') s := by
  unfold Builtin.«list.__init__»
  dsimp only
  rw [if_neg (by decide), if_neg (by simp)]
  refine wpAny_bind (wpAny_listItems hS rfl ?_)
  refine wpAny_bind ?_
  unfold Builtin.List.listUpdate
  dsimp only
  refine wpAny_updateSeq hS rfl ?_ (by simp) (by simp)
  refine wpAny_bind (wpAny_letGo ?_)
  have k1 : ∀ b o, b ≠ S → s.heap.get? b = some o → (s.heap.update S (Obj.mapSeq fun _ => #[])).get? b = some o := fun b o hb e => by rw [Heap.get?_update_other _ _ (Ne.symm hb)]; exact e
  have hS1 := Heap.get?_update_self (Obj.mapSeq fun _ => #[]) hS rfl
  generalize s.heap.update S (Obj.mapSeq fun _ => #[]) = h1 at k1 hS1 ⊢
  have hr1 : h1.IsRevIter r l (items.size - 1) := let ⟨o, e, p⟩ := h; ⟨o, k1 _ _ (Ne.symm hSr) e, p⟩
  have hl1 : h1.IsList l items := let ⟨o, e, p⟩ := hl; ⟨o, k1 _ _ (Ne.symm hSl) e, p⟩
  unfold Builtin.List.listExtendWith
  refine wpAny_bind (wpAny_typeOf (T := "list_reverseiterator") hr1.typeIs ?_)
  rw [if_neg (by
    have e1 : Builtin.List.listSameRef (Value.ref S) (Value.ref r) = false := by
      unfold Builtin.List.listSameRef
      simpa using hSr
    rw [e1]
    decide)]
  refine wpAny_bind (wpAny_pyIter_revIter hr1 ?_)
  refine wpAny_bind (wpAny_holding (hint_rev hr1 ?_))
  rw [if_neg (by decide)]
  refine wpAny_pure ⟨plainId_quiet F.plain_extend_loop _, ?_⟩
  refine codeAny_extend_loopS (Walks.toS (Walks.listRev (A := A.in1) hA r l hne items)) hz S (by simp [hSr, hSl]) .none items.size 0 _ #[] _ (Nat.sub_zero _) (Nat.zero_le _) ⟨Nat.zero_le _, by simpa using hr1, hl1⟩ hS1 (ItemsOf.nil _) ?_
  intro s' acc c mv e io
  rw [mv.eq_with]
  exact q s'.heap s'.toks acc c (fun b o n1 n2 e' => mv.heap b o (by simp [n1, n2]) (k1 b o n1 e')) e io
theorem call_list_rev {prog : Program} {w : World} {A : Around} {E : Value → Shared → Prop} {s : Shared} {r l : Addr} {items : Array Value} {Q : Value → Shared → Prop} (hA : A.handled = none) (h : s.heap.IsRevIter r l (items.size - 1)) (hl : s.heap.IsList l items) (hne : l ≠ r) (hz : items.size ≤ sizeLine)
    (q : ∀ (h' : Heap) (tk : Nat) (acc : Array Value) (c : Nat), (∀ b o, b ≠ r → s.heap.get? b = some o → h'.get? b = some o) → h'.get? s.heap.objs.size = some { cls := Value.type "list", data := Data.seq acc c } → ItemsOf (fun i v => items[items.size - 1 - i]? = some v) acc items.size → Q (.ref s.heap.objs.size) { s with heap := h', toks := tk }) :
    wpAny (model prog w) A (call (Value.type "list") [Value.ref r]) Q E s := by
  have lr : r < s.heap.objs.size := let ⟨_, e, _⟩ := h; Heap.lt_size e
  have ll : l < s.heap.objs.size := let ⟨_, e, _⟩ := hl; Heap.lt_size e
  refine callType_codes F.called_list (F.typeCall_list_1 _) F.entry_list_init (code_list_new (Q₁ := fun v s₁ => v = .ref s.heap.objs.size ∧ s₁ = { s with heap := s.heap.push { cls := Value.type "list", data := Data.seq #[] } }) _ ⟨rfl, rfl⟩) ?_
  rintro obj s₁ ⟨rfl, rfl⟩
  refine ⟨⟨_, Heap.get?_push_size _ rfl, rfl⟩, F.args_list_init_2 _ _, ?_⟩
  have kp : ∀ b o, s.heap.get? b = some o → (s.heap.push { cls := Value.type "list", data := Data.seq #[] }).get? b = some o := fun b o e => Heap.get?_push_of_some _ e
  refine list_init_rev (A := A.in1) (items := items) (l := l) hA (let ⟨o, e, p⟩ := h; ⟨o, kp _ _ e, p⟩) (let ⟨o, e, p⟩ := hl; ⟨o, kp _ _ e, p⟩) hne (fun z => by rw [z] at lr; exact Nat.lt_irrefl _ lr) (fun z => by rw [z] at ll; exact Nat.lt_irrefl _ ll) hz (Heap.get?_push_size _ rfl) ?_
  intro h' tk acc c k e io
  exact ⟨rfl, q h' tk acc c (fun b o n e' => k b o (fun z => by rw [z] at e'; exact Nat.lt_irrefl _ (Heap.lt_size e')) n (kp b o e')) e io⟩
def tLR (K : PySem.W.Frag) (te : TE) : TE := fun σ H Q => te σ H fun x H1 => ∃ p ys, x = .ref p ∧ SqL K H1 p ys ∧ newO H1 (.lst ys.reverse) Q
section
variable {X : Cx} (K : PySem.W.Frag) (hK : X.K = K) {e : Expr} {te : TE} {p1 p2 q1 q2 : Pos}
include hK
theorem pe_listrev (hc : X.calm = true) (hg1 : Gl X "list") (hm1 : X.mg "list" = none) (hg2 : Gl X "reversed") (hm2 : X.mg "reversed" = none) (he : PE X e te)
    (hs1 : starEach [.Call (.Name "reversed" q1) [e] [] q2] X.env = (false, eval (.Call (.Name "reversed" q1) [e] [] q2) X.env) :: starEach [] X.env := by rfl) (hs2 : starEach [e] X.env = (false, eval e X.env) :: starEach [] X.env := by rfl) :
    PE X (.Call (.Name "list" p1) [.Call (.Name "reversed" q1) [e] [] q2] [] p2) (tLR K te) := by
  intro pins s σ H Q I h
  subst hK
  refine wpAny_Call_Name_kw (ld_blt I hg1 hm1 boot_list ?_ (by decide) (by decide))
  refine PyProof.Rows.callWith_type1 ?_ hs1 rfl
  rw [hs1]
  show wpAny _ _ (spliced ((false, eval (.Call (.Name "reversed" q1) [e] [] q2) X.env) :: backTo p2 (starEach [] X.env))) _ _ s
  refine Calls.spliced_cons ?_
  refine wpAny_Call_Name_kw (ld_blt I hg2 hm2 boot_reversed ?_ (by decide) (by decide))
  refine PyProof.Rows.callWith_type1 ?_ hs2 rfl
  rw [hs2]
  show wpAny _ _ (spliced ((false, eval e X.env) :: backTo q2 (starEach [] X.env))) _ _ s
  refine Calls.spliced_cons (thn (he pins s σ H _ I h) fun u s1 ⟨x, H1, I1, r1, pa, ys, ex, hS, q⟩ => Calls.spliced_nil ?_)
  subst ex
  cases r1
  obtain ⟨its, rv, pl, hz⟩ := I1.list hS
  have hlen := rv.length
  have lp : pa < s1.heap.objs.size := let ⟨_, e, _⟩ := pl.isList; Heap.lt_size e
  refine call_reversed_list pl.isList ?_
  refine Calls.spliced_nil ?_
  have kp : ∀ b o, s1.heap.get? b = some o → (s1.heap.push (revObj pa (its.toArray.size - 1))).get? b = some o := fun b o e => Heap.get?_push_of_some _ e
  refine call_list_rev (items := its.toArray) (l := pa) (r := s1.heap.objs.size) (I1.ok.hd hc) ⟨_, Heap.get?_push_size _ rfl, rfl, rfl⟩ (let ⟨o, e, p⟩ := pl.isList; ⟨o, kp _ _ e, p⟩) (fun z => by rw [z] at lp; exact Nat.lt_irrefl _ lp) (by rw [List.size_toArray]; omega) ?_
  intro h' tk acc c k e io
  have kk : ∀ b o, s1.heap.get? b = some o → h'.get? b = some o := fun b o eb => k b o (fun z => by rw [z] at eb; exact Nat.lt_irrefl _ (Heap.lt_size eb)) (kp b o eb)
  have ea : acc = its.reverse.toArray := by
    obtain ⟨z1, z2⟩ := io
    apply Array.ext
    · rw [z1, List.size_toArray, List.size_toArray, List.length_reverse]
    · intro j h1 h2
      have := z2 j acc[j] (Array.getElem?_eq_getElem h1)
      rw [List.size_toArray] at this
      have hj : j < its.length := by rw [z1, List.size_toArray] at h1; exact h1
      rw [List.getElem?_toArray] at this
      have e3 : its.reverse[j]? = some acc[j] := by rw [List.getElem?_reverse hj]; exact this
      rw [List.getElem_toArray]
      exact (Option.some.inj (((List.getElem?_eq_getElem (by rw [List.length_reverse]; exact hj)).symm.trans e3))).symm
  subst ea
  have hs2 : s1.heap.objs.size ≤ (s1.heap.push (revObj pa (its.toArray.size - 1))).objs.size := by simp [Heap.push]
  refine ⟨.ref _, upd H1 _ (.lst ys.reverse), I1.laid (t' := tk) kk hs2 ?_, rfl, q.at _ (I1.hok.fresh hs2)⟩
  exact ⟨by rw [List.length_reverse]; exact hz, its.reverse, c, rv.reverse', e⟩
end
end L2

set_option Elab.async false
set_option linter.all false
set_option maxRecDepth 100000
namespace My
open PySem PySem.Spec PyProof.Rows L2

/-! ### the draws -/
def handOk (xs : List V) : Prop := ∃ g s : Int, xs = [.int g, .int s] ∧ 0 ≤ g ∧ 0 ≤ s ∧ s < 2305843009213693951
/-- the hand at h -/
def Hand (H : Hp) (h : Addr) : Prop := ∃ xs, H h = some (.lst xs) ∧ handOk xs
/-- behind a draw: the hand is one, all else is as it was -/
structure Drew (h : Addr) (H H' : Hp) : Prop where
  x : SameX h H H'
  hand : Hand H' h
theorem Drew.trans {h : Addr} {H H1 H2 : Hp} (a : Drew h H H1) (b : Drew h H1 H2) : Drew h H H2 := ⟨a.x.trans b.x, b.hand⟩
theorem Hand.same {H H' : Hp} {h : Addr} (a : Hand H h) (s : Same H H') : Hand H' h := let ⟨xs, e, o⟩ := a; ⟨xs, s _ _ e, o⟩
theorem Hand.ne {H H' : Hp} {h l : Addr} (a : Hand H h) (s : SameX l H H') (n : h ≠ l) : Hand H' h := let ⟨xs, e, o⟩ := a; ⟨xs, s _ _ n e, o⟩
theorem Drew.same {h : Addr} {H H1 H2 : Hp} (a : Drew h H H1) (b : Same H1 H2) : Drew h H H2 := ⟨a.x.trans (b.x h), a.hand.same b⟩
theorem Drew.of {h : Addr} {H H1 : Hp} (a : Hand H h) (b : Same H H1) : Drew h H H1 := ⟨b.x h, a.same b⟩
theorem Drew.tups {h : Addr} {H H1 : Hp} (a : Drew h H H1) (b : Hand H h) : Tups H H1 := let ⟨_, e, _⟩ := b; a.x.tups e
/-- what was a list stays, but the hand -/
theorem Drew.keep {h l : Addr} {H H1 : Hp} (a : Drew h H H1) {o : HO} (n : l ≠ h) (e : H l = some o) : H1 l = some o := a.x l o n e
theorem Drew.sq {K : PySem.W.Frag} {h l : Addr} {H H1 : Hp} {xs : List V} (a : Drew h H H1) (b : Hand H h) (n : l ≠ h) (e : SqL K H l xs) : SqL K H1 l xs := by
  rcases e with (e | ⟨o, e⟩) | e
  · exact .inl (.inl (a.x l _ n e))
  · exact .inl (.inr ⟨o, a.x l _ n e⟩)
  · exact .inr e
def spTake : Sp := fun vs H Q _ => ∃ (h : Addr) (m : Int), vs = [.ref h, .int m] ∧ Hand H h ∧ 0 < m ∧ m ≤ 1000 ∧
  ∀ (d : Int) (H' : Hp), 0 ≤ d → d < m → Drew h H H' → Q (.int d) H'
/-- a new hand, of the script -/
def spHand (K : PySem.W.Frag) : Sp := fun vs H Q _ => ∃ (a : Addr) (ns : List Int) (k : Int), vs = [.ref a, .int k] ∧ SqL K H a (ns.map V.int) ∧ ns.length ≤ 63 ∧ 0 ≤ k ∧ k ≤ 1000 ∧
  ∀ (r : Addr) (H' : Hp), Same H H' → Hand H' r → H r = none → Q (.ref r) H'

/-! ### words -/
def Wd (x : Str) : Prop := 1 ≤ x.length ∧ x.length ≤ 8 ∧ ∀ c ∈ x.cps.toList, 97 ≤ c ∧ c < 123
def spWords : Sp := fun vs H Q _ => ∃ (h : Addr) (m : Int), vs = [.ref h, .int m] ∧ Hand H h ∧ 0 ≤ m ∧ m ≤ 100 ∧
  ∀ (r : Addr) (H' : Hp) (ws : List Str), Drew h H H' → H' r = some (.lst (ws.map V.str)) → H r = none → ws.length = m.toNat → (∀ x ∈ ws, Wd x) → (m ≤ 26 → ws.Nodup) → Q (.ref r) H'

/-- a piece of a word -/
def Part (x : Str) (n : Nat) : Prop := x.length ≤ n ∧ ∀ c ∈ x.cps.toList, 97 ≤ c ∧ c < 123
theorem Part.append {x y : Str} {m n : Nat} (a : Part x m) (b : Part y n) : Part (x ++ y) (m + n) := by
  refine ⟨?_, fun c hc => ?_⟩
  · rw [Str.length_append]; have := a.1; have := b.1; omega
  · rw [Str.cps_append, Array.toList_append] at hc
    rcases List.mem_append.mp hc with h | h
    · exact a.2 c h
    · exact b.2 c h
theorem menu_step {d : Int} (h0 : 0 ≤ d) (h1 : d < 6) : ∃ st : Int, atI [V.int 1, V.int 3, V.int 5, V.int 7, V.int 9, V.int 11] d = some (.int st) ∧ (st = 1 ∨ st = 3 ∨ st = 5 ∨ st = 7 ∨ st = 9 ∨ st = 11) := by
  have : d = 0 ∨ d = 1 ∨ d = 2 ∨ d = 3 ∨ d = 4 ∨ d = 5 := by omega
  rcases this with rfl | rfl | rfl | rfl | rfl | rfl
  · exact ⟨1, rfl, by decide⟩
  · exact ⟨3, rfl, by decide⟩
  · exact ⟨5, rfl, by decide⟩
  · exact ⟨7, rfl, by decide⟩
  · exact ⟨9, rfl, by decide⟩
  · exact ⟨11, rfl, by decide⟩
/-- the letters are unlike -/
theorem letters_nodup {d st : Int} (h : st = 1 ∨ st = 3 ∨ st = 5 ∨ st = 7 ∨ st = 9 ∨ st = 11) {n : Nat} (hn : n ≤ 26) : ((List.range n).map fun k : Nat => some (97 + ((d + st * (0 + (k : Int))) % 26).toNat)).Nodup := by
  unfold List.Nodup
  rw [List.pairwise_map]
  refine List.Pairwise.imp_of_mem ?_ List.pairwise_lt_range
  intro a b ha hb hab hz
  have hb' := List.mem_range.mp hb
  have hz' := Option.some.inj hz
  rcases h with rfl | rfl | rfl | rfl | rfl | rfl <;> omega
theorem nodup_of_map {α β : Type} {g : α → β} {l : List α} (h : (l.map g).Nodup) : l.Nodup := (List.pairwise_map.mp h).imp fun h e => h (congrArg g e)
theorem word_sign (x y : Str) (c : Nat) : (x ++ ⟨#[c]⟩ ++ y).cps[x.length]? = some c := by
  rw [Str.cps_append, Str.cps_append]
  show ((x.cps ++ #[c]) ++ y.cps)[x.cps.size]? = some c
  rw [Array.getElem?_append_left (by simp), Array.getElem?_append_right (Nat.le_refl _)]
  simp
theorem menu_begin {d : Int} (h0 : 0 ≤ d) (h1 : d < 3) : ∃ bg : Str, atI [V.str "", V.str "", V.str "ab"] d = some (.str bg) ∧ Part bg 2 := by
  have : d = 0 ∨ d = 1 ∨ d = 2 := by omega
  rcases this with rfl | rfl | rfl
  · exact ⟨"", rfl, by decide +kernel, by decide +kernel⟩
  · exact ⟨"", rfl, by decide +kernel, by decide +kernel⟩
  · exact ⟨"ab", rfl, by decide +kernel, by decide +kernel⟩
theorem menu_end {d : Int} (h0 : 0 ≤ d) (h1 : d < 4) : ∃ bg : Str, atI [V.str "", V.str "a", V.str "zz", V.str "abcde"] d = some (.str bg) ∧ Part bg 5 := by
  have : d = 0 ∨ d = 1 ∨ d = 2 ∨ d = 3 := by omega
  rcases this with rfl | rfl | rfl | rfl
  · exact ⟨"", rfl, by decide +kernel, by decide +kernel⟩
  · exact ⟨"a", rfl, by decide +kernel, by decide +kernel⟩
  · exact ⟨"zz", rfl, by decide +kernel, by decide +kernel⟩
  · exact ⟨"abcde", rfl, by decide +kernel, by decide +kernel⟩
theorem letter_all : ∀ k : _root_.Fin 26, atI ("abcdefghijklmnopqrstuvwxyz" : Str).cps.toList (k.val : Int) = some (97 + k.val) := by decide +kernel
theorem letter_at {n : Int} (h0 : 0 ≤ n) (h1 : n < 26) : atI ("abcdefghijklmnopqrstuvwxyz" : Str).cps.toList n = some (97 + n.toNat) := by
  have e := letter_all ⟨n.toNat, by omega⟩
  have e2 : ((n.toNat : Nat) : Int) = n := by omega
  rw [e2] at e
  exact e
theorem one_part {c : Nat} (h0 : 97 ≤ c) (h1 : c < 123) : Part ⟨#[c]⟩ 1 := by
  refine ⟨Nat.le_refl _, fun d hd => ?_⟩
  have : d = c := by simpa using hd
  subst this
  exact ⟨h0, h1⟩
theorem word_of {x y : Str} {c : Nat} (a : Part x 2) (b : Part y 5) (h0 : 97 ≤ c) (h1 : c < 123) : Wd (x ++ ⟨#[c]⟩ ++ y) := by
  have q := (a.append (one_part h0 h1)).append b
  refine ⟨?_, q.1, q.2⟩
  rw [Str.length_append, Str.length_append]
  show 1 ≤ x.length + 1 + y.length
  omega

/-! ### trees -/
inductive Tr where
  | leaf (x : Str)
  | node (l r : Tr)
def Tr.leaves : Tr → List Str
  | .leaf x => [x]
  | .node l r => l.leaves ++ r.leaves
def Tr.size : Tr → Nat
  | .leaf _ => 1
  | .node l r => l.size + r.size + 1
def Tr.depth : Tr → Nat
  | .leaf _ => 0
  | .node l r => max l.depth r.depth + 1
inductive TAt (H : Hp) : V → Tr → Prop where
  | leaf (x : Str) : TAt H (.str x) (.leaf x)
  | node {a : Addr} {x y : V} {l r : Tr} : H a = some (.tup [x, y]) → TAt H x l → TAt H y r → TAt H (.ref a) (.node l r)
theorem TAt.mono {H H' : Hp} (h : Tups H H') {v : V} {t : Tr} (a : TAt H v t) : TAt H' v t := by
  induction a with
  | leaf x => exact .leaf x
  | node e _ _ i1 i2 => exact .node (h _ _ e) i1 i2
def Tr.Ws (t : Tr) : Prop := ∀ x ∈ t.leaves, Wd x
theorem Tr.leaves_pos : ∀ t : Tr, 1 ≤ t.leaves.length
  | .leaf _ => Nat.le_refl _
  | .node l r => by have := l.leaves_pos; show 1 ≤ (l.leaves ++ r.leaves).length; rw [List.length_append]; omega
theorem Tr.depth_lt : ∀ t : Tr, t.depth < t.leaves.length
  | .leaf _ => Nat.lt_succ_self 0
  | .node l r => by
    have h1 := l.depth_lt; have h2 := r.depth_lt; have h3 := l.leaves_pos; have h4 := r.leaves_pos
    show max l.depth r.depth + 1 < (l.leaves ++ r.leaves).length
    rw [List.length_append]; omega
theorem Tr.size_eq : ∀ t : Tr, t.size + 1 = 2 * t.leaves.length
  | .leaf _ => rfl
  | .node l r => by
    have h1 := l.size_eq; have h2 := r.size_eq
    show l.size + r.size + 1 + 1 = 2 * (l.leaves ++ r.leaves).length
    rw [List.length_append]; omega
/-- trees side by side -/
inductive TAts (H : Hp) : List V → List Tr → Prop where
  | nil : TAts H [] []
  | cons {x : V} {t : Tr} {xs : List V} {ts : List Tr} : TAt H x t → TAts H xs ts → TAts H (x :: xs) (t :: ts)
theorem TAts.mono {H H' : Hp} (h : Tups H H') {vs : List V} {ts : List Tr} (a : TAts H vs ts) : TAts H' vs ts := by
  induction a with
  | nil => exact .nil
  | cons e _ i => exact .cons (e.mono h) i
theorem TAts.length {H : Hp} {vs : List V} {ts : List Tr} (a : TAts H vs ts) : vs.length = ts.length := by
  induction a with
  | nil => rfl
  | cons _ _ i => simp [i]
theorem TAts.append {H : Hp} {xs ys : List V} {ts us : List Tr} (a : TAts H xs ts) (b : TAts H ys us) : TAts H (xs ++ ys) (ts ++ us) := by
  induction a with
  | nil => exact b
  | cons e _ i => exact .cons e i
theorem TAts.take {H : Hp} : ∀ {xs : List V} {ts : List Tr} (n : Nat), TAts H xs ts → TAts H (xs.take n) (ts.take n)
  | _, _, 0, _ => by simp; exact .nil
  | _, _, _ + 1, .nil => .nil
  | _, _, n + 1, .cons e r => .cons e (TAts.take n r)
theorem TAts.drop {H : Hp} : ∀ {xs : List V} {ts : List Tr} (n : Nat), TAts H xs ts → TAts H (xs.drop n) (ts.drop n)
  | _, _, 0, r => r
  | _, _, _ + 1, .nil => .nil
  | _, _, n + 1, .cons _ r => TAts.drop n r
theorem TAts.get {H : Hp} : ∀ {xs : List V} {ts : List Tr} {n : Nat} {x : V}, TAts H xs ts → xs[n]? = some x → ∃ t, ts[n]? = some t ∧ TAt H x t
  | _, _, _, _, .nil, e => by simp at e
  | _, _, 0, _, .cons h _, e => by simp at e; subst e; exact ⟨_, rfl, h⟩
  | _, _, n + 1, x, .cons _ r, e => by
    obtain ⟨t, h1, h2⟩ := TAts.get (n := n) (x := x) r (by simpa using e)
    exact ⟨t, by simpa using h1, h2⟩
theorem TAts.ofStrs (H : Hp) : ∀ ws : List Str, TAts H (ws.map V.str) (ws.map Tr.leaf)
  | [] => .nil
  | w :: r => .cons (.leaf w) (TAts.ofStrs H r)
def lvs (ts : List Tr) : List Str := (ts.map Tr.leaves).flatten
theorem lvs_append (a b : List Tr) : lvs (a ++ b) = lvs a ++ lvs b := by unfold lvs; rw [List.map_append, List.flatten_append]
theorem lvs_cons (t : Tr) (b : List Tr) : lvs (t :: b) = t.leaves ++ lvs b := rfl
theorem lvs_leaf : ∀ ws : List Str, lvs (ws.map Tr.leaf) = ws
  | [] => rfl
  | w :: r => by rw [List.map_cons, lvs_cons, lvs_leaf r]; rfl
theorem lvs_len (ts : List Tr) : ts.length ≤ (lvs ts).length := by
  induction ts with
  | nil => exact Nat.le_refl _
  | cons t r ih => rw [lvs_cons, List.length_append, List.length_cons]; have := t.leaves_pos; omega
/-- two neighbours are joined -/
theorem join_at {α : Type} {xs : List α} {a : Nat} {x y : α} (h1 : xs[a]? = some x) (h2 : xs[a + 1]? = some y) : xs = xs.take a ++ x :: y :: xs.drop (a + 2) := by
  obtain ⟨l1, e1⟩ := List.getElem?_eq_some_iff.mp h1
  obtain ⟨l2, e2⟩ := List.getElem?_eq_some_iff.mp h2
  have q1 : xs.drop a = xs[a] :: xs.drop (a + 1) := List.drop_eq_getElem_cons l1
  have q2 : xs.drop (a + 1) = xs[a + 1] :: xs.drop (a + 2) := List.drop_eq_getElem_cons l2
  rw [e1] at q1
  rw [e2] at q2
  rw [← q2, ← q1, List.take_append_drop]
/-- what the row is behind one joining -/
theorem TAts.join {H : Hp} {xs : List V} {ts : List Tr} {a : Nat} {x y : V} {p : Addr} (hT : TAts H xs ts) (h1 : xs[a]? = some x) (h2 : xs[a + 1]? = some y) (hp : H p = some (.tup [x, y])) :
    ∃ us, TAts H (xs.take a ++ [V.ref p] ++ xs.drop (a + 2)) us ∧ lvs us = lvs ts := by
  obtain ⟨tx, e1, q1⟩ := hT.get h1
  obtain ⟨ty, e2, q2⟩ := hT.get h2
  refine ⟨ts.take a ++ [Tr.node tx ty] ++ ts.drop (a + 2), ((hT.take a).append (.cons (.node hp q1 q2) .nil)).append (hT.drop (a + 2)), ?_⟩
  conv => rhs; rw [join_at e1 e2]
  rw [lvs_append, lvs_append, lvs_append, lvs_cons, lvs_cons, lvs_cons]
  simp [lvs, Tr.leaves]
theorem menu5 {d F b c e g : Int} (h0 : 0 ≤ d) (h1 : d < 5) (hF : 0 ≤ F) (c0 : 0 ≤ c) (c1 : c ≤ F) (e0 : 0 ≤ e) (e1 : e ≤ F) (g0 : 0 ≤ g) (g1 : g ≤ F) :
    ∃ a : Int, atI [V.int 0, V.int F, V.int c, V.int e, V.int g] d = some (.int a) ∧ 0 ≤ a ∧ a ≤ F := by
  have : d = 0 ∨ d = 1 ∨ d = 2 ∨ d = 3 ∨ d = 4 := by omega
  rcases this with rfl | rfl | rfl | rfl | rfl
  · exact ⟨0, rfl, by omega, hF⟩
  · exact ⟨F, rfl, hF, by omega⟩
  · exact ⟨c, rfl, c0, c1⟩
  · exact ⟨e, rfl, e0, e1⟩
  · exact ⟨g, rfl, g0, g1⟩
def spJoined (K : PySem.W.Frag) : Sp := fun vs H Q _ => ∃ (h a : Addr) (xs : List V) (ts : List Tr), vs = [.ref h, .ref a] ∧ Hand H h ∧ a ≠ h ∧ SqL K H a xs ∧ TAts H xs ts ∧ 1 ≤ xs.length ∧ xs.length ≤ 200 ∧
  ∀ (v : V) (H' : Hp) (t : Tr), Drew h H H' → TAt H' v t → t.leaves = lvs ts → Q v H'
theorem SqL.keep {K : PySem.W.Frag} {H : Hp} {a h : Addr} {xs : List V} (hS : SqL K H a xs) (n : H h = none) {H' : Hp} (x : SameX h H H') : SqL K H' a xs := by
  rcases hS with (e | ⟨o, e⟩) | e
  · exact .inl (.inl (x _ _ (ne_of_none e n) e))
  · exact .inl (.inr ⟨o, x _ _ (ne_of_none e n) e⟩)
  · exact .inr e
theorem Hand.fresh {H : Hp} {h p : Addr} (a : Hand H h) (n : H p = none) : p ≠ h := fun z => by obtain ⟨xs, e, _⟩ := a; rw [z, e] at n; cases n
theorem menu_of {d : Int} {a b : Int} : ∃ m : Int, atI [V.int a, V.int b] (if decide (V.int d = V.int 0) = true then 1 else 0) = some (.int m) ∧ (m = a ∨ m = b) := by
  by_cases h : V.int d = V.int 0
  · rw [decide_eq_true h, if_pos rfl]; exact ⟨b, rfl, .inr rfl⟩
  · rw [decide_eq_false h, if_neg Bool.false_ne_true]; exact ⟨a, rfl, .inl rfl⟩
theorem wd_a8 : Wd (Txt.mul "a" 8) := by
  refine ⟨by decide +kernel, by decide +kernel, by decide +kernel⟩
theorem mul_a8 : MulOk "a" 8 := by
  refine ⟨by decide +kernel, fun _ _ => by decide +kernel, fun _ _ => by decide +kernel⟩
/-- one of the words -/
theorem word_at {ws : List Str} {i : Int} (h0 : 0 ≤ i) (h1 : i < ws.length) : ∃ x, atI (ws.map V.str) i = some (.str x) ∧ x ∈ ws := by
  obtain ⟨v, e1, e2⟩ := atI_lt (xs := ws.map V.str) h0 (by rw [List.length_map]; exact h1)
  rw [List.getElem?_map] at e2
  cases z : ws[i.toNat]? with
  | none => rw [z] at e2; cases e2
  | some c => rw [z] at e2; exact ⟨c, by rw [e1, ← Option.some.inj e2], List.mem_of_getElem? z⟩
/-! ### kinds -/
theorem kit_str_str (K : PySem.W.Frag) : PySem.W.kitOne K (.type "str") (.type "str") = some true := rfl
theorem kit_tup_tup (K : PySem.W.Frag) : PySem.W.kitOne K (.type "tuple") (.type "tuple") = some true := rfl
theorem kit_tup_str (K : PySem.W.Frag) : PySem.W.kitOne K (.type "tuple") (.type "str") = some false := by kernel_rfl
theorem kit_str_tup (K : PySem.W.Frag) : PySem.W.kitOne K (.type "str") (.type "tuple") = some false := by kernel_rfl
theorem in_letters_all : ∀ k : _root_.Fin 26, (!(Builtin.Str.occurrences ("abcdefghijklmnopqrstuvwxyz" : Str) ⟨#[97 + k.val]⟩ 0 ("abcdefghijklmnopqrstuvwxyz" : Str).length 1).isEmpty) = true := by decide +kernel
theorem in_letters {c : Nat} (h0 : 97 ≤ c) (h1 : c < 123) : (!(Builtin.Str.occurrences ("abcdefghijklmnopqrstuvwxyz" : Str) ⟨#[c]⟩ 0 ("abcdefghijklmnopqrstuvwxyz" : Str).length 1).isEmpty) = true := by
  have e := in_letters_all ⟨c - 97, by omega⟩
  have e2 : 97 + (c - 97) = c := by omega
  simp only [e2] at e
  exact e
/-! ### the program's own: trees -/
def spRow (K : PySem.W.Frag) : Sp := fun vs H Q _ => ∃ (v : V) (m : Int), vs = [v, .int m] ∧
  ((∃ a xs, v = .ref a ∧ H a = some (.tup xs) ∧ Q (.bl (decide (V.int (xs.length : Int) = V.int m))) H) ∨ ∃ t, TyOf K H v t ∧ PySem.W.kitOne K t (.type "tuple") = some false ∧ Q (.bl false) H)
def spWordT : Sp := fun vs H Q _ => ∃ x : Str, vs = [.str x] ∧ Wd x ∧ ∀ H', Same H H' → Q (.bl true) H'
def spGrownT (fw : Addr) : Sp := fun vs H Q _ => ∃ (v : V) (t : Tr), vs = [v, .ref fw, .bl true] ∧ TAt H v t ∧ t.Ws ∧ t.size ≤ 1000 ∧ ∀ H', Same H H' → Q (.bl true) H'
def spTreeT : Sp := fun vs H Q _ => ∃ (v : V) (t : Tr), vs = [v] ∧ TAt H v t ∧ t.Ws ∧ t.size ≤ 1000 ∧ ∀ H', Same H H' → Q (.bl true) H'
/-! ### all parts of a tree; a tree that leans far -/
def Tr.subs : Tr → List Tr
  | .leaf x => [.leaf x]
  | .node l r => .node l r :: (l.subs ++ r.subs)
theorem Tr.subs_len : ∀ t : Tr, t.subs.length = t.size
  | .leaf _ => rfl
  | .node l r => by show (l.subs ++ r.subs).length + 1 = l.size + r.size + 1; rw [List.length_append, l.subs_len, r.subs_len]
theorem Tr.subs_ok : ∀ (t u : Tr), u ∈ t.subs → (∀ x ∈ u.leaves, x ∈ t.leaves) ∧ u.size ≤ t.size
  | .leaf x, u, h => by
    have : u = .leaf x := List.mem_singleton.mp h
    subst this
    exact ⟨fun _ h => h, Nat.le_refl _⟩
  | .node l r, u, h => by
    rcases List.mem_cons.mp h with z | z
    · subst z; exact ⟨fun _ h => h, Nat.le_refl _⟩
    · rcases List.mem_append.mp z with z | z
      · obtain ⟨a, b⟩ := l.subs_ok u z
        exact ⟨fun x hx => List.mem_append_left _ (a x hx), by show u.size ≤ l.size + r.size + 1; omega⟩
      · obtain ⟨a, b⟩ := r.subs_ok u z
        exact ⟨fun x hx => List.mem_append_right _ (a x hx), by show u.size ≤ l.size + r.size + 1; omega⟩
def spAll (n : Nat) : Sp := fun vs H Q _ => ∃ (v : V) (t : Tr), vs = [v] ∧ TAt H v t ∧ t.depth < n ∧ t.size ≤ 1000 ∧
  ∀ (r : Addr) (H' : Hp) (xs : List V), Same H H' → H' r = some (.lst xs) → H r = none → TAts H' xs t.subs → Q (.ref r) H'
def spFar (K : PySem.W.Frag) : Sp := fun vs H Q _ => ∃ (h a : Addr) (ws : List Str), vs = [.ref h, .ref a] ∧ Hand H h ∧ a ≠ h ∧ SqL K H a (ws.map V.str) ∧ 1 ≤ ws.length ∧ ws.length ≤ 100 ∧ (∀ x ∈ ws, Wd x) ∧
  ∀ (v : V) (H' : Hp) (l r : Tr), Drew h H H' → TAt H' v (.node l r) → (Tr.node l r).Ws → (Tr.node l r).leaves.length ≤ 60 → Q v H'
def sizes (ts : List Tr) : Nat := (ts.map Tr.size).sum
theorem sizes_append (a b : List Tr) : sizes (a ++ b) = sizes a + sizes b := by unfold sizes; rw [List.map_append, List.sum_append]
theorem sizes_one (t : Tr) : sizes [t] = t.size := by simp [sizes]
theorem Tr.size_pos : ∀ t : Tr, 1 ≤ t.size
  | .leaf _ => Nat.le_refl _
  | .node l r => by show 1 ≤ l.size + r.size + 1; omega
theorem len_sizes : ∀ ts : List Tr, ts.length ≤ sizes ts
  | [] => Nat.le_refl _
  | t :: r => by have := len_sizes r; have := t.size_pos; show r.length + 1 ≤ t.size + sizes r; omega
/-- the last of some trees -/
theorem TAts.last {H : Hp} : ∀ {xs : List V} {ts : List Tr}, TAts H xs ts → xs ≠ [] → ∃ ys y us u, xs = ys ++ [y] ∧ ts = us ++ [u] ∧ TAts H ys us ∧ TAt H y u
  | _, _, .nil, h => absurd rfl h
  | _, _, .cons (x := x) (t := t) h .nil, _ => ⟨[], x, [], t, rfl, rfl, .nil, h⟩
  | _, _, .cons (x := x) (t := t) h (.cons h' r), _ => by
    obtain ⟨ys, y, us, u, e1, e2, q1, q2⟩ := TAts.last (.cons h' r) (by simp)
    exact ⟨x :: ys, y, t :: us, u, by rw [e1]; rfl, by rw [e2]; rfl, .cons h q1, q2⟩
end My

set_option Elab.async false
set_option linter.all false
set_option maxRecDepth 100000
namespace L2
open PySem PySem.Spec PyProof.Rows
section
variable {X : Cx} (K : PySem.W.Frag) (hK : X.K = K) {pos p1 p2 : Pos} {k1 k2 k3 e1 e2 : Expr} {t1 t2 : TE}
/-- f"a{x}b{y}c" of texts -/
def tF2 (a b c : Str) (t1 t2 : TE) : TE := fun σ H Q => t1 σ H fun x H1 => ∃ u, x = .str u ∧ u.length ≤ 1000 ∧ t2 σ H1 fun y H2 => ∃ v, y = .str v ∧ v.length ≤ 1000 ∧ Q (.str (Str.empty ++ a ++ u ++ b ++ v ++ c)) H2
theorem pe_f2 {a b c : Str} (h1 : PE X k1 (tC (.str a))) (he1 : PE X e1 t1) (h2 : PE X k2 (tC (.str b))) (he2 : PE X e2 t2) (h3 : PE X k3 (tC (.str c))) (la : a.length + b.length + c.length ≤ 100 := by decide +kernel) :
    PE X (.JoinedStr [k1, .FormattedValue e1 (-1) none p1, k2, .FormattedValue e2 (-1) none p2, k3] pos) (tF2 a b c t1 t2) := by
  intro pins s σ H Q I h
  refine JoinedStr_many ?_
  have e0 : (Str.empty : Str).length = 0 := rfl
  have big : 3000 ≤ sizeLine := by rw [sizeLine_eq]; decide
  refine joinParts_cons (thn (h1 pins s σ H (fun x H1 => x = .str a ∧ H1 = H) I ⟨rfl, rfl⟩) fun u0 s0 ⟨x0, H0, I0, r0, ex0, eH0⟩ => ?_)
  subst ex0
  subst eH0
  obtain ⟨t0, rfl⟩ := r0
  refine ⟨by rw [Str.length_append]; omega, ?_⟩
  refine joinParts_cons (FormattedValue_plain (thn (he1 pins s0 σ _ _ I0 h) fun u1 s1 ⟨x1, H1, I1, r1, u, ex1, lu, h⟩ => ?_))
  subst ex1
  obtain ⟨t1', rfl⟩ := r1
  refine formatField_str (fun t' tk => ⟨by rw [Str.length_append, Str.length_append]; omega, ?_⟩) (by omega)
  refine joinParts_cons (thn (h2 pins _ σ H1 (fun x H2 => x = .str b ∧ H2 = H1) (I1.tok _) ⟨rfl, rfl⟩) fun u2 s2 ⟨x2, H2, I2, r2, ex2, eH2⟩ => ?_)
  subst ex2
  subst eH2
  obtain ⟨t2', rfl⟩ := r2
  refine ⟨by rw [Str.length_append, Str.length_append, Str.length_append]; omega, ?_⟩
  refine joinParts_cons (FormattedValue_plain (thn (he2 pins s2 σ _ _ I2 h) fun u3 s3 ⟨x3, H3, I3, r3, v, ex3, lv, h⟩ => ?_))
  subst ex3
  obtain ⟨t3', rfl⟩ := r3
  refine formatField_str (fun t' tk => ⟨by rw [Str.length_append, Str.length_append, Str.length_append, Str.length_append]; omega, ?_⟩) (by omega)
  refine joinParts_cons (thn (h3 pins _ σ H3 (fun x H4 => x = .str c ∧ H4 = H3) (I3.tok _) ⟨rfl, rfl⟩) fun u4 s4 ⟨x4, H4, I4, r4, ex4, eH4⟩ => ?_)
  subst ex4
  subst eH4
  obtain ⟨t4', rfl⟩ := r4
  refine ⟨by rw [Str.length_append, Str.length_append, Str.length_append, Str.length_append, Str.length_append]; omega, ?_⟩
  refine joinParts_nil ⟨.str _, _, I4.tok _, ⟨_, rfl⟩, h⟩ (by rw [Str.length_append, Str.length_append, Str.length_append, Str.length_append, Str.length_append]; omega)
/-- sep.join([a, b]) -/
def rJoin2 : V → List V → Hp → VK → Prop := fun x vs H Q => ∃ sep l a b, x = .str sep ∧ vs = [.ref l] ∧ H l = some (.lst [.str a, .str b]) ∧ sep.length + a.length + b.length ≤ 3000 ∧ sep.length ≤ 100 ∧ Q (.str (a ++ sep ++ b)) H
theorem mt_join2 : MtM X "str.join" rJoin2 := by
  intro pins s σ H x vs v us Q I rx rv h
  obtain ⟨sep, l, a, b, rfl, rfl, hH, hz, hs, q⟩ := h
  obtain ⟨t, rfl⟩ := rx
  obtain ⟨u, rfl, ru⟩ := rv.one
  cases ru
  have big : 4000 ≤ sizeLine := by rw [sizeLine_eq]; decide
  obtain ⟨z, its, n, r, hl, e⟩ := I.lstM hH
  obtain ⟨u0, u1, rfl, r0, r1⟩ := vals2 r
  obtain ⟨ta, rfl⟩ := r0
  obtain ⟨tb, rfl⟩ := r1
  refine call_meets F.slot_str_join (typeIs_str _ _ _) F.entry_str_join (F.args_str_join_2 _ _) (meets_str_join_list sep t l [(a, ta), (b, tb)] ?_) ⟨⟨_, e, rfl, _, rfl⟩, ?_⟩
  · unfold Builtin.Str.tooLong
    simp
    omega
  · show (Made.str (Builtin.Str.glued sep [a, b])).post _ s
    have eg : Builtin.Str.glued sep [a, b] = a ++ sep ++ b := rfl
    rw [eg]
    have lg : (a ++ sep ++ b).length ≤ sizeLine := by rw [Str.length_append, Str.length_append]; omega
    exact ⟨lg, ⟨.str _, H, I.tok _, ⟨_, rfl⟩, q⟩⟩
/-- two lists of two texts -/
def rNeS2 (K : PySem.W.Frag) : R2 := fun x y H Q => ∃ p q a b c d, x = .ref p ∧ y = .ref q ∧ SqL K H p [.str a, .str b] ∧ SqL K H q [.str c, .str d] ∧ Q (.bl (!(decide (a = c) && decide (b = d)))) H
include hK
theorem op_neS2 (hu : X.A.units < cLine) : OpR X (compareOp .NotEq) (rNeS2 K) := by
  subst hK
  intro pins s σ H x y v u Q I rx ry h
  obtain ⟨p, q, a, b, c, d, rfl, rfl, hp, hq, k⟩ := h
  cases rx
  cases ry
  obtain ⟨its, r, pl, hz⟩ := I.list hp
  obtain ⟨its2, r2, pl2, hz2⟩ := I.list hq
  obtain ⟨u0, u1, rfl, r0, r1⟩ := vals2 r
  obtain ⟨w0, w1, rfl, r2', r3⟩ := vals2 r2
  obtain ⟨ta, rfl⟩ := r0
  obtain ⟨tb, rfl⟩ := r1
  obtain ⟨tc, rfl⟩ := r2'
  obtain ⟨td, rfl⟩ := r3
  refine EqBoolInt.of_rcne (SeqAt.RcNeAt.lists (e := fun j => if j = 0 then a == c else b == d) pl.isList pl2.isList rfl hu fun j h1 h2 => ?_) ?_
  · have : j = 0 ∨ j = 1 := by simp at h1; omega
    rcases this with rfl | rfl
    · exact SeqAt.EqAt.str_str a ta c tc
    · exact SeqAt.EqAt.str_str b tb d td
  · refine ⟨.bl _, H, I, ?_, k⟩
    show Value.bool _ = Value.bool _
    congr 1
    by_cases h1 : a = c <;> by_cases h2 : b = d <;> simp [h1, h2, List.range, List.range.loop]
end
end L2

set_option Elab.async false
set_option linter.all false
set_option maxRecDepth 100000
namespace My
open PySem PySem.Spec PyProof.Rows L2
def spWordG (K : PySem.W.Frag) : Sp := fun vs H Q _ => ∃ v : V, vs = [v] ∧
  ((∃ x, v = .str x ∧ Wd x ∧ ∀ H', Same H H' → Q (.bl true) H') ∨ (v = .str "" ∧ Q (.bl false) H) ∨ (v = .str "A" ∧ ∀ H', Same H H' → Q (.bl false) H') ∨ (∃ t, TyOf K H v t ∧ PySem.W.kitOne K t (.type "str") = some false ∧ Q (.bl false) H))
theorem notin_A : (!(Builtin.Str.occurrences ("abcdefghijklmnopqrstuvwxyz" : Str) ⟨#[65]⟩ 0 ("abcdefghijklmnopqrstuvwxyz" : Str).length 1).isEmpty) = false := by decide +kernel
def inL (c : Nat) : Bool := !(Builtin.Str.occurrences ("abcdefghijklmnopqrstuvwxyz" : Str) ⟨#[c]⟩ 0 ("abcdefghijklmnopqrstuvwxyz" : Str).length 1).isEmpty
theorem inL_wd {x : Str} (h : Wd x) : (x.cps.toList.map inL).all id = true := by
  rw [List.all_eq_true]
  intro b hb
  obtain ⟨c, hc, rfl⟩ := List.mem_map.mp hb
  obtain ⟨c0, c1⟩ := h.2.2 c hc
  exact in_letters c0 c1
theorem inL_A : (("A" : Str).cps.toList.map inL).all id = false := by decide +kernel
theorem TyOf.same {K : PySem.W.Frag} {H H' : Hp} {v : V} {t : Value} (s : Same H H') (h : TyOf K H v t) : TyOf K H' v t := by
  cases h with
  | non => exact .non
  | bl x => exact .bl x
  | int i => exact .int i
  | str x => exact .str x
  | flt x => exact .flt x
  | lst e => exact .lst (s _ _ e)
  | frz e => exact .frz (s _ _ e)
  | tup e => exact .tup (s _ _ e)
  | dK e => exact .dK (s _ _ e)
  | dT e => exact .dT (s _ _ e)
  | ins e cl ha hn htk hm => exact .ins (s _ _ e) cl ha hn htk hm
/-- what is no tree at its top -/
def Bad (K : PySem.W.Frag) (H : Hp) (v : V) : Prop := v = .str "" ∨ v = .str "A" ∨ (∃ a xs, v = .ref a ∧ H a = some (.tup xs) ∧ xs.length ≠ 2) ∨ ∃ t, TyOf K H v t ∧ PySem.W.kitOne K t (.type "tuple") = some false ∧ PySem.W.kitOne K t (.type "str") = some false
def spGrownG (K : PySem.W.Frag) (fw : Addr) : Sp := fun vs H Q _ => ∃ v : V, vs = [v, .ref fw, .bl false] ∧
  ((∃ t, TAt H v t ∧ t.Ws ∧ t.size ≤ 1000 ∧ ∀ H', Same H H' → Q (.bl (decide t.leaves.Nodup)) H') ∨ (Bad K H v ∧ ∀ H', Same H H' → Q (.bl false) H'))
def spGreatG (K : PySem.W.Frag) : Sp := fun vs H Q _ => ∃ v : V, vs = [v] ∧
  ((∃ t, TAt H v t ∧ t.Ws ∧ t.size ≤ 1000 ∧ ∀ H', Same H H' → Q (.bl (decide t.leaves.Nodup)) H') ∨ (Bad K H v ∧ ∀ H', Same H H' → Q (.bl false) H'))
end My

set_option Elab.async false
set_option linter.all false
set_option maxRecDepth 100000
namespace My
open PySem PySem.Spec PyProof.Rows L2
/-! ### things of any kind -/
inductive Th where
  | str (x : Str)
  | node (l r : Th)
  | bad
def Th.size : Th → Nat
  | .str _ => 1
  | .node l r => l.size + r.size + 1
  | .bad => 1
def wordB (x : Str) : Bool := decide (1 ≤ x.length) && (decide (x.length ≤ 8) && (x.cps.toList.map inL).all id)
def Th.good : Th → Bool
  | .str x => wordB x
  | .node l r => l.good && r.good
  | .bad => false
theorem Th.size_pos : ∀ t : Th, 1 ≤ t.size
  | .str _ => Nat.le_refl _
  | .node l r => by show 1 ≤ l.size + r.size + 1; omega
  | .bad => Nat.le_refl _
/-- a text of which both looks tell the same -/
def Fit (x : Str) : Prop := x.length ≤ 9 ∧ decide (Txt.stripChars x "abcdefghijklmnopqrstuvwxyz" = "") = (x.cps.toList.map inL).all id
inductive ThAt (K : PySem.W.Frag) (H : Hp) : V → Th → Prop where
  | str {x : Str} : Fit x → ThAt K H (.str x) (.str x)
  | node {a : Addr} {x y : V} {l r : Th} : H a = some (.tup [x, y]) → ThAt K H x l → ThAt K H y r → ThAt K H (.ref a) (.node l r)
  | tup {a : Addr} {xs : List V} : H a = some (.tup xs) → xs.length ≠ 2 → ThAt K H (.ref a) .bad
  | oth {v : V} {t : Value} : TyOf K H v t → PySem.W.kitOne K t (.type "tuple") = some false → PySem.W.kitOne K t (.type "str") = some false → ThAt K H v .bad
theorem ThAt.same {K : PySem.W.Frag} {H H' : Hp} (s : Same H H') {v : V} {t : Th} (a : ThAt K H v t) : ThAt K H' v t := by
  induction a with
  | str h => exact .str h
  | node e _ _ i1 i2 => exact .node (s _ _ e) i1 i2
  | tup e h => exact .tup (s _ _ e) h
  | oth t h1 h2 => exact .oth (TyOf.same s t) h1 h2
inductive ThAts (K : PySem.W.Frag) (H : Hp) : List V → List Th → Prop where
  | nil : ThAts K H [] []
  | cons {x : V} {t : Th} {xs : List V} {ts : List Th} : ThAt K H x t → ThAts K H xs ts → ThAts K H (x :: xs) (t :: ts)
theorem ThAts.length {K : PySem.W.Frag} {H : Hp} {vs : List V} {ts : List Th} (a : ThAts K H vs ts) : vs.length = ts.length := by
  induction a with
  | nil => rfl
  | cons _ _ i => simp [i]
theorem ThAts.append {K : PySem.W.Frag} {H : Hp} {xs ys : List V} {ts us : List Th} (a : ThAts K H xs ts) (b : ThAts K H ys us) : ThAts K H (xs ++ ys) (ts ++ us) := by
  induction a with
  | nil => exact b
  | cons e _ i => exact .cons e i
theorem ThAts.last {K : PySem.W.Frag} {H : Hp} : ∀ {xs : List V} {ts : List Th}, ThAts K H xs ts → xs ≠ [] → ∃ ys y us u, xs = ys ++ [y] ∧ ts = us ++ [u] ∧ ThAts K H ys us ∧ ThAt K H y u
  | _, _, .nil, h => absurd rfl h
  | _, _, .cons (x := x) (t := t) h .nil, _ => ⟨[], x, [], t, rfl, rfl, .nil, h⟩
  | _, _, .cons (x := x) (t := t) h (.cons h' r), _ => by
    obtain ⟨ys, y, us, u, e1, e2, q1, q2⟩ := ThAts.last (.cons h' r) (by simp)
    exact ⟨x :: ys, y, t :: us, u, by rw [e1]; rfl, by rw [e2]; rfl, .cons h q1, q2⟩
def szs (ts : List Th) : Nat := (ts.map Th.size).sum
theorem szs_append (a b : List Th) : szs (a ++ b) = szs a + szs b := by unfold szs; rw [List.map_append, List.sum_append]
theorem szs_one (t : Th) : szs [t] = t.size := by simp [szs]
theorem szs_two (t u : Th) : szs [t, u] = t.size + u.size := by simp [szs]
theorem len_szs : ∀ ts : List Th, ts.length ≤ szs ts
  | [] => Nat.le_refl _
  | t :: r => by have := len_szs r; have := t.size_pos; show r.length + 1 ≤ t.size + szs r; omega
/-- all of them are good -/
def alls (ts : List Th) : Bool := ts.all Th.good
theorem alls_append (a b : List Th) : alls (a ++ b) = (alls a && alls b) := List.all_append
theorem alls_one (t : Th) : alls [t] = t.good := by simp [alls]
theorem alls_two (t u : Th) : alls [t, u] = (t.good && u.good) := by simp [alls]
/-! ### texts -/
theorem cont_all : ∀ k : _root_.Fin 26, ("abcdefghijklmnopqrstuvwxyz" : Str).cps.contains (97 + k.val) = true := by decide +kernel
theorem cont_of {c : Nat} (h0 : 97 ≤ c) (h1 : c < 123) : ("abcdefghijklmnopqrstuvwxyz" : Str).cps.contains c = true := by
  have e := cont_all ⟨c - 97, by omega⟩
  have e2 : 97 + (c - 97) = c := by omega
  simp only [e2] at e
  exact e
theorem takeWhile_all {g : Nat → Bool} : ∀ {l : List Nat}, (∀ c ∈ l, g c = true) → l.takeWhile g = l
  | [], _ => rfl
  | c :: l, h => by
    rw [List.takeWhile_cons, if_pos (h c (List.mem_cons_self ..)), takeWhile_all fun d hd => h d (List.mem_cons_of_mem _ hd)]
theorem strip_wd {x : Str} (h : Wd x) : Txt.stripChars x "abcdefghijklmnopqrstuvwxyz" = "" := by
  have hg : ∀ c ∈ x.cps.toList, ("abcdefghijklmnopqrstuvwxyz" : Str).cps.contains c = true := fun c hc => cont_of (h.2.2 c hc).1 (h.2.2 c hc).2
  have e1 : stripLo ("abcdefghijklmnopqrstuvwxyz" : Str).cps.contains true x = x.length := by
    unfold stripLo
    rw [if_pos rfl, takeWhile_all hg]
    exact Array.length_toList ..
  have e2 : stripHi ("abcdefghijklmnopqrstuvwxyz" : Str).cps.contains true x x.length = x.length := by
    unfold stripHi
    rw [if_pos rfl]
    have : List.drop x.length x.cps.toList = [] := List.drop_eq_nil_of_le (Nat.le_of_eq (Array.length_toList ..))
    rw [this]
    rfl
  unfold Txt.stripChars Txt.stripBy
  rw [if_neg]
  · unfold stripped
    rw [e1, e2]
    unfold Builtin.Str.strSub
    have : x.cps.extract x.length x.length = #[] := by simp; exact Nat.min_le_left _ _
    rw [this]
    rfl
  · unfold stripSame
    rw [e1]
    have := h.1
    have : (x.length == 0) = false := by simp; omega
    rw [this]
    simp
theorem fit_wd {x : Str} (h : Wd x) : Fit x := ⟨by have := h.2.1; omega, by rw [strip_wd h, inL_wd h]; exact decide_eq_true rfl⟩
def fitB (x : Str) : Bool := decide (x.length ≤ 9) && (decide (Txt.stripChars x "abcdefghijklmnopqrstuvwxyz" = "") == (x.cps.toList.map inL).all id)
theorem fit_of {x : Str} (h : fitB x = true) : Fit x := by
  unfold fitB at h
  rw [Bool.and_eq_true] at h
  exact ⟨of_decide_eq_true h.1, eq_of_beq h.2⟩
theorem TAt.th {K : PySem.W.Frag} {H : Hp} {v : V} {t : Tr} (h : TAt H v t) : t.Ws → ∃ u, ThAt K H v u ∧ u.size = t.size := by
  induction h with
  | leaf x => exact fun hw => ⟨.str x, .str (fit_wd (hw x (List.mem_singleton.mpr rfl))), rfl⟩
  | node e _ _ i1 i2 =>
    intro hw
    obtain ⟨u1, h1, s1⟩ := i1 fun x hx => hw x (List.mem_append_left _ hx)
    obtain ⟨u2, h2, s2⟩ := i2 fun x hx => hw x (List.mem_append_right _ hx)
    exact ⟨.node u1 u2, .node e h1 h2, by show u1.size + u2.size + 1 = _; rw [s1, s2]; rfl⟩
/-! ### kinds -/
theorem kit_non_tup (K : PySem.W.Frag) : PySem.W.kitOne K (.type "NoneType") (.type "tuple") = some false := by kernel_rfl
theorem kit_non_str (K : PySem.W.Frag) : PySem.W.kitOne K (.type "NoneType") (.type "str") = some false := by kernel_rfl
theorem kit_bl_tup (K : PySem.W.Frag) : PySem.W.kitOne K (.type "bool") (.type "tuple") = some false := by kernel_rfl
theorem kit_bl_str (K : PySem.W.Frag) : PySem.W.kitOne K (.type "bool") (.type "str") = some false := by kernel_rfl
theorem kit_int_tup (K : PySem.W.Frag) : PySem.W.kitOne K (.type "int") (.type "tuple") = some false := by kernel_rfl
theorem kit_int_str (K : PySem.W.Frag) : PySem.W.kitOne K (.type "int") (.type "str") = some false := by kernel_rfl
theorem kit_lst_tup (K : PySem.W.Frag) : PySem.W.kitOne K (.type "list") (.type "tuple") = some false := by kernel_rfl
theorem kit_lst_str (K : PySem.W.Frag) : PySem.W.kitOne K (.type "list") (.type "str") = some false := by kernel_rfl
theorem kit_dic_tup (K : PySem.W.Frag) : PySem.W.kitOne K (.type "dict") (.type "tuple") = some false := by kernel_rfl
theorem kit_dic_str (K : PySem.W.Frag) : PySem.W.kitOne K (.type "dict") (.type "str") = some false := by kernel_rfl
theorem kit_bl_bl (K : PySem.W.Frag) : PySem.W.kitOne K (.type "bool") (.type "bool") = some true := rfl
section
variable {K : PySem.W.Frag} {H : Hp} {a : Addr}
theorem th_non : ThAt K H .non .bad := .oth .non (kit_non_tup K) (kit_non_str K)
theorem th_bl (b : Bool) : ThAt K H (.bl b) .bad := .oth (.bl b) (kit_bl_tup K) (kit_bl_str K)
theorem th_int (i : Int) : ThAt K H (.int i) .bad := .oth (.int i) (kit_int_tup K) (kit_int_str K)
theorem th_lst {xs : List V} (h : H a = some (.lst xs)) : ThAt K H (.ref a) .bad := .oth (.lst h) (kit_lst_tup K) (kit_lst_str K)
theorem th_dic {xs : List (Key × V)} (h : H a = some (.dK xs)) : ThAt K H (.ref a) .bad := .oth (.dK h) (kit_dic_tup K) (kit_dic_str K)
theorem th_0 (h : H a = some (.tup [])) : ThAt K H (.ref a) .bad := .tup h (show (0 : Nat) ≠ 2 by decide)
theorem th_1 {x : V} (h : H a = some (.tup [x])) : ThAt K H (.ref a) .bad := .tup h (show (1 : Nat) ≠ 2 by decide)
theorem th_3 {x y z : V} (h : H a = some (.tup [x, y, z])) : ThAt K H (.ref a) .bad := .tup h (show (3 : Nat) ≠ 2 by decide)
end
/-! ### what the defs hand back -/
def spWordS (K : PySem.W.Frag) : Sp := fun vs H Q _ => ∃ v : V, vs = [v] ∧
  ((∃ x : Str, v = .str x ∧ x.length ≤ 9 ∧ ∀ H', Same H H' → Q (.bl (wordB x)) H') ∨ (∃ t, TyOf K H v t ∧ PySem.W.kitOne K t (.type "str") = some false ∧ Q (.bl false) H))
def spGrownS (K : PySem.W.Frag) (fw : Addr) : Sp := fun vs H Q _ => ∃ (v : V) (t : Th), vs = [v, .ref fw, .bl true] ∧ ThAt K H v t ∧ t.size ≤ 900 ∧ ∀ H', Same H H' → Q (.bl t.good) H'
def spTreeS (K : PySem.W.Frag) : Sp := fun vs H Q _ => ∃ (v : V) (t : Th), vs = [v] ∧ ThAt K H v t ∧ t.size ≤ 900 ∧ ∀ H', Same H H' → Q (.bl t.good) H'
def spRightS (K : PySem.W.Frag) : Sp := fun vs H Q _ => ∃ (v : V) (t : Th), vs = [v] ∧ ThAt K H v t ∧ t.size ≤ 900 ∧ ∀ H', Same H H' → Q (.bl true) H'
end My

set_option Elab.async false
set_option linter.all false
set_option maxRecDepth 100000
namespace My
open PySem PySem.Spec PyProof.Rows L2
/-! ### trees alike -/
def Tr.beq : Tr → Tr → Bool
  | .leaf x, .leaf y => x == y
  | .node l r, .node l' r' => l.beq l' && r.beq r'
  | _, _ => false
theorem Tr.beq_iff : ∀ t u : Tr, t.beq u = true ↔ t = u
  | .leaf x, .leaf y => by show (x == y) = true ↔ _; rw [beq_iff_eq]; exact ⟨fun h => by rw [h], fun h => by injection h⟩
  | .leaf _, .node _ _ => ⟨fun h => (by cases h), fun h => (by cases h)⟩
  | .node _ _, .leaf _ => ⟨fun h => (by cases h), fun h => (by cases h)⟩
  | .node l r, .node l' r' => by
    show (l.beq l' && r.beq r') = true ↔ _
    rw [Bool.and_eq_true, Tr.beq_iff l l', Tr.beq_iff r r']
    exact ⟨fun ⟨a, b⟩ => by rw [a, b], fun h => by injection h with a b; exact ⟨a, b⟩⟩
theorem TAt.fn {H : Hp} {v : V} {t : Tr} (h : TAt H v t) : ∀ {u : Tr}, TAt H v u → t = u := by
  induction h with
  | leaf x => intro u h; cases h; rfl
  | node e _ _ i1 i2 =>
    intro u h
    cases h with
    | node e' h1 h2 =>
      rw [e] at e'
      cases e'
      rw [i1 h1, i2 h2]
theorem all2 (a b : Bool) : ((List.range 2).all fun j => if j = 0 then a else b) = (a && b) := by cases a <;> cases b <;> rfl
section
variable {X : Cx} {pins : List (Addr × Obj)} {σ : L2.St} {H : Hp} {s : Shared}
theorem rc_tr (I : Inv X pins σ H s) {A : Around} {a b : Addr} {x y x' y' : V} {k1 k2 : Bool} (e : H a = some (.tup [x, y])) (e' : H b = some (.tup [x', y'])) (hu : A.units < cLine)
    (h1 : ∀ w w', RelV x w → RelV x' w' → SeqAt.EqAt A.in1 s w w' k1) (h2 : ∀ w w', RelV y w → RelV y' w' → SeqAt.EqAt A.in1 s w w' k2) : SeqAt.RcAt A s (.ref a) (.ref b) (k1 && k2) := by
  obtain ⟨its, r, ht, _⟩ := I.tuple (SqT.of e)
  obtain ⟨its', r', ht', _⟩ := I.tuple (SqT.of e')
  obtain ⟨u0, u1, rfl, r0, r1⟩ := vals2 r
  obtain ⟨w0, w1, rfl, r2, r3⟩ := vals2 r'
  have q := SeqAt.RcAt.tuples (A := A) (e := fun j => if j = 0 then k1 else k2) ht ht' hu (fun j g1 g2 => by
    have : j = 0 ∨ j = 1 := by simp at g1; omega
    rcases this with rfl | rfl
    · exact h1 _ _ r0 r2
    · exact h2 _ _ r1 r3)
  have ee : ((List.range (min #[u0, u1].size #[w0, w1].size)).all (fun j => if j = 0 then k1 else k2) && #[u0, u1].size == #[w0, w1].size) = (k1 && k2) := by
    show ((List.range 2).all (fun j => if j = 0 then k1 else k2) && true) = _
    rw [all2, Bool.and_true]
  have q' : SeqAt.RcAt A s (.ref a) (.ref b) ((List.range (min #[u0, u1].size #[w0, w1].size)).all (fun j => if j = 0 then k1 else k2) && #[u0, u1].size == #[w0, w1].size) := q
  rw [ee] at q'
  exact q'
theorem eq_tr (I : Inv X pins σ H s) : ∀ (t u : Tr) (A : Around) (v v' : V) (w w' : Value), TAt H v t → TAt H v' u → RelV v w → RelV v' w' → A.units + t.depth + 1 < cLine → SeqAt.EqAt A s w w' (t.beq u)
  | .leaf x, .leaf y, A, _, _, _, _, .leaf _, .leaf _, r1, r2, _ => by
    obtain ⟨t1, rfl⟩ := r1
    obtain ⟨t2, rfl⟩ := r2
    exact SeqAt.EqAt.str_str x t1 y t2
  | .leaf x, .node l r, A, _, _, _, _, .leaf _, .node e _ _, r1, r2, hu => by
    obtain ⟨t1, rfl⟩ := r1
    cases r2
    obtain ⟨its, _, ht, _⟩ := I.tuple (SqT.of e)
    exact SeqAt.EqAt.str_tuple x t1 ht (by omega)
  | .node l r, .leaf x, A, _, _, _, _, .node e _ _, .leaf _, r1, r2, hu => by
    obtain ⟨t1, rfl⟩ := r2
    cases r1
    obtain ⟨its, _, ht, _⟩ := I.tuple (SqT.of e)
    exact SeqAt.EqAt.tuple_str x t1 ht (by omega)
  | .node l r, .node l' r', A, _, _, _, _, .node (a := a) e h1 h2, .node (a := b) e' h1' h2', r1, r2, hu => by
    cases r1
    cases r2
    have hd : (Tr.node l r).depth = max l.depth r.depth + 1 := rfl
    by_cases hab : a = b
    · subst hab
      have et := (TAt.node e h1 h2).fn (.node e' h1' h2')
      have eb : (Tr.node l r).beq (.node l' r') = true := (Tr.beq_iff _ _).mpr et
      rw [eb]
      exact SeqAt.EqAt.same _
    · refine SeqAt.EqAt.of_refs hab (rc_tr I e e' (by omega) (fun w w' q1 q2 => ?_) (fun w w' q1 q2 => ?_))
      · exact eq_tr I l l' A.in1 _ _ w w' h1 h1' q1 q2 (by show A.units + 1 + l.depth + 1 < _; omega)
      · exact eq_tr I r r' A.in1 _ _ w w' h2 h2' q1 q2 (by show A.units + 1 + r.depth + 1 < _; omega)
end
def rEqTr : R2 := fun x y H Q => (∃ a b, x = .str a ∧ y = .str b ∧ Q (.bl (decide (V.str a = V.str b))) H) ∨ ∃ t u l r l' r', t = Tr.node l r ∧ u = Tr.node l' r' ∧ TAt H x t ∧ TAt H y u ∧ t.depth ≤ 100 ∧ Q (.bl (t.beq u)) H
theorem op_eqTr {X : Cx} (hu : X.A.units + 200 < cLine) : OpR X (compareOp .Eq) rEqTr := by
  refine OpR.mono (r := fun x y H Q => rEq x y H Q ∨ ∃ t u l r l' r', t = Tr.node l r ∧ u = Tr.node l' r' ∧ TAt H x t ∧ TAt H y u ∧ t.depth ≤ 100 ∧ Q (.bl (t.beq u)) H) (op_eq.or ?_) ?_
  · intro pins s σ H x y v u Q I rx ry h
    obtain ⟨t, u', l, r, l', r', rfl, rfl, h1, h2, hd, q⟩ := h
    cases h1 with
    | @node a _ _ _ _ e g1 g2 =>
    cases h2 with
    | @node b _ _ _ _ e' g1' g2' =>
    cases rx
    cases ry
    have hd' : (Tr.node l r).depth = max l.depth r.depth + 1 := rfl
    refine EqBoolInt.of_rc (rc_tr I e e' (by omega) (fun w w' q1 q2 => eq_tr I l l' _ _ _ w w' g1 g1' q1 q2 (by show X.A.units + 1 + l.depth + 1 < _; omega)) (fun w w' q1 q2 => eq_tr I r r' _ _ _ w w' g2 g2' q1 q2 (by show X.A.units + 1 + r.depth + 1 < _; omega))) ?_
    exact ⟨.bl _, H, I, rfl, q⟩
  · intro x y H Q h
    rcases h with ⟨a, b, rfl, rfl, q⟩ | h
    · exact .inl ⟨rfl, q⟩
    · exact .inr h
theorem room200 {k : Nat} {A : Around} (r : Room k A) : A.units + 200 < cLine := by have := r.un; omega
/-! ### nodes in their order -/
def Tr.post : Tr → List Tr
  | .leaf x => [.leaf x]
  | .node l r => l.post ++ r.post ++ [.node l r]
theorem Tr.post_len : ∀ t : Tr, t.post.length = t.size
  | .leaf _ => rfl
  | .node l r => by show (l.post ++ r.post ++ [_]).length = l.size + r.size + 1; rw [List.length_append, List.length_append, l.post_len, r.post_len]; rfl
def posts (ts : List Tr) : List Tr := (ts.map Tr.post).flatten
theorem posts_append (a b : List Tr) : posts (a ++ b) = posts a ++ posts b := by unfold posts; rw [List.map_append, List.flatten_append]
theorem posts_one (t : Tr) : posts [t] = t.post := by simp [posts]
theorem posts_two (t u : Tr) : posts [t, u] = t.post ++ u.post := by simp [posts]
/-- a row of nodes -/
inductive Ent where
  | word (x : Str)
  | pair (a b : Nat)
def Tr.nd : Tr → Nat → List Ent
  | .leaf x, _ => [.word x]
  | .node l r, o => l.nd o ++ r.nd (o + l.size) ++ [.pair (o + l.size - 1) (o + l.size + r.size - 1)]
theorem Tr.nd_len : ∀ (t : Tr) (o : Nat), (t.nd o).length = t.size
  | .leaf _, _ => rfl
  | .node l r, o => by show (l.nd o ++ r.nd (o + l.size) ++ [_]).length = l.size + r.size + 1; rw [List.length_append, List.length_append, l.nd_len, r.nd_len]; rfl
/-- what the loop over the parts does; the loose ones with the last ahead -/
def run : List Tr → List Ent → List Nat → Option (List Ent × List Nat)
  | [], told, ls => some (told, ls)
  | .leaf x :: k, told, ls => run k (told ++ [.word x]) (told.length :: ls)
  | .node _ _ :: k, told, b :: a :: ls => run k (told ++ [.pair a b]) (told.length :: ls)
  | .node _ _ :: _, _, _ => none
theorem run_post : ∀ (t : Tr) (k : List Tr) (told : List Ent) (ls : List Nat), run (t.post ++ k) told ls = run k (told ++ t.nd told.length) ((told.length + t.size - 1) :: ls)
  | .leaf x, k, told, ls => rfl
  | .node l r, k, told, ls => by
    have e1 : (Tr.node l r).post ++ k = l.post ++ (r.post ++ (Tr.node l r :: k)) := by show l.post ++ r.post ++ [_] ++ k = _; simp
    rw [e1, run_post l, run_post r]
    have e2 : (told ++ l.nd told.length).length = told.length + l.size := by rw [List.length_append, l.nd_len]
    rw [e2]
    show run k _ _ = run k _ _
    have e3 : (told ++ l.nd told.length ++ r.nd (told.length + l.size)).length = told.length + (Tr.node l r).size - 1 := by
      rw [List.length_append, List.length_append, l.nd_len, r.nd_len]; show _ = told.length + (l.size + r.size + 1) - 1; omega
    rw [e3]
    have e4 : told ++ (Tr.node l r).nd told.length = told ++ l.nd told.length ++ r.nd (told.length + l.size) ++ [.pair (told.length + l.size - 1) (told.length + l.size + r.size - 1)] := by
      show told ++ (l.nd told.length ++ r.nd (told.length + l.size) ++ [_]) = _
      simp
    rw [e4]
theorem run_whole (t : Tr) : run t.post [] [] = some (t.nd 0, [t.size - 1]) := by
  have := run_post t [] [] []
  rw [List.append_nil] at this
  rw [this]
  show some ([] ++ t.nd 0, [0 + t.size - 1]) = _
  simp
theorem Tr.post_last : ∀ t : Tr, t.post[t.size - 1]? = some t
  | .leaf _ => rfl
  | .node l r => by
    show (l.post ++ r.post ++ [_])[l.size + r.size + 1 - 1]? = _
    rw [List.getElem?_append_right (by rw [List.length_append, l.post_len, r.post_len]; omega), List.length_append, l.post_len, r.post_len]
    have : l.size + r.size + 1 - 1 - (l.size + r.size) = 0 := by omega
    rw [this]
    rfl
/-- the rows speak of the nodes -/
theorem nd_at : ∀ (t : Tr) (o k : Nat) (u : Tr), t.post[k]? = some u → match u with
    | .leaf x => (t.nd o)[k]? = some (.word x)
    | .node l r => ∃ a b, (t.nd o)[k]? = some (.pair (o + a) (o + b)) ∧ a < k ∧ b < k ∧ t.post[a]? = some l ∧ t.post[b]? = some r
  | .leaf x, o, k, u, h => by
    have hk : k = 0 := by
      have := (List.getElem?_eq_some_iff.mp h).1
      simp [Tr.post] at this
      exact this
    subst hk
    cases h
    rfl
  | .node l r, o, k, u, h => by
    have hp : (Tr.node l r).post = l.post ++ r.post ++ [.node l r] := rfl
    have hn : (Tr.node l r).nd o = l.nd o ++ r.nd (o + l.size) ++ [.pair (o + l.size - 1) (o + l.size + r.size - 1)] := rfl
    have lp := l.post_len
    have rp := r.post_len
    have ln := l.nd_len o
    have rn := r.nd_len (o + l.size)
    rw [hp] at h
    by_cases c1 : k < l.size
    · have h' : l.post[k]? = some u := by
        rw [List.append_assoc, List.getElem?_append_left (by omega)] at h
        exact h
      have q := nd_at l o k u h'
      have en : ((Tr.node l r).nd o)[k]? = (l.nd o)[k]? := by rw [hn, List.append_assoc, List.getElem?_append_left (by omega)]
      cases u with
      | leaf x => rw [en]; exact q
      | node l2 r2 =>
        obtain ⟨a, b, q1, q2, q3, q4, q5⟩ := q
        refine ⟨a, b, by rw [en]; exact q1, q2, q3, ?_, ?_⟩
        · rw [hp, List.append_assoc, List.getElem?_append_left (by omega)]; exact q4
        · rw [hp, List.append_assoc, List.getElem?_append_left (by omega)]; exact q5
    · by_cases c2 : k < l.size + r.size
      · have h' : r.post[k - l.size]? = some u := by
          rw [List.append_assoc, List.getElem?_append_right (by omega), List.getElem?_append_left (by omega), lp] at h
          exact h
        have q := nd_at r (o + l.size) (k - l.size) u h'
        have en : ((Tr.node l r).nd o)[k]? = (r.nd (o + l.size))[k - l.size]? := by rw [hn, List.append_assoc, List.getElem?_append_right (by omega), List.getElem?_append_left (by omega), ln]
        cases u with
        | leaf x => rw [en]; exact q
        | node l2 r2 =>
          obtain ⟨a, b, q1, q2, q3, q4, q5⟩ := q
          refine ⟨l.size + a, l.size + b, by rw [en, q1, Nat.add_assoc, Nat.add_assoc], by omega, by omega, ?_, ?_⟩
          · rw [hp, List.append_assoc, List.getElem?_append_right (by omega), List.getElem?_append_left (by omega), lp, Nat.add_sub_cancel_left]; exact q4
          · rw [hp, List.append_assoc, List.getElem?_append_right (by omega), List.getElem?_append_left (by omega), lp, Nat.add_sub_cancel_left]; exact q5
      · have hk : k = l.size + r.size := by
          have := (List.getElem?_eq_some_iff.mp h).1
          rw [List.length_append, List.length_append, lp, rp] at this
          simp at this
          omega
        subst hk
        rw [List.getElem?_append_right (by rw [List.length_append]; omega), List.length_append, lp, rp, Nat.sub_self] at h
        cases h
        have s1 := l.size_pos
        have s2 := r.size_pos
        refine ⟨l.size - 1, l.size + (r.size - 1), ?_, by omega, by omega, ?_, ?_⟩
        · rw [hn, List.getElem?_append_right (by rw [List.length_append]; omega), List.length_append, ln, rn, Nat.sub_self]
          have e1 : o + l.size - 1 = o + (l.size - 1) := by omega
          have e2 : o + l.size + r.size - 1 = o + (l.size + (r.size - 1)) := by omega
          rw [e1, e2]
          rfl
        · rw [hp, List.append_assoc, List.getElem?_append_left (by omega)]; exact l.post_last
        · rw [hp, List.append_assoc, List.getElem?_append_right (by omega), List.getElem?_append_left (by omega), lp, Nat.add_sub_cancel_left]; exact r.post_last
/-! ### texts -/
def Tr.text : Tr → Str
  | .leaf x => x
  | .node l r => Str.empty ++ "(" ++ l.text ++ "," ++ r.text ++ ")"
theorem Tr.text_len : ∀ t : Tr, t.Ws → t.text.length + 3 ≤ 11 * t.leaves.length
  | .leaf x, h => by have := (h x (List.mem_singleton.mpr rfl)).2.1; show x.length + 3 ≤ 11 * 1; omega
  | .node l r, h => by
    have h1 := l.text_len fun x hx => h x (List.mem_append_left _ hx)
    have h2 := r.text_len fun x hx => h x (List.mem_append_right _ hx)
    show (Str.empty ++ "(" ++ l.text ++ "," ++ r.text ++ ")").length + 3 ≤ 11 * (l.leaves ++ r.leaves).length
    rw [Str.length_append, Str.length_append, Str.length_append, Str.length_append, Str.length_append, List.length_append]
    have e1 : (Str.empty : Str).length = 0 := rfl
    have e2 : ("(" : Str).length = 1 := by decide +kernel
    have e3 : ("," : Str).length = 1 := by decide +kernel
    have e4 : (")" : Str).length = 1 := by decide +kernel
    omega
def Tr.tl (t : Tr) : List Nat := t.text.cps.toList
theorem tl_leaf (x : Str) : (Tr.leaf x).tl = x.cps.toList := rfl
theorem cps_l : ("(" : Str).cps.toList = [40] := by decide +kernel
theorem cps_c : ("," : Str).cps.toList = [44] := by decide +kernel
theorem cps_r : (")" : Str).cps.toList = [41] := by decide +kernel
theorem tl_node (l r : Tr) (k : List Nat) : (Tr.node l r).tl ++ k = 40 :: (l.tl ++ (44 :: (r.tl ++ (41 :: k)))) := by
  show (Str.empty ++ "(" ++ l.text ++ "," ++ r.text ++ ")").cps.toList ++ k = _
  rw [Str.cps_append, Str.cps_append, Str.cps_append, Str.cps_append, Str.cps_append, Array.toList_append, Array.toList_append, Array.toList_append, Array.toList_append, Array.toList_append, cps_l, cps_c, cps_r]
  have : (Str.empty : Str).cps.toList = [] := rfl
  rw [this]
  simp [Tr.tl]
/-- no letter stands first -/
def NoL (k : List Nat) : Prop := ∀ c r, k = c :: r → ¬ (97 ≤ c ∧ c < 123)
theorem word_cut : ∀ (xs ys k k' : List Nat), (∀ c ∈ xs, 97 ≤ c ∧ c < 123) → (∀ c ∈ ys, 97 ≤ c ∧ c < 123) → NoL k → NoL k' → xs ++ k = ys ++ k' → xs = ys ∧ k = k'
  | [], [], _, _, _, _, _, _, h => ⟨rfl, h⟩
  | [], y :: ys, k, k', _, hy, hk, _, h => absurd (hy y (List.mem_cons_self ..)) (hk y (ys ++ k') h)
  | x :: xs, [], k, k', hx, _, _, hk', h => absurd (hx x (List.mem_cons_self ..)) (hk' x (xs ++ k) h.symm)
  | x :: xs, y :: ys, k, k', hx, hy, hk, hk', h => by
    rw [List.cons_append, List.cons_append] at h
    injection h with h1 h2
    obtain ⟨e1, e2⟩ := word_cut xs ys k k' (fun c hc => hx c (List.mem_cons_of_mem _ hc)) (fun c hc => hy c (List.mem_cons_of_mem _ hc)) hk hk' h2
    exact ⟨by rw [h1, e1], e2⟩
theorem str_ext {x y : Str} (h : x.cps.toList = y.cps.toList) : x = y := by
  cases x; cases y
  congr 1
  exact Array.toList_inj.mp h
theorem nol_cons {c : Nat} {r : List Nat} (h : ¬ (97 ≤ c ∧ c < 123)) : NoL (c :: r) := fun d r' e => by injection e with e1; rw [← e1]; exact h
theorem first_letter {x : Str} (h : Wd x) : ∃ c r, x.cps.toList = c :: r ∧ 97 ≤ c ∧ c < 123 := by
  cases e : x.cps.toList with
  | nil =>
    have h1 := h.1
    have : x.cps.toList.length = x.length := Array.length_toList ..
    rw [e] at this
    simp at this
    omega
  | cons c r => exact ⟨c, r, rfl, h.2.2 c (by rw [e]; exact List.mem_cons_self ..)⟩
theorem text_cut : ∀ (t u : Tr) (k k' : List Nat), t.Ws → u.Ws → NoL k → NoL k' → t.tl ++ k = u.tl ++ k' → t = u ∧ k = k'
  | .leaf x, .leaf y, k, k', hx, hy, hk, hk', h => by
    obtain ⟨e1, e2⟩ := word_cut _ _ k k' (hx x (List.mem_singleton.mpr rfl)).2.2 (hy y (List.mem_singleton.mpr rfl)).2.2 hk hk' h
    exact ⟨by rw [str_ext e1], e2⟩
  | .leaf x, .node l r, k, k', hx, _, _, _, h => by
    obtain ⟨c, rr, e, c0, c1⟩ := first_letter (hx x (List.mem_singleton.mpr rfl))
    rw [tl_node, tl_leaf, e, List.cons_append] at h
    injection h with h1
    omega
  | .node l r, .leaf x, k, k', _, hx, _, _, h => by
    obtain ⟨c, rr, e, c0, c1⟩ := first_letter (hx x (List.mem_singleton.mpr rfl))
    rw [tl_node, tl_leaf, e, List.cons_append] at h
    injection h with h1
    omega
  | .node l r, .node l' r', k, k', hx, hy, hk, hk', h => by
    rw [tl_node, tl_node] at h
    injection h with _ h
    obtain ⟨e1, h⟩ := text_cut l l' _ _ (fun z hz => hx z (List.mem_append_left _ hz)) (fun z hz => hy z (List.mem_append_left _ hz)) (nol_cons (by decide)) (nol_cons (by decide)) h
    injection h with _ h
    obtain ⟨e2, h⟩ := text_cut r r' _ _ (fun z hz => hx z (List.mem_append_right _ hz)) (fun z hz => hy z (List.mem_append_right _ hz)) (nol_cons (by decide)) (nol_cons (by decide)) h
    injection h with _ h
    exact ⟨by rw [e1, e2], h⟩
theorem text_inj {t u : Tr} (ht : t.Ws) (hu : u.Ws) : t.text = u.text ↔ t = u := by
  refine ⟨fun h => ?_, fun h => by rw [h]⟩
  have e : t.tl ++ [] = u.tl ++ [] := by unfold Tr.tl; rw [h]
  exact (text_cut t u [] [] ht hu (fun c r z => by cases z) (fun c r z => by cases z) e).1
end My

set_option Elab.async false
set_option linter.all false
set_option maxRecDepth 100000
namespace L2
open PySem PySem.Spec PyProof.Rows
theorem nextOf_tuple_item {prog : Program} {w : World} {A : Around} {E : Value → Shared → Prop} {s : Shared} {it t : Addr} {i : Nat} {items : Array Value} {x : Value} {Q : Value → Shared → Prop} (h : s.heap.IsTupleIter it t i) (ht : s.heap.IsTuple t items) (hx : items[i]? = some x)
    (q : ∀ h' : Heap, h'.IsTupleIter it t (i + 1) → Heap.SameBut it s.heap h' → Q x { s with heap := h' }) : wpAny (model prog w) A (Builtin.SmallTypes.nextOf (.ref it)) Q E s := by
  unfold Builtin.SmallTypes.nextOf
  refine wpAny_bind (wpAny_callSpecial?_slot h.typeIs F.slot_tuple_iterator_next (wpAny_call_entry F.slot_tuple_iterator_next h.typeIs F.entry_tuple_iterator_next ?_ (F.args_tuple_iterator_next_1 _)))
  obtain ⟨o, ho, hc, hd⟩ := id h
  obtain ⟨ot, hot, htc, n, htd⟩ := id ht
  show wpAny _ _ (field (.ref it) 0 >>= fun seq => _) _ _ s
  refine wpAny_bind (wpAny_field ho hd rfl ?_)
  show wpAny _ _ (field (.ref it) 1 >>= fun seq => _) _ _ s
  refine wpAny_bind (wpAny_field ho hd rfl ?_)
  show wpAny _ _ (seqItems? (.ref t) >>= fun seq => _) _ _ s
  refine wpAny_bind (wpAny_seqItems hot htd ?_)
  show wpAny _ _ (match items[i]? with | some x => (do setField (.ref it) 1 (rawInt ((i : Int) + 1)); ret x) | none => _) _ _ s
  rw [hx]
  refine wpAny_bind (wpAny_setField ho hd (show 1 < 2 by decide) ?_)
  refine wpAny_pure ⟨x, rfl, wpAny_pure (q _ ⟨_, Heap.get?_update_self _ ho (by rw [Obj.isFreed_of_fields (Obj.data_mapFields hd _)]), by rw [Obj.cls_mapFields]; exact hc, by rw [Obj.data_mapFields hd]; rfl⟩ (Heap.SameBut.update ..))⟩
theorem stop_it {prog : Program} {w : World} {A : Around} {E : Value → Shared → Prop} {s : Shared} {α : Type} {Q : α → Shared → Prop} (hA : A.handled = none)
    (q : ∀ (h' : Heap) (e : Addr), (∀ b o, s.heap.get? b = some o → h'.get? b = some o) → (∃ o, h'.get? e = some o ∧ o.cls = .type "StopIteration") → E (.ref e) { s with heap := h' }) : wpAny (model prog w) A (Builtin.SmallTypes.stopIteration (α := α)) Q E s := by
  unfold Builtin.SmallTypes.stopIteration newExc
  refine wpAny_bind ?_
  refine wpAny_bind (wpAny_newTuple ?_ (by show 0 ≤ sizeLine; decide))
  refine wpAny_bind (wpAny_of_eq (a := Value.none) rfl ?_)
  refine wpAny_newObj_type ?_ (sizeOk_excFields ..)
  unfold raiseNew
  refine wpAny_bind (wpAny_handled ?_)
  rw [hA]
  refine wpAny_throw (q _ _ (fun b o e => Heap.get?_push_of_some _ (Heap.get?_push_of_some _ e)) ⟨_, Heap.get?_push_size _ rfl, rfl⟩)
theorem nextOf_tuple_end {prog : Program} {w : World} {A : Around} {E : Value → Shared → Prop} {s : Shared} {it t : Addr} {i : Nat} {items : Array Value} {Q : Value → Shared → Prop} (hA : A.handled = none) (h : s.heap.IsTupleIter it t i) (ht : s.heap.IsTuple t items) (hx : items[i]? = none)
    (q : ∀ (h' : Heap) (e : Addr), Heap.ExtBut it s.heap h' → (∃ o, h'.get? e = some o ∧ o.cls = .type "StopIteration") → E (.ref e) { s with heap := h' }) : wpAny (model prog w) A (Builtin.SmallTypes.nextOf (.ref it)) Q E s := by
  unfold Builtin.SmallTypes.nextOf
  refine wpAny_bind (wpAny_callSpecial?_slot h.typeIs F.slot_tuple_iterator_next (wpAny_call_entry F.slot_tuple_iterator_next h.typeIs F.entry_tuple_iterator_next ?_ (F.args_tuple_iterator_next_1 _)))
  obtain ⟨o, ho, hc, hd⟩ := id h
  obtain ⟨ot, hot, htc, n, htd⟩ := id ht
  show wpAny _ _ (field (.ref it) 0 >>= fun seq => _) _ _ s
  refine wpAny_bind (wpAny_field ho hd rfl ?_)
  show wpAny _ _ (field (.ref it) 1 >>= fun seq => _) _ _ s
  refine wpAny_bind (wpAny_field ho hd rfl ?_)
  show wpAny _ _ (seqItems? (.ref t) >>= fun seq => _) _ _ s
  refine wpAny_bind (wpAny_seqItems hot htd ?_)
  show wpAny _ _ (match items[i]? with | some x => (do setField (.ref it) 1 (rawInt ((i : Int) + 1)); ret x) | none => (do rule _; setField (.ref it) 0 .none; Builtin.SmallTypes.stopIteration)) _ _ s
  rw [hx]
  refine wpAny_bind (wpAny_rule ?_)
  refine wpAny_bind (wpAny_setField ho hd (show 0 < 2 by decide) ?_)
  refine stop_it (A := A.in1) hA fun h' e k ex => q h' e (fun b o n eb => k b o ?_) ex
  rw [(Heap.SameBut.update _ _ _).2 b n]
  exact eb
/-- what the zip's objects are -/
structure ZipAt (h : Heap) (z TI TO i1 i2 a1 a2 : Addr) (f0 : Value) (k1 k2 : Nat) : Prop where
  zip : IsZip h z TI TO f0
  ti : IsPair h TI (.ref i1) (.ref i2)
  to : ∃ a b, IsPair h TO a b
  it1 : h.IsTupleIter i1 a1 k1
  it2 : h.IsTupleIter i2 a2 k2
theorem zip_next_itemT {prog : Program} {w : World} {A : Around} {E : Value → Shared → Prop} {s : Shared} {z TI TO i1 i2 a1 a2 : Addr} {k1 k2 : Nat} {xs ys : Array Value} {x y : Value} {Q : Value → Shared → Prop} (hA : ZipApart z TI TO i1 i2 a1 a2)
    (hz : ZipAt s.heap z TI TO i1 i2 a1 a2 .none k1 k2) (ht1 : s.heap.IsTuple a1 xs) (ht2 : s.heap.IsTuple a2 ys) (hx : xs[k1]? = some x) (hy : ys[k2]? = some y)
    (q : ∀ h' : Heap, ZipAt h' z TI TO i1 i2 a1 a2 (rawInt s.heap.objs.size) (k1 + 1) (k2 + 1) → IsPair h' s.heap.objs.size x y → (∀ c o, c ≠ z → c ≠ TO → c ≠ i1 → c ≠ i2 → s.heap.get? c = some o → h'.get? c = some o) → Q (.ref s.heap.objs.size) { s with heap := h' }) :
    wpAny (model prog w) A (Builtin.«zip.__next__» { pos := [.ref z] }) (fun fin s' => ∃ v, fin = Fin.done (Flow.ret v) ∧ Q v s') E s := by
  obtain ⟨hz, hti, ⟨ta, tb, hto⟩, hi1, hi2⟩ := hz
  show wpAny _ _ (field (.ref z) 2 >>= fun r => _) _ _ s
  refine wpAny_bind (wpAny_field hz rfl rfl ?_)
  show wpAny _ _ (field (.ref z) 3 >>= fun r => _) _ _ s
  refine wpAny_bind (wpAny_field hz rfl rfl ?_)
  show wpAny _ _ (seqItems? (.ref TI) >>= fun r => _) _ _ s
  refine wpAny_bind (wpAny_seqItems hti rfl ?_)
  show wpAny _ _ (Builtin.SmallTypes.ownedTupleIsFree (.ref z) >>= fun r => _) _ _ s
  refine wpAny_bind ?_
  unfold Builtin.SmallTypes.ownedTupleIsFree
  refine wpAny_bind (wpAny_field hz rfl rfl ?_)
  refine wpAny_pure ?_
  show wpAny _ _ (rule "zip.__next__.owned-tuple-again" >>= fun r => _) _ _ s
  refine wpAny_bind (wpAny_rule ?_)
  refine wpAny_bind (wpAny_field hz rfl rfl ?_)
  show wpAny _ _ (setField (.ref z) 0 .ellipsis >>= fun r => _) _ _ s
  refine wpAny_bind (wpAny_setField_rec hz (show 0 < 5 by decide) fun h1 z1 b1 => ?_)
  show wpAny _ _ ((forIn [(Value.ref i1, 0), (Value.ref i2, 1)] _ _) >>= fun r => _) _ _ _
  refine wpAny_bind ?_
  rw [List.forIn_cons]
  have get1 : ∀ b, b ≠ z → h1.get? b = s.heap.get? b := b1.2
  refine wpAny_bind ?_
  refine wpAny_bind (wpAny_onRaise ?_)
  show wpAny _ _ (Builtin.SmallTypes.nextOf (.ref i1) >>= fun v => pure (some v)) _ _ _
  refine wpAny_bind (nextOf_tuple_item (let ⟨o, e, p⟩ := hi1; ⟨o, (get1 _ hA.i1z).trans e, p⟩) (let ⟨o, e, p⟩ := ht1; ⟨o, (get1 _ hA.l1z).trans e, p⟩) hx fun h2 j2 b2 => wpAny_pure ?_)
  have get2 : ∀ b, b ≠ z → b ≠ i1 → h2.get? b = s.heap.get? b := fun b n1 n2 => (b2.2 b n2).trans (get1 b n1)
  have to2 : IsPair h2 TO ta tb := (get2 _ hA.TOz hA.TOi1).trans hto
  show wpAny _ _ (seqItems? (.ref TO) >>= fun r => _) _ _ _
  refine wpAny_bind (wpAny_seqItems to2 rfl ?_)
  refine wpAny_bind (wpAny_updateSeq_pair to2 fun h3 t3 b3 => ?_)
  have get3 : ∀ b, b ≠ z → b ≠ i1 → b ≠ TO → h3.get? b = s.heap.get? b := fun b n1 n2 n3 => (b3.2 b n3).trans (get2 b n1 n2)
  refine wpAny_bind (wpAny_letGo (wpAny_pure ?_))
  show wpAny _ _ (forIn [(Value.ref i2, 1)] _ _) _ _ _
  rw [List.forIn_cons]
  refine wpAny_bind ?_
  refine wpAny_bind (wpAny_onRaise ?_)
  show wpAny _ _ (Builtin.SmallTypes.nextOf (.ref i2) >>= fun v => pure (some v)) _ _ _
  refine wpAny_bind (nextOf_tuple_item (let ⟨o, e, p⟩ := hi2; ⟨o, (get3 _ hA.i2z hA.i12.symm hA.TOi2.symm).trans e, p⟩) (let ⟨o, e, p⟩ := ht2; ⟨o, (get3 _ hA.l2z hA.l2i1 hA.l2TO).trans e, p⟩) hy fun h4 j4 b4 => wpAny_pure ?_)
  have to4 : IsPair h4 TO x tb := (b4.2 _ hA.TOi2).trans t3
  show wpAny _ _ (seqItems? (.ref TO) >>= fun r => _) _ _ _
  refine wpAny_bind (wpAny_seqItems to4 rfl ?_)
  refine wpAny_bind (wpAny_updateSeq_pair to4 fun h5 t5 b5 => ?_)
  have to5 : IsPair h5 TO x y := t5
  refine wpAny_bind (wpAny_letGo (wpAny_pure ?_))
  show wpAny _ _ (forIn [] _ _) _ _ _
  rw [List.forIn_nil]
  refine wpAny_pure ?_
  show wpAny _ _ (seqItems? (.ref TO) >>= fun r => _) _ _ _
  refine wpAny_bind (wpAny_seqItems to5 rfl ?_)
  show wpAny _ _ (newTuple [x, y] >>= fun r => _) _ _ _
  have sz5 : h5.objs.size = s.heap.objs.size := b5.1.trans (b4.1.trans (b3.1.trans (b2.1.trans b1.1)))
  refine wpAny_bind (wpAny_newTuple ?_ (by show 2 ≤ sizeLine; decide))
  have get5 : ∀ b, b ≠ z → b ≠ i1 → b ≠ TO → b ≠ i2 → h5.get? b = s.heap.get? b := fun b n1 n2 n3 n4 => (b5.2 b n3).trans ((b4.2 b n4).trans (get3 b n1 n2 n3))
  have z5 : h5.get? z = some { cls := .type "zip", data := .fields #[.ellipsis, .bool false, .bool false, .ref TI, .ref TO] } := (b5.2 _ hA.TOz.symm).trans ((b4.2 _ hA.i2z.symm).trans ((b3.2 _ hA.TOz.symm).trans ((b2.2 _ hA.i1z.symm).trans z1)))
  have kp : ∀ b o, h5.get? b = some o → (h5.push { cls := .type "tuple", data := .seq #[x, y] }).get? b = some o := fun b o e => Heap.get?_push_of_some _ e
  have new6 : (h5.push { cls := .type "tuple", data := .seq #[x, y] }).get? h5.objs.size = some { cls := .type "tuple", data := .seq #[x, y] } := Heap.get?_push_size _ rfl
  refine wpAny_bind ?_
  show wpAny _ _ (setField (.ref z) 0 (rawInt h5.objs.size) >>= fun _ => setField (.ref z) 1 (.bool false)) _ _ _
  refine wpAny_bind (wpAny_setField_rec (kp _ _ z5) (show 0 < 5 by decide) fun h7 z7 b7 => ?_)
  refine wpAny_setField_rec z7 (show 1 < 5 by decide) fun h8 z8 b8 => ?_
  have get8 : ∀ b, b ≠ z → h8.get? b = (h5.push { cls := .type "tuple", data := .seq #[x, y] }).get? b := fun b n => (b8.2 b n).trans (b7.2 b n)
  have nz : s.heap.objs.size ≠ z := fun e => by have := Heap.lt_size hz; rw [← e] at this; exact Nat.lt_irrefl _ this
  refine wpAny_pure ⟨.ref h5.objs.size, rfl, ?_⟩
  rw [sz5]
  refine q h8 ⟨?_, ?_, ?_, ?_, ?_⟩ ?_ ?_
  · rw [← sz5]; exact z8
  · rw [IsPair, get8 _ hA.TIz]; exact kp _ _ ((get5 _ hA.TIz hA.TIi1 hA.TITO hA.TIi2).trans hti)
  · exact ⟨x, y, by rw [IsPair, get8 _ hA.TOz]; exact kp _ _ to5⟩
  · obtain ⟨o, e, p⟩ := j2
    refine ⟨o, ?_, p⟩
    rw [get8 _ hA.i1z]
    exact kp _ _ ((b5.2 _ hA.TOi1.symm).trans ((b4.2 _ hA.i12).trans ((b3.2 _ hA.TOi1.symm).trans e)))
  · obtain ⟨o, e, p⟩ := j4
    refine ⟨o, ?_, p⟩
    rw [get8 _ hA.i2z]
    exact kp _ _ ((b5.2 _ hA.TOi2.symm).trans e)
  · rw [IsPair, get8 _ nz, ← sz5]; exact new6
  · intro c o n1 n2 n3 n4 e
    rw [get8 _ n1]
    exact kp _ _ ((get5 _ n1 n3 n2 n4).trans e)
theorem zip_next_endT {prog : Program} {w : World} {A : Around} {E : Value → Shared → Prop} {s : Shared} {z TI TO i1 i2 a1 a2 : Addr} {k1 k2 : Nat} {xs ys : Array Value} {Q : PySem.Fin → Shared → Prop} (hh : A.handled = none) (hA : ZipApart z TI TO i1 i2 a1 a2)
    (hz : ZipAt s.heap z TI TO i1 i2 a1 a2 .none k1 k2) (ht1 : s.heap.IsTuple a1 xs) (hx : xs[k1]? = none)
    (q : ∀ (h' : Heap) (e : Addr), (∀ c o, c ≠ z → c ≠ i1 → s.heap.get? c = some o → h'.get? c = some o) → (∃ o, h'.get? e = some o ∧ o.cls = .type "StopIteration") → E (.ref e) { s with heap := h' }) :
    wpAny (model prog w) A (Builtin.«zip.__next__» { pos := [.ref z] }) Q E s := by
  obtain ⟨hz, hti, ⟨ta, tb, hto⟩, hi1, hi2⟩ := hz
  show wpAny _ _ (field (.ref z) 2 >>= fun r => _) _ _ s
  refine wpAny_bind (wpAny_field hz rfl rfl ?_)
  show wpAny _ _ (field (.ref z) 3 >>= fun r => _) _ _ s
  refine wpAny_bind (wpAny_field hz rfl rfl ?_)
  show wpAny _ _ (seqItems? (.ref TI) >>= fun r => _) _ _ s
  refine wpAny_bind (wpAny_seqItems hti rfl ?_)
  show wpAny _ _ (Builtin.SmallTypes.ownedTupleIsFree (.ref z) >>= fun r => _) _ _ s
  refine wpAny_bind ?_
  unfold Builtin.SmallTypes.ownedTupleIsFree
  refine wpAny_bind (wpAny_field hz rfl rfl ?_)
  refine wpAny_pure ?_
  show wpAny _ _ (rule "zip.__next__.owned-tuple-again" >>= fun r => _) _ _ s
  refine wpAny_bind (wpAny_rule ?_)
  refine wpAny_bind (wpAny_field hz rfl rfl ?_)
  show wpAny _ _ (setField (.ref z) 0 .ellipsis >>= fun r => _) _ _ s
  refine wpAny_bind (wpAny_setField_rec hz (show 0 < 5 by decide) fun h1 z1 b1 => ?_)
  show wpAny _ _ ((forIn [(Value.ref i1, 0), (Value.ref i2, 1)] _ _) >>= fun r => _) _ _ _
  refine wpAny_bind ?_
  rw [List.forIn_cons]
  have get1 : ∀ b, b ≠ z → h1.get? b = s.heap.get? b := b1.2
  refine wpAny_bind ?_
  refine wpAny_bind (wpAny_onRaise ?_)
  show wpAny _ _ (Builtin.SmallTypes.nextOf (.ref i1) >>= fun v => pure (some v)) _ _ _
  refine wpAny_bind (nextOf_tuple_end hh (let ⟨o, e, p⟩ := hi1; ⟨o, (get1 _ hA.i1z).trans e, p⟩) (let ⟨o, e, p⟩ := ht1; ⟨o, (get1 _ hA.l1z).trans e, p⟩) hx fun h2 e k ex => ?_)
  have z2 : h2.get? z = some { cls := .type "zip", data := .fields #[.ellipsis, .bool false, .bool false, .ref TI, .ref TO] } := k _ _ hA.i1z.symm z1
  refine wpAny_setField_rec z2 (show 0 < 5 by decide) fun h3 z3 b3 => ?_
  refine q h3 e (fun c o n1 n2 ec => ?_) ?_
  · rw [b3.2 _ n1]
    exact k _ _ n2 ((get1 _ n1).trans ec)
  · obtain ⟨o, eo, hc⟩ := ex
    by_cases he : e = z
    · subst he
      rw [z2] at eo
      cases eo
      exact absurd (show Value.type "zip" = Value.type "StopIteration" from hc) (by decide)
    · exact ⟨o, (b3.2 _ he).trans eo, hc⟩
theorem pyNext_zip_itemT {prog : Program} {w : World} {A : Around} {E : Value → Shared → Prop} {s : Shared} {z TI TO i1 i2 a1 a2 : Addr} {k1 k2 : Nat} {xs ys : Array Value} {x y : Value} {Q : Option Value → Shared → Prop} (hA : ZipApart z TI TO i1 i2 a1 a2)
    (hz : ZipAt s.heap z TI TO i1 i2 a1 a2 .none k1 k2) (ht1 : s.heap.IsTuple a1 xs) (ht2 : s.heap.IsTuple a2 ys) (hx : xs[k1]? = some x) (hy : ys[k2]? = some y)
    (q : ∀ h' : Heap, ZipAt h' z TI TO i1 i2 a1 a2 (rawInt s.heap.objs.size) (k1 + 1) (k2 + 1) → IsPair h' s.heap.objs.size x y → (∀ c o, c ≠ z → c ≠ TO → c ≠ i1 → c ≠ i2 → s.heap.get? c = some o → h'.get? c = some o) → Q (some (.ref s.heap.objs.size)) { s with heap := h' }) :
    wpAny (model prog w) A (pyNext (.ref z)) Q E s := by
  have ty : s.TypeIs (.ref z) "zip" := ⟨_, hz.zip, rfl⟩
  unfold pyNext
  refine wpAny_bind (wpAny_attempt (wpAny_callSpecial?_slot ty F.slot_zip_next (wpAny_call_entry F.slot_zip_next ty F.entry_zip_next ?_ (F.args_zip_next_1 _))))
  exact zip_next_itemT hA hz ht1 ht2 hx hy fun h' a b c => wpAny_pure (q h' a b c)
theorem pyNext_zip_endT {prog : Program} {w : World} {A : Around} {E : Value → Shared → Prop} {s : Shared} {z TI TO i1 i2 a1 a2 : Addr} {k1 k2 : Nat} {xs ys : Array Value} {Q : Option Value → Shared → Prop} (hh : A.handled = none) (hA : ZipApart z TI TO i1 i2 a1 a2)
    (hz : ZipAt s.heap z TI TO i1 i2 a1 a2 .none k1 k2) (ht1 : s.heap.IsTuple a1 xs) (hx : xs[k1]? = none)
    (q : ∀ h' : Heap, (∀ c o, c ≠ z → c ≠ i1 → s.heap.get? c = some o → h'.get? c = some o) → Q none { s with heap := h' }) :
    wpAny (model prog w) A (pyNext (.ref z)) Q E s := by
  have ty : s.TypeIs (.ref z) "zip" := ⟨_, hz.zip, rfl⟩
  unfold pyNext
  refine wpAny_bind (wpAny_attempt (wpAny_callSpecial?_slot ty F.slot_zip_next (wpAny_call_entry F.slot_zip_next ty F.entry_zip_next ?_ (F.args_zip_next_1 _))))
  refine zip_next_endT (A := A.in1) (ys := ys) hh hA hz ht1 hx fun h' e k ex => ?_
  obtain ⟨o, eo, hc⟩ := ex
  refine wpAny_bind (wpAny_isInstance (T := "StopIteration") ⟨o, eo, hc⟩ isSubtype_stop ?_)
  rw [if_pos rfl]
  exact wpAny_pure (q h' k)
theorem meets_zip_newT (a1 a2 : Addr) (xs ys : Array Value) : Meets (Builtin.«zip.__new__» { pos := [.type "zip", .ref a1, .ref a2] }) (fun _ R s => s.heap.IsTuple a1 xs ∧ s.heap.IsTuple a2 ys ∧
    ∀ h' : Heap, ZipAt h' (s.heap.objs.size + 4) (s.heap.objs.size + 2) (s.heap.objs.size + 3) s.heap.objs.size (s.heap.objs.size + 1) a1 a2 .none 0 0 → (∀ b o, s.heap.get? b = some o → h'.get? b = some o) → R (.ok (.ret (.ref (s.heap.objs.size + 4)))) { s with heap := h' }) :=
  .of_wp fun prog w A R s h => by
    obtain ⟨h1, h2, q⟩ := h
    unfold Builtin.«zip.__new__»
    refine wpAny_bind ?_
    unfold Builtin.SmallTypes.newClass
    refine wpAny_bind (wpAny_of_eq (a := true) rfl ?_)
    rw [if_neg (by decide)]
    refine wpAny_bind (wpAny_of_eq sub_zip ?_)
    rw [if_neg (by decide)]
    refine wpAny_pure ?_
    show wpAny _ _ (Builtin.SmallTypes.iterAll [.ref a1, .ref a2] >>= fun r => _) _ _ s
    refine wpAny_bind ?_
    unfold Builtin.SmallTypes.iterAll
    refine wpAny_bind ?_
    rw [List.forIn_cons]
    refine wpAny_bind ?_
    refine wpAny_bind (wpAny_holding (wpAny_pyIter_tuple h1 (wpAny_pure ?_)))
    have k1 : ∀ b o, s.heap.get? b = some o → (s.heap.push { cls := .type "tuple_iterator", data := .fields #[.ref a1, .int 0 0] }).get? b = some o := fun b o e => Heap.get?_push_of_some _ e
    have g1 : (s.heap.push { cls := .type "tuple_iterator", data := .fields #[.ref a1, .int 0 0] }).get? s.heap.objs.size = some { cls := .type "tuple_iterator", data := .fields #[.ref a1, .int 0 0] } := Heap.get?_push_size _ rfl
    have z1 : (s.heap.push { cls := .type "tuple_iterator", data := .fields #[.ref a1, .int 0 0] }).objs.size = s.heap.objs.size + 1 := Heap.size_push ..
    generalize s.heap.push { cls := .type "tuple_iterator", data := .fields #[.ref a1, .int 0 0] } = hp1 at k1 g1 z1 ⊢
    show wpAny _ _ (forIn [Value.ref a2] _ _) _ _ _
    rw [List.forIn_cons]
    refine wpAny_bind ?_
    refine wpAny_bind (wpAny_holding (wpAny_pyIter_tuple (items := ys) (let ⟨o, e, p⟩ := h2; ⟨o, k1 _ _ e, p⟩) (wpAny_pure ?_)))
    show wpAny _ _ (forIn [] _ _) _ _ _
    rw [List.forIn_nil]
    refine wpAny_pure (wpAny_pure ?_)
    have k2 : ∀ b o, hp1.get? b = some o → (hp1.push { cls := .type "tuple_iterator", data := .fields #[.ref a2, .int 0 0] }).get? b = some o := fun b o e => Heap.get?_push_of_some _ e
    have g2 : (hp1.push { cls := .type "tuple_iterator", data := .fields #[.ref a2, .int 0 0] }).get? hp1.objs.size = some { cls := .type "tuple_iterator", data := .fields #[.ref a2, .int 0 0] } := Heap.get?_push_size _ rfl
    have z2 : (hp1.push { cls := .type "tuple_iterator", data := .fields #[.ref a2, .int 0 0] }).objs.size = hp1.objs.size + 1 := Heap.size_push ..
    show wpAny _ _ (newTuple [.ref s.heap.objs.size, .ref hp1.objs.size] >>= fun r => _) _ _ { s with heap := hp1.push { cls := .type "tuple_iterator", data := .fields #[.ref a2, .int 0 0] } }
    generalize hp1.push { cls := .type "tuple_iterator", data := .fields #[.ref a2, .int 0 0] } = hp2 at k2 g2 z2 ⊢
    refine wpAny_bind (wpAny_newTuple ?_ (by show 2 ≤ sizeLine; decide))
    have k3 : ∀ b o, hp2.get? b = some o → (hp2.push { cls := .type "tuple", data := .seq [Value.ref s.heap.objs.size, Value.ref hp1.objs.size].toArray }).get? b = some o := fun b o e => Heap.get?_push_of_some _ e
    have g3 : (hp2.push { cls := .type "tuple", data := .seq [Value.ref s.heap.objs.size, Value.ref hp1.objs.size].toArray }).get? hp2.objs.size = some { cls := .type "tuple", data := .seq #[.ref s.heap.objs.size, .ref hp1.objs.size] } := Heap.get?_push_size _ rfl
    have z3 : (hp2.push { cls := .type "tuple", data := .seq [Value.ref s.heap.objs.size, Value.ref hp1.objs.size].toArray }).objs.size = hp2.objs.size + 1 := Heap.size_push ..
    show wpAny _ _ (newTuple [.none, .none] >>= fun r => _) _ _ { s with heap := hp2.push { cls := .type "tuple", data := .seq [Value.ref s.heap.objs.size, Value.ref hp1.objs.size].toArray } }
    generalize hp2.push { cls := .type "tuple", data := .seq [Value.ref s.heap.objs.size, Value.ref hp1.objs.size].toArray } = hp3 at k3 g3 z3 ⊢
    refine wpAny_bind (wpAny_newTuple ?_ (by show 2 ≤ sizeLine; decide))
    have k4 : ∀ b o, hp3.get? b = some o → (hp3.push { cls := .type "tuple", data := .seq [Value.none, Value.none].toArray }).get? b = some o := fun b o e => Heap.get?_push_of_some _ e
    have g4 : (hp3.push { cls := .type "tuple", data := .seq [Value.none, Value.none].toArray }).get? hp3.objs.size = some { cls := .type "tuple", data := .seq #[.none, .none] } := Heap.get?_push_size _ rfl
    have z4 : (hp3.push { cls := .type "tuple", data := .seq [Value.none, Value.none].toArray }).objs.size = hp3.objs.size + 1 := Heap.size_push ..
    show wpAny _ _ (newObj (.type "zip") (.fields #[.none, .bool false, .bool false, .ref hp2.objs.size, .ref hp3.objs.size]) >>= fun r => _) _ _ { s with heap := hp3.push { cls := .type "tuple", data := .seq [Value.none, Value.none].toArray } }
    generalize hp3.push { cls := .type "tuple", data := .seq [Value.none, Value.none].toArray } = hp4 at k4 g4 z4 ⊢
    refine wpAny_bind (wpAny_newObj_type ?_ (by simp [sizeOk]; decide))
    have k5 : ∀ b o, hp4.get? b = some o → (hp4.push { cls := .type "zip", data := .fields #[.none, .bool false, .bool false, .ref hp2.objs.size, .ref hp3.objs.size] }).get? b = some o := fun b o e => Heap.get?_push_of_some _ e
    have g5 : (hp4.push { cls := .type "zip", data := .fields #[.none, .bool false, .bool false, .ref hp2.objs.size, .ref hp3.objs.size] }).get? hp4.objs.size = some { cls := .type "zip", data := .fields #[.none, .bool false, .bool false, .ref hp2.objs.size, .ref hp3.objs.size] } := Heap.get?_push_size _ rfl
    have e1 : hp1.objs.size = s.heap.objs.size + 1 := z1
    have e2 : hp2.objs.size = s.heap.objs.size + 2 := by rw [z2, e1]
    have e3 : hp3.objs.size = s.heap.objs.size + 3 := by rw [z3, e2]
    have e4 : hp4.objs.size = s.heap.objs.size + 4 := by rw [z4, e3]
    refine wpAny_pure ⟨.ref hp4.objs.size, rfl, ?_⟩
    rw [e2, e3] at g5 k5 ⊢
    rw [e4] at g5 ⊢
    rw [e3] at g4
    rw [e1, e2] at g3
    rw [e1] at g2
    refine q _ ⟨g5, k5 _ _ (k4 _ _ g3), ⟨_, _, k5 _ _ g4⟩, ⟨_, k5 _ _ (k4 _ _ (k3 _ _ (k2 _ _ g1))), rfl, rfl⟩, ⟨_, k5 _ _ (k4 _ _ (k3 _ _ g2)), rfl, rfl⟩⟩ fun b o e => k5 _ _ (k4 _ _ (k3 _ _ (k2 _ _ (k1 _ _ e))))
theorem call_zipT {prog : Program} {w : World} {A : Around} {E : Value → Shared → Prop} {s : Shared} {a1 a2 : Addr} {xs ys : Array Value} {Q : Value → Shared → Prop} (h1 : s.heap.IsTuple a1 xs) (h2 : s.heap.IsTuple a2 ys)
    (q : ∀ h' : Heap, ZipAt h' (s.heap.objs.size + 4) (s.heap.objs.size + 2) (s.heap.objs.size + 3) s.heap.objs.size (s.heap.objs.size + 1) a1 a2 .none 0 0 → (∀ b o, s.heap.get? b = some o → h'.get? b = some o) → Q (.ref (s.heap.objs.size + 4)) { s with heap := h' }) :
    wpAny (model prog w) A (call (.type "zip") [.ref a1, .ref a2]) Q E s :=
  callType_new F.called_zip (by decide) (F.typeCall_zip_2 _ _) (F.newCall_zip_2 _ _) (fun o => F.args_object_init_3 o _ _) F.entry_zip_new (meets_zip_newT a1 a2 xs ys) ⟨h1, h2, fun h' z k => ⟨⟨_, z.zip, rfl⟩, q h' z k⟩⟩
theorem Inv.turnLaid {X : Cx} {pins : List (Addr × Obj)} {σ : L2.St} {H : Hp} {s : Shared} {h' : Heap} {t' : Nat} {ch : List Addr} {a : Addr} {o : HO} (I : Inv X pins σ H s) (hf : ∀ b ∈ ch, FpOk X pins H b) (k : ∀ b u, b ∉ ch → s.heap.get? b = some u → h'.get? b = some u)
    (hp : s.heap.objs.size ≤ a) (new : ObjOk X.prog X.w (upd H a o) h' a o) : Inv X pins σ (upd H a o) { s with heap := h', toks := t' } := by
  have hn := I.hok.fresh hp
  have nit : ∀ b u, H b = some u → b ∉ ch := fun b u e z => by rw [(hf b z).1] at e; cases e
  have nL : X.env.locals ∉ ch := fun z => (hf _ z).2.1 rfl
  refine I.step (g' := s.gens) (d' := s.drawn) (ch := ch) (fun b hb => ⟨(hf b hb).2.2.2.1, (hf b hb).2.1, (hf b hb).2.2.2.2.1, (hf b hb).2.2.2.2.2⟩) (fun b u _ _ hc e _ => k b u hc e) (fun b u _ _ hc e _ => ⟨u.slots, k b u hc e⟩)
    (fun b u _ e n => by rw [upd_ne (Nat.ne_of_lt (Nat.lt_of_lt_of_le (Heap.lt_size e) hp))]; exact n) (fun b u hc e => ⟨u, k b u hc e⟩) (fun b xs e => by rw [upd_ne (ne_of_none e hn)]; exact e) (fun b u xs e => by rw [upd_ne (ne_of_none e hn)]; exact e)
    (fun b ps e => ⟨#[], by rw [upd_ne (ne_of_none e hn), e]; simp⟩) (fun m hm => ?_) (fun b u e => ?_) I.bare
  · obtain ⟨o', es, ep, ho, r⟩ := hm
    exact ⟨o', es, ep, k _ o' nL ho, r⟩
  · by_cases hb : b = a
    · subst hb; rw [upd_same] at e; cases e; exact new
    · rw [upd_ne hb] at e
      refine (I.hok b u e).stay (fun c v hc q => k c v ?_ q) (fun c q => by rw [upd_ne (ne_of_none q hn)]; exact q) fun c xs q => by rw [upd_ne (ne_of_none q hn)]; exact q
      rcases hc with z | z
      · rw [z]; exact nit b u e
      · exact nit c _ z
theorem Inv.turnedN {X : Cx} {pins : List (Addr × Obj)} {σ : L2.St} {H : Hp} {s : Shared} {h' : Heap} {t' : Nat} {ch : List Addr} (I : Inv X pins σ H s) (hf : ∀ b ∈ ch, FpOk X pins H b) (k : ∀ b u, b ∉ ch → s.heap.get? b = some u → h'.get? b = some u) :
    Inv X pins σ H { s with heap := h', toks := t' } := by
  have nit : ∀ b u, H b = some u → b ∉ ch := fun b u e z => by rw [(hf b z).1] at e; cases e
  have nL : X.env.locals ∉ ch := fun z => (hf _ z).2.1 rfl
  refine I.step (g' := s.gens) (d' := s.drawn) (ch := ch) (fun b hb => ⟨(hf b hb).2.2.2.1, (hf b hb).2.1, (hf b hb).2.2.2.2.1, (hf b hb).2.2.2.2.2⟩) (fun b u _ _ hc e _ => k b u hc e) (fun b u _ _ hc e _ => ⟨u.slots, k b u hc e⟩)
    (fun _ _ _ _ n => n) (fun b u hc e => ⟨u, k b u hc e⟩) (fun _ _ e => e) (fun _ _ _ e => e) (fun b ps e => ⟨#[], by rw [e]; simp⟩) (fun m hm => ?_) (fun b u e => ?_) I.bare
  · obtain ⟨o', es, ep, ho, r⟩ := hm
    exact ⟨o', es, ep, k _ o' nL ho, r⟩
  · refine (I.hok b u e).stay (fun c v hc q => k c v ?_ q) (fun _ q => q) fun _ _ q => q
    rcases hc with z | z
    · rw [z]; exact nit b u e
    · exact nit c _ z
def Itz (K : PySem.W.Frag) (a1 a2 : Addr) : It where
  go := fun i H => ∃ xs ys x y, SqT K H a1 xs ∧ SqT K H a2 ys ∧ xs[i]? = some x ∧ ys[i]? = some y
  yld := fun i H v H' => ∃ p x y, v = .ref p ∧ H p = none ∧ H' = upd H p (.tup [x, y]) ∧ (∀ xs, SqT K H a1 xs → xs[i]? = some x) ∧ ∀ ys, SqT K H a2 ys → ys[i]? = some y
  stop := fun i H => ∃ xs, SqT K H a1 xs ∧ xs.length ≤ i
theorem vals_get {xs : List V} {us : List Value} (h : Vals xs us) : ∀ {i : Nat} {x : V}, xs[i]? = some x → ∃ u, us[i]? = some u ∧ RelV x u := by
  induction h with
  | nil => intro i x e; simp at e
  | cons r t ih =>
    intro i x e
    cases i with
    | zero => simp at e; subst e; exact ⟨_, rfl, r⟩
    | succ i => exact ih (by simpa using e)
theorem turn_zip {P : Program} {w : World} {K : PySem.W.Frag} {elts : List Expr} {kk : Nat} {pos : Pos} {z TI TO i1 i2 a1 a2 : Addr} (hA : ZipApart z TI TO i1 i2 a1 a2) : Turn P w K (.Tuple elts kk pos) (Itz K a1 a2) [z, TI, TO, i1, i2] z (fun i h => ZipAt h z TI TO i1 i2 a1 a2 .none i i) where
  mem := by simp
  obj := fun i h st b hb => by
    simp only [List.mem_cons, List.not_mem_nil, or_false] at hb
    rcases hb with rfl | rfl | rfl | rfl | rfl
    · exact ⟨_, st.zip, fun v z => by cases z⟩
    · exact ⟨_, st.ti, fun v z => by cases z⟩
    · obtain ⟨_, _, e⟩ := st.to; exact ⟨_, e, fun v z => by cases z⟩
    · obtain ⟨o, e, _, d⟩ := st.it1; exact ⟨o, e, fun v z => by rw [d] at z; cases z⟩
    · obtain ⟨o, e, _, d⟩ := st.it2; exact ⟨o, e, fun v z => by rw [d] at z; cases z⟩
  keep := fun i h h' st k => ⟨k z (by simp) _ st.zip, k TI (by simp) _ st.ti, let ⟨a, b, e⟩ := st.to; ⟨a, b, k TO (by simp) _ e⟩, let ⟨o, e, p⟩ := st.it1; ⟨o, k i1 (by simp) _ e, p⟩, let ⟨o, e, p⟩ := st.it2; ⟨o, k i2 (by simp) _ e, p⟩⟩
  item := by
    intro X hP hw hK hc i pins s σ H E I hf st hg
    subst hP hw hK
    obtain ⟨xs, ys, x, y, hx, hy, gx, gy⟩ := hg
    obtain ⟨its, rx, tx, _⟩ := I.tuple hx
    obtain ⟨its2, ry, ty, _⟩ := I.tuple hy
    obtain ⟨u, gu, ru⟩ := vals_get rx gx
    obtain ⟨v, gv, rv⟩ := vals_get ry gy
    refine pyNext_zip_itemT hA st tx ty (by simpa using gu) (by simpa using gv) fun h' zt np k => ?_
    refine ⟨_, rfl, ?_⟩
    show wpAny _ _ (load z >>= fun o => _) _ _ _
    refine wpAny_bind (wpAny_load zt.zip ?_)
    show wpAny _ _ (if ((["enumerate", "zip", "dict_itemiterator", "dict_reverseitemiterator", "odict_iterator", "itertools.zip_longest", "itertools.pairwise"].contains "zip" && (some (rawInt s.heap.objs.size) == some (rawInt s.heap.objs.size))) = true) then (do rule "for.unpacks-the-owned-tuple"; setField (.ref z) 0 .none) else pure ()) _ _ _
    rw [if_pos (by rw [beq_self_eq_true]; decide)]
    refine wpAny_bind (wpAny_rule ?_)
    refine wpAny_setField_rec zt.zip (show 0 < 5 by decide) fun h2 z2 b2 => ?_
    have lt : ∀ b ∈ [z, TI, TO, i1, i2], b < s.heap.objs.size := fun b hb => by
      simp only [List.mem_cons, List.not_mem_nil, or_false] at hb
      rcases hb with rfl | rfl | rfl | rfl | rfl
      · exact Heap.lt_size st.zip
      · exact Heap.lt_size st.ti
      · obtain ⟨_, _, e⟩ := st.to; exact Heap.lt_size e
      · obtain ⟨o, e, _⟩ := st.it1; exact Heap.lt_size e
      · obtain ⟨o, e, _⟩ := st.it2; exact Heap.lt_size e
    have nz : s.heap.objs.size ≠ z := fun e => Nat.lt_irrefl _ (by have := lt z (by simp); rw [← e] at this; exact this)
    have kk' : ∀ b o, b ∉ [z, TI, TO, i1, i2] → s.heap.get? b = some o → h2.get? b = some o := fun b o hb e => by
      have hz' : b ≠ z := fun q => hb (by simp [q])
      rw [b2.2 b hz']
      exact k b o hz' (fun q => hb (by simp [q])) (fun q => hb (by simp [q])) (fun q => hb (by simp [q])) e
    have np2 : h2.get? s.heap.objs.size = some { cls := .type "tuple", data := .seq #[u, v] } := (b2.2 _ nz).trans np
    have hfr := I.hok.fresh (Nat.le_refl s.heap.objs.size)
    refine ⟨.ref s.heap.objs.size, upd H s.heap.objs.size (.tup [x, y]), I.turnLaid (t' := s.toks) hf kk' (Nat.le_refl _) ⟨by show 2 ≤ sizeLine; decide, [u, v], .cons ru (.cons rv .nil), ⟨_, np2, rfl, _, rfl⟩⟩, rfl, ⟨_, x, y, rfl, hfr, rfl, fun xs' h' => ?_, fun ys' h' => ?_⟩, ⟨z2, (b2.2 _ hA.TIz).trans zt.ti, let ⟨p, q, e⟩ := zt.to; ⟨p, q, (b2.2 _ hA.TOz).trans e⟩, let ⟨o, e, p⟩ := zt.it1; ⟨o, (b2.2 _ hA.i1z).trans e, p⟩, let ⟨o, e, p⟩ := zt.it2; ⟨o, (b2.2 _ hA.i2z).trans e, p⟩⟩, fun b hb => ?_⟩
    · rw [I.tuple_inj h' hx]; exact gx
    · rw [I.tuple_inj h' hy]; exact gy
    · rw [upd_ne (Nat.ne_of_lt (lt b hb))]
      exact (hf b hb).1
  done := by
    intro X hP hw hK hc i pins s σ H E I hf st hg
    subst hP hw hK
    obtain ⟨xs, hx, hl⟩ := hg
    obtain ⟨its, rx, tx, _⟩ := I.tuple hx
    have el := rx.length
    refine pyNext_zip_endT (ys := #[]) (I.ok.hd hc) hA st tx (by simp; omega) fun h' k => ⟨rfl, I.turnedN (t' := s.toks) hf fun b o hb e => k b o (fun z => hb (by simp [z])) (fun z => hb (by simp [z])) e⟩
  self := fun A i s Q E st h => wpAny_pyIter_zip st.zip h
def iZip (K : PySem.W.Frag) (t1 t2 : TE) : TI := fun σ H R => t1 σ H fun x H1 => t2 σ H1 fun y H2 => ∃ a b, x = .ref a ∧ y = .ref b ∧ (∃ xs, SqT K H2 a xs) ∧ (∃ ys, SqT K H2 b ys) ∧ R (Itz K a b) H2
theorem pi_zip {X : Cx} (K : PySem.W.Frag) (hK : X.K = K) {e1 e2 : Expr} {t1 t2 : TE} {elts : List Expr} {kk : Nat} {tp p1 p2 : Pos} (hg : Gl X "zip") (hm : X.mg "zip" = none) (h1 : PE X e1 t1) (h2 : PE X e2 t2)
    (hs1 : starEach [e1, e2] X.env = (false, eval e1 X.env) :: starEach [e2] X.env := by rfl) (hs2 : starEach [e2] X.env = (false, eval e2 X.env) :: starEach [] X.env := by rfl) (hpl : (backTo p2 (starEach [e2] X.env)).any (·.1) = false := by rfl) :
    PI X (.Tuple elts kk tp) (.Call (.Name "zip" p1) [e1, e2] [] p2) (iZip K t1 t2) := by
  subst hK
  intro pins s σ H R I h
  refine wpAny_Call_Name_kw (ld_blt I hg hm boot_zip ?_ (by decide) (by decide))
  refine PyProof.Rows.callWith_type1 ?_ hs1 hpl
  rw [hs1, hs2]
  show wpAny _ _ (spliced ((false, eval e1 X.env) :: (false, eval e2 X.env) :: backTo p2 (starEach [] X.env))) _ _ s
  refine Calls.spliced_cons (thn (h1 pins s σ H _ I h) fun u1 s1 ⟨x, H1, I1, r1, q1⟩ => ?_)
  refine Calls.spliced_cons (thn (h2 pins s1 σ H1 _ I1 q1) fun u2 s2 ⟨y, H2, I2, r2, a, b, ex, ey, ⟨xs, hx⟩, ⟨ys, hy⟩, q⟩ => Calls.spliced_nil ?_)
  subst ex
  subst ey
  cases r1
  cases r2
  obtain ⟨its, rx, tx, _⟩ := I2.tuple hx
  obtain ⟨its2, ry, ty, _⟩ := I2.tuple hy
  have l1 : a < s2.heap.objs.size := let ⟨_, e, _⟩ := tx; Heap.lt_size e
  have l2 : b < s2.heap.objs.size := let ⟨_, e, _⟩ := ty; Heap.lt_size e
  refine call_zipT tx ty fun h' zt k => ?_
  refine wpAny_pyIter_zip zt.zip ?_
  have dd : ∀ i j : Nat, i ≠ j → s2.heap.objs.size + i ≠ s2.heap.objs.size + j := fun i j n e => n (Nat.add_left_cancel e)
  have na : ∀ i : Nat, a ≠ s2.heap.objs.size + i := fun i => Nat.ne_of_lt (Nat.lt_of_lt_of_le l1 (Nat.le_add_right _ _))
  have nb : ∀ i : Nat, b ≠ s2.heap.objs.size + i := fun i => Nat.ne_of_lt (Nat.lt_of_lt_of_le l2 (Nat.le_add_right _ _))
  have hA : ZipApart (s2.heap.objs.size + 4) (s2.heap.objs.size + 2) (s2.heap.objs.size + 3) s2.heap.objs.size (s2.heap.objs.size + 1) a b :=
    ⟨dd 2 4 (by decide), dd 3 4 (by decide), dd 0 4 (by decide), dd 1 4 (by decide), dd 2 3 (by decide), dd 2 0 (by decide), dd 2 1 (by decide), dd 3 0 (by decide), dd 3 1 (by decide), dd 0 1 (by decide), na 4, na 3, na 0, na 1, nb 4, nb 3, nb 0, nb 1⟩
  refine ⟨_, _, _, _, H2, rfl, I2.kept (t' := s2.toks) k, turn_zip hA, zt, fun c hc => ?_, q⟩
  have hle : s2.heap.objs.size ≤ c := by
    simp only [List.mem_cons, List.not_mem_nil, or_false] at hc
    rcases hc with rfl | rfl | rfl | rfl | rfl
    · exact Nat.le_add_right _ _
    · exact Nat.le_add_right _ _
    · exact Nat.le_add_right _ _
    · exact Nat.le_refl _
    · exact Nat.le_add_right _ _
  exact I2.fpOk hle (I2.hok.fresh hle)
theorem rd_izip {K : PySem.W.Frag} {t1 t2 : TE} {σ : L2.St} {H : Hp} {R : It → Hp → Prop} (h : t1 σ H fun x H1 => t2 σ H1 fun y H2 => ∃ a b, x = .ref a ∧ y = .ref b ∧ (∃ xs, SqT K H2 a xs) ∧ (∃ ys, SqT K H2 b ys) ∧ R (Itz K a b) H2) : iZip K t1 t2 σ H R := h
end L2

set_option Elab.async false
set_option linter.all false
set_option maxRecDepth 100000
namespace My
open PySem PySem.Spec PyProof.Rows L2
theorem pg_tup2k {X : Cx} (K : PySem.W.Frag) (hK : X.K = K) {a b : Expr} {k : Nat} {pos : Pos} {g1 g2 : TG} (hc : X.calm = true) (h1 : PG X a g1) (h2 : PG X b g2)
    (hs1 : (assignEach [a, b] X.env).map (·.2) = assign a X.env :: (assignEach [b] X.env).map (·.2) := by rfl) (hs2 : (assignEach [b] X.env).map (·.2) = assign b X.env :: (assignEach [] X.env).map (·.2) := by rfl)
    (hn : (assignEach [a, b] X.env).length = 2 := by rfl) (hst : (assignEach [a, b] X.env).findIdx? (·.1) = none := by rfl) : PG X (.Tuple [a, b] k pos) (gTup K 2 (gCons g1 (gCons g2 gNil))) := by
  subst hK
  exact pg_tup hc (pgs_cons h1 (pgs_cons h2 pgs_nil hs2) hs1) hn hst
theorem ll_asymm : ∀ (a b : List Nat), a < b → ¬ b < a
  | [], b, _, h => by exact absurd h (List.not_lt_nil _)
  | a :: as, [], h, _ => by exact absurd h (List.not_lt_nil _)
  | a :: as, b :: bs, h, h' => by
    rw [List.cons_lt_cons_iff] at h h'
    rcases h with h | ⟨h1, h2⟩ <;> rcases h' with h' | ⟨h1', h2'⟩
    · omega
    · omega
    · omega
    · exact ll_asymm as bs h2 h2'
theorem ll_tri : ∀ (a b : List Nat), ¬ a < b → ¬ b < a → a = b
  | [], [], _, _ => rfl
  | [], b :: bs, h, _ => absurd (List.nil_lt_cons _ _) h
  | a :: as, [], _, h => absurd (List.nil_lt_cons _ _) h
  | a :: as, b :: bs, h, h' => by
    rw [List.cons_lt_cons_iff] at h h'
    have e : a = b := by
      rcases Nat.lt_trichotomy a b with q | q | q
      · exact absurd (.inl q) h
      · exact q
      · exact absurd (.inl q) h'
    subst e
    rw [ll_tri as bs (fun q => h (.inr ⟨rfl, q⟩)) (fun q => h' (.inr ⟨rfl, q⟩))]
/-- the lesser text first -/
def mk2 (a b : Tr) : Tr := if b.tl < a.tl then .node b a else .node a b
def Tr.plain : Tr → Tr
  | .leaf x => .leaf x
  | .node l r => mk2 l.plain r.plain
theorem mk2_leaves (a b : Tr) : (∀ x, x ∈ (mk2 a b).leaves ↔ x ∈ a.leaves ∨ x ∈ b.leaves) ∧ (mk2 a b).leaves.length = a.leaves.length + b.leaves.length := by
  unfold mk2
  split
  · refine ⟨fun x => ?_, ?_⟩
    · show x ∈ b.leaves ++ a.leaves ↔ _
      rw [List.mem_append]; exact Or.comm
    · show (b.leaves ++ a.leaves).length = _
      rw [List.length_append]; omega
  · refine ⟨fun x => ?_, ?_⟩
    · show x ∈ a.leaves ++ b.leaves ↔ _
      rw [List.mem_append]
    · show (a.leaves ++ b.leaves).length = _
      rw [List.length_append]
theorem plain_leaves : ∀ t : Tr, (∀ x, x ∈ t.plain.leaves ↔ x ∈ t.leaves) ∧ t.plain.leaves.length = t.leaves.length
  | .leaf x => ⟨fun _ => Iff.rfl, rfl⟩
  | .node l r => by
    obtain ⟨a1, a2⟩ := plain_leaves l
    obtain ⟨b1, b2⟩ := plain_leaves r
    obtain ⟨c1, c2⟩ := mk2_leaves l.plain r.plain
    refine ⟨fun x => ?_, ?_⟩
    · show x ∈ (mk2 l.plain r.plain).leaves ↔ x ∈ l.leaves ++ r.leaves
      rw [c1, a1, b1, List.mem_append]
    · show (mk2 l.plain r.plain).leaves.length = (l.leaves ++ r.leaves).length
      rw [c2, a2, b2, List.length_append]
theorem plain_ws {t : Tr} (h : t.Ws) : t.plain.Ws := fun x hx => h x (((plain_leaves t).1 x).mp hx)
theorem mk2_comm {a b : Tr} (ha : a.Ws) (hb : b.Ws) : mk2 a b = mk2 b a := by
  unfold mk2
  by_cases h1 : b.tl < a.tl
  · rw [if_pos h1, if_neg (ll_asymm _ _ h1)]
  · rw [if_neg h1]
    by_cases h2 : a.tl < b.tl
    · rw [if_pos h2]
    · rw [if_neg h2]
      have e : a.tl = b.tl := ll_tri _ _ h2 h1
      have et : a.text = b.text := str_ext e
      rw [(text_inj ha hb).mp et]
theorem plain_plain : ∀ t : Tr, t.plain.plain = t.plain
  | .leaf x => rfl
  | .node l r => by
    show (mk2 l.plain r.plain).plain = mk2 l.plain r.plain
    have h1 := plain_plain l
    have h2 := plain_plain r
    unfold mk2
    by_cases h : r.plain.tl < l.plain.tl
    · rw [if_pos h]
      show mk2 r.plain.plain l.plain.plain = _
      rw [h1, h2]
      unfold mk2
      rw [if_neg (ll_asymm _ _ h)]
    · rw [if_neg h]
      show mk2 l.plain.plain r.plain.plain = _
      rw [h1, h2]
      unfold mk2
      rw [if_neg h]
theorem plain_swap {l r : Tr} (hl : l.Ws) (hr : r.Ws) : (Tr.node l r).plain = (Tr.node r l).plain := mk2_comm (plain_ws hl) (plain_ws hr)
theorem plain_cong {l r l' r' : Tr} (h1 : l.plain = l'.plain) (h2 : r.plain = r'.plain) : (Tr.node l r).plain = (Tr.node l' r').plain := by show mk2 _ _ = mk2 _ _; rw [h1, h2]
/-- a node stays one -/
theorem mk2_node (a b : Tr) : ∃ l r, mk2 a b = .node l r := by unfold mk2; split <;> exact ⟨_, _, rfl⟩
/-- an entry of plain: its text and itself -/
def DAt (H : Hp) (v : V) (t : Tr) : Prop := ∃ p w, v = .ref p ∧ H p = some (.tup [.str t.text, w]) ∧ TAt H w t
theorem DAt.mono {H H' : Hp} (h : Tups H H') {v : V} {t : Tr} (a : DAt H v t) : DAt H' v t := let ⟨p, w, e, hp, ht⟩ := a; ⟨p, w, e, h _ _ hp, ht.mono h⟩
inductive DAts (H : Hp) : List V → List Tr → Prop where
  | nil : DAts H [] []
  | cons {x : V} {t : Tr} {xs : List V} {ts : List Tr} : DAt H x t → DAts H xs ts → DAts H (x :: xs) (t :: ts)
theorem DAts.mono {H H' : Hp} (h : Tups H H') {vs : List V} {ts : List Tr} (a : DAts H vs ts) : DAts H' vs ts := by
  induction a with
  | nil => exact .nil
  | cons e _ i => exact .cons (e.mono h) i
theorem DAts.append {H : Hp} {xs ys : List V} {ts us : List Tr} (a : DAts H xs ts) (b : DAts H ys us) : DAts H (xs ++ ys) (ts ++ us) := by
  induction a with
  | nil => exact b
  | cons e _ i => exact .cons e i
theorem DAts.length {H : Hp} {vs : List V} {ts : List Tr} (a : DAts H vs ts) : vs.length = ts.length := by
  induction a with
  | nil => rfl
  | cons _ _ i => simp [i]
theorem DAts.at {H : Hp} : ∀ {xs : List V} {ts : List Tr} {n : Nat} {t : Tr}, DAts H xs ts → ts[n]? = some t → ∃ x, xs[n]? = some x ∧ DAt H x t
  | _, _, _, _, .nil, e => by simp at e
  | _, _, 0, _, .cons h _, e => by simp at e; subst e; exact ⟨_, rfl, h⟩
  | _, _, n + 1, t, .cons _ r, e => by
    obtain ⟨x, h1, h2⟩ := DAts.at (n := n) (t := t) r (by simpa using e)
    exact ⟨x, by simpa using h1, h2⟩
end My

set_option Elab.async false
set_option linter.all false
set_option maxRecDepth 100000
namespace L2
open PySem PySem.Spec PyProof.Rows
theorem enum_next_itemT {prog : Program} {w : World} {A : Around} {E : Value → Shared → Prop} {s : Shared} {e it t : Addr} {i : Nat} {old : Value} {items : Array Value} {x : Value} {Q : Value → Shared → Prop} (hei : e ≠ it) (hte : t ≠ e) (hti : t ≠ it)
    (hz : IsEnum s.heap e it i old) (hi : s.heap.IsTupleIter it t i) (ht : s.heap.IsTuple t items) (hx : items[i]? = some x)
    (q : ∀ (h' : Heap) (tk : Nat), IsEnumOut h' e it (i + 1 : Nat) x s.heap.objs.size → h'.IsTupleIter it t (i + 1) → IsPair h' s.heap.objs.size (.int i s.toks) x → (∀ c o, c ≠ e → c ≠ it → s.heap.get? c = some o → h'.get? c = some o) → Q (.ref s.heap.objs.size) { s with heap := h', toks := tk }) :
    wpAny (model prog w) A (Builtin.«enumerate.__next__» { pos := [.ref e] }) (fun fin s' => ∃ v, fin = Fin.done (Flow.ret v) ∧ Q v s') E s := by
  show wpAny _ _ (field (.ref e) 2 >>= fun r => _) _ _ s
  refine wpAny_bind (wpAny_field hz rfl rfl ?_)
  show wpAny _ _ (Builtin.SmallTypes.nextOf (.ref it) >>= fun r => _) _ _ s
  refine wpAny_bind (nextOf_tuple_item hi ht hx fun h1 j1 b1 => ?_)
  have z1 : IsEnum h1 e it i old := (b1.2 _ hei).trans hz
  refine wpAny_bind (wpAny_field z1 rfl rfl ?_)
  show wpAny _ _ (field (.ref e) 4 >>= fun r => _) _ _ _
  refine wpAny_bind (wpAny_field z1 rfl rfl ?_)
  show wpAny _ _ (mkInt i >>= fun r => _) _ _ _
  refine wpAny_bind (wpAny_mkInt ?_)
  refine wpAny_bind (wpAny_setField_rec z1 (show 3 < 6 by decide) fun h2 z2 b2 => ?_)
  refine wpAny_bind (wpAny_setField_rec z2 (show 4 < 6 by decide) fun h3 z3 b3 => ?_)
  have sz3 : h3.objs.size = s.heap.objs.size := b3.1.trans (b2.1.trans b1.1)
  have get3 : ∀ b, b ≠ e → b ≠ it → h3.get? b = s.heap.get? b := fun b n1 n2 => (b3.2 b n1).trans ((b2.2 b n1).trans (b1.2 b n2))
  refine wpAny_bind (wpAny_newTuple ?_ (by show 2 ≤ sizeLine; decide))
  have kp : ∀ b o, h3.get? b = some o → (h3.push { cls := .type "tuple", data := .seq [Value.int i s.toks, x].toArray }).get? b = some o := fun b o e => Heap.get?_push_of_some _ e
  have new4 : (h3.push { cls := .type "tuple", data := .seq [Value.int i s.toks, x].toArray }).get? h3.objs.size = some { cls := .type "tuple", data := .seq #[.int i s.toks, x] } := Heap.get?_push_size _ rfl
  generalize h3.push { cls := .type "tuple", data := .seq [Value.int i s.toks, x].toArray } = h4 at kp new4 ⊢
  have z4 : h4.get? e = some { cls := .type "enumerate", data := .fields #[.none, .bool false, .ref it, rawInt (i + 1), .none, old] } := kp _ _ z3
  refine wpAny_bind ?_
  unfold Builtin.SmallTypes.ownedTupleIsFree
  refine wpAny_bind (wpAny_field z4 rfl rfl ?_)
  refine wpAny_pure ?_
  show wpAny _ _ (rule "enumerate.__next__.owned-tuple-again" >>= fun r => _) _ _ _
  refine wpAny_bind (wpAny_rule ?_)
  refine wpAny_bind (wpAny_field z4 rfl rfl ?_)
  refine wpAny_bind (wpAny_setField_rec z4 (show 5 < 6 by decide) fun h5 z5 b5 => ?_)
  refine wpAny_bind ?_
  show wpAny _ _ (setField (.ref e) 0 (rawInt h3.objs.size) >>= fun _ => setField (.ref e) 1 (.bool false)) _ _ _
  refine wpAny_bind (wpAny_setField_rec z5 (show 0 < 6 by decide) fun h6 z6 b6 => ?_)
  refine wpAny_setField_rec z6 (show 1 < 6 by decide) fun h7 z7 b7 => ?_
  refine wpAny_bind (wpAny_letGo ?_)
  have get7 : ∀ b, b ≠ e → h7.get? b = h4.get? b := fun b n => (b7.2 b n).trans ((b6.2 b n).trans (b5.2 b n))
  have ne : s.heap.objs.size ≠ e := fun z => by have := Heap.lt_size hz; rw [← z] at this; exact Nat.lt_irrefl _ this
  refine wpAny_pure ⟨.ref h3.objs.size, rfl, ?_⟩
  rw [sz3] at z7 new4 ⊢
  refine q h7 _ ?_ ?_ ?_ ?_
  · exact z7
  · obtain ⟨o, eo, p⟩ := j1
    refine ⟨o, ?_, p⟩
    rw [get7 _ (Ne.symm hei)]
    exact kp _ _ ((b3.2 _ (Ne.symm hei)).trans ((b2.2 _ (Ne.symm hei)).trans eo))
  · rw [IsPair, get7 _ ne]; exact new4
  · intro c o n1 n2 ec
    rw [get7 _ n1]
    exact kp _ _ ((get3 _ n1 n2).trans ec)
theorem enum_next_endT {prog : Program} {w : World} {A : Around} {E : Value → Shared → Prop} {s : Shared} {e it t : Addr} {i : Nat} {old : Value} {items : Array Value} {Q : PySem.Fin → Shared → Prop} (hA : A.handled = none)
    (hz : IsEnum s.heap e it i old) (hi : s.heap.IsTupleIter it t i) (ht : s.heap.IsTuple t items) (hx : items[i]? = none)
    (q : ∀ (h' : Heap) (x : Addr), (∀ c o, c ≠ it → s.heap.get? c = some o → h'.get? c = some o) → (∃ o, h'.get? x = some o ∧ o.cls = .type "StopIteration") → E (.ref x) { s with heap := h' }) :
    wpAny (model prog w) A (Builtin.«enumerate.__next__» { pos := [.ref e] }) Q E s := by
  show wpAny _ _ (field (.ref e) 2 >>= fun r => _) _ _ s
  refine wpAny_bind (wpAny_field hz rfl rfl ?_)
  show wpAny _ _ (Builtin.SmallTypes.nextOf (.ref it) >>= fun r => _) _ _ s
  exact wpAny_bind (nextOf_tuple_end hA hi ht hx fun h' x k ex => q h' x (fun c o n e' => k c o n e') ex)
theorem pyNext_enum_itemT {prog : Program} {w : World} {A : Around} {E : Value → Shared → Prop} {s : Shared} {e it t : Addr} {i : Nat} {old : Value} {items : Array Value} {x : Value} {Q : Option Value → Shared → Prop} (hei : e ≠ it) (hte : t ≠ e) (hti : t ≠ it)
    (hz : IsEnum s.heap e it i old) (hi : s.heap.IsTupleIter it t i) (ht : s.heap.IsTuple t items) (hx : items[i]? = some x)
    (q : ∀ (h' : Heap) (tk : Nat), IsEnumOut h' e it (i + 1 : Nat) x s.heap.objs.size → h'.IsTupleIter it t (i + 1) → IsPair h' s.heap.objs.size (.int i s.toks) x → (∀ c o, c ≠ e → c ≠ it → s.heap.get? c = some o → h'.get? c = some o) → Q (some (.ref s.heap.objs.size)) { s with heap := h', toks := tk }) :
    wpAny (model prog w) A (pyNext (.ref e)) Q E s := by
  have ty : s.TypeIs (.ref e) "enumerate" := ⟨_, hz, rfl⟩
  unfold pyNext
  refine wpAny_bind (wpAny_attempt (wpAny_callSpecial?_slot ty F.slot_enumerate_next (wpAny_call_entry F.slot_enumerate_next ty F.entry_enumerate_next ?_ (F.args_enumerate_next_1 _))))
  exact enum_next_itemT hei hte hti hz hi ht hx fun h' tk a b c d => wpAny_pure (q h' tk a b c d)
theorem pyNext_enum_endT {prog : Program} {w : World} {A : Around} {E : Value → Shared → Prop} {s : Shared} {e it t : Addr} {i : Nat} {old : Value} {items : Array Value} {Q : Option Value → Shared → Prop} (hA : A.handled = none)
    (hz : IsEnum s.heap e it i old) (hi : s.heap.IsTupleIter it t i) (ht : s.heap.IsTuple t items) (hx : items[i]? = none)
    (q : ∀ h' : Heap, (∀ c o, c ≠ it → s.heap.get? c = some o → h'.get? c = some o) → Q none { s with heap := h' }) :
    wpAny (model prog w) A (pyNext (.ref e)) Q E s := by
  have ty : s.TypeIs (.ref e) "enumerate" := ⟨_, hz, rfl⟩
  unfold pyNext
  refine wpAny_bind (wpAny_attempt (wpAny_callSpecial?_slot ty F.slot_enumerate_next (wpAny_call_entry F.slot_enumerate_next ty F.entry_enumerate_next ?_ (F.args_enumerate_next_1 _))))
  refine enum_next_endT (A := A.in1) hA hz hi ht hx fun h' x k ex => ?_
  obtain ⟨o, eo, hc⟩ := ex
  refine wpAny_bind (wpAny_isInstance (T := "StopIteration") ⟨o, eo, hc⟩ isSubtype_stop ?_)
  rw [if_pos rfl]
  exact wpAny_pure (q h' k)
theorem meets_enum_newT (t : Addr) (items : Array Value) : Meets (Builtin.«enumerate.__new__» { pos := [.type "enumerate", .ref t] }) (fun _ R s => s.heap.IsTuple t items ∧
    ∀ h' : Heap, IsEnum h' (s.heap.objs.size + 1) s.heap.objs.size (0 : Nat) .none → h'.IsTupleIter s.heap.objs.size t 0 → (∀ b o, s.heap.get? b = some o → h'.get? b = some o) → R (.ok (.ret (.ref (s.heap.objs.size + 1)))) { s with heap := h' }) :=
  .of_wp fun prog w A R s h => by
    obtain ⟨h1, q⟩ := h
    unfold Builtin.«enumerate.__new__»
    refine wpAny_bind ?_
    unfold Builtin.SmallTypes.newClass
    refine wpAny_bind (wpAny_of_eq (a := true) rfl ?_)
    rw [if_neg (by decide)]
    refine wpAny_bind (wpAny_of_eq sub_enumerate ?_)
    rw [if_neg (by decide)]
    refine wpAny_pure ?_
    show wpAny _ _ (Builtin.SmallTypes.calledThroughType (.type "enumerate") >>= fun r => _) _ _ s
    refine wpAny_bind ?_
    unfold Builtin.SmallTypes.calledThroughType
    refine wpAny_bind (wpAny_stack_any fun st => wpAny_pure ?_)
    have fin : wpAny (model prog w) A.in1 (pyIter (.ref t) >>= fun it => (Builtin.SmallTypes.newRecord (.type "enumerate") (Builtin.SmallTypes.ownedTupleFields ++ [it, rawInt 0, .none, .none]) >>= fun r => ret r)) (fun fin s' => ∃ v, fin = Fin.done (Flow.ret v) ∧ R (Except.ok (Flow.ret v)) s') (fun e s' => R (Except.error e) s') s := by
      refine wpAny_bind (wpAny_pyIter_tuple h1 ?_)
      have k1 : ∀ b o, s.heap.get? b = some o → (s.heap.push { cls := .type "tuple_iterator", data := .fields #[.ref t, .int 0 0] }).get? b = some o := fun b o e => Heap.get?_push_of_some _ e
      have g1 : (s.heap.push { cls := .type "tuple_iterator", data := .fields #[.ref t, .int 0 0] }).get? s.heap.objs.size = some { cls := .type "tuple_iterator", data := .fields #[.ref t, .int 0 0] } := Heap.get?_push_size _ rfl
      have z1 : (s.heap.push { cls := .type "tuple_iterator", data := .fields #[.ref t, .int 0 0] }).objs.size = s.heap.objs.size + 1 := Heap.size_push ..
      generalize s.heap.push { cls := .type "tuple_iterator", data := .fields #[.ref t, .int 0 0] } = hp1 at k1 g1 z1 ⊢
      show wpAny _ _ (newObj (.type "enumerate") (.fields #[.none, .bool false, .ref s.heap.objs.size, rawInt 0, .none, .none]) >>= fun r => ret r) _ _ _
      refine wpAny_bind (wpAny_newObj_type ?_ (by simp [sizeOk]; decide))
      have g2 : (hp1.push { cls := .type "enumerate", data := .fields #[.none, .bool false, .ref s.heap.objs.size, rawInt 0, .none, .none] }).get? hp1.objs.size = some { cls := .type "enumerate", data := .fields #[.none, .bool false, .ref s.heap.objs.size, rawInt 0, .none, .none] } := Heap.get?_push_size _ rfl
      refine wpAny_pure ⟨.ref hp1.objs.size, rfl, ?_⟩
      rw [z1] at g2 ⊢
      exact q _ g2 ⟨_, Heap.get?_push_of_some _ g1, rfl, rfl⟩ fun b o e => Heap.get?_push_of_some _ (k1 _ _ e)
    dsimp only
    refine wpAny_ite_split (fun _ => ?_) (fun _ => ?_)
    · exact wpAny_bind (wpAny_of_eq (a := (Value.ref t, none)) rfl fin)
    · exact wpAny_bind (wpAny_of_eq (a := (Value.ref t, none)) rfl fin)
theorem call_enumT {prog : Program} {w : World} {A : Around} {E : Value → Shared → Prop} {s : Shared} {t : Addr} {items : Array Value} {Q : Value → Shared → Prop} (h1 : s.heap.IsTuple t items)
    (q : ∀ h' : Heap, IsEnum h' (s.heap.objs.size + 1) s.heap.objs.size (0 : Nat) .none → h'.IsTupleIter s.heap.objs.size t 0 → (∀ b o, s.heap.get? b = some o → h'.get? b = some o) → Q (.ref (s.heap.objs.size + 1)) { s with heap := h' }) :
    wpAny (model prog w) A (call (.type "enumerate") [.ref t]) Q E s :=
  callType_new F.called_enumerate (by decide) (F.typeCall_enumerate_1 _) (F.newCall_enumerate_1 _) (fun o => F.args_object_init_2 o _) F.entry_enumerate_new (meets_enum_newT t items) ⟨h1, fun h' z i k => ⟨⟨_, z, rfl⟩, q h' z i k⟩⟩
def Ite (K : PySem.W.Frag) (a : Addr) : It where
  go := fun i H => ∃ xs x, SqT K H a xs ∧ xs[i]? = some x
  yld := fun i H v H' => ∃ p x, v = .ref p ∧ H p = none ∧ H' = upd H p (.tup [.int i, x]) ∧ ∀ xs, SqT K H a xs → xs[i]? = some x
  stop := fun i H => ∃ xs, SqT K H a xs ∧ xs.length ≤ i
theorem turn_enum {P : Program} {w : World} {K : PySem.W.Frag} {elts : List Expr} {kk : Nat} {pos : Pos} {e it t : Addr} (hei : e ≠ it) (hte : t ≠ e) (hti : t ≠ it) : Turn P w K (.Tuple elts kk pos) (Ite K t) [e, it] e (fun i h => (∃ old, IsEnum h e it (i : Nat) old) ∧ h.IsTupleIter it t i) where
  mem := by simp
  obj := fun i h st b hb => by
    simp only [List.mem_cons, List.not_mem_nil, or_false] at hb
    rcases hb with rfl | rfl
    · obtain ⟨⟨_, e⟩, _⟩ := st; exact ⟨_, e, fun v z => by cases z⟩
    · obtain ⟨_, ⟨o, e, _, d⟩⟩ := st; exact ⟨o, e, fun v z => by rw [d] at z; cases z⟩
  keep := fun i h h' st k => ⟨let ⟨o, e'⟩ := st.1; ⟨o, k e (by simp) _ e'⟩, let ⟨o, e', p⟩ := st.2; ⟨o, k it (by simp) _ e', p⟩⟩
  item := by
    intro X hP hw hK hc i pins s σ H E I hf st hg
    subst hP hw hK
    obtain ⟨xs, x, hx, gx⟩ := hg
    obtain ⟨its, rx, tx, _⟩ := I.tuple hx
    obtain ⟨u, gu, ru⟩ := vals_get rx gx
    obtain ⟨⟨old, hz⟩, hi⟩ := st
    refine pyNext_enum_itemT hei hte hti hz hi tx (by simpa using gu) fun h' tk zo j np k => ?_
    refine ⟨_, rfl, ?_⟩
    refine wpAny_letOwnedTupleGo_enum zo fun h2 z2 b2 => ?_
    have le : e < s.heap.objs.size := Heap.lt_size hz
    have li : it < s.heap.objs.size := let ⟨_, e', _⟩ := hi; Heap.lt_size e'
    have lt : ∀ b ∈ [e, it], b < s.heap.objs.size := fun b hb => by
      simp only [List.mem_cons, List.not_mem_nil, or_false] at hb
      rcases hb with rfl | rfl
      · exact le
      · exact li
    have nz : s.heap.objs.size ≠ e := fun z => Nat.lt_irrefl _ (by have := le; rw [← z] at this; exact this)
    have kk' : ∀ b o, b ∉ [e, it] → s.heap.get? b = some o → h2.get? b = some o := fun b o hb e' => by
      have hz' : b ≠ e := fun q => hb (by simp [q])
      rw [b2.2 b hz']
      exact k b o hz' (fun q => hb (by simp [q])) e'
    have np2 : h2.get? s.heap.objs.size = some { cls := .type "tuple", data := .seq #[.int i s.toks, u] } := (b2.2 _ nz).trans np
    have hfr := I.hok.fresh (Nat.le_refl s.heap.objs.size)
    refine ⟨.ref s.heap.objs.size, upd H s.heap.objs.size (.tup [.int i, x]), I.turnLaid (t' := tk) hf kk' (Nat.le_refl _) ⟨by show 2 ≤ sizeLine; decide, [.int i s.toks, u], .cons ⟨_, rfl⟩ (.cons ru .nil), ⟨_, np2, rfl, _, rfl⟩⟩, rfl, ⟨_, x, rfl, hfr, rfl, fun xs' h' => by rw [I.tuple_inj h' hx]; exact gx⟩, ⟨⟨_, z2⟩, let ⟨o, e', p⟩ := j; ⟨o, (b2.2 _ (Ne.symm hei)).trans e', p⟩⟩, fun b hb => ?_⟩
    rw [upd_ne (Nat.ne_of_lt (lt b hb))]
    exact (hf b hb).1
  done := by
    intro X hP hw hK hc i pins s σ H E I hf st hg
    subst hP hw hK
    obtain ⟨xs, hx, hl⟩ := hg
    obtain ⟨its, rx, tx, _⟩ := I.tuple hx
    have el := rx.length
    obtain ⟨⟨old, hz⟩, hi⟩ := st
    refine pyNext_enum_endT (I.ok.hd hc) hz hi tx (by simp; omega) fun h' k => ⟨rfl, I.turnedN (t' := s.toks) hf fun b o hb e' => k b o (fun z => hb (by simp [z])) e'⟩
  self := fun A i s Q E st h => let ⟨_, e'⟩ := st.1; wpAny_pyIter_enum e' h
def iEnum (K : PySem.W.Frag) (t1 : TE) : TI := fun σ H R => t1 σ H fun x H1 => ∃ a, x = .ref a ∧ (∃ xs, SqT K H1 a xs) ∧ R (Ite K a) H1
theorem pi_enum {X : Cx} (K : PySem.W.Frag) (hK : X.K = K) {e1 : Expr} {t1 : TE} {elts : List Expr} {kk : Nat} {tp p1 p2 : Pos} (hg : Gl X "enumerate") (hm : X.mg "enumerate" = none) (h1 : PE X e1 t1)
    (hs1 : starEach [e1] X.env = (false, eval e1 X.env) :: starEach [] X.env := by rfl) : PI X (.Tuple elts kk tp) (.Call (.Name "enumerate" p1) [e1] [] p2) (iEnum K t1) := by
  subst hK
  intro pins s σ H R I h
  refine wpAny_Call_Name_kw (ld_blt I hg hm boot_enumerate ?_ (by decide) (by decide))
  refine PyProof.Rows.callWith_type1 ?_ hs1 rfl
  rw [hs1]
  show wpAny _ _ (spliced ((false, eval e1 X.env) :: backTo p2 (starEach [] X.env))) _ _ s
  refine Calls.spliced_cons (thn (h1 pins s σ H _ I h) fun u1 s1 ⟨x, H1, I1, r1, a, ex, ⟨xs, hx⟩, q⟩ => Calls.spliced_nil ?_)
  subst ex
  cases r1
  obtain ⟨its, rx, tx, _⟩ := I1.tuple hx
  have l1 : a < s1.heap.objs.size := let ⟨_, e, _⟩ := tx; Heap.lt_size e
  refine call_enumT tx fun h' ze hi k => ?_
  refine wpAny_pyIter_enum ze ?_
  have d1 : s1.heap.objs.size + 1 ≠ s1.heap.objs.size := Nat.succ_ne_self _
  refine ⟨_, _, _, _, H1, rfl, I1.kept (t' := s1.toks) k, turn_enum d1 (Nat.ne_of_lt (Nat.lt_of_lt_of_le l1 (Nat.le_add_right _ 1))) (Nat.ne_of_lt l1), ⟨⟨_, ze⟩, hi⟩, fun c hc => ?_, q⟩
  have hle : s1.heap.objs.size ≤ c := by
    simp only [List.mem_cons, List.not_mem_nil, or_false] at hc
    rcases hc with rfl | rfl
    · exact Nat.le_add_right _ _
    · exact Nat.le_refl _
  exact I1.fpOk hle (I1.hok.fresh hle)
theorem rd_ienum {K : PySem.W.Frag} {t1 : TE} {σ : L2.St} {H : Hp} {R : It → Hp → Prop} (h : t1 σ H fun x H1 => ∃ a, x = .ref a ∧ (∃ xs, SqT K H1 a xs) ∧ R (Ite K a) H1) : iEnum K t1 σ H R := h
end L2

set_option Elab.async false
set_option linter.all false
set_option maxRecDepth 100000
namespace L2
open PySem PySem.Spec PyProof.Rows
section
variable {X : Cx} {pos : Pos}
/-- d.update(e) -/
def rUpd : V → List V → Hp → VK → Prop := fun x vs H Q => ∃ l b kvs more, x = .ref l ∧ vs = [.ref b] ∧ l ≠ b ∧ H l = some (.dK kvs) ∧ H b = some (.dK more) ∧ kvs.length + more.length ≤ sizeLine ∧ updO H l (.dK (mergeK kvs more)) (Q .non)
theorem mt_update : MtM X "dict.update" rUpd := by
  intro pins s σ H x vs v us Q I rx rv h
  obtain ⟨l, b, kvs, more, rfl, rfl, hlb, hl, hb, hz, q⟩ := h
  cases rx
  obtain ⟨u, rfl, ru⟩ := rv.one
  cases ru
  obtain ⟨z1, hd1, vs1, r1, d1⟩ := dk_of I.hok hl
  obtain ⟨z2, hd2, vs2, r2, d2⟩ := dk_of I.hok hb
  have e1 : kvs.length = vs1.length := r1.length
  have e2 : more.length = vs2.length := r2.length
  refine call_meetsIn F.slot_dict_update d1.typeIs F.entry_dict_update (F.args_dict_update_2 _ _) (meets_dict_update (mixKind X.prog X.w) l b hlb hd2) ⟨vs1, vs2, d1, d2, by omega, fun h' d1' d2' sb => ?_⟩
  have he : ∃ q, h'.get? l = some q := let ⟨q, _, _, hq, _⟩ := d1'; ⟨q, hq⟩
  refine ⟨.non, _, d_write (t' := s.toks) I (by rw [hl]; exact True.intro) sb he (dk_new ?_ hd1 (r2.merge r1) d1'), rfl, q.at⟩
  have := length_mergeK more kvs
  omega
/-- {x: e}, x a name that holds an int -/
def tDictV (i : Nat) (te : TE) : TE := fun σ H Q => ∃ n : Int, σ[i]? = some (some (.int n)) ∧ ∀ p H1, Same H H1 → H1 p = some (.dK []) → H p = none → te σ H1 fun v H2 => H2 p = some (.dK []) ∧ ∀ H3, SameX p H2 H3 → H3 p = some (.dK [(Sum.inl n, v)]) → Q (.ref p) H3
theorem pe_dictV {k v : Expr} {i : Nat} {te : TE} (hk : PE X k (tVar i)) (hv : PE X v te) (hm : ∀ σ H Q Q', (∀ v H', Q v H' → Q' v H') → te σ H Q → te σ H Q') : PE X (.Dict [some k] [v] pos) (tDictV i te) := by
  refine (pe_disp (pps_cons hk hv pps_nil) rfl rfl (by simp) (show (1 : Nat) ≤ 15 by decide)).mono fun σ H Q h => ?_
  obtain ⟨n, e, h⟩ := h
  intro p hp
  refine ⟨.int n, e, ?_⟩
  refine hm _ _ _ _ (fun v H2 q => ?_) (h p _ (same_new hp _) upd_same hp)
  refine ⟨q.1, [(Sum.inl n, v)], rfl, (show (1 : Nat) ≤ 15 by decide), ?_⟩
  exact q.2 _ (samex_upd _) upd_same
theorem mono_var (i : Nat) : ∀ σ H Q Q', (∀ v H', Q v H' → Q' v H') → tVar i σ H Q → tVar i σ H Q' := fun σ H Q Q' f ⟨v, e, h⟩ => ⟨v, e, f _ _ h⟩
theorem rd_dget {td ty : TE} {σ : L2.St} {H : Hp} {Q : VK} (h : td σ H fun x H1 => ty σ H1 fun y H2 => ∃ a v, x = .ref a ∧ DGet H2 a y (some v) ∧ Q v H2) : tDGet td ty σ H Q := h
end
end L2

set_option Elab.async false
set_option linter.all false
set_option maxRecDepth 100000
namespace My
open PySem PySem.Spec PyProof.Rows L2
/-! ### rules that hand on what is weaker -/
def Mo (te : TE) : Prop := ∀ σ H Q Q', (∀ v H', Q v H' → Q' v H') → te σ H Q → te σ H Q'
def MoA (ta : TA) : Prop := ∀ σ H (Q Q' : List V → Hp → Prop), (∀ v H', Q v H' → Q' v H') → ta σ H Q → ta σ H Q'
theorem mo_var (i : Nat) : Mo (tVar i) := fun σ H Q Q' f ⟨v, e, h⟩ => ⟨v, e, f _ _ h⟩
theorem mo_c (v : V) : Mo (tC v) := fun σ H Q Q' f h => f _ _ h
theorem mo_I0 {g : Int → Int → V} {a b : TE} (ha : Mo a) (hb : Mo b) : Mo (tOp (rI0 g) a b) := fun σ H Q Q' f h => ha _ _ _ _ (fun x H1 h1 => hb _ _ _ _ (fun y H2 ⟨i, j, e1, e2, q⟩ => ⟨i, j, e1, e2, f _ _ q⟩) h1) h
theorem moa_nil : MoA tNil := fun σ H Q Q' f h => f _ _ h
theorem moa_cons {a : TE} {r : TA} (ha : Mo a) (hr : MoA r) : MoA (tCons a r) := fun σ H Q Q' f h => ha _ _ _ _ (fun x H1 h1 => hr _ _ _ _ (fun xs H2 q => f _ _ q) h1) h
theorem mo_tup {r : TA} (hr : MoA r) : Mo (tTupN r) := fun σ H Q Q' f h => hr _ _ _ _ (fun xs H1 ⟨z, q⟩ => ⟨z, fun p H' s hp n => f _ _ (q p H' s hp n)⟩) h
/-! ### dicts of nodes -/
theorem merge_app : ∀ (more kvs : List (Key × V)), (∀ p ∈ more, valV kvs p.1 = none) → (more.map (·.1)).Nodup → mergeK kvs more = kvs ++ more
  | [], kvs, _, _ => by show kvs = kvs ++ []; simp
  | p :: r, kvs, h, hn => by
    show mergeK (putK kvs p.1 p.2) r = _
    rw [List.map_cons, List.nodup_cons] at hn
    rw [putK_new _ (h p (List.mem_cons_self ..))]
    rw [merge_app r _ (fun q hq => ?_) hn.2]
    · simp
    · have h1 := h q (List.mem_cons_of_mem _ hq)
      have h2 : ¬ p.1 = q.1 := fun z => hn.1 (by rw [z]; exact List.mem_map.mpr ⟨q, hq, rfl⟩)
      unfold valV at h1 ⊢
      rw [List.find?_append]
      cases e : kvs.find? fun kv => decide (kv.1 = q.1) with
      | some w => rw [e] at h1; cases h1
      | none => simp [h2]
theorem valV_app (a b : List (Key × V)) (k : Key) : valV (a ++ b) k = (valV a k).or (valV b k) := by
  unfold valV
  rw [List.find?_append]
  cases a.find? fun kv => decide (kv.1 = k) with
  | some w => rfl
  | none => rfl
inductive EAt (H : Hp) : V → Ent → Prop where
  | word (x : Str) : EAt H (.str x) (.word x)
  | pair {a : Addr} {i j : Nat} : H a = some (.tup [.int i, .int j]) → EAt H (.ref a) (.pair i j)
theorem EAt.mono {H H' : Hp} (h : Tups H H') {v : V} {e : Ent} (a : EAt H v e) : EAt H' v e := by
  cases a with
  | word x => exact .word x
  | pair e => exact .pair (h _ _ e)
inductive DkAt (H : Hp) : List (Key × V) → Tr → Nat → Prop where
  | leaf (x : Str) (o : Nat) : DkAt H [(Sum.inl (o : Int), .str x)] (.leaf x) o
  | node {l r : Tr} {o : Nat} {p : Addr} {k1 k2 : List (Key × V)} : H p = some (.tup [.int (o + l.size - 1 : Nat), .int (o + l.size + r.size - 1 : Nat)]) → DkAt H k1 l o → DkAt H k2 r (o + l.size) →
      DkAt H ((Sum.inl ((o + l.size + r.size : Nat) : Int), .ref p) :: (k1 ++ k2)) (.node l r) o
theorem DkAt.mono {H H' : Hp} (h : Tups H H') {kvs : List (Key × V)} {t : Tr} {o : Nat} (a : DkAt H kvs t o) : DkAt H' kvs t o := by
  induction a with
  | leaf x o => exact .leaf x o
  | node e _ _ i1 i2 => exact .node (h _ _ e) i1 i2
theorem DkAt.len {H : Hp} {kvs : List (Key × V)} {t : Tr} {o : Nat} (a : DkAt H kvs t o) : kvs.length = t.size := by
  induction a with
  | leaf => rfl
  | @node l r o p k1 k2 _ _ _ i1 i2 => rw [List.length_cons, List.length_append, i1, i2]; rfl
theorem DkAt.keys {H : Hp} {kvs : List (Key × V)} {t : Tr} {o : Nat} (a : DkAt H kvs t o) : ∀ p ∈ kvs, ∃ j : Nat, o ≤ j ∧ j < o + t.size ∧ p.1 = Sum.inl (j : Int) := by
  induction a with
  | leaf x o =>
    intro p hp
    rw [List.mem_singleton.mp hp]
    exact ⟨o, Nat.le_refl _, Nat.lt_succ_self _, rfl⟩
  | @node l r o p k1 k2 _ _ _ i1 i2 =>
    have e : (Tr.node l r).size = l.size + r.size + 1 := rfl
    intro q hq
    rcases List.mem_cons.mp hq with z | z
    · rw [z]; exact ⟨_, by omega, by omega, rfl⟩
    · rcases List.mem_append.mp z with z | z
      · obtain ⟨j, h1, h2, h3⟩ := i1 q z; exact ⟨j, h1, by omega, h3⟩
      · obtain ⟨j, h1, h2, h3⟩ := i2 q z; exact ⟨j, by omega, by omega, h3⟩
theorem val_none {kvs : List (Key × V)} {k : Key} (h : ∀ p ∈ kvs, p.1 ≠ k) : valV kvs k = none := by
  unfold valV
  rw [List.find?_eq_none.mpr fun p hp => by simpa using h p hp]
  rfl
theorem DkAt.out {H : Hp} {kvs : List (Key × V)} {t : Tr} {o : Nat} (a : DkAt H kvs t o) {j : Nat} (h : j < o ∨ o + t.size ≤ j) : valV kvs (Sum.inl (j : Int)) = none := val_none fun p hp z => by
  obtain ⟨i, h1, h2, h3⟩ := a.keys p hp
  rw [h3] at z
  injection z with z
  omega
theorem DkAt.nodup {H : Hp} {kvs : List (Key × V)} {t : Tr} {o : Nat} (a : DkAt H kvs t o) : (kvs.map (·.1)).Nodup := by
  induction a with
  | leaf => simp
  | @node l r o p k1 k2 _ d1 d2 i1 i2 =>
    rw [List.map_cons, List.nodup_cons, List.map_append, List.nodup_append]
    refine ⟨fun z => ?_, i1, i2, ?_⟩
    · rcases List.mem_append.mp z with z | z
      · obtain ⟨q, hq, eq⟩ := List.mem_map.mp z
        obtain ⟨i, h1, h2, h3⟩ := d1.keys q hq
        rw [h3] at eq; injection eq with eq; omega
      · obtain ⟨q, hq, eq⟩ := List.mem_map.mp z
        obtain ⟨i, h1, h2, h3⟩ := d2.keys q hq
        rw [h3] at eq; injection eq with eq; omega
    · intro x hx y hy
      obtain ⟨q, hq, rfl⟩ := List.mem_map.mp hx
      obtain ⟨q', hq', rfl⟩ := List.mem_map.mp hy
      obtain ⟨i, h1, h2, h3⟩ := d1.keys q hq
      obtain ⟨i', h1', h2', h3'⟩ := d2.keys q' hq'
      intro z
      rw [h3, h3'] at z; injection z with z; omega
theorem DkAt.get {H : Hp} {kvs : List (Key × V)} {t : Tr} {o : Nat} (a : DkAt H kvs t o) : ∀ j : Nat, j < t.size → ∃ v e, valV kvs (Sum.inl ((o + j : Nat) : Int)) = some v ∧ (t.nd o)[j]? = some e ∧ EAt H v e := by
  induction a with
  | leaf x o =>
    intro j hj
    have : j = 0 := by have : j < 1 := hj; omega
    subst this
    refine ⟨.str x, .word x, ?_, rfl, .word x⟩
    exact valV_pos rfl
  | @node l r o p k1 k2 hp d1 d2 i1 i2 =>
    intro j hj
    have es : (Tr.node l r).size = l.size + r.size + 1 := rfl
    have hn : (Tr.node l r).nd o = l.nd o ++ r.nd (o + l.size) ++ [.pair (o + l.size - 1) (o + l.size + r.size - 1)] := rfl
    have ln := l.nd_len o
    have rn := r.nd_len (o + l.size)
    by_cases c1 : j < l.size
    · obtain ⟨v, e, h1, h2, h3⟩ := i1 j c1
      refine ⟨v, e, ?_, ?_, h3⟩
      · rw [valV_neg (by show ¬ (Sum.inl _ : Key) = Sum.inl _; intro z; injection z with z; omega), valV_app, h1]; rfl
      · rw [hn, List.append_assoc, List.getElem?_append_left (by omega)]; exact h2
    · by_cases c2 : j < l.size + r.size
      · obtain ⟨v, e, h1, h2, h3⟩ := i2 (j - l.size) (by omega)
        have ej : o + l.size + (j - l.size) = o + j := by omega
        rw [ej] at h1
        refine ⟨v, e, ?_, ?_, h3⟩
        · rw [valV_neg (by show ¬ (Sum.inl _ : Key) = Sum.inl _; intro z; injection z with z; omega), valV_app, d1.out (.inr (by omega)), h1]; rfl
        · rw [hn, List.append_assoc, List.getElem?_append_right (by omega), List.getElem?_append_left (by omega), ln]; exact h2
      · have ej : j = l.size + r.size := by omega
        subst ej
        refine ⟨.ref p, _, valV_pos (by show (Sum.inl _ : Key) = Sum.inl _; rw [Nat.add_assoc]), ?_, .pair hp⟩
        rw [hn, List.getElem?_append_right (by rw [List.length_append]; omega), List.length_append, ln, rn, Nat.sub_self]
        rfl
/-! ### the ones ahead -/
def ahS (l : List V) (i : Nat) : Ent → List V
  | .word _ => l
  | .pair a b => (l.set a (.int i)).set b (.int i)
def ah : List Ent → Nat → List V → List V
  | [], _, l => l
  | e :: es, i, l => ah es (i + 1) (ahS l i e)
theorem ah_snoc : ∀ (es : List Ent) (e : Ent) (i : Nat) (l : List V), ah (es ++ [e]) i l = ahS (ah es i l) (i + es.length) e
  | [], e, i, l => rfl
  | x :: es, e, i, l => by
    show ah (es ++ [e]) (i + 1) (ahS l i x) = ahS (ah es (i + 1) (ahS l i x)) (i + (es.length + 1)) e
    rw [ah_snoc es e]
    congr 1
    omega
theorem ahS_len (l : List V) (i : Nat) (e : Ent) : (ahS l i e).length = l.length := by cases e with
  | word => rfl
  | pair => show ((l.set _ _).set _ _).length = _; rw [List.length_set, List.length_set]
theorem ah_len : ∀ (es : List Ent) (i : Nat) (l : List V), (ah es i l).length = l.length
  | [], _, _ => rfl
  | e :: es, i, l => by show (ah es (i + 1) (ahS l i e)).length = _; rw [ah_len es, ahS_len]
def NI (v : V) : Prop := v = .non ∨ ∃ i : Int, v = .int i
theorem ahS_ok {l : List V} (h : ∀ v ∈ l, NI v) (i : Nat) (e : Ent) : ∀ v ∈ ahS l i e, NI v := by
  cases e with
  | word => exact h
  | pair a b =>
    intro v hv
    rcases List.mem_or_eq_of_mem_set hv with k | k
    · rcases List.mem_or_eq_of_mem_set k with k | k
      · exact h v k
      · exact .inr ⟨_, k⟩
    · exact .inr ⟨_, k⟩
theorem ah_ok : ∀ (es : List Ent) (i : Nat) (l : List V), (∀ v ∈ l, NI v) → ∀ v ∈ ah es i l, NI v
  | [], _, _, h => h
  | e :: es, i, l, h => ah_ok es (i + 1) _ (ahS_ok h i e)
/-! ### the words of the leaves -/
def lf : List Tr → List Str
  | [] => []
  | .leaf x :: r => x :: lf r
  | .node _ _ :: r => lf r
theorem lf_append : ∀ a b : List Tr, lf (a ++ b) = lf a ++ lf b
  | [], b => rfl
  | .leaf x :: r, b => by show x :: lf (r ++ b) = x :: lf r ++ lf b; rw [lf_append r b]; rfl
  | .node _ _ :: r, b => lf_append r b
theorem lf_post : ∀ t : Tr, lf t.post = t.leaves
  | .leaf _ => rfl
  | .node l r => by show lf (l.post ++ r.post ++ [_]) = l.leaves ++ r.leaves; rw [lf_append, lf_append, lf_post l, lf_post r]; show _ ++ [] = _; simp
/-! ### values compared -/
def Vq (H : Hp) : Nat → V → V → Prop
  | 0, v, v' => v = v' ∧ ((∃ x, v = .str x) ∨ NI v)
  | n + 1, v, v' => (v = v' ∧ ((∃ x, v = .str x) ∨ NI v)) ∨ ∃ a b xs ys, v = .ref a ∧ v' = .ref b ∧ H a = some (.tup xs) ∧ H b = some (.tup ys) ∧ xs.length = ys.length ∧ xs.length ≤ 500 ∧ ∀ (i : Nat) x y, xs[i]? = some x → ys[i]? = some y → Vq H n x y
theorem Vq.mono {H H' : Hp} (h : Tups H H') : ∀ {n : Nat} {v v' : V}, Vq H n v v' → Vq H' n v v'
  | 0, _, _, q => q
  | n + 1, _, _, q => by
    rcases q with q | ⟨a, b, xs, ys, e1, e2, h1, h2, hl, hz, f⟩
    · exact .inl q
    · exact .inr ⟨a, b, xs, ys, e1, e2, h _ _ h1, h _ _ h2, hl, hz, fun i x y gx gy => (f i x y gx gy).mono h⟩
theorem EAt.vq {H : Hp} {v v' : V} {e : Ent} (a : EAt H v e) (b : EAt H v' e) : Vq H 1 v v' := by
  cases a with
  | word x => cases b; exact .inl ⟨rfl, .inl ⟨x, rfl⟩⟩
  | @pair p i j h1 =>
    cases b with
    | @pair p' _ _ h2 =>
    refine .inr ⟨p, p', _, _, rfl, rfl, h1, h2, rfl, by show 2 ≤ 500; decide, fun k x y gx gy => ?_⟩
    rw [gx] at gy
    cases gy
    refine ⟨rfl, .inr (.inr ?_)⟩
    match k, gx with
    | 0, gx => cases gx; exact ⟨_, rfl⟩
    | 1, gx => cases gx; exact ⟨_, rfl⟩
    | k + 2, gx => simp at gx
end My

set_option Elab.async false
set_option linter.all false
set_option maxRecDepth 100000
namespace L2
open PySem PySem.Spec PyProof.Rows
def rGetP (K : PySem.W.Frag) : V → V → Hp → VK → Prop := fun o i H Q => ∃ p xs k x, o = .ref p ∧ i = .int k ∧ SqL K H p xs ∧ 0 ≤ k ∧ k < 1000 ∧ xs[k.toNat]? = some x ∧ Q x H
theorem get_seqk {X : Cx} (K : PySem.W.Frag) (hK : X.K = K) : PGet X (rGetP K) := fun pins s σ H o i ov iv Q I ro ri h => by
  obtain ⟨p, xs, k, x, rfl, rfl, hp, k0, k1, hx, q⟩ := h
  subst hK
  cases ro
  obtain ⟨t, rfl⟩ := ri
  obtain ⟨its, r, pl, hz⟩ := I.list hp
  obtain ⟨u, gu, ru⟩ := vals_get r hx
  exact wpAny_getItem_list pl.isList k0 (by omega) (by simpa using gu) ⟨x, H, I, ru, q⟩
theorem rd_augS {to ti te : TE} {tget : V → V → Hp → VK → Prop} {tip : TIp} {tset : TSet} {D : Ends} {σ : L2.St} {H : Hp} (h : to σ H fun o H1 => ti σ H1 fun i H2 => tget o i H2 fun x H3 => te σ H3 fun y H4 => tip x y H4 fun z H5 => tset o i z H5 fun H6 => D.nx σ H6) : tAugS to ti te tget tip tset D σ H := h
end L2
namespace My
open PySem PySem.Spec PyProof.Rows L2
/-! ### the draws with three cells -/
def potOk (xs : List V) : Prop := ∃ g s c : Int, xs = [.int g, .int s, .int c] ∧ 0 ≤ g ∧ 0 ≤ s ∧ s < 2305843009213693951 ∧ 0 ≤ c
/-- the hand at h -/
def Pot (H : Hp) (h : Addr) : Prop := ∃ xs, H h = some (.lst xs) ∧ potOk xs
/-- behind a draw: the hand is one, all else is as it was -/
structure Pour (h : Addr) (H H' : Hp) : Prop where
  x : SameX h H H'
  hand : Pot H' h
theorem Pour.trans {h : Addr} {H H1 H2 : Hp} (a : Pour h H H1) (b : Pour h H1 H2) : Pour h H H2 := ⟨a.x.trans b.x, b.hand⟩
theorem Pot.same {H H' : Hp} {h : Addr} (a : Pot H h) (s : Same H H') : Pot H' h := let ⟨xs, e, o⟩ := a; ⟨xs, s _ _ e, o⟩
theorem Pot.ne {H H' : Hp} {h l : Addr} (a : Pot H h) (s : SameX l H H') (n : h ≠ l) : Pot H' h := let ⟨xs, e, o⟩ := a; ⟨xs, s _ _ n e, o⟩
theorem Pour.same {h : Addr} {H H1 H2 : Hp} (a : Pour h H H1) (b : Same H1 H2) : Pour h H H2 := ⟨a.x.trans (b.x h), a.hand.same b⟩
theorem Pour.of {h : Addr} {H H1 : Hp} (a : Pot H h) (b : Same H H1) : Pour h H H1 := ⟨b.x h, a.same b⟩
theorem Pour.tups {h : Addr} {H H1 : Hp} (a : Pour h H H1) (b : Pot H h) : Tups H H1 := let ⟨_, e, _⟩ := b; a.x.tups e
/-- what was a list stays, but the hand -/
theorem Pour.keep {h l : Addr} {H H1 : Hp} (a : Pour h H H1) {o : HO} (n : l ≠ h) (e : H l = some o) : H1 l = some o := a.x l o n e
theorem Pour.sq {K : PySem.W.Frag} {h l : Addr} {H H1 : Hp} {xs : List V} (a : Pour h H H1) (b : Pot H h) (n : l ≠ h) (e : SqL K H l xs) : SqL K H1 l xs := by
  rcases e with (e | ⟨o, e⟩) | e
  · exact .inl (.inl (a.x l _ n e))
  · exact .inl (.inr ⟨o, a.x l _ n e⟩)
  · exact .inr e
def spTake9 : Sp := fun vs H Q _ => ∃ (h : Addr) (m : Int), vs = [.ref h, .int m] ∧ Pot H h ∧ 0 < m ∧ m ≤ 1000 ∧
  ∀ (d : Int) (H' : Hp), 0 ≤ d → d < m → Pour h H H' → Q (.int d) H'
/-- a new hand, of the script -/
def spPot (K : PySem.W.Frag) : Sp := fun vs H Q _ => ∃ (a : Addr) (ns : List Int) (k : Int), vs = [.ref a, .int k] ∧ SqL K H a (ns.map V.int) ∧ ns.length ≤ 63 ∧ 0 ≤ k ∧ k ≤ 1000 ∧
  ∀ (r : Addr) (H' : Hp), Same H H' → Pot H' r → H r = none → Q (.ref r) H'


theorem Pot.fresh {H : Hp} {h p : Addr} (a : Pot H h) (n : H p = none) : p ≠ h := fun z => by obtain ⟨xs, e, _⟩ := a; rw [z, e] at n; cases n
def spWords9 : Sp := fun vs H Q _ => ∃ (h : Addr) (m : Int), vs = [.ref h, .int m] ∧ Pot H h ∧ 0 ≤ m ∧ m ≤ 26 ∧
  ∀ (r : Addr) (H' : Hp) (ws : List Str), Pour h H H' → H' r = some (.lst (ws.map V.str)) → H r = none → ws.length = m.toNat → (∀ x ∈ ws, Wd x) → ws.Nodup → Q (.ref r) H'
theorem word_of9 {x y : Str} {c : Nat} (a : Part x 1) (b : Part y 6) (h0 : 97 ≤ c) (h1 : c < 123) : Wd (x ++ ⟨#[c]⟩ ++ y) := by
  have q := (a.append (one_part h0 h1)).append b
  refine ⟨?_, q.1, q.2⟩
  rw [Str.length_append, Str.length_append]
  show 1 ≤ x.length + 1 + y.length
  omega
theorem menu_stem {d : Int} (h0 : 0 ≤ d) (h1 : d < 2) : ∃ bg : Str, atI [V.str "", V.str "k"] d = some (.str bg) ∧ Part bg 1 := by
  have : d = 0 ∨ d = 1 := by omega
  rcases this with rfl | rfl
  · exact ⟨"", rfl, by decide +kernel, by decide +kernel⟩
  · exact ⟨"k", rfl, by decide +kernel, by decide +kernel⟩
theorem menu_ends {d : Int} (h0 : 0 ≤ d) (h1 : d < 4) : ∃ bg : Str, atI [V.str "", V.str "q", V.str "zz", V.str "abcdef"] d = some (.str bg) ∧ Part bg 6 := by
  have : d = 0 ∨ d = 1 ∨ d = 2 ∨ d = 3 := by omega
  rcases this with rfl | rfl | rfl | rfl
  · exact ⟨"", rfl, by decide +kernel, by decide +kernel⟩
  · exact ⟨"q", rfl, by decide +kernel, by decide +kernel⟩
  · exact ⟨"zz", rfl, by decide +kernel, by decide +kernel⟩
  · exact ⟨"abcdef", rfl, by decide +kernel, by decide +kernel⟩
end My

set_option Elab.async false
set_option linter.all false
set_option maxRecDepth 100000
namespace L2
open PySem PySem.Spec PyProof.Rows
/-! ### a range that falls by one -/
def Itd (lo : Int) (n : Nat) : It := ⟨fun i _ => i < n, fun i H x H' => H' = H ∧ x = .int (lo - i), fun i _ => n ≤ i⟩
theorem turn_rangeD {P : Program} {w : World} {K : PySem.W.Frag} {tg : Expr} (it : Addr) (lo : Int) (n : Nat) : Turn P w K tg (Itd lo n) [it] it (fun i h => IsRangeIter h it (lo + (i : Nat) * (-1)) ((n : Int) - (i : Nat)) (-1)) where
  mem := by simp
  obj := fun i h st b hb => by
    have e : b = it := by simpa using hb
    subst e
    exact ⟨_, st, fun v z => by
      have z' : Data.fields _ = Data.cell v := z
      cases z'⟩
  keep := fun i h h' st k => k it (by simp) _ st
  item := by
    intro X hP hw hK hc i pins s σ H E I hf st hg
    subst hP hw hK
    obtain ⟨f0, f1, f2, f3, f4, f5⟩ := hf it (by simp)
    have W := Walks.range (prog := X.prog) (w := X.w) (I.ok.hd hc) it lo (-1) n
    refine W.item i s _ _ hg st fun v h' tk hv st' kk => ?_
    obtain ⟨t, rfl⟩ := hv
    have I1 : Inv X pins σ H { s with heap := h', toks := tk } := I.turned (fun b o hb e => kk b o (by simpa using hb) e) f0 f1 f3 f4 f5
    refine ⟨_, rfl, go_of (s := { s with heap := h', toks := tk }) (n := "range_iterator") st' rfl rfl (by decide) ⟨.int (lo - i), H, I1, ⟨t, ?_⟩, ⟨rfl, rfl⟩, st', fun b hb => (hf b hb).1⟩⟩
    rw [show lo + (i : Int) * (-1) = lo - i by omega]
  done := by
    intro X hP hw hK hc i pins s σ H E I hf st hg
    subst hP hw hK
    obtain ⟨f0, f1, f2, f3, f4, f5⟩ := hf it (by simp)
    exact wpAny_pyNext_range_end (I.ok.hd hc) st (by have : n ≤ i := hg; omega) fun h' eb => ⟨rfl, I.turned (t' := s.toks) (fun b o hb e => eb b o hb e) f0 f1 f3 f4 f5⟩
  self := fun _ _ _ _ _ st h => wpAny_pyIter_rangeiter st h
section
variable {X : Cx} {tg : Expr}
theorem range_itD {pins : List (Addr × Obj)} {σ : St} {H : Hp} {s : Shared} {R : It → Hp → Prop} {E : Value → Shared → Prop} {lo hi : Int} {t u v : Tok} {tk : Nat} (I : Inv X pins σ H s) (h1 : -(2 ^ 62) ≤ lo) (h2 : lo < 2 ^ 62) (h3 : -(2 ^ 62) ≤ hi) (h4 : hi < 2 ^ 62)
    (q : R (Itd lo (lo - hi).toNat) H) : wpAny (model X.prog X.w) X.A (pyIter (.ref s.heap.objs.size)) (PIE X pins σ tg R) E { s with heap := s.heap.push { cls := .type "range", data := .fields #[.int lo t, .int hi u, .int (-1) v] }, toks := tk } := by
  refine wpAny_pyIter_range (IsRange.new ..) (PySem.W.small_down h1 h2 h3 h4) ?_
  have I1 : Inv X pins σ H { s with heap := s.heap.push { cls := .type "range", data := .fields #[.int lo t, .int hi u, .int (-1) v] }, toks := tk } := I.kept fun b o e => Heap.get?_push_of_some _ e
  refine ⟨(s.heap.push { cls := .type "range", data := .fields #[.int lo t, .int hi u, .int (-1) v] }).objs.size, [(s.heap.push { cls := .type "range", data := .fields #[.int lo t, .int hi u, .int (-1) v] }).objs.size], _, _, H, rfl,
    I1.kept (t' := tk) fun b o e => Heap.get?_push_of_some _ e, turn_rangeD _ lo (lo - hi).toNat, ?_, fun b hb => ?_, q⟩
  · have e1 : lo + ((0 : Nat) : Int) * (-1) = lo := by simp
    have e2 : (((lo - hi).toNat : Nat) : Int) - ((0 : Nat) : Int) = Builtin.Range.rangeSize lo hi (-1) := by rw [PySem.W.rangeSize_down]; split <;> omega
    show IsRangeIter _ _ (lo + ((0 : Nat) : Int) * (-1)) ((((lo - hi).toNat : Nat) : Int) - ((0 : Nat) : Int)) (-1)
    rw [e1, e2]
    exact Heap.get?_push_size _ rfl
  · have e : b = (s.heap.push { cls := .type "range", data := .fields #[.int lo t, .int hi u, .int (-1) v] }).objs.size := by simpa using hb
    subst e
    exact I1.fpOk (Nat.le_refl _) (I1.hok.fresh (Nat.le_refl _))
def iRng3 (ta : TA) : TI := fun σ H R => ta σ H fun vs H1 => ∃ i j : Int, vs = [.int i, .int j, .int (-1)] ∧ (-(2 ^ 62) ≤ i ∧ i < 2 ^ 62 ∧ -(2 ^ 62) ≤ j ∧ j < 2 ^ 62) ∧ R (Itd i (i - j).toNat) H1
theorem rd_rng3 {ts : TA} {σ : L2.St} {H : Hp} {R : It → Hp → Prop} (h : ts σ H fun vs H1 => ∃ i j : Int, vs = [.int i, .int j, .int (-1)] ∧ (-(2 ^ 62) ≤ i ∧ i < 2 ^ 62 ∧ -(2 ^ 62) ≤ j ∧ j < 2 ^ 62) ∧ R (Itd i (i - j).toNat) H1) : iRng3 ts σ H R := h
theorem pi_range3 {a b c : Expr} {ta : TA} {p pos : Pos} (hg : Gl X "range") (hm : X.mg "range" = none) (ha : PA X [a, b, c] ta) (hs : starEach [a, b, c] X.env = [(false, eval a X.env), (false, eval b X.env), (false, eval c X.env)] := by rfl) (hs2 : starEach [b, c] X.env = [(false, eval b X.env), (false, eval c X.env)] := by rfl) :
    PI X tg (.Call (.Name "range" p) [a, b, c] [] pos) (iRng3 ta) := by
  intro pins s σ H R I h
  refine Call_ (ld_blt I hg hm boot_range (PyProof.Rows.callWith_type1 (thn (ha pos pins s σ H _ I h) fun us s1 ⟨vs, H1, I1, r1, q1⟩ => ?_) (by rw [hs, hs2]) (by rw [hs2]; rfl)))
  obtain ⟨i, j, e, ⟨q1, q2, q3, q4⟩, q⟩ := q1
  subst e
  cases r1 with
  | cons r rr =>
    cases rr with
    | cons r' rr =>
      cases rr with
      | cons r'' rr =>
        cases rr
        obtain ⟨t, rfl⟩ := r
        obtain ⟨t', rfl⟩ := r'
        obtain ⟨t'', rfl⟩ := r''
        refine call_range_3 (by decide) (range_itD I1 q1 q2 q3 q4 q) (.inl ?_)
        unfold Builtin.divisionGoesByPylong
        have e1 : decide ((if ((-1 : Int) == 0) = true then 0 else (-1 : Int).natAbs.log2 / 30 + 1) > 300) = false := by decide
        simp only [e1, Bool.false_and]
theorem forD_by {lo : Int} {n : Nat} {g : TG} {tb : TS} {D : Ends} {σ : St} {H : Hp} (Pv : Nat → St → Hp → Prop) (h0 : Pv 0 σ H)
    (hs : ∀ i σ H, i < n → Pv i σ H → g (.int (lo - i)) σ H fun σ2 H2 => tb { D with nx := Pv (i + 1), ct := Pv (i + 1), bk := D.nx } σ2 H2) (hd : ∀ σ H, Pv n σ H → D.nx σ H) :
    ForJ (Itd lo n) g tb D σ H := by
  refine ⟨fun i m σ H => m = n - i ∧ i ≤ n ∧ Pv i σ H, ⟨n, by simp, Nat.zero_le _, h0⟩, ?_⟩
  rintro i m σ H ⟨rfl, hi, p⟩
  by_cases hlt : i < n
  · refine .inr ⟨hlt, Pv (i + 1), fun σ' H' p' => ⟨n - (i + 1), by omega, rfl, hlt, p'⟩, fun x H' y => ?_⟩
    obtain ⟨e, y⟩ := y
    subst e y
    exact hs i σ _ hlt p
  · have e : i = n := by omega
    subst e
    exact .inl ⟨Nat.le_refl _, hd σ H p⟩
end
/-! ### enumerate of a list -/
def Itel (K : PySem.W.Frag) (a : Addr) : It where
  go := fun i H => ∃ xs x, SqL K H a xs ∧ xs[i]? = some x
  yld := fun i H v H' => ∃ p x, v = .ref p ∧ H p = none ∧ H' = upd H p (.tup [.int i, x]) ∧ ∀ xs, SqL K H a xs → xs[i]? = some x
  stop := fun i H => ∃ xs, SqL K H a xs ∧ xs.length ≤ i
theorem turn_enumL {P : Program} {w : World} {K : PySem.W.Frag} {elts : List Expr} {kk : Nat} {pos : Pos} {e it t : Addr} (hei : e ≠ it) : Turn P w K (.Tuple elts kk pos) (Itel K t) [e, it] e (fun i h => (∃ old, IsEnum h e it (i : Nat) old) ∧ h.IsListIter it t i) where
  mem := by simp
  obj := fun i h st b hb => by
    simp only [List.mem_cons, List.not_mem_nil, or_false] at hb
    rcases hb with rfl | rfl
    · obtain ⟨⟨_, e⟩, _⟩ := st; exact ⟨_, e, fun v z => by cases z⟩
    · obtain ⟨_, ⟨o, e, _, d⟩⟩ := st; exact ⟨o, e, fun v z => by rw [d] at z; cases z⟩
  keep := fun i h h' st k => ⟨let ⟨o, e'⟩ := st.1; ⟨o, k e (by simp) _ e'⟩, let ⟨o, e', p⟩ := st.2; ⟨o, k it (by simp) _ e', p⟩⟩
  item := by
    intro X hP hw hK hc i pins s σ H E I hf st hg
    subst hP hw hK
    obtain ⟨xs, x, hx, gx⟩ := hg
    obtain ⟨its, rx, tx, _⟩ := I.list hx
    obtain ⟨u, gu, ru⟩ := vals_get rx gx
    obtain ⟨⟨old, hz⟩, hi⟩ := st
    refine wpAny_pyNext_enum_item hz hi tx.isList (by simpa using gu) hei fun h' zo j np _ k => ?_
    refine ⟨_, rfl, ?_⟩
    refine wpAny_letOwnedTupleGo_enum zo fun h2 z2 b2 => ?_
    have le : e < s.heap.objs.size := Heap.lt_size hz
    have li : it < s.heap.objs.size := let ⟨_, e', _⟩ := hi; Heap.lt_size e'
    have lt : ∀ b ∈ [e, it], b < s.heap.objs.size := fun b hb => by
      simp only [List.mem_cons, List.not_mem_nil, or_false] at hb
      rcases hb with rfl | rfl
      · exact le
      · exact li
    have nz : s.heap.objs.size ≠ e := fun z => Nat.lt_irrefl _ (by have := le; rw [← z] at this; exact this)
    have kk' : ∀ b o, b ∉ [e, it] → s.heap.get? b = some o → h2.get? b = some o := fun b o hb e' => by
      have hz' : b ≠ e := fun q => hb (by simp [q])
      rw [b2.2 b hz']
      exact k b o hz' (fun q => hb (by simp [q])) e'
    have np2 : h2.get? s.heap.objs.size = some { cls := .type "tuple", data := .seq #[.int i s.toks, u] } := (b2.2 _ nz).trans np
    have hfr := I.hok.fresh (Nat.le_refl s.heap.objs.size)
    refine ⟨.ref s.heap.objs.size, upd H s.heap.objs.size (.tup [.int i, x]), I.turnLaid (t' := s.toks + 1) hf kk' (Nat.le_refl _) ⟨by show 2 ≤ sizeLine; decide, [.int i s.toks, u], .cons ⟨_, rfl⟩ (.cons ru .nil), ⟨_, np2, rfl, _, rfl⟩⟩, rfl, ⟨_, x, rfl, hfr, rfl, fun xs' h' => by rw [I.list_inj h' hx]; exact gx⟩, ⟨⟨_, z2⟩, let ⟨o, e', p⟩ := j; ⟨o, (b2.2 _ (Ne.symm hei)).trans e', p⟩⟩, fun b hb => ?_⟩
    rw [upd_ne (Nat.ne_of_lt (lt b hb))]
    exact (hf b hb).1
  done := by
    intro X hP hw hK hc i pins s σ H E I hf st hg
    subst hP hw hK
    obtain ⟨xs, hx, hl⟩ := hg
    obtain ⟨its, rx, tx, _⟩ := I.list hx
    have el := rx.length
    obtain ⟨⟨old, hz⟩, hi⟩ := st
    refine wpAny_pyNext_enum_end (I.ok.hd hc) hz hi tx.isList (by simp; omega) fun h' k => ⟨rfl, I.turnedN (t' := s.toks) hf fun b o hb e' => k b o (fun z => hb (by simp [z])) e'⟩
  self := fun A i s Q E st h => let ⟨_, e'⟩ := st.1; wpAny_pyIter_enum e' h
def iEnumL (K : PySem.W.Frag) (t1 : TE) : TI := fun σ H R => t1 σ H fun x H1 => ∃ a, x = .ref a ∧ (∃ xs, SqL K H1 a xs) ∧ R (Itel K a) H1
theorem rd_ienumL {K : PySem.W.Frag} {t1 : TE} {σ : L2.St} {H : Hp} {R : It → Hp → Prop} (h : t1 σ H fun x H1 => ∃ a, x = .ref a ∧ (∃ xs, SqL K H1 a xs) ∧ R (Itel K a) H1) : iEnumL K t1 σ H R := h
theorem pi_enumL {X : Cx} (K : PySem.W.Frag) (hK : X.K = K) {e1 : Expr} {t1 : TE} {elts : List Expr} {kk : Nat} {tp p1 p2 : Pos} (hg : Gl X "enumerate") (hm : X.mg "enumerate" = none) (h1 : PE X e1 t1)
    (hs1 : starEach [e1] X.env = (false, eval e1 X.env) :: starEach [] X.env := by rfl) : PI X (.Tuple elts kk tp) (.Call (.Name "enumerate" p1) [e1] [] p2) (iEnumL K t1) := by
  subst hK
  intro pins s σ H R I h
  refine wpAny_Call_Name_kw (ld_blt I hg hm boot_enumerate ?_ (by decide) (by decide))
  refine PyProof.Rows.callWith_type1 ?_ hs1 rfl
  rw [hs1]
  show wpAny _ _ (spliced ((false, eval e1 X.env) :: backTo p2 (starEach [] X.env))) _ _ s
  refine Calls.spliced_cons (thn (h1 pins s σ H _ I h) fun u1 s1 ⟨x, H1, I1, r1, a, ex, ⟨xs, hx⟩, q⟩ => Calls.spliced_nil ?_)
  subst ex
  cases r1
  obtain ⟨its, rx, tx, _⟩ := I1.list hx
  have l1 : a < s1.heap.objs.size := let ⟨_, e, _⟩ := tx.isList; Heap.lt_size e
  refine call_enumerate_list tx.isList fun h' ze hi _ k => ?_
  refine wpAny_pyIter_enum ze ?_
  have d1 : s1.heap.objs.size + 1 ≠ s1.heap.objs.size := Nat.succ_ne_self _
  refine ⟨_, _, _, _, H1, rfl, I1.kept (t' := s1.toks) k, turn_enumL d1, ⟨⟨_, ze⟩, hi⟩, fun c hc => ?_, q⟩
  have hle : s1.heap.objs.size ≤ c := by
    simp only [List.mem_cons, List.not_mem_nil, or_false] at hc
    rcases hc with rfl | rfl
    · exact Nat.le_add_right _ _
    · exact Nat.le_refl _
  exact I1.fpOk hle (I1.hok.fresh hle)
theorem forEL_by {K : PySem.W.Frag} {a : Addr} {xs : List V} {i j : Nat} {tb : TS} {D : Ends} {σ : L2.St} {H : Hp} (Pv : Nat → L2.St → Hp → Prop) (h0 : Pv 0 σ H) (hl : ∀ k σ H, k ≤ xs.length → Pv k σ H → SqL K H a xs)
    (hs : ∀ (k : Nat) x σ H H', xs[k]? = some x → Pv k σ H → Same H H' → tb { D with nx := Pv (k + 1), ct := Pv (k + 1), bk := D.nx } ((σ.set i (some (.int k))).set j (some x)) H') (hd : ∀ σ H, Pv xs.length σ H → D.nx σ H) :
    ForJ (Itel K a) (gTup K 2 (gCons (gName i) (gCons (gName j) gNil))) tb D σ H := by
  refine ⟨fun k m σ H => m = xs.length - k ∧ k ≤ xs.length ∧ Pv k σ H, ⟨xs.length, by simp, Nat.zero_le _, h0⟩, ?_⟩
  rintro k m σ H ⟨rfl, hi, p⟩
  have q := hl k σ H hi p
  by_cases hlt : k < xs.length
  · refine .inr ⟨⟨xs, xs[k], q, by simp [hlt]⟩, Pv (k + 1), fun σ' H' p' => ⟨xs.length - (k + 1), by omega, rfl, hlt, p'⟩, fun x H' y => ?_⟩
    obtain ⟨pa, x0, rfl, hp, rfl, hx⟩ := y
    exact ⟨pa, _, rfl, SqT.of upd_same, rfl, _, _, rfl, _, _, rfl, rfl, hs k x0 σ H _ (hx xs q) p (same_new hp _)⟩
  · have e : k = xs.length := by omega
    subst e
    exact .inl ⟨⟨xs, q, Nat.le_refl _⟩, hd _ _ p⟩
/-! ### a comprehension within another -/
theorem LcScope.rel {so : Scope} {env : Env} {N : List Str} {sc : Scope} {N' : List Str} {ix : List (Option Nat)} (S : LcScope so N sc N' ix) : LcScope (relabel so env) N sc N' ix := by
  refine ⟨S.kind, S.nc, S.loc, fun y hy hk => ?_, S.nd, S.len, S.map⟩
  unfold relabel
  dsimp only
  rw [lookup_relabel]
  rcases S.fr y hy hk with h | h
  · rw [h]; left; rfl
  · rw [h]
    by_cases c : (env.scope.kind == .function && env.kindOf y.1 == some .cell) = true
    · left; simp [c]; simpa using c
    · right; simp at c ⊢; exact c
end L2

set_option Elab.async false
set_option linter.all false
set_option maxRecDepth 100000
namespace My
open PySem PySem.Spec PyProof.Rows L2
/-! ### nodes by their numbers -/
def en : Tr → Nat → Nat → Ent
  | .leaf x, _, _ => .word x
  | .node l r, o, j => if j < l.size then en l o j else if j < l.size + r.size then en r (o + l.size) (j - l.size) else .pair (o + l.size - 1) (o + l.size + r.size - 1)
/-- a house and those above it -/
def up : Tr → Nat → Nat → List Nat → List Nat
  | .leaf _, o, _, ab => o :: ab
  | .node l r, o, j, ab => if j < l.size then up l o j ((o + l.size + r.size) :: ab) else if j < l.size + r.size then up r (o + l.size) (j - l.size) ((o + l.size + r.size) :: ab) else (o + l.size + r.size) :: ab
/-- the one ahead -/
def ahd : Tr → Nat → Nat → V → V
  | .leaf _, _, _, p => p
  | .node l r, o, j, p => if j < l.size then ahd l o j (.int (o + l.size + r.size : Nat)) else if j < l.size + r.size then ahd r (o + l.size) (j - l.size) (.int (o + l.size + r.size : Nat)) else p
/-- the leaves under a house -/
def be : Tr → Nat → Nat → List Nat
  | .leaf _, o, _ => [o]
  | .node l r, o, j => if j < l.size then be l o j else if j < l.size + r.size then be r (o + l.size) (j - l.size) else be l o (l.size - 1) ++ be r (o + l.size) (r.size - 1)
theorem nd_en : ∀ (t : Tr) (o j : Nat), j < t.size → (t.nd o)[j]? = some (en t o j)
  | .leaf x, o, j, h => by
    have : j = 0 := by have : j < 1 := h; omega
    subst this; rfl
  | .node l r, o, j, h => by
    have es : (Tr.node l r).size = l.size + r.size + 1 := rfl
    have hn : (Tr.node l r).nd o = l.nd o ++ r.nd (o + l.size) ++ [.pair (o + l.size - 1) (o + l.size + r.size - 1)] := rfl
    have ln := l.nd_len o
    have rn := r.nd_len (o + l.size)
    unfold en
    by_cases c1 : j < l.size
    · rw [if_pos c1, hn, List.append_assoc, List.getElem?_append_left (by omega)]; exact nd_en l o j c1
    · rw [if_neg c1]
      by_cases c2 : j < l.size + r.size
      · rw [if_pos c2, hn, List.append_assoc, List.getElem?_append_right (by omega), List.getElem?_append_left (by omega), ln]
        exact nd_en r _ _ (by omega)
      · rw [if_neg c2, hn, List.getElem?_append_right (by rw [List.length_append]; omega), List.length_append, ln, rn]
        have : j - (l.size + r.size) = 0 := by omega
        rw [this]; rfl
theorem up_last : ∀ (t : Tr) (o : Nat) (ab : List Nat), up t o (t.size - 1) ab = (o + t.size - 1) :: ab
  | .leaf _, o, ab => rfl
  | .node l r, o, ab => by
    have es : (Tr.node l r).size = l.size + r.size + 1 := rfl
    unfold up
    rw [if_neg (by omega), if_neg (by omega), es]
    congr 1; omega
theorem up_ab : ∀ (t : Tr) (o j : Nat) (ab : List Nat), ∀ x ∈ ab, x ∈ up t o j ab
  | .leaf _, o, j, ab, x, h => List.mem_cons_of_mem _ h
  | .node l r, o, j, ab, x, h => by
    unfold up
    split
    · exact up_ab l _ _ _ _ (List.mem_cons_of_mem _ h)
    · split
      · exact up_ab r _ _ _ _ (List.mem_cons_of_mem _ h)
      · exact List.mem_cons_of_mem _ h
theorem up_in : ∀ (t : Tr) (o j : Nat) (ab : List Nat), ∀ x ∈ up t o j ab, (o ≤ x ∧ x < o + t.size) ∨ x ∈ ab
  | .leaf _, o, j, ab, x, h => by
    have es : (Tr.leaf ‹_›).size = 1 := rfl
    rcases List.mem_cons.mp h with z | z
    · left; omega
    · exact .inr z
  | .node l r, o, j, ab, x, h => by
    have es : (Tr.node l r).size = l.size + r.size + 1 := rfl
    unfold up at h
    split at h
    · rcases up_in l _ _ _ _ h with z | z
      · left; omega
      · rcases List.mem_cons.mp z with z | z
        · left; omega
        · exact .inr z
    · split at h
      · rcases up_in r _ _ _ _ h with z | z
        · left; omega
        · rcases List.mem_cons.mp z with z | z
          · left; omega
          · exact .inr z
      · rcases List.mem_cons.mp h with z | z
        · left; omega
        · exact .inr z
theorem up_root (t : Tr) (o j : Nat) (ab : List Nat) : (o + t.size - 1) ∈ up t o j ab := by
  cases t with
  | leaf _ => exact List.mem_cons_self ..
  | node l r =>
    have es : (Tr.node l r).size = l.size + r.size + 1 := rfl
    have e : o + (Tr.node l r).size - 1 = o + l.size + r.size := by omega
    rw [e]
    unfold up
    split
    · exact up_ab l _ _ _ _ (List.mem_cons_self ..)
    · split
      · exact up_ab r _ _ _ _ (List.mem_cons_self ..)
      · exact List.mem_cons_self ..
theorem be_in : ∀ (t : Tr) (o j : Nat), ∀ x ∈ be t o j, o ≤ x ∧ x < o + t.size
  | .leaf _, o, j, x, h => by
    have es : (Tr.leaf ‹_›).size = 1 := rfl
    have := List.mem_singleton.mp h
    omega
  | .node l r, o, j, x, h => by
    have es : (Tr.node l r).size = l.size + r.size + 1 := rfl
    unfold be at h
    split at h
    · have := be_in l _ _ _ h; omega
    · split at h
      · have := be_in r _ _ _ h; omega
      · rcases List.mem_append.mp h with z | z
        · have := be_in l _ _ _ z; omega
        · have := be_in r _ _ _ z; omega
theorem be_ne : ∀ (t : Tr) (o j : Nat), ∃ x, x ∈ be t o j
  | .leaf _, o, j => ⟨o, List.mem_cons_self ..⟩
  | .node l r, o, j => by
    unfold be
    split
    · exact be_ne l _ _
    · split
      · exact be_ne r _ _
      · obtain ⟨x, h⟩ := be_ne l o (l.size - 1)
        exact ⟨x, List.mem_append_left _ h⟩
theorem be_root : ∀ (t : Tr) (o j : Nat), j < t.size → ∀ x ∈ be t o j, x ∈ be t o (t.size - 1)
  | .leaf _, o, j, _, x, h => h
  | .node l r, o, j, hj, x, h => by
    have es : (Tr.node l r).size = l.size + r.size + 1 := rfl
    have ez : be (.node l r) o ((Tr.node l r).size - 1) = be l o (l.size - 1) ++ be r (o + l.size) (r.size - 1) := by
      rw [be, if_neg (by omega), if_neg (by omega)]
    rw [ez]
    unfold be at h
    split at h
    · exact List.mem_append_left _ (be_root l _ _ ‹_› _ h)
    · split at h
      · exact List.mem_append_right _ (be_root r _ _ (by omega) _ h)
      · exact h
/-- neither above nor under just where no leaf is in both -/
theorem apart : ∀ (t : Tr) (o : Nat) (ab : List Nat), (∀ x ∈ ab, o + t.size ≤ x) → ∀ i j, i < t.size → j < t.size → (((o + j) ∉ up t o i ab ∧ (o + i) ∉ up t o j ab) ↔ ¬ ∃ x ∈ be t o j, x ∈ be t o i)
  | .leaf x, o, ab, hab, i, j, hi, hj => by
    have : i = 0 := by have : i < 1 := hi; omega
    subst this
    have : j = 0 := by have : j < 1 := hj; omega
    subst this
    constructor
    · intro h; exact absurd (List.mem_cons_self ..) h.1
    · intro h; exact absurd ⟨o, List.mem_cons_self .., List.mem_cons_self ..⟩ h
  | .node l r, o, ab, hab, i, j, hi, hj => by
    have es : (Tr.node l r).size = l.size + r.size + 1 := rfl
    have lp := l.size_pos
    have rp := r.size_pos
    have ab' : ∀ x ∈ ((o + l.size + r.size) :: ab), o + l.size + r.size ≤ x := fun x hx => by
      rcases List.mem_cons.mp hx with z | z
      · omega
      · have := hab x z; omega
    have rootI : i = l.size + r.size → (((o + j) ∉ up (.node l r) o i ab ∧ (o + i) ∉ up (.node l r) o j ab) ↔ ¬ ∃ x ∈ be (.node l r) o j, x ∈ be (.node l r) o i) := fun ei => by
      have e1 : o + (Tr.node l r).size - 1 = o + i := by omega
      have e2 : i = (Tr.node l r).size - 1 := by omega
      have h1 := up_root (.node l r) o j ab
      rw [e1] at h1
      obtain ⟨x, hx⟩ := be_ne (.node l r) o j
      have h2 := be_root (.node l r) o j hj x hx
      rw [← e2] at h2
      exact ⟨fun h => absurd h1 h.2, fun h => absurd ⟨x, hx, h2⟩ h⟩
    have rootJ : j = l.size + r.size → (((o + j) ∉ up (.node l r) o i ab ∧ (o + i) ∉ up (.node l r) o j ab) ↔ ¬ ∃ x ∈ be (.node l r) o j, x ∈ be (.node l r) o i) := fun ei => by
      have e1 : o + (Tr.node l r).size - 1 = o + j := by omega
      have e2 : j = (Tr.node l r).size - 1 := by omega
      have h1 := up_root (.node l r) o i ab
      rw [e1] at h1
      obtain ⟨x, hx⟩ := be_ne (.node l r) o i
      have h2 := be_root (.node l r) o i hi x hx
      rw [← e2] at h2
      exact ⟨fun h => absurd h1 h.1, fun h => absurd ⟨x, h2, hx⟩ h⟩
    by_cases ci : i = l.size + r.size
    · exact rootI ci
    by_cases cj : j = l.size + r.size
    · exact rootJ cj
    have uL : ∀ k, k < l.size → up (.node l r) o k ab = up l o k ((o + l.size + r.size) :: ab) := fun k hk => by rw [up, if_pos hk]
    have uR : ∀ k, ¬ k < l.size → k < l.size + r.size → up (.node l r) o k ab = up r (o + l.size) (k - l.size) ((o + l.size + r.size) :: ab) := fun k h1 h2 => by rw [up, if_neg h1, if_pos h2]
    have bL : ∀ k, k < l.size → be (.node l r) o k = be l o k := fun k hk => by rw [be, if_pos hk]
    have bR : ∀ k, ¬ k < l.size → k < l.size + r.size → be (.node l r) o k = be r (o + l.size) (k - l.size) := fun k h1 h2 => by rw [be, if_neg h1, if_pos h2]
    by_cases i1 : i < l.size
    · rw [uL i i1, bL i i1]
      by_cases j1 : j < l.size
      · rw [uL j j1, bL j j1]
        exact apart l o _ (fun x hx => by have := ab' x hx; omega) i j i1 j1
      · rw [uR j j1 (by omega), bR j j1 (by omega)]
        refine ⟨fun _ ⟨x, h1, h2⟩ => ?_, fun _ => ⟨fun z => ?_, fun z => ?_⟩⟩
        · have := be_in r _ _ _ h1; have := be_in l _ _ _ h2; omega
        · rcases up_in l _ _ _ _ z with z | z
          · omega
          · have := ab' _ z; omega
        · rcases up_in r _ _ _ _ z with z | z
          · omega
          · have := ab' _ z; omega
    · rw [uR i i1 (by omega), bR i i1 (by omega)]
      by_cases j1 : j < l.size
      · rw [uL j j1, bL j j1]
        refine ⟨fun _ ⟨x, h1, h2⟩ => ?_, fun _ => ⟨fun z => ?_, fun z => ?_⟩⟩
        · have := be_in l _ _ _ h1; have := be_in r _ _ _ h2; omega
        · rcases up_in r _ _ _ _ z with z | z
          · omega
          · have := ab' _ z; omega
        · rcases up_in l _ _ _ _ z with z | z
          · omega
          · have := ab' _ z; omega
      · rw [uR j j1 (by omega), bR j j1 (by omega)]
        have h := apart r (o + l.size) ((o + l.size + r.size) :: ab) (fun x hx => by have := ab' x hx; omega) (i - l.size) (j - l.size) (by omega) (by omega)
        have e1 : o + l.size + (j - l.size) = o + j := by omega
        have e2 : o + l.size + (i - l.size) = o + i := by omega
        rw [e1, e2] at h
        exact h
/-- the leaves under a house, by those under its halves -/
theorem be_en : ∀ (t : Tr) (o j : Nat), j < t.size → (∃ x, en t o j = .word x ∧ be t o j = [o + j]) ∨ ∃ a b, en t o j = .pair (o + a) (o + b) ∧ a < j ∧ b < j ∧ be t o j = be t o a ++ be t o b
  | .leaf x, o, j, h => by
    have : j = 0 := by have : j < 1 := h; omega
    subst this
    exact .inl ⟨x, rfl, rfl⟩
  | .node l r, o, j, h => by
    have es : (Tr.node l r).size = l.size + r.size + 1 := rfl
    have lp := l.size_pos
    have rp := r.size_pos
    by_cases c1 : j < l.size
    · have e1 : en (.node l r) o j = en l o j := by rw [en, if_pos c1]
      have e2 : ∀ k, k < l.size → be (.node l r) o k = be l o k := fun k hk => by rw [be, if_pos hk]
      rw [e1]
      rcases be_en l o j c1 with ⟨x, q1, q2⟩ | ⟨a, b, q1, q2, q3, q4⟩
      · exact .inl ⟨x, q1, by rw [e2 j c1]; exact q2⟩
      · exact .inr ⟨a, b, q1, q2, q3, by rw [e2 j c1, e2 a (by omega), e2 b (by omega)]; exact q4⟩
    · by_cases c2 : j < l.size + r.size
      · have e1 : en (.node l r) o j = en r (o + l.size) (j - l.size) := by rw [en, if_neg c1, if_pos c2]
        have e2 : ∀ k, k < r.size → be (.node l r) o (l.size + k) = be r (o + l.size) k := fun k hk => by
          rw [be, if_neg (by omega), if_pos (by omega)]; congr 1; omega
        have ej : j = l.size + (j - l.size) := by omega
        rw [e1]
        rcases be_en r (o + l.size) (j - l.size) (by omega) with ⟨x, q1, q2⟩ | ⟨a, b, q1, q2, q3, q4⟩
        · refine .inl ⟨x, q1, ?_⟩
          rw [ej, e2 _ (by omega), q2]
          congr 1; omega
        · refine .inr ⟨l.size + a, l.size + b, ?_, by omega, by omega, ?_⟩
          · rw [q1, Nat.add_assoc, Nat.add_assoc]
          · rw [e2 a (by omega), e2 b (by omega), ej, e2 _ (by omega), q4]
      · have ej : j = l.size + r.size := by omega
        refine .inr ⟨l.size - 1, l.size + r.size - 1, ?_, by omega, by omega, ?_⟩
        · rw [en, if_neg c1, if_neg c2]
          congr 1 <;> omega
        · rw [be, if_neg c1, if_neg c2, be, if_pos (by omega), be, if_neg (by omega), if_pos (by omega)]
          congr 2; omega
/-- a house and those above it, by those above the one ahead -/
theorem up_ahd : ∀ (t : Tr) (o j : Nat) (p : V) (ab : List Nat), j < t.size → (j = t.size - 1 ∧ ahd t o j p = p ∧ up t o j ab = (o + j) :: ab) ∨ ∃ a, j < a ∧ a < t.size ∧ ahd t o j p = .int (o + a : Nat) ∧ up t o j ab = (o + j) :: up t o a ab
  | .leaf x, o, j, p, ab, h => by
    have : j = 0 := by have : j < 1 := h; omega
    subst this
    exact .inl ⟨rfl, rfl, rfl⟩
  | .node l r, o, j, p, ab, h => by
    have es : (Tr.node l r).size = l.size + r.size + 1 := rfl
    have lp := l.size_pos
    have rp := r.size_pos
    have er : up (.node l r) o (l.size + r.size) ab = (o + l.size + r.size) :: ab := by rw [up, if_neg (by omega), if_neg (by omega)]
    by_cases c1 : j < l.size
    · have e1 : ahd (.node l r) o j p = ahd l o j (.int (o + l.size + r.size : Nat)) := by rw [ahd, if_pos c1]
      have e2 : ∀ k, k < l.size → up (.node l r) o k ab = up l o k ((o + l.size + r.size) :: ab) := fun k hk => by rw [up, if_pos hk]
      rw [e1, e2 j c1]
      rcases up_ahd l o j (.int (o + l.size + r.size : Nat)) ((o + l.size + r.size) :: ab) c1 with ⟨q1, q2, q3⟩ | ⟨a, q1, q2, q3, q4⟩
      · refine .inr ⟨l.size + r.size, by omega, by omega, by rw [q2, Nat.add_assoc], by rw [q3, er]⟩
      · exact .inr ⟨a, q1, by omega, q3, by rw [q4, e2 a q2]⟩
    · by_cases c2 : j < l.size + r.size
      · have e1 : ahd (.node l r) o j p = ahd r (o + l.size) (j - l.size) (.int (o + l.size + r.size : Nat)) := by rw [ahd, if_neg c1, if_pos c2]
        have e2 : ∀ k, k < r.size → up (.node l r) o (l.size + k) ab = up r (o + l.size) k ((o + l.size + r.size) :: ab) := fun k hk => by
          rw [up, if_neg (by omega), if_pos (by omega)]; congr 1; omega
        obtain ⟨i, rfl⟩ : ∃ i, j = l.size + i := ⟨j - l.size, by omega⟩
        have ei : l.size + i - l.size = i := by omega
        rw [e1, e2 i (by omega), ei]
        rcases up_ahd r (o + l.size) i (.int (o + l.size + r.size : Nat)) ((o + l.size + r.size) :: ab) (by omega) with ⟨q1, q2, q3⟩ | ⟨a, q1, q2, q3, q4⟩
        · refine .inr ⟨l.size + r.size, by omega, by omega, by rw [q2, Nat.add_assoc], by rw [q3, er, Nat.add_assoc]⟩
        · exact .inr ⟨l.size + a, by omega, by omega, by rw [q3, Nat.add_assoc], by rw [q4, e2 a q2, Nat.add_assoc]⟩
      · have ej : j = l.size + r.size := by omega
        refine .inl ⟨by omega, by rw [ahd, if_neg c1, if_neg c2], ?_⟩
        rw [ej, er, Nat.add_assoc]
/-! ### the ones ahead, by the tree -/
def ahs : Tr → Nat → V → List V
  | .leaf _, _, p => [p]
  | .node l r, o, p => ahs l o (.int (o + l.size + r.size : Nat)) ++ ahs r (o + l.size) (.int (o + l.size + r.size : Nat)) ++ [p]
theorem ahs_len : ∀ (t : Tr) (o : Nat) (p : V), (ahs t o p).length = t.size
  | .leaf _, _, _ => rfl
  | .node l r, o, p => by
    unfold ahs
    rw [List.length_append, List.length_append, ahs_len l, ahs_len r]; rfl
theorem ahs_set (t : Tr) (o : Nat) (p q : V) (A B : List V) : (A ++ ahs t o p ++ B).set (A.length + t.size - 1) q = A ++ ahs t o q ++ B := by
  have key : ∃ I, ahs t o p = I ++ [p] ∧ ahs t o q = I ++ [q] := by
    cases t with
    | leaf _ => exact ⟨[], rfl, rfl⟩
    | node l r => exact ⟨_, rfl, rfl⟩
  obtain ⟨I, e1, e2⟩ := key
  have h1 := ahs_len t o p
  rw [e1, List.length_append] at h1
  have h1' : I.length + 1 = t.size := h1
  rw [e1, e2]
  have ei : A.length + t.size - 1 = (A ++ I).length := by rw [List.length_append]; omega
  rw [ei, show A ++ (I ++ [p]) ++ B = (A ++ I) ++ p :: B by simp, List.set_append_right _ _ (Nat.le_refl _), Nat.sub_self]
  simp
theorem ah_app : ∀ (es fs : List Ent) (i : Nat) (l : List V), ah (es ++ fs) i l = ah fs (i + es.length) (ah es i l)
  | [], fs, i, l => rfl
  | e :: es, fs, i, l => by
    show ah (es ++ fs) (i + 1) (ahS l i e) = ah fs (i + (es.length + 1)) (ah es (i + 1) (ahS l i e))
    rw [ah_app es fs]
    congr 1
    omega
theorem ah_ahs : ∀ (t : Tr) (A B : List V), ah (t.nd A.length) A.length (A ++ List.replicate t.size .non ++ B) = A ++ ahs t A.length .non ++ B
  | .leaf x, A, B => rfl
  | .node l r, A, B => by
    have es : (Tr.node l r).size = l.size + r.size + 1 := rfl
    have lp := l.size_pos
    have rp := r.size_pos
    have hn : (Tr.node l r).nd A.length = l.nd A.length ++ r.nd (A.length + l.size) ++ [.pair (A.length + l.size - 1) (A.length + l.size + r.size - 1)] := rfl
    have ln := l.nd_len A.length
    have rn := r.nd_len (A.length + l.size)
    have h1 := ah_ahs l A (List.replicate r.size .non ++ ([V.non] ++ B))
    have e0 : A ++ List.replicate (Tr.node l r).size V.non ++ B = A ++ List.replicate l.size .non ++ (List.replicate r.size .non ++ ([V.non] ++ B)) := by
      rw [es, ← List.replicate_append_replicate, ← List.replicate_append_replicate]
      simp only [List.append_assoc]
      rfl
    rw [hn, ah_snoc, ah_app, e0, h1, ln]
    have la : (A ++ ahs l A.length V.non).length = A.length + l.size := by rw [List.length_append, ahs_len]
    have h2 := ah_ahs r (A ++ ahs l A.length V.non) ([V.non] ++ B)
    rw [la] at h2
    have e1 : A ++ ahs l A.length V.non ++ (List.replicate r.size V.non ++ ([V.non] ++ B)) = A ++ ahs l A.length V.non ++ List.replicate r.size V.non ++ ([V.non] ++ B) := by simp [List.append_assoc]
    rw [e1, h2, List.length_append, ln, rn]
    show ((_ : List V).set (A.length + l.size - 1) _).set (A.length + l.size + r.size - 1) _ = _
    have s1 := ahs_set l A.length .non (.int (A.length + (l.size + r.size) : Nat)) A (ahs r (A.length + l.size) V.non ++ ([V.non] ++ B))
    have e2 : A ++ ahs l A.length V.non ++ ahs r (A.length + l.size) V.non ++ ([V.non] ++ B) = A ++ ahs l A.length V.non ++ (ahs r (A.length + l.size) V.non ++ ([V.non] ++ B)) := by simp [List.append_assoc]
    rw [e2, s1]
    have lb : (A ++ ahs l A.length (V.int (A.length + (l.size + r.size) : Nat))).length = A.length + l.size := by rw [List.length_append, ahs_len]
    have s2 := ahs_set r (A.length + l.size) .non (.int (A.length + (l.size + r.size) : Nat)) (A ++ ahs l A.length (V.int (A.length + (l.size + r.size) : Nat))) ([V.non] ++ B)
    rw [lb] at s2
    have e3 : A ++ ahs l A.length (V.int (A.length + (l.size + r.size) : Nat)) ++ (ahs r (A.length + l.size) V.non ++ ([V.non] ++ B)) = A ++ ahs l A.length (V.int (A.length + (l.size + r.size) : Nat)) ++ ahs r (A.length + l.size) V.non ++ ([V.non] ++ B) := by simp [List.append_assoc]
    rw [e3, s2]
    have e4 : ahs (.node l r) A.length .non = ahs l A.length (.int (A.length + l.size + r.size : Nat)) ++ ahs r (A.length + l.size) (.int (A.length + l.size + r.size : Nat)) ++ [.non] := rfl
    rw [e4, Nat.add_assoc A.length l.size r.size]
    simp [List.append_assoc]
theorem ahs_get : ∀ (t : Tr) (o j : Nat) (p : V), j < t.size → (ahs t o p)[j]? = some (ahd t o j p)
  | .leaf x, o, j, p, h => by
    have : j = 0 := by have : j < 1 := h; omega
    subst this; rfl
  | .node l r, o, j, p, h => by
    have es : (Tr.node l r).size = l.size + r.size + 1 := rfl
    have ln := ahs_len l o (.int (o + l.size + r.size : Nat))
    have rn := ahs_len r (o + l.size) (.int (o + l.size + r.size : Nat))
    unfold ahs ahd
    by_cases c1 : j < l.size
    · rw [if_pos c1, List.append_assoc, List.getElem?_append_left (by omega)]; exact ahs_get l _ _ _ c1
    · rw [if_neg c1]
      by_cases c2 : j < l.size + r.size
      · rw [if_pos c2, List.append_assoc, List.getElem?_append_right (by omega), List.getElem?_append_left (by omega), ln]
        exact ahs_get r _ _ _ (by omega)
      · rw [if_neg c2, List.getElem?_append_right (by rw [List.length_append]; omega), List.length_append, ln, rn]
        have : j - (l.size + r.size) = 0 := by omega
        rw [this]; rfl
theorem ah_get (t : Tr) {j : Nat} (h : j < t.size) : (ah (t.nd 0) 0 (List.replicate t.size .non))[j]? = some (ahd t 0 j .non) := by
  have q := ah_ahs t [] []
  have e : ([] : List V) ++ List.replicate t.size .non ++ [] = List.replicate t.size .non := by simp
  have e2 : ([] : List V) ++ ahs t ([] : List V).length .non ++ [] = ahs t 0 .non := by simp
  rw [e, e2] at q
  have q' : ah (t.nd 0) 0 (List.replicate t.size .non) = ahs t 0 .non := q
  rw [q']
  exact ahs_get t 0 j .non h
end My

set_option Elab.async false
set_option linter.all false
set_option maxRecDepth 100000
namespace My
open PySem PySem.Spec PyProof.Rows L2
def top (i : Nat) : Stmt := PySem.Challenge.pw_treewithin_k09_grounds_without_dates.main.body.getD i (.Pass ⟨0, 0, 0, 0⟩)
abbrev s_parts_of : Stmt := top 1
abbrev N_parts_of : List Str := ["tree", "backward", "waiting", "part"]
abbrev P_parts_of : List Str := ["tree"]
theorem sc_parts_of : FnScope N_parts_of P_parts_of (defScope s_parts_of) := ⟨rfl, rfl, rfl, by decide +kernel, rfl, by decide +kernel, by decide +kernel⟩
abbrev s_nodes : Stmt := top 2
abbrev N_nodes : List Str := ["tree", "told", "loose", "part", "other", "one"]
abbrev P_nodes : List Str := ["tree"]
theorem sc_nodes : FnScope N_nodes P_nodes (defScope s_nodes) := ⟨rfl, rfl, rfl, by decide +kernel, rfl, by decide +kernel, by decide +kernel⟩
abbrev s_halves : Stmt := top 3
abbrev N_halves : List Str := ["node"]
abbrev P_halves : List Str := ["node"]
theorem sc_halves : FnScope N_halves P_halves (defScope s_halves) := ⟨rfl, rfl, rfl, by decide +kernel, rfl, by decide +kernel, by decide +kernel⟩
abbrev s_ahead_of : Stmt := top 4
abbrev N_ahead_of : List Str := ["tree", "told", "node", "ahead", "number", "half"]
abbrev P_ahead_of : List Str := ["tree"]
theorem sc_ahead_of : FnScope N_ahead_of P_ahead_of (defScope s_ahead_of) := ⟨rfl, rfl, rfl, by decide +kernel, rfl, by decide +kernel, by decide +kernel⟩
abbrev lsc_ahead_of_0 : Scope := { kind := .function, names := [(Str.ofString ".0", .local), (Str.ofString "node", .local)], isGenerator := false, isCoroutine := false, more := [] }
theorem lc_ahead_of_0 : LcScope (defScope s_ahead_of) N_ahead_of lsc_ahead_of_0 ["node"] [none] := ⟨rfl, by decide +kernel, by decide +kernel, by decide +kernel, by decide +kernel, rfl, by decide +kernel⟩
abbrev s_name_of : Stmt := top 6
abbrev N_name_of : List Str := ["houses", "house"]
abbrev P_name_of : List Str := ["houses", "house"]
theorem sc_name_of : FnScope N_name_of P_name_of (defScope s_name_of) := ⟨rfl, rfl, rfl, by decide +kernel, rfl, by decide +kernel, by decide +kernel⟩
abbrev s_lines_up : Stmt := top 7
abbrev N_lines_up : List Str := ["great", "ahead", "house", "lines", "above"]
abbrev P_lines_up : List Str := ["great"]
theorem sc_lines_up : FnScope N_lines_up P_lines_up (defScope s_lines_up) := ⟨rfl, rfl, rfl, by decide +kernel, rfl, by decide +kernel, by decide +kernel⟩
abbrev lsc_lines_up_0 : Scope := { kind := .function, names := [(Str.ofString ".0", .local), (Str.ofString "house", .local)], isGenerator := false, isCoroutine := false, more := [] }
theorem lc_lines_up_0 : LcScope (defScope s_lines_up) N_lines_up lsc_lines_up_0 ["house"] [none] := ⟨rfl, by decide +kernel, by decide +kernel, by decide +kernel, by decide +kernel, rfl, by decide +kernel⟩
abbrev s_apart_from : Stmt := top 8
abbrev N_apart_from : List Str := ["lines", "house"]
abbrev P_apart_from : List Str := ["lines", "house"]
theorem sc_apart_from : FnScope N_apart_from P_apart_from (defScope s_apart_from) := ⟨rfl, rfl, rfl, by decide +kernel, rfl, by decide +kernel, by decide +kernel⟩
abbrev lsc_apart_from_0 : Scope := { kind := .function, names := [(Str.ofString ".0", .local), (Str.ofString "far", .local), (Str.ofString "house", .free), (Str.ofString "lines", .free)], isGenerator := false, isCoroutine := false, more := [] }
theorem lc_apart_from_0 : LcScope (defScope s_apart_from) N_apart_from lsc_apart_from_0 ["far", "house", "lines"] [none, some 1, some 0] := ⟨rfl, by decide +kernel, by decide +kernel, by decide +kernel, by decide +kernel, rfl, by decide +kernel⟩
abbrev s_ground : Stmt := top 9
abbrev N_ground : List Str := ["great", "houses", "lines"]
abbrev P_ground : List Str := ["great"]
theorem sc_ground : FnScope N_ground P_ground (defScope s_ground) := ⟨rfl, rfl, rfl, by decide +kernel, rfl, by decide +kernel, by decide +kernel⟩
abbrev lsc_ground_0 : Scope := { kind := .function, names := [(Str.ofString ".0", .local), (Str.ofString "house", .local), (Str.ofString "name_of", .globalImplicit), (Str.ofString "halves", .globalImplicit), (Str.ofString "apart_from", .globalImplicit), (Str.ofString "houses", .free), (Str.ofString "lines", .free)], isGenerator := false, isCoroutine := false, more := [] }
theorem lc_ground_0 : LcScope (defScope s_ground) N_ground lsc_ground_0 ["house", "houses", "lines"] [none, some 1, some 2] := ⟨rfl, by decide +kernel, by decide +kernel, by decide +kernel, by decide +kernel, rfl, by decide +kernel⟩
abbrev s__law_pot : Stmt := top 11
abbrev N__law_pot : List Str := ["_law_script", "_law_k", "_law_cell", "_law_digits"]
abbrev P__law_pot : List Str := ["_law_script", "_law_k"]
theorem sc__law_pot : FnScope N__law_pot P__law_pot (defScope s__law_pot) := ⟨rfl, rfl, rfl, by decide +kernel, rfl, by decide +kernel, by decide +kernel⟩
abbrev s__law_take : Stmt := top 12
abbrev N__law_take : List Str := ["_law_pot_here", "_law_many", "_law_digit", "_law_mixed"]
abbrev P__law_take : List Str := ["_law_pot_here", "_law_many"]
theorem sc__law_take : FnScope N__law_take P__law_take (defScope s__law_take) := ⟨rfl, rfl, rfl, by decide +kernel, rfl, by decide +kernel, by decide +kernel⟩
abbrev s__law_words : Stmt := top 13
abbrev N__law_words : List Str := ["_law_pot_here", "_law_many", "_law_letters", "_law_first", "_law_turn", "_law_stem", "_law_ends", "_law_found", "_law_k", "_law_letter"]
abbrev P__law_words : List Str := ["_law_pot_here", "_law_many"]
theorem sc__law_words : FnScope N__law_words P__law_words (defScope s__law_words) := ⟨rfl, rfl, rfl, by decide +kernel, rfl, by decide +kernel, by decide +kernel⟩
abbrev s__law_tree : Stmt := top 14
abbrev N__law_tree : List Str := ["_law_pot_here", "_law_words_here", "_law_some", "_law_way", "_law_at", "_law_pair"]
abbrev P__law_tree : List Str := ["_law_pot_here", "_law_words_here"]
theorem sc__law_tree : FnScope N__law_tree P__law_tree (defScope s__law_tree) := ⟨rfl, rfl, rfl, by decide +kernel, rfl, by decide +kernel, by decide +kernel⟩
abbrev s__law_great : Stmt := top 15
abbrev N__law_great : List Str := ["_law_pot_here"]
abbrev P__law_great : List Str := ["_law_pot_here"]
theorem sc__law_great : FnScope N__law_great P__law_great (defScope s__law_great) := ⟨rfl, rfl, rfl, by decide +kernel, rfl, by decide +kernel, by decide +kernel⟩
abbrev s__law_nodes : Stmt := top 16
abbrev N__law_nodes : List Str := ["_law_tree_here", "_law_rows", "_law_many", "_law_row"]
abbrev P__law_nodes : List Str := ["_law_tree_here"]
theorem sc__law_nodes : FnScope N__law_nodes P__law_nodes (defScope s__law_nodes) := ⟨rfl, rfl, rfl, by decide +kernel, rfl, by decide +kernel, by decide +kernel⟩
abbrev s__law_below : Stmt := top 17
abbrev N__law_below : List Str := ["_law_rows", "_law_found", "_law_at", "_law_row"]
abbrev P__law_below : List Str := ["_law_rows"]
theorem sc__law_below : FnScope N__law_below P__law_below (defScope s__law_below) := ⟨rfl, rfl, rfl, by decide +kernel, rfl, by decide +kernel, by decide +kernel⟩
abbrev s__law_plain_ground : Stmt := top 18
abbrev N__law_plain_ground : List Str := ["_law_great_here", "_law_rows", "_law_below_here", "_law_stays", "_law_house", "_law_row", "_law_apart"]
abbrev P__law_plain_ground : List Str := ["_law_great_here"]
theorem sc__law_plain_ground : FnScope N__law_plain_ground P__law_plain_ground (defScope s__law_plain_ground) := ⟨rfl, rfl, rfl, by decide +kernel, rfl, by decide +kernel, by decide +kernel⟩
abbrev lsc__law_plain_ground_0 : Scope := { kind := .function, names := [(Str.ofString ".0", .local), (Str.ofString "_law_leaf", .local), (Str.ofString "_law_below_here", .free), (Str.ofString "_law_house", .free)], isGenerator := false, isCoroutine := false, more := [] }
abbrev lsc__law_plain_ground_1 : Scope := { kind := .function, names := [(Str.ofString ".0", .local), (Str.ofString "_law_other", .local), (Str.ofString "any", .globalImplicit), (Str.ofString "_law_below_here", .free), (Str.ofString "_law_house", .free)], isGenerator := false, isCoroutine := false, more := [] }
theorem lc__law_plain_ground_0 : LcScope lsc__law_plain_ground_1 ["_law_other", "_law_below_here", "_law_house"] lsc__law_plain_ground_0 ["_law_leaf", "_law_below_here", "_law_house"] [none, some 1, some 2] := ⟨rfl, by decide +kernel, by decide +kernel, by decide +kernel, by decide +kernel, rfl, by decide +kernel⟩
theorem lc__law_plain_ground_1 : LcScope (defScope s__law_plain_ground) N__law_plain_ground lsc__law_plain_ground_1 ["_law_other", "_law_below_here", "_law_house"] [none, some 2, some 4] := ⟨rfl, by decide +kernel, by decide +kernel, by decide +kernel, by decide +kernel, rfl, by decide +kernel⟩
abbrev s__law_same : Stmt := top 19
abbrev N__law_same : List Str := ["_law_found", "_law_due"]
abbrev P__law_same : List Str := ["_law_found", "_law_due"]
theorem sc__law_same : FnScope N__law_same P__law_same (defScope s__law_same) := ⟨rfl, rfl, rfl, by decide +kernel, rfl, by decide +kernel, by decide +kernel⟩
abbrev lsc__law_same_0 : Scope := { kind := .function, names := [(Str.ofString ".0", .local), (Str.ofString "_law_one", .local), (Str.ofString "_law_other", .local), (Str.ofString "_law_same", .globalImplicit)], isGenerator := false, isCoroutine := false, more := [] }
theorem lc__law_same_0 : LcScope (defScope s__law_same) N__law_same lsc__law_same_0 ["_law_one", "_law_other"] [none, none] := ⟨rfl, by decide +kernel, by decide +kernel, by decide +kernel, by decide +kernel, rfl, by decide +kernel⟩
abbrev s_law : Stmt := top 20
abbrev N_law : List Str := ["_law_script", "_law_k", "_law_pot_here", "_law_turn", "_law_great_here", "_law_due"]
abbrev P_law : List Str := ["_law_script"]
theorem sc_law : FnScope N_law P_law (defScope s_law) := ⟨rfl, rfl, rfl, by decide +kernel, rfl, by decide +kernel, by decide +kernel⟩
end My

set_option Elab.async false
set_option linter.all false
set_option maxRecDepth 100000
set_option maxHeartbeats 400000
namespace My
open PySem PySem.Spec PyProof.Rows L2
local macro_rules | `(tactic| one_sign) => `(tactic| ((try dsimp only); first
  | with_reducible refine rd_seq ?_
  | with_reducible refine rd_asg ?_
  | with_reducible refine rd_name ?_
  | ((with_reducible refine rd_var (v := ?rdV) ?rdE ?_); case rdE => exact rfl)
  | with_reducible refine rd_c ?_
  | with_reducible refine rd_op ?_
  | with_reducible refine rd_un ?_
  | with_reducible refine rd_I0 ?_
  | ((with_reducible refine rd_I ?rdC ?_); try (case rdC => first | omega | exact ⟨by omega, by omega⟩ | exact mul_l (by omega) (by omega) | exact mul_r (by omega) (by omega) | exact ⟨by decide, by decide, by decide⟩))
  | with_reducible refine rd_addI ?_
  | with_reducible refine rd_ret ?_
  | with_reducible refine rd_drop ?_
  | with_reducible refine rd_ifs ?_
  | with_reducible refine rd_test ?_
  | with_reducible refine rd_tB ?_
  | with_reducible refine rd_and ?_
  | with_reducible refine rd_or ?_
  | with_reducible refine rd_not ?_
  | with_reducible refine rd_andV ?_
  | with_reducible refine rd_orV ?_
  | with_reducible refine rd_notV ?_
  | with_reducible refine rd_if ?_
  | with_reducible refine rd_nil ?_
  | with_reducible refine rd_cons ?_
  | with_reducible refine rd_tup ?_
  | with_reducible refine rd_lst ?_
  | with_reducible refine rd_dict ?_
  | with_reducible refine rd_cb ?_
  | with_reducible refine rd_cal ?_
  | with_reducible refine rd_for ?_
  | with_reducible refine rd_bl ?_
  | with_reducible refine rd_bm0 ?_
  | with_reducible refine rd_bm ?_
  | with_reducible refine rd_sub ?_
  | with_reducible refine rd_chain ?_
  | with_reducible refine rd_next ?_
  | with_reducible refine rd_par ?_
  | with_reducible refine rd_rng1 ?_
  | with_reducible refine rd_rng2 ?_
  | with_reducible refine rd_ilist ?_
  | with_reducible refine rd_itup ?_
  | with_reducible refine rd_istr ?_
  | with_reducible refine rd_sl ?_
  | with_reducible refine rd_part ?_
  | with_reducible refine rd_nopart ?_
  | with_reducible refine rd_slice ?_
  | with_reducible refine rd_calv ?_
  | with_reducible refine rd_lc ?_
  | with_reducible refine rd_tru ?_
  | with_reducible refine rd_izip ?_
  | with_reducible refine rd_ienum ?_
  | with_reducible refine rd_ienumL ?_
  | with_reducible refine rd_rng3 ?_
  | with_reducible refine rd_augS ?_
  | with_reducible refine rd_dget ?_
  | with_reducible refine rd_all ?_))
local macro_rules | `(tactic| one_item) => `(tactic| repeat (one_sign))

section
variable {P : Program} {w : World} {K : PySem.W.Frag} {mg : Str → Option Value} {base : Heap} {f : Addr} {fd : FuncData}
theorem ok_take9 (F : Fun K "_law_take" "_law_take" s__law_take f fd) : FnOk P w K mg base CX0 1 f fd P__law_take spTake9 := by
  refine F.ok sc__law_take (fun vs H Q E h => ?_) (fun cdv A outer s H vs Q E hr h => ?_)
  · obtain ⟨h, m, rfl, _⟩ := h; rfl
  obtain ⟨h, m, rfl, ⟨xs, hH, g, sd, c, rfl, g0, s0, s1, c0⟩, m0, m1, q⟩ := h
  refine ⟨_, (pss_cons (ps_if (pt_cmpR op_gt (pe_ix (ix_seqk K rfl) (pv 0) pe_int (fun _ _ => rfl)) pe_int (nomark _)) (pss_cons (ps_set (i := 2) sc__law_take.nd rfl (Or.inl rfl) (pe_op op_mod (pe_ix (ix_seqk K rfl) (pv 0) pe_int (fun _ _ => rfl)) (pv 1)))
    (pss_cons (ps_asg (pe_op op_fdiv (pe_ix (ix_seqk K rfl) (pv 0) pe_int (fun _ _ => rfl)) (pv 1)) (pg_sub (pv 0) pe_int set_listN))
    (pss_one (ps_ret (pv 2))))) pss_nil)
    (pss_cons (ps_augS (pv 0) pe_int (get_seqk K rfl) pe_int ip_add set_listN)
    (pss_cons (ps_set (i := 3) sc__law_take.nd rfl (Or.inl rfl) (pe_op op_mod (pe_op (op_addk K rfl) (pe_op (op_addk K rfl) (pe_op op_mulA (pe_ix (ix_seqk K rfl) (pv 0) pe_int (fun _ _ => rfl)) pe_int) (pe_op op_mulA pe_int (pe_ix (ix_seqk K rfl) (pv 0) pe_int (fun _ _ => rfl)))) pe_int) pe_int))
    (pss_cons (ps_asg (pe_op op_mod (pe_op op_mulA (pv 3) (pe_op (op_addk K rfl) (pe_op (op_addk K rfl) (pe_op op_mod (pv 3) pe_int) (pe_op op_mulA pe_int (pe_ix (ix_seqk K rfl) (pv 0) pe_int (fun _ _ => rfl)))) pe_int)) pe_int) (pg_sub (pv 0) pe_int set_listN))
    (pss_one (ps_ret (pe_op op_mod (pe_op op_fdiv (pe_ix (ix_seqk K rfl) (pv 0) pe_int (fun _ _ => rfl)) pe_int) (pv 1)))))))), ?_⟩
  simp only [cxOf, Cx.nox, Cx.wish, L2.start, N__law_take, List.map_cons, List.map_nil, List.length_cons, List.length_nil, List.replicate, List.cons_append, List.nil_append, Nat.reduceAdd, Nat.reduceSub]
  one_item
  refine rd_ixL (SqL.of hH) rfl ?_
  one_item
  refine ite_bl (fun cc => ?_) (fun cc => ?_)
  · one_item
    refine rd_ixL (SqL.of hH) rfl ?_
    one_item
    refine rd_ixL (SqL.of hH) rfl ?_
    one_item
    refine rd_setL hH rfl fun H1 x1 h1 => ?_
    one_item
    exact q _ H1 (Int.emod_nonneg _ (by omega)) (Int.emod_lt_of_pos _ m0) ⟨x1, _, h1, _, _, _, rfl, Int.ediv_nonneg g0 (by omega), s0, s1, c0⟩
  · one_item
    refine ⟨h, _, 2, _, rfl, rfl, SqL.of hH, by decide, by decide, rfl, ?_⟩
    one_item
    refine ⟨c, 1, rfl, rfl, ?_⟩
    refine rd_setL hH rfl fun H1 x1 h1 => ?_
    one_item
    refine rd_ixL (SqL.of h1) rfl ?_
    one_item
    refine rd_ixL (SqL.of h1) rfl ?_
    one_item
    refine rd_ixL (SqL.of h1) rfl ?_
    one_item
    refine rd_setL h1 rfl fun H2 x2 h2 => ?_
    one_item
    refine rd_ixL (SqL.of h2) rfl ?_
    one_item
    refine q _ H2 (Int.emod_nonneg _ (by omega)) (Int.emod_lt_of_pos _ m0) ⟨x1.trans x2, _, h2, g, _, c + 1, rfl, g0, Int.emod_nonneg _ (by decide), ?_, by omega⟩
    have := Int.emod_lt_of_pos ((sd * 69069 + 9973 * (c + 1) + 5) % 2305843009213693921 * ((sd * 69069 + 9973 * (c + 1) + 5) % 2305843009213693921 % 999983 + 2 * (c + 1) + 3)) (show (0 : Int) < 2305843009213693907 by decide)
    omega
theorem ok_pot (n_len : mg "len" = none) (n_abs : mg "abs" = none) (n_int : mg "int" = none) (F : Fun K "_law_pot" "_law_pot" s__law_pot f fd) : FnOk P w K mg base CX0 1 f fd P__law_pot (spPot K) := by
  refine F.ok sc__law_pot (fun vs H Q E h => ?_) (fun cdv A outer s H vs Q E hr h => ?_)
  · obtain ⟨a, ns, k, rfl, _⟩ := h; rfl
  obtain ⟨a, ns, k, rfl, hS, h63, k0, k1, q⟩ := h
  refine ⟨_, (pss_cons (ps_set (i := 2) sc__law_pot.nd rfl (Or.inl rfl) pe_int)
    (pss_cons (ps_if (pt_cmpR op_lt (pv 1) (pe_callB (call_lenk K rfl) rfl n_len boot_len (pa_cons (pv 0) pa_nil)) (nomark _)) (pss_one (ps_set (i := 2) sc__law_pot.nd rfl (Or.inl rfl) (pe_callB call_abs rfl n_abs boot_abs (pa_cons (pe_ix (ix_seqk K rfl) (pv 0) (pv 1) (fun _ _ => rfl)) pa_nil)))) pss_nil)
    (pss_cons (ps_set (i := 3) sc__law_pot.nd rfl (Or.inl rfl) (pe_op op_mulA (pe_op op_mod (pv 2) (pe_op op_mulA (pe_op op_pow pe_int pe_int) (pe_op op_pow pe_int pe_int))) (pe_callTy call_int1 rfl n_int boot_int (pa_cons (pe_cmpR op_ge (pv 2) (pe_op op_pow pe_int pe_int) (nomark _)) pa_nil))))
    (pss_one (ps_ret (pe_lstN (pa_cons (pv 3) (pa_cons (pe_op op_mod (pe_op (op_addk K rfl) (pe_op (op_addk K rfl) (pv 2) (pe_op op_mulA pe_int (pv 1))) pe_int) pe_int) (pa_cons pe_int pa_nil))))))))), ?_⟩
  simp only [cxOf, Cx.nox, Cx.wish, L2.start, N__law_pot, List.map_cons, List.map_nil, List.length_cons, List.length_nil, List.replicate, List.cons_append, List.nil_append, Nat.reduceAdd, Nat.reduceSub]
  one_item
  refine ⟨_, ns.length, rfl, .inl ⟨_, hS, (List.length_map _).symm⟩, ?_⟩
  one_item
  refine ite_ss (fun σ Hh => (∃ c : Int, 0 ≤ c ∧ σ = [some (.ref a), some (.int k), some (.int c), none]) ∧ Hh = H) ?_ (fun hb N hN => ?_) (fun hb N hN => ?_)
  · rintro σ Hh ⟨⟨c, c0, rfl⟩, rfl⟩
    one_item
    case rdC => exact IntMulOk.of_bits (by decide +kernel) (by decide +kernel)
    one_item
    case rdC => decide +kernel
    one_item
    refine .inr ⟨_, rfl, ?_⟩
    one_item
    refine ⟨by show 3 ≤ sizeLine; decide, fun r H2 s2 h2 n2 => ?_⟩
    exact q r H2 s2 ⟨_, h2, _, _, 0, rfl, Int.mul_nonneg (Int.emod_nonneg _ (by decide +kernel)) ite01, Int.emod_nonneg _ (by decide), Int.emod_lt_of_pos _ (by decide), Int.le_refl _⟩ n2
  · have hlt : k < (ns.length : Int) := of_decide_eq_true hb
    one_item
    obtain ⟨v, hv, hv2⟩ := atI_lt (xs := ns.map V.int) k0 (by rw [List.length_map]; exact hlt)
    rw [List.getElem?_map] at hv2
    obtain ⟨c, rfl⟩ : ∃ c, v = .int c := by
      cases z : ns[k.toNat]? with
      | none => rw [z] at hv2; cases hv2
      | some c => rw [z] at hv2; exact ⟨c, (Option.some.inj hv2).symm⟩
    refine rd_ixL hS hv ?_
    one_item
    refine ⟨_, rfl, ?_⟩
    one_item
    exact hN _ _ ⟨⟨_, by omega, rfl⟩, rfl⟩
  · one_item
    exact hN _ _ ⟨⟨0, Int.le_refl _, rfl⟩, rfl⟩
theorem ok_words9 (n_range : mg "range" = none) (g__law_take : Cal P w K mg base "_law_take" 1 P__law_take spTake9) (F : Fun K "_law_words" "_law_words" s__law_words f fd) : FnOk P w K mg base CX0 2 f fd P__law_words spWords9 := by
  refine F.ok sc__law_words (fun vs H Q E h => ?_) (fun cdv A outer s H vs Q E hr h => ?_)
  · obtain ⟨h, m, rfl, _⟩ := h; rfl
  obtain ⟨h, m, rfl, hH, m0, m1, q⟩ := h
  refine ⟨_, (pss_cons (ps_set (i := 2) sc__law_words.nd rfl (Or.inl rfl) pe_str)
    (pss_cons (ps_set (i := 3) sc__law_words.nd rfl (Or.inl rfl) (pe_cal g__law_take hr (by omega) rfl (pa_cons (pv 0) (pa_cons pe_int pa_nil))))
    (pss_cons (ps_set (i := 4) sc__law_words.nd rfl (Or.inl rfl) (pe_ix (ix_seqk K rfl) (pe_lstN (pa_cons pe_int (pa_cons pe_int (pa_cons pe_int (pa_cons pe_int (pa_cons pe_int (pa_cons pe_int pa_nil))))))) (pe_cal g__law_take hr (by omega) rfl (pa_cons (pv 0) (pa_cons pe_int pa_nil))) (fun _ _ => rfl)))
    (pss_cons (ps_set (i := 5) sc__law_words.nd rfl (Or.inl rfl) (pe_ix (ix_seqk K rfl) (pe_lstN (pa_cons pe_str (pa_cons pe_str pa_nil))) (pe_cal g__law_take hr (by omega) rfl (pa_cons (pv 0) (pa_cons pe_int pa_nil))) (fun _ _ => rfl)))
    (pss_cons (ps_set (i := 6) sc__law_words.nd rfl (Or.inl rfl) (pe_lstN (pa_cons pe_str (pa_cons pe_str (pa_cons pe_str (pa_cons pe_str pa_nil))))))
    (pss_cons (ps_set (i := 7) sc__law_words.nd rfl (Or.inl rfl) (pe_lstN pa_nil))
    (pss_cons (ps_for PassesOwn.never rfl (pi_range1 rfl n_range (pa_cons (pv 1) pa_nil)) (pg_name (i := 8) sc__law_words.nd rfl (Or.inl rfl)) (pss_cons (ps_set (i := 9) sc__law_words.nd rfl (Or.inl rfl) (pe_ix (ix_seqk K rfl) (pv 2) (pe_op op_mod (pe_op (op_addk K rfl) (pv 3) (pe_op op_mulA (pv 4) (pv 8))) pe_int) (fun _ _ => rfl)))
    (pss_one (ps_expr (pe_bmk K rfl PySem.F.plainAttrs_list PySem.F.slot_list_append PySem.F.type_list_append mt_appendN (pv 7) (pa_cons (pe_op (op_addk K rfl) (pe_op (op_addk K rfl) (pv 5) (pv 9)) (pe_ix (ix_seqk K rfl) (pv 6) (pe_op op_mod (pe_op (op_addk K rfl) (pv 3) (pv 8)) pe_int) (fun _ _ => rfl))) pa_nil))))))
    (pss_one (ps_ret (pv 7)))))))))), ?_⟩
  simp only [cxOf, Cx.nox, Cx.wish, L2.start, N__law_words, List.map_cons, List.map_nil, List.length_cons, List.length_nil, List.replicate, List.cons_append, List.nil_append, Nat.reduceAdd, Nat.reduceSub]
  one_item
  refine ⟨h, 26, rfl, hH, by decide, by decide, fun d1 H1 a1 b1 w1 => ?_⟩
  one_item
  refine ⟨by show 6 ≤ sizeLine; decide, fun p2 H2 s2 h2 n2 => ?_⟩
  one_item
  refine ⟨h, 6, rfl, w1.hand.same s2, by decide, by decide, fun d3 H3 a3 b3 w3 => ?_⟩
  have ne2 : p2 ≠ h := w1.hand.fresh n2
  obtain ⟨st, hst, kst⟩ := menu_step a3 b3
  refine rd_ixL (SqL.of (w3.keep ne2 h2)) hst ?_
  one_item
  refine ⟨by show 2 ≤ sizeLine; decide, fun p4 H4 s4 h4 n4 => ?_⟩
  one_item
  refine ⟨h, 2, rfl, w3.hand.same s4, by decide, by decide, fun d5 H5 a5 b5 w5 => ?_⟩
  have ne4 : p4 ≠ h := w3.hand.fresh n4
  obtain ⟨bg, hbg, kbg⟩ := menu_stem a5 b5
  refine rd_ixL (SqL.of (w5.keep ne4 h4)) hbg ?_
  one_item
  refine ⟨by show 4 ≤ sizeLine; decide, fun pe H6 s6 h6 n6 => ?_⟩
  have nee : pe ≠ h := w5.hand.fresh n6
  one_item
  refine ⟨Nat.zero_le _, fun r H7 s7 h7 n7 => ?_⟩
  have neR : r ≠ h := (w5.hand.same s6).fresh n7
  have ner : pe ≠ r := ne_of_none h6 n7
  one_item
  refine ⟨_, rfl, by omega, by omega, ?_⟩
  have dr7 : Pour h H H7 := ((((w1.same s2).trans w3).same s4).trans w5).same (s6.trans s7)
  have nr0 : H r = none := by
    cases e : H r with
    | none => rfl
    | some o =>
      have e5 : H5 r = some o := (((w1.same s2).trans w3).same s4).trans w5 |>.x r o neR e
      rw [s6 _ _ e5] at n7
      cases n7
  refine forR_by (fun i σ Hh => ∃ (vk ve : Option V) (ws : List Str), σ = [some (.ref h), some (.int m), some (.str "abcdefghijklmnopqrstuvwxyz"), some (.int d1), some (.int st), some (.str bg), some (.ref pe), some (.ref r), vk, ve] ∧ SameX r H7 Hh ∧ Hh r = some (.lst (ws.map V.str)) ∧ ws.length = i ∧ (∀ x ∈ ws, Wd x) ∧ (ws.map fun x => x.cps[bg.length]?) = (List.range i).map fun k : Nat => some (97 + ((d1 + st * (0 + (k : Int))) % 26).toNat)) ?_ ?_ ?_
  · exact ⟨_, _, [], rfl, fun _ _ _ q => q, h7, rfl, by simp, rfl⟩
  · rintro i σ Hh hi ⟨vk, ve, ws, rfl, sx, hr6, hl, hw, hs⟩
    have hpe := sx _ _ ner (s7 _ _ h6)
    one_item
    have e0 : 0 ≤ (d1 + st * (0 + (i : Int))) % 26 := Int.emod_nonneg _ (by decide)
    have e1 : (d1 + st * (0 + (i : Int))) % 26 < 26 := Int.emod_lt_of_pos _ (by decide)
    refine rd_ixS (by decide +kernel) (letter_at e0 e1) ?_
    one_item
    refine ⟨rd_tyL hr6, ?_⟩
    one_item
    have lb := kbg.1
    obtain ⟨en, hen, ken⟩ := menu_ends (d := (d1 + (0 + (i : Int))) % 4) (Int.emod_nonneg _ (by decide)) (Int.emod_lt_of_pos _ (by decide))
    have le := ken.1
    refine rd_addS (small' (by show bg.length + 1 ≤ 1000; omega)) ?_
    one_item
    refine rd_ixL (SqL.of hpe) hen ?_
    refine rd_addS (small' (by rw [Str.length_append]; show bg.length + 1 + en.length ≤ 1000; omega)) ?_
    one_item
    refine rd_app (K := K) hr6 (by rw [List.length_map]; exact small1000 (by omega)) fun H9 x9 h9 => ?_
    refine ⟨_, _, ws ++ [bg ++ ⟨#[97 + ((d1 + st * (0 + (i : Int))) % 26).toNat]⟩ ++ en], rfl, sx.trans x9, by rw [h9, List.map_append]; rfl, by rw [List.length_append, hl]; rfl, ?_, by rw [List.map_append, hs, List.range_succ, List.map_append, List.map_singleton, List.map_singleton, word_sign]⟩
    intro x hx
    rcases List.mem_append.mp hx with z | z
    · exact hw x z
    · rw [List.mem_singleton.mp z]
      exact word_of9 kbg ken (by omega) (by omega)
  · rintro σ Hh ⟨vk, ve, ws, rfl, sx, hr6, hl, hw, hs⟩
    one_item
    refine q r Hh ws ⟨fun b u nb hb => sx b u (fun z => by rw [z, nr0] at hb; cases hb) (dr7.x b u nb hb), dr7.hand.ne sx (Ne.symm neR)⟩ hr6 nr0 hl hw ?_
    refine nodup_of_map (g := fun x : Str => x.cps[bg.length]?) ?_
    rw [hs]
    exact letters_nodup kst (by omega)

end
end My

set_option Elab.async false
set_option linter.all false
set_option maxRecDepth 100000
set_option maxHeartbeats 400000
namespace My
open PySem PySem.Spec PyProof.Rows L2
local macro_rules | `(tactic| one_sign) => `(tactic| ((try dsimp only); first
  | with_reducible refine rd_seq ?_
  | with_reducible refine rd_asg ?_
  | with_reducible refine rd_name ?_
  | ((with_reducible refine rd_var (v := ?rdV) ?rdE ?_); case rdE => exact rfl)
  | with_reducible refine rd_c ?_
  | with_reducible refine rd_op ?_
  | with_reducible refine rd_un ?_
  | with_reducible refine rd_I0 ?_
  | ((with_reducible refine rd_I ?rdC ?_); try (case rdC => first | omega | exact ⟨by omega, by omega⟩ | exact mul_l (by omega) (by omega) | exact mul_r (by omega) (by omega) | exact ⟨by decide, by decide, by decide⟩))
  | with_reducible refine rd_addI ?_
  | with_reducible refine rd_ret ?_
  | with_reducible refine rd_drop ?_
  | with_reducible refine rd_ifs ?_
  | with_reducible refine rd_test ?_
  | with_reducible refine rd_tB ?_
  | with_reducible refine rd_and ?_
  | with_reducible refine rd_or ?_
  | with_reducible refine rd_not ?_
  | with_reducible refine rd_andV ?_
  | with_reducible refine rd_orV ?_
  | with_reducible refine rd_notV ?_
  | with_reducible refine rd_if ?_
  | with_reducible refine rd_nil ?_
  | with_reducible refine rd_cons ?_
  | with_reducible refine rd_tup ?_
  | with_reducible refine rd_lst ?_
  | with_reducible refine rd_dict ?_
  | with_reducible refine rd_cb ?_
  | with_reducible refine rd_cal ?_
  | with_reducible refine rd_for ?_
  | with_reducible refine rd_bl ?_
  | with_reducible refine rd_bm0 ?_
  | with_reducible refine rd_bm ?_
  | with_reducible refine rd_sub ?_
  | with_reducible refine rd_chain ?_
  | with_reducible refine rd_next ?_
  | with_reducible refine rd_par ?_
  | with_reducible refine rd_rng1 ?_
  | with_reducible refine rd_rng2 ?_
  | with_reducible refine rd_ilist ?_
  | with_reducible refine rd_itup ?_
  | with_reducible refine rd_istr ?_
  | with_reducible refine rd_sl ?_
  | with_reducible refine rd_part ?_
  | with_reducible refine rd_nopart ?_
  | with_reducible refine rd_slice ?_
  | with_reducible refine rd_calv ?_
  | with_reducible refine rd_lc ?_
  | with_reducible refine rd_tru ?_
  | with_reducible refine rd_izip ?_
  | with_reducible refine rd_ienum ?_
  | with_reducible refine rd_ienumL ?_
  | with_reducible refine rd_rng3 ?_
  | with_reducible refine rd_augS ?_
  | with_reducible refine rd_dget ?_
  | with_reducible refine rd_all ?_))
local macro_rules | `(tactic| one_item) => `(tactic| repeat (one_sign))

section
variable {P : Program} {w : World} {K : PySem.W.Frag} {mg : Str → Option Value} {base : Heap} {f : Addr} {fd : FuncData}
def spTree9 (K : PySem.W.Frag) : Sp := fun vs H Q _ => ∃ (h a : Addr) (ws : List Str), vs = [.ref h, .ref a] ∧ Pot H h ∧ a ≠ h ∧ SqL K H a (ws.map V.str) ∧ 1 ≤ ws.length ∧ ws.length ≤ 100 ∧
  ∀ (v : V) (H' : Hp) (t : Tr), Pour h H H' → TAt H' v t → t.leaves.Perm ws → Q v H'
theorem TAts.joinS {H : Hp} {xs : List V} {ts : List Tr} {a : Nat} {x y : V} {p : Addr} (hT : TAts H xs ts) (h1 : xs[a]? = some x) (h2 : xs[a + 1]? = some y) (hp : H p = some (.tup [x, y]) ∨ H p = some (.tup [y, x])) :
    ∃ us, TAts H (xs.take a ++ [V.ref p] ++ xs.drop (a + 2)) us ∧ (lvs us).Perm (lvs ts) := by
  rcases hp with hp | hp
  · obtain ⟨us, q1, q2⟩ := hT.join h1 h2 hp
    exact ⟨us, q1, by rw [q2]⟩
  · obtain ⟨tx, e1, q1⟩ := hT.get h1
    obtain ⟨ty, e2, q2⟩ := hT.get h2
    refine ⟨ts.take a ++ [Tr.node ty tx] ++ ts.drop (a + 2), ((hT.take a).append (.cons (.node hp q2 q1) .nil)).append (hT.drop (a + 2)), ?_⟩
    conv => rhs; rw [join_at e1 e2]
    rw [lvs_append, lvs_append, lvs_append, lvs_cons, lvs_cons, lvs_cons]
    show (lvs (ts.take a) ++ (ty.leaves ++ tx.leaves ++ lvs []) ++ lvs (ts.drop (a + 2))).Perm _
    have e0 : lvs [] = [] := rfl
    rw [e0, List.append_nil, List.append_assoc, List.append_assoc]
    refine List.Perm.append_left _ ?_
    rw [← List.append_assoc, ← List.append_assoc]
    exact List.Perm.append_right _ List.perm_append_comm
theorem menu4 {d F c : Int} (h0 : 0 ≤ d) (h1 : d < 4) (hF : 0 ≤ F) (c0 : 0 ≤ c) (c1 : c ≤ F) : ∃ a : Int, atI [V.int c, V.int F, V.int 0, V.int 0] d = some (.int a) ∧ 0 ≤ a ∧ a ≤ F := by
  have : d = 0 ∨ d = 1 ∨ d = 2 ∨ d = 3 := by omega
  rcases this with rfl | rfl | rfl | rfl
  · exact ⟨c, rfl, c0, c1⟩
  · exact ⟨F, rfl, hF, by omega⟩
  · exact ⟨0, rfl, by omega, hF⟩
  · exact ⟨0, rfl, by omega, hF⟩
theorem ok_tree9 (n_list : mg "list" = none) (n_len : mg "len" = none) (g__law_take : Cal P w K mg base "_law_take" 1 P__law_take spTake9) (F : Fun K "_law_tree" "_law_tree" s__law_tree f fd) : FnOk P w K mg base CX0 2 f fd P__law_tree (spTree9 K) := by
  refine F.ok sc__law_tree (fun vs H Q E h => ?_) (fun cdv A outer s H vs Q E hr h => ?_)
  · obtain ⟨h, a, ws, rfl, _⟩ := h; rfl
  obtain ⟨h, a, ws, rfl, hH, nea, hS, l0, l1, q⟩ := h
  refine ⟨_, (pss_cons (ps_set (i := 2) sc__law_tree.nd rfl (Or.inl rfl) (pe_callTy (call_listk K rfl) rfl n_list boot_list (pa_cons (pv 1) pa_nil)))
    (pss_cons (ps_set (i := 3) sc__law_tree.nd rfl (Or.inl rfl) (pe_cal g__law_take hr (by omega) rfl (pa_cons (pv 0) (pa_cons pe_int pa_nil))))
    (pss_cons (ps_while PassesOwn.never (pt_cmpR op_gt (pe_callB (call_lenk K rfl) rfl n_len boot_len (pa_cons (pv 2) pa_nil)) pe_int (nomark _)) (pss_cons (ps_set (i := 4) sc__law_tree.nd rfl (Or.inl rfl) (pe_ix (ix_seqk K rfl) (pe_lstN (pa_cons (pe_cal g__law_take hr (by omega) rfl (pa_cons (pv 0) (pa_cons (pe_op op_sub (pe_callB (call_lenk K rfl) rfl n_len boot_len (pa_cons (pv 2) pa_nil)) pe_int) pa_nil))) (pa_cons (pe_op op_sub (pe_callB (call_lenk K rfl) rfl n_len boot_len (pa_cons (pv 2) pa_nil)) pe_int) (pa_cons pe_int (pa_cons pe_int pa_nil))))) (pv 3) (fun _ _ => rfl)))
    (pss_cons (ps_set (i := 5) sc__law_tree.nd rfl (Or.inl rfl) (pe_tupN (pa_cons (pe_ix (ix_seqk K rfl) (pv 2) (pv 4) (fun _ _ => rfl)) (pa_cons (pe_ix (ix_seqk K rfl) (pv 2) (pe_op (op_addk K rfl) (pv 4) pe_int) (fun _ _ => rfl)) pa_nil))))
    (pss_cons (ps_if (PW.pt (pw_and (pt_cmpR op_eq (pv 3) pe_int (nomark _)) (pw_and1 (pt_cmpR op_eq (pe_cal g__law_take hr (by omega) rfl (pa_cons (pv 0) (pa_cons pe_int pa_nil))) pe_int (nomark _))))) (pss_one (ps_set (i := 5) sc__law_tree.nd rfl (Or.inl rfl) (pe_tupN (pa_cons (pe_ix (ix_seqk K rfl) (pv 2) (pe_op (op_addk K rfl) (pv 4) pe_int) (fun _ _ => rfl)) (pa_cons (pe_ix (ix_seqk K rfl) (pv 2) (pv 4) (fun _ _ => rfl)) pa_nil))))) pss_nil)
    (pss_one (ps_asg (pe_lstN (pa_cons (pv 5) pa_nil)) (pg_slice (pv 2) (pv 4) (pe_op (op_addk K rfl) (pv 4) pe_int))))))))
    (pss_one (ps_ret (pe_ix (ix_seqk K rfl) (pv 2) pe_int (fun _ _ => rfl))))))), ?_⟩
  simp only [cxOf, Cx.nox, Cx.wish, L2.start, N__law_tree, List.map_cons, List.map_nil, List.length_cons, List.length_nil, List.replicate, List.cons_append, List.nil_append, Nat.reduceAdd, Nat.reduceSub]
  one_item
  refine ⟨a, _, rfl, .inl hS, fun r H1 s1 h1 n1 => ?_⟩
  have neR := hH.fresh n1
  one_item
  refine ⟨h, 4, rfl, hH.same s1, by decide, by decide, fun d2 H2 a2 b2 w2 => ?_⟩
  one_item
  have dr2 : Pour h H H2 := (Pour.of hH s1).trans w2
  refine ⟨fun m σ Hh => ∃ (o4 o5 : Option V) (xs : List V) (ts : List Tr), σ = [some (.ref h), some (.ref a), some (.ref r), some (.int d2), o4, o5] ∧ Pour h H Hh ∧ Hh r = some (.lst xs) ∧ TAts Hh xs ts ∧ (lvs ts).Perm ws ∧ 1 ≤ xs.length ∧ xs.length ≤ 100 ∧ m = xs.length, ⟨_, _, _, ws.map V.str, ws.map Tr.leaf, rfl, dr2, w2.keep neR h1, TAts.ofStrs _ _, by rw [lvs_leaf], by rw [List.length_map]; exact l0, by rw [List.length_map]; exact l1, rfl⟩, ?_⟩
  rintro m σ Hh ⟨o4, o5, xs, ts, rfl, dr, hr1, hTs, hp, x0, x1, rfl⟩
  one_item
  refine ⟨_, xs.length, rfl, .inl ⟨_, SqL.of hr1, rfl⟩, ?_⟩
  one_item
  by_cases hgt : 1 < xs.length
  · rw [decide_eq_true (show (1 : Int) < (xs.length : Int) by omega)]
    refine iteT ?_
    refine ⟨_, fun _ _ h => h, ?_⟩
    one_item
    refine ⟨_, xs.length, rfl, .inl ⟨_, SqL.of hr1, rfl⟩, ?_⟩
    one_item
    refine ⟨h, _, rfl, dr.hand, by omega, by omega, fun d3 H3 a3 b3 w3 => ?_⟩
    have hr3 := w3.keep neR hr1
    one_item
    refine ⟨_, xs.length, rfl, .inl ⟨_, SqL.of hr3, rfl⟩, ?_⟩
    one_item
    refine ⟨by show 4 ≤ sizeLine; decide, fun p4 H4 s4 h4 n4 => ?_⟩
    one_item
    obtain ⟨at', hat, at0, at1⟩ := menu4 (F := (xs.length : Int) - 2) a2 b2 (by omega) a3 (by omega)
    refine rd_ixL (SqL.of h4) hat ?_
    have hr4 := s4 _ _ hr3
    one_item
    obtain ⟨x, hx1, hx2⟩ := atI_lt (xs := xs) at0 (by omega)
    obtain ⟨y, hy1, hy2⟩ := atI_lt (xs := xs) (i := at' + 1) (by omega) (by omega)
    have ey : (at' + 1).toNat = at'.toNat + 1 := by omega
    rw [ey] at hy2
    refine rd_ixL (SqL.of hr4) hx1 ?_
    one_item
    refine rd_ixL (SqL.of hr4) hy1 ?_
    one_item
    refine ⟨by show 2 ≤ sizeLine; decide, fun p5 H5 s5 h5 n5 => ?_⟩
    have hr5 := s5 _ _ hr4
    have dr5 : Pour h H H5 := ((dr.trans w3).same s4).same s5
    have tp5 : Tups Hh H5 := (w3.tups dr.hand).trans (s4.trans s5).tups
    one_item
    refine ⟨rfl, ?_⟩
    one_item
    refine ite_bl (fun _ => ?_) (fun _ => ?_)
    · one_item
      refine ⟨h, 2, rfl, dr5.hand, by decide, by decide, fun d6 H6 a6 b6 w6 => ?_⟩
      have hr6 := w6.keep neR hr5
      have dr6 := dr5.trans w6
      have tp6 : Tups Hh H6 := tp5.trans (w6.tups dr5.hand)
      have h56 := w6.tups dr5.hand _ _ h5
      one_item
      refine ⟨rfl, ?_⟩
      one_item
      refine ite_bl (fun _ => ?_) (fun _ => ?_)
      · one_item
        refine rd_ixL (SqL.of hr6) hy1 ?_
        one_item
        refine rd_ixL (SqL.of hr6) hx1 ?_
        one_item
        refine ⟨by show 2 ≤ sizeLine; decide, fun p8 H8 s8 h8 n8 => ?_⟩
        have hr8 := s8 _ _ hr6
        have dr8 := dr6.same s8
        have tp8 : Tups Hh H8 := tp6.trans s8.tups
        one_item
        refine ⟨by show 1 ≤ sizeLine; decide, fun p7 H7 s7 h7 n7 => ?_⟩
        one_item
        have hr7 := s7 _ _ hr8
        have ne7 : r ≠ p7 := ne_of_none hr8 n7
        have e2 : (at' + 2).toNat = at'.toNat + 2 := by omega
        refine ⟨r, p7, xs, [.ref p8], at', at' + 2, rfl, rfl, rfl, rfl, hr7, h7, ne7, at0, by omega, by omega, small' (by show xs.length + 1 ≤ 1000; omega), ?_⟩
        rw [e2]
        have xr : SameX r H7 (upd H7 r (.lst (xs.take at'.toNat ++ [V.ref p8] ++ xs.drop (at'.toNat + 2)))) := samex_upd _
        obtain ⟨us', hT', hv'⟩ := (hTs.mono (tp8.trans s7.tups)).joinS hx2 hy2 (.inr (s7 _ _ h8))
        have dr7 := dr8.same s7
        have nl : (xs.take at'.toNat ++ [V.ref p8] ++ xs.drop (at'.toNat + 2)).length = xs.length - 1 := by
          rw [List.length_append, List.length_append, List.length_take, List.length_drop]
          show min at'.toNat xs.length + 1 + (xs.length - (at'.toNat + 2)) = _
          omega
        exact ⟨xs.length - 1, by omega, _, _, _, us', rfl, ⟨fun b u nb hb => xr b u (fun z => by rw [z, n1] at hb; cases hb) (dr7.x b u nb hb), dr7.hand.ne xr (Ne.symm neR)⟩, upd_same, hT'.mono (xr.tups hr7), hv'.trans hp, by rw [nl]; omega, by rw [nl]; omega, nl.symm⟩
      · skip
        one_item
        refine ⟨by show 1 ≤ sizeLine; decide, fun p7 H7 s7 h7 n7 => ?_⟩
        one_item
        have hr7 := s7 _ _ hr6
        have ne7 : r ≠ p7 := ne_of_none hr6 n7
        have e2 : (at' + 2).toNat = at'.toNat + 2 := by omega
        refine ⟨r, p7, xs, [.ref p5], at', at' + 2, rfl, rfl, rfl, rfl, hr7, h7, ne7, at0, by omega, by omega, small' (by show xs.length + 1 ≤ 1000; omega), ?_⟩
        rw [e2]
        have xr : SameX r H7 (upd H7 r (.lst (xs.take at'.toNat ++ [V.ref p5] ++ xs.drop (at'.toNat + 2)))) := samex_upd _
        obtain ⟨us', hT', hv'⟩ := (hTs.mono (tp6.trans s7.tups)).joinS hx2 hy2 (.inl (s7 _ _ h56))
        have dr7 := dr6.same s7
        have nl : (xs.take at'.toNat ++ [V.ref p5] ++ xs.drop (at'.toNat + 2)).length = xs.length - 1 := by
          rw [List.length_append, List.length_append, List.length_take, List.length_drop]
          show min at'.toNat xs.length + 1 + (xs.length - (at'.toNat + 2)) = _
          omega
        exact ⟨xs.length - 1, by omega, _, _, _, us', rfl, ⟨fun b u nb hb => xr b u (fun z => by rw [z, n1] at hb; cases hb) (dr7.x b u nb hb), dr7.hand.ne xr (Ne.symm neR)⟩, upd_same, hT'.mono (xr.tups hr7), hv'.trans hp, by rw [nl]; omega, by rw [nl]; omega, nl.symm⟩
    · refine iteF ?_
      one_item
      refine ⟨by show 1 ≤ sizeLine; decide, fun p7 H7 s7 h7 n7 => ?_⟩
      one_item
      have hr7 := s7 _ _ hr5
      have ne7 : r ≠ p7 := ne_of_none hr5 n7
      have e2 : (at' + 2).toNat = at'.toNat + 2 := by omega
      refine ⟨r, p7, xs, [.ref p5], at', at' + 2, rfl, rfl, rfl, rfl, hr7, h7, ne7, at0, by omega, by omega, small' (by show xs.length + 1 ≤ 1000; omega), ?_⟩
      rw [e2]
      have xr : SameX r H7 (upd H7 r (.lst (xs.take at'.toNat ++ [V.ref p5] ++ xs.drop (at'.toNat + 2)))) := samex_upd _
      obtain ⟨us', hT', hv'⟩ := (hTs.mono (tp5.trans s7.tups)).joinS hx2 hy2 (.inl (s7 _ _ h5))
      have dr7 := dr5.same s7
      have nl : (xs.take at'.toNat ++ [V.ref p5] ++ xs.drop (at'.toNat + 2)).length = xs.length - 1 := by
        rw [List.length_append, List.length_append, List.length_take, List.length_drop]
        show min at'.toNat xs.length + 1 + (xs.length - (at'.toNat + 2)) = _
        omega
      exact ⟨xs.length - 1, by omega, _, _, _, us', rfl, ⟨fun b u nb hb => xr b u (fun z => by rw [z, n1] at hb; cases hb) (dr7.x b u nb hb), dr7.hand.ne xr (Ne.symm neR)⟩, upd_same, hT'.mono (xr.tups hr7), hv'.trans hp, by rw [nl]; omega, by rw [nl]; omega, nl.symm⟩
  · rw [decide_eq_false (show ¬ (1 : Int) < (xs.length : Int) by omega)]
    refine iteF ?_
    one_item
    have l3 : xs.length = 1 := by omega
    have lu := hTs.length
    match xs, ts, l3, lu, hTs, hr1, hp with
    | [y], [u], _, _, .cons hy .nil, hr1, hp =>
      refine rd_ixL (SqL.of hr1) rfl ?_
      refine q y Hh u dr hy ?_
      have e : lvs [u] = u.leaves := by simp [lvs]
      rw [e] at hp
      exact hp

end
end My

set_option Elab.async false
set_option linter.all false
set_option maxRecDepth 100000
set_option maxHeartbeats 400000
namespace My
open PySem PySem.Spec PyProof.Rows L2
local macro_rules | `(tactic| one_sign) => `(tactic| ((try dsimp only); first
  | with_reducible refine rd_seq ?_
  | with_reducible refine rd_asg ?_
  | with_reducible refine rd_name ?_
  | ((with_reducible refine rd_var (v := ?rdV) ?rdE ?_); case rdE => exact rfl)
  | with_reducible refine rd_c ?_
  | with_reducible refine rd_op ?_
  | with_reducible refine rd_un ?_
  | with_reducible refine rd_I0 ?_
  | ((with_reducible refine rd_I ?rdC ?_); try (case rdC => first | omega | exact ⟨by omega, by omega⟩ | exact mul_l (by omega) (by omega) | exact mul_r (by omega) (by omega) | exact ⟨by decide, by decide, by decide⟩))
  | with_reducible refine rd_addI ?_
  | with_reducible refine rd_ret ?_
  | with_reducible refine rd_drop ?_
  | with_reducible refine rd_ifs ?_
  | with_reducible refine rd_test ?_
  | with_reducible refine rd_tB ?_
  | with_reducible refine rd_and ?_
  | with_reducible refine rd_or ?_
  | with_reducible refine rd_not ?_
  | with_reducible refine rd_andV ?_
  | with_reducible refine rd_orV ?_
  | with_reducible refine rd_notV ?_
  | with_reducible refine rd_if ?_
  | with_reducible refine rd_nil ?_
  | with_reducible refine rd_cons ?_
  | with_reducible refine rd_tup ?_
  | with_reducible refine rd_lst ?_
  | with_reducible refine rd_dict ?_
  | with_reducible refine rd_cb ?_
  | with_reducible refine rd_cal ?_
  | with_reducible refine rd_for ?_
  | with_reducible refine rd_bl ?_
  | with_reducible refine rd_bm0 ?_
  | with_reducible refine rd_bm ?_
  | with_reducible refine rd_sub ?_
  | with_reducible refine rd_chain ?_
  | with_reducible refine rd_next ?_
  | with_reducible refine rd_par ?_
  | with_reducible refine rd_rng1 ?_
  | with_reducible refine rd_rng2 ?_
  | with_reducible refine rd_ilist ?_
  | with_reducible refine rd_itup ?_
  | with_reducible refine rd_istr ?_
  | with_reducible refine rd_sl ?_
  | with_reducible refine rd_part ?_
  | with_reducible refine rd_nopart ?_
  | with_reducible refine rd_slice ?_
  | with_reducible refine rd_calv ?_
  | with_reducible refine rd_lc ?_
  | with_reducible refine rd_tru ?_
  | with_reducible refine rd_izip ?_
  | with_reducible refine rd_ienum ?_
  | with_reducible refine rd_ienumL ?_
  | with_reducible refine rd_rng3 ?_
  | with_reducible refine rd_augS ?_
  | with_reducible refine rd_dget ?_
  | with_reducible refine rd_all ?_))
local macro_rules | `(tactic| one_item) => `(tactic| repeat (one_sign))

section
variable {P : Program} {w : World} {K : PySem.W.Frag} {mg : Str → Option Value} {base : Heap} {f : Addr} {fd : FuncData}
def spGreat9 : Sp := fun vs H Q _ => ∃ h : Addr, vs = [.ref h] ∧ Pot H h ∧ ∀ (v : V) (H' : Hp) (t : Tr), Pour h H H' → TAt H' v t → t.Ws → t.leaves.Nodup → t.leaves.length ≤ 8 → Q v H'
theorem ok_great9 (n_int : mg "int" = none) (g__law_take : Cal P w K mg base "_law_take" 1 P__law_take spTake9) (g__law_words : Cal P w K mg base "_law_words" 2 P__law_words spWords9) (g__law_tree : Cal P w K mg base "_law_tree" 2 P__law_tree (spTree9 K)) (F : Fun K "_law_great" "_law_great" s__law_great f fd) : FnOk P w K mg base CX0 3 f fd P__law_great spGreat9 := by
  refine F.ok sc__law_great (fun vs H Q E h => ?_) (fun cdv A outer s H vs Q E hr h => ?_)
  · obtain ⟨h, rfl, _⟩ := h; rfl
  obtain ⟨h, rfl, hH, q⟩ := h
  refine ⟨_, (pss_one (ps_ret (pe_cal g__law_tree hr (by omega) rfl (pa_cons (pv 0) (pa_cons (pe_cal g__law_words hr (by omega) rfl (pa_cons (pv 0) (pa_cons (pe_op (op_addk K rfl) pe_int (pe_cal g__law_take hr (by omega) rfl (pa_cons (pv 0) (pa_cons (pe_ix (ix_seqk K rfl) (pe_lstN (pa_cons pe_int (pa_cons pe_int pa_nil))) (pe_callTy call_int1 rfl n_int boot_int (pa_cons (pe_cmpR op_eq (pe_cal g__law_take hr (by omega) rfl (pa_cons (pv 0) (pa_cons pe_int pa_nil))) pe_int (nomark _)) pa_nil)) (fun _ _ => rfl)) pa_nil)))) pa_nil))) pa_nil))))), ?_⟩
  simp only [cxOf, Cx.nox, Cx.wish, L2.start, N__law_great, List.map_cons, List.map_nil, List.length_cons, List.length_nil, List.replicate, List.cons_append, List.nil_append, Nat.reduceAdd, Nat.reduceSub]
  one_item
  refine ⟨by show 2 ≤ sizeLine; decide, fun p1 H1 s1 h1 n1 => ?_⟩
  have ne1 := hH.fresh n1
  one_item
  refine ⟨h, 8, rfl, hH.same s1, by decide, by decide, fun d2 H2 a2 b2 w2 => ?_⟩
  one_item
  refine ⟨rfl, ?_⟩
  one_item
  refine .inr ⟨_, rfl, ?_⟩
  obtain ⟨m3, hm3, km3⟩ := menu_of (d := d2) (a := 5) (b := 8)
  refine rd_ixL (SqL.of (w2.keep ne1 h1)) hm3 ?_
  one_item
  refine ⟨h, m3, rfl, w2.hand, by omega, by omega, fun d4 H4 a4 b4 w4 => ?_⟩
  one_item
  refine ⟨h, _, rfl, w4.hand, by omega, by omega, fun r5 H5 ws w5 h5 n5 lw hW hN => ?_⟩
  have ne5 := w4.hand.fresh n5
  one_item
  refine ⟨h, r5, ws, rfl, w5.hand, ne5, SqL.of h5, by omega, by omega, fun v6 H6 t6 w6 T6 L6 => ?_⟩
  have ll := L6.length_eq
  exact q v6 H6 t6 ((((Pour.of hH s1).trans w2).trans w4).trans (w5.trans w6)) T6 (fun x hx => hW x (L6.mem_iff.mp hx)) (L6.nodup_iff.mpr hN) (by omega)

end
end My

set_option Elab.async false
set_option linter.all false
set_option maxRecDepth 100000
set_option maxHeartbeats 400000
namespace My
open PySem PySem.Spec PyProof.Rows L2
local macro_rules | `(tactic| one_sign) => `(tactic| ((try dsimp only); first
  | with_reducible refine rd_seq ?_
  | with_reducible refine rd_asg ?_
  | with_reducible refine rd_name ?_
  | ((with_reducible refine rd_var (v := ?rdV) ?rdE ?_); case rdE => exact rfl)
  | with_reducible refine rd_c ?_
  | with_reducible refine rd_op ?_
  | with_reducible refine rd_un ?_
  | with_reducible refine rd_I0 ?_
  | ((with_reducible refine rd_I ?rdC ?_); try (case rdC => first | omega | exact ⟨by omega, by omega⟩ | exact mul_l (by omega) (by omega) | exact mul_r (by omega) (by omega) | exact ⟨by decide, by decide, by decide⟩))
  | with_reducible refine rd_addI ?_
  | with_reducible refine rd_ret ?_
  | with_reducible refine rd_drop ?_
  | with_reducible refine rd_ifs ?_
  | with_reducible refine rd_test ?_
  | with_reducible refine rd_tB ?_
  | with_reducible refine rd_and ?_
  | with_reducible refine rd_or ?_
  | with_reducible refine rd_not ?_
  | with_reducible refine rd_andV ?_
  | with_reducible refine rd_orV ?_
  | with_reducible refine rd_notV ?_
  | with_reducible refine rd_if ?_
  | with_reducible refine rd_nil ?_
  | with_reducible refine rd_cons ?_
  | with_reducible refine rd_tup ?_
  | with_reducible refine rd_lst ?_
  | with_reducible refine rd_dict ?_
  | with_reducible refine rd_cb ?_
  | with_reducible refine rd_cal ?_
  | with_reducible refine rd_for ?_
  | with_reducible refine rd_bl ?_
  | with_reducible refine rd_bm0 ?_
  | with_reducible refine rd_bm ?_
  | with_reducible refine rd_sub ?_
  | with_reducible refine rd_chain ?_
  | with_reducible refine rd_next ?_
  | with_reducible refine rd_par ?_
  | with_reducible refine rd_rng1 ?_
  | with_reducible refine rd_rng2 ?_
  | with_reducible refine rd_ilist ?_
  | with_reducible refine rd_itup ?_
  | with_reducible refine rd_istr ?_
  | with_reducible refine rd_sl ?_
  | with_reducible refine rd_part ?_
  | with_reducible refine rd_nopart ?_
  | with_reducible refine rd_slice ?_
  | with_reducible refine rd_calv ?_
  | with_reducible refine rd_lc ?_
  | with_reducible refine rd_tru ?_
  | with_reducible refine rd_izip ?_
  | with_reducible refine rd_ienum ?_
  | with_reducible refine rd_ienumL ?_
  | with_reducible refine rd_rng3 ?_
  | with_reducible refine rd_augS ?_
  | with_reducible refine rd_dget ?_
  | with_reducible refine rd_all ?_))
local macro_rules | `(tactic| one_item) => `(tactic| repeat (one_sign))

section
variable {P : Program} {w : World} {K : PySem.W.Frag} {mg : Str → Option Value} {base : Heap} {f : Addr} {fd : FuncData}
def spParts : Sp := fun vs H Q _ => ∃ (v : V) (t : Tr), vs = [v] ∧ TAt H v t ∧ t.size ≤ 900 ∧ ∀ (r : Addr) (H' : Hp) (xs : List V), Same H H' → H' r = some (.lst xs) → H r = none → TAts H xs t.post → Q (.ref r) H'
theorem TAts.reverse {H : Hp} : ∀ {xs : List V} {ts : List Tr}, TAts H xs ts → TAts H xs.reverse ts.reverse
  | _, _, .nil => .nil
  | _, _, .cons h r => by rw [List.reverse_cons, List.reverse_cons]; exact (TAts.reverse r).append (.cons h .nil)
theorem ok_parts (n_isinstance : mg "isinstance" = none) (n_str : mg "str" = none) (n_list : mg "list" = none) (n_reversed : mg "reversed" = none) (F : Fun K "parts_of" "parts_of" s_parts_of f fd) : FnOk P w K mg base CX0 1 f fd P_parts_of spParts := by
  refine F.ok sc_parts_of (fun vs H Q E h => ?_) (fun cdv A outer s H vs Q E hr h => ?_)
  · obtain ⟨v, t, rfl, _⟩ := h; rfl
  obtain ⟨v, t, rfl, hT, hz, q⟩ := h
  refine ⟨_, (pss_cons (ps_set (i := 1) sc_parts_of.nd rfl (Or.inl rfl) (pe_lstN pa_nil))
    (pss_cons (ps_set (i := 2) sc_parts_of.nd rfl (Or.inl rfl) (pe_lstN (pa_cons (pv 0) pa_nil)))
    (pss_cons (ps_while PassesOwn.never (pt_truthk K rfl (pv 2) (fun _ => rfl)) (pss_cons (ps_set (i := 3) sc_parts_of.nd rfl (Or.inl rfl) (pe_bm0k K rfl PySem.F.plainAttrs_list PySem.F.slot_list_pop PySem.F.type_list_pop mt_popN (pv 2)))
    (pss_cons (ps_expr (pe_bmk K rfl PySem.F.plainAttrs_list PySem.F.slot_list_append PySem.F.type_list_append mt_appendN (pv 1) (pa_cons (pv 3) pa_nil)))
    (pss_one (ps_if (pt_not (pt_val (pe_callB (call_isik K rfl) rfl n_isinstance boot_isinstance (pa_cons (pv 3) (pa_cons (pe_bltn (v := .ty "str") rfl n_str boot_str rfl) pa_nil))))) (pss_one (ps_expr (pe_bmk K rfl PySem.F.plainAttrs_list PySem.F.slot_list_extend PySem.F.type_list_extend (mt_extendTk K rfl) (pv 2) (pa_cons (pv 3) pa_nil)))) pss_nil)))))
    (pss_one (ps_ret (pe_listrev K rfl rfl rfl n_list rfl n_reversed (pv 1))))))), ?_⟩
  simp only [cxOf, Cx.nox, Cx.wish, L2.start, N_parts_of, List.map_cons, List.map_nil, List.length_cons, List.length_nil, List.replicate, List.cons_append, List.nil_append, Nat.reduceAdd, Nat.reduceSub]
  one_item
  refine ⟨by show 0 ≤ sizeLine; decide, fun bk H1 s1 h1 n1 => ?_⟩
  one_item
  refine ⟨by show 1 ≤ sizeLine; decide, fun wt H2 s2 h2 n2 => ?_⟩
  one_item
  have hbw : bk ≠ wt := ne_of_none h1 n2
  have nb0 : H bk = none := n1
  have nw0 : H wt = none := s1.free n2
  refine ⟨fun m σ Hh => ∃ (vp : Option V) (xs ys : List V) (ts us : List Tr), σ = [some v, some (.ref bk), some (.ref wt), vp] ∧ Same H Hh ∧ Hh bk = some (.lst ys) ∧ Hh wt = some (.lst xs) ∧ TAts H xs ts ∧ TAts H ys us ∧ sizes ts + us.length = t.size ∧ m = sizes ts ∧ posts ts ++ us.reverse = t.post, ⟨_, _, [v], [], [t], [], rfl, s1.trans s2, s2 _ _ h1, h2, .cons hT .nil, .nil, ?_, rfl, ?_⟩, ?_⟩
  · rw [sizes_one]; rfl
  · rw [posts_one]; simp
  rintro m σ Hh ⟨vp, xs, ys, ts, us, rfl, sH, hb, hw, hTs, hUs, hl, rfl, hp⟩
  one_item
  refine ⟨_, .inl ⟨_, SqL.of hw, rfl⟩, ?_⟩
  cases hxs : xs.isEmpty with
  | true =>
    refine iteF ?_
    have e0 : xs = [] := List.isEmpty_iff.mp hxs
    subst e0
    cases hTs
    one_item
    refine ⟨_, rfl, bk, ys, rfl, SqL.of hb, fun p9 H9 s9 h9 n9 => ?_⟩
    refine q p9 H9 ys.reverse (sH.trans s9) h9 (sH.free n9) ?_
    have e1 : posts [] ++ us.reverse = us.reverse := rfl
    rw [e1] at hp
    rw [← hp]
    exact hUs.reverse
  | false =>
    refine iteT ?_
    refine ⟨_, fun _ _ h => h, ?_⟩
    obtain ⟨xs', y, ts', u, rfl, rfl, hTy, hy⟩ := hTs.last (by intro z; rw [z] at hxs; cases hxs)
    one_item
    refine ⟨rd_tyL hw, rd_pop hw fun H3 x3 h3 => ?_⟩
    have hb3 := x3 _ _ hbw hb
    have s3 : Same H H3 := fun b o hb => x3 b o (fun z => by rw [z, nw0] at hb; cases hb) (sH b o hb)
    rw [sizes_append, sizes_one] at hl ⊢
    rw [posts_append, posts_one] at hp
    have hle := len_sizes ts'
    have hly := hTy.length
    have hlu := hUs.length
    have up := u.size_pos
    one_item
    refine ⟨rd_tyL hb3, ?_⟩
    one_item
    refine rd_app (K := K) hb3 (small1000 (by omega)) fun H4 x4 h4 => ?_
    have hw4 := x4 _ _ (Ne.symm hbw) h3
    have s4 : Same H H4 := fun b o hb => x4 b o (fun z => by rw [z, nb0] at hb; cases hb) (s3 b o hb)
    one_item
    cases hy with
    | leaf x =>
      refine ⟨_, _, _, true, rfl, .str x, kit_str_str K, ?_⟩
      one_item
      refine iteF ?_
      one_item
      have e1 : (Tr.leaf x).size = 1 := rfl
      refine ⟨sizes ts', by omega, _, _, _, ts', us ++ [.leaf x], rfl, s4, h4, hw4, hTy, hUs.append (.cons (.leaf x) .nil), by rw [List.length_append]; show sizes ts' + (us.length + 1) = _; omega, rfl, ?_⟩
      rw [← hp, List.reverse_append]
      simp [Tr.post]
    | @node a x y' l r e hx' hy' =>
      have e4 := s4 _ _ e
      refine ⟨_, _, _, false, rfl, .tup e4, kit_tup_str K, ?_⟩
      one_item
      refine iteT ?_
      one_item
      refine ⟨rd_tyL hw4, ?_⟩
      one_item
      have hsz : (Tr.node l r).size = l.size + r.size + 1 := rfl
      refine rd_extT hw4 (SqT.of e4) (small' (by show xs'.length + 2 ≤ 1000; omega)) fun H5 x5 h5 => ?_
      refine ⟨sizes (ts' ++ [l, r]), ?_, _, _, _, ts' ++ [l, r], us ++ [.node l r], rfl, fun b o hb => x5 b o (fun z => by rw [z, nw0] at hb; cases hb) (s4 b o hb), x5 _ _ hbw h4, h5, hTy.append (.cons hx' (.cons hy' .nil)), hUs.append (.cons (.node e hx' hy') .nil), ?_, rfl, ?_⟩
      · rw [sizes_append]
        have : sizes [l, r] = l.size + r.size := by simp [sizes]
        omega
      · rw [sizes_append, List.length_append]
        have : sizes [l, r] = l.size + r.size := by simp [sizes]
        show sizes ts' + sizes [l, r] + (us.length + 1) = _
        omega
      · rw [← hp, posts_append, posts_two, List.reverse_append]
        simp [Tr.post]
inductive EAts (H : Hp) : List V → List Ent → Prop where
  | nil : EAts H [] []
  | cons {x : V} {e : Ent} {xs : List V} {es : List Ent} : EAt H x e → EAts H xs es → EAts H (x :: xs) (e :: es)
theorem EAts.mono {H H' : Hp} (h : Tups H H') {vs : List V} {es : List Ent} (a : EAts H vs es) : EAts H' vs es := by
  induction a with
  | nil => exact .nil
  | cons e _ i => exact .cons (e.mono h) i
theorem EAts.append {H : Hp} {xs ys : List V} {es fs : List Ent} (a : EAts H xs es) (b : EAts H ys fs) : EAts H (xs ++ ys) (es ++ fs) := by
  induction a with
  | nil => exact b
  | cons e _ i => exact .cons e i
theorem EAts.length {H : Hp} {vs : List V} {es : List Ent} (a : EAts H vs es) : vs.length = es.length := by
  induction a with
  | nil => rfl
  | cons _ _ i => simp [i]
theorem EAts.get {H : Hp} : ∀ {xs : List V} {es : List Ent} {n : Nat} {x : V}, EAts H xs es → xs[n]? = some x → ∃ e, es[n]? = some e ∧ EAt H x e
  | _, _, _, _, .nil, e => by simp at e
  | _, _, 0, _, .cons h _, e => by simp at e; subst e; exact ⟨_, rfl, h⟩
  | _, _, n + 1, x, .cons _ r, e => by
    obtain ⟨t, h1, h2⟩ := EAts.get (n := n) (x := x) r (by simpa using e)
    exact ⟨t, by simpa using h1, h2⟩
def spNodes : Sp := fun vs H Q _ => ∃ (v : V) (t : Tr), vs = [v] ∧ TAt H v t ∧ t.size ≤ 900 ∧ ∀ (r : Addr) (H' : Hp) (xs : List V), Same H H' → H' r = some (.tup xs) → H r = none → EAts H' xs (t.nd 0) → Q (.ref r) H'
def natVs (l : List Nat) : List V := l.map fun (n : Nat) => V.int (n : Int)
theorem ok_nodes (n_isinstance : mg "isinstance" = none) (n_str : mg "str" = none) (n_len : mg "len" = none) (n_tuple : mg "tuple" = none) (g_parts_of : Cal P w K mg base "parts_of" 1 P_parts_of spParts) (F : Fun K "nodes" "nodes" s_nodes f fd) : FnOk P w K mg base CX0 2 f fd P_nodes spNodes := by
  refine F.ok sc_nodes (fun vs H Q E h => ?_) (fun cdv A outer s H vs Q E hr h => ?_)
  · obtain ⟨v, t, rfl, _⟩ := h; rfl
  obtain ⟨v, t, rfl, hT, hz, q⟩ := h
  refine ⟨_, (pss_cons (ps_set (i := 1) sc_nodes.nd rfl (Or.inl rfl) (pe_lstN pa_nil))
    (pss_cons (ps_set (i := 2) sc_nodes.nd rfl (Or.inl rfl) (pe_lstN pa_nil))
    (pss_cons (ps_for PassesOwn.never rfl (pi_listk K rfl (pe_cal g_parts_of hr (by omega) rfl (pa_cons (pv 0) pa_nil))) (pg_name (i := 3) sc_nodes.nd rfl (Or.inl rfl)) (pss_cons (ps_if (pt_val (pe_callB (call_isik K rfl) rfl n_isinstance boot_isinstance (pa_cons (pv 3) (pa_cons (pe_bltn (v := .ty "str") rfl n_str boot_str rfl) pa_nil)))) (pss_one (ps_expr (pe_bmk K rfl PySem.F.plainAttrs_list PySem.F.slot_list_append PySem.F.type_list_append mt_appendN (pv 1) (pa_cons (pv 3) pa_nil)))) (pss_cons (ps_set (i := 4) sc_nodes.nd rfl (Or.inl rfl) (pe_bm0k K rfl PySem.F.plainAttrs_list PySem.F.slot_list_pop PySem.F.type_list_pop mt_popN (pv 2)))
    (pss_cons (ps_set (i := 5) sc_nodes.nd rfl (Or.inl rfl) (pe_bm0k K rfl PySem.F.plainAttrs_list PySem.F.slot_list_pop PySem.F.type_list_pop mt_popN (pv 2)))
    (pss_one (ps_expr (pe_bmk K rfl PySem.F.plainAttrs_list PySem.F.slot_list_append PySem.F.type_list_append mt_appendN (pv 1) (pa_cons (pe_tupN (pa_cons (pv 5) (pa_cons (pv 4) pa_nil))) pa_nil)))))))
    (pss_one (ps_expr (pe_bmk K rfl PySem.F.plainAttrs_list PySem.F.slot_list_append PySem.F.type_list_append mt_appendN (pv 2) (pa_cons (pe_op op_sub (pe_callB (call_lenk K rfl) rfl n_len boot_len (pa_cons (pv 1) pa_nil)) pe_int) pa_nil))))))
    (pss_one (ps_ret (pe_callTy (call_tuplek K rfl) rfl n_tuple boot_tuple (pa_cons (pv 1) pa_nil))))))), ?_⟩
  simp only [cxOf, Cx.nox, Cx.wish, L2.start, N_nodes, List.map_cons, List.map_nil, List.length_cons, List.length_nil, List.replicate, List.cons_append, List.nil_append, Nat.reduceAdd, Nat.reduceSub]
  one_item
  refine ⟨by show 0 ≤ sizeLine; decide, fun td H1 s1 h1 n1 => ?_⟩
  one_item
  refine ⟨by show 0 ≤ sizeLine; decide, fun lo H2 s2 h2 n2 => ?_⟩
  one_item
  have htl : td ≠ lo := ne_of_none h1 n2
  have nt0 : H td = none := n1
  have nl0 : H lo = none := s1.free n2
  refine ⟨v, t, rfl, hT.mono (s1.trans s2).tups, hz, fun r3 H3 xs s3 h3 n3 hX => ?_⟩
  have rt : r3 ≠ td := (ne_of_none (s2 _ _ h1) n3).symm
  have rl : r3 ≠ lo := (ne_of_none h2 n3).symm
  have plen := t.post_len
  have xlen := hX.length
  refine ⟨r3, rfl, ⟨_, SqL.of h3⟩, ?_⟩
  refine forL_by (xs := xs) (fun i σ Hh => ∃ (vp vo vn : Option V) (es : List V) (told : List Ent) (ls : List Nat), σ = [some v, some (.ref td), some (.ref lo), vp, vo, vn] ∧ Same H Hh ∧ Hh r3 = some (.lst xs) ∧ TAts Hh xs t.post ∧ Hh td = some (.lst es) ∧ EAts Hh es told ∧ Hh lo = some (.lst (natVs ls.reverse)) ∧ run (t.post.drop i) told ls = some (t.nd 0, [t.size - 1]) ∧ told.length = i ∧ ls.length ≤ i) ?_ (fun i σ Hh _ h => by obtain ⟨_, _, _, _, _, _, _, _, h, _⟩ := h; exact SqL.of h) ?_ ?_
  · exact ⟨_, _, _, [], [], [], rfl, (s1.trans s2).trans s3, h3, hX.mono s3.tups, s3 _ _ (s2 _ _ h1), .nil, s3 _ _ h2, run_whole t, rfl, Nat.le_refl _⟩
  · rintro i x σ Hh hx ⟨vp, vo, vn, es, told, ls, rfl, sH, hr3, hXs, htd, hE, hlo, hrun, hl, hls⟩
    obtain ⟨u, hu, hTu⟩ := hXs.get hx
    have hi : i < t.post.length := (List.getElem?_eq_some_iff.mp hu).1
    have hdr : t.post.drop i = u :: t.post.drop (i + 1) := by
      rw [List.drop_eq_getElem_cons hi]
      rw [List.getElem?_eq_getElem hi] at hu
      rw [Option.some.inj hu]
    rw [hdr] at hrun
    have hEl := hE.length
    one_item
    cases hTu with
    | leaf y =>
      refine ⟨_, _, _, true, rfl, .str y, kit_str_str K, ?_⟩
      one_item
      refine iteT ?_
      one_item
      refine ⟨rd_tyL htd, ?_⟩
      one_item
      refine rd_app (K := K) htd (small1000 (by omega)) fun H4 x4 h4 => ?_
      have hlo4 := x4 _ _ (Ne.symm htl) hlo
      have t4 : Tups Hh H4 := x4.tups htd
      one_item
      refine ⟨rd_tyL hlo4, ?_⟩
      one_item
      refine ⟨_, _, rfl, .inl ⟨_, SqL.of h4, rfl⟩, ?_⟩
      one_item
      have en : (((es ++ [V.str y]).length : Nat) : Int) - 1 = (told.length : Int) := by rw [List.length_append, hEl]; show ((told.length + 1 : Nat) : Int) - 1 = _; omega
      refine rd_app (K := K) hlo4 (small1000 (by show (List.map _ _).length ≤ _; rw [List.length_map, List.length_reverse]; omega)) fun H5 x5 h5 => ?_
      rw [en] at h5
      have t5 : Tups H4 H5 := x5.tups hlo4
      refine ⟨_, _, _, es ++ [.str y], told ++ [.word y], told.length :: ls, rfl, fun b o hb => x5 b o (fun z => by rw [z, nl0] at hb; cases hb) (x4 b o (fun z => by rw [z, nt0] at hb; cases hb) (sH b o hb)), x5 _ _ rl (x4 _ _ rt hr3), hXs.mono (t4.trans t5), x5 _ _ htl h4, (hE.mono (t4.trans t5)).append (.cons (.word y) .nil), ?_, (show run (t.post.drop (i + 1)) (told ++ [.word y]) (told.length :: ls) = some (t.nd 0, [t.size - 1]) from hrun), by rw [List.length_append, hl]; rfl, by rw [List.length_cons]; omega⟩
      rw [h5, List.reverse_cons]
      unfold natVs
      rw [List.map_append]
      rfl
    | @node a y y' l r e hy hy' =>
      refine ⟨_, _, _, false, rfl, .tup e, kit_tup_str K, ?_⟩
      one_item
      refine iteF ?_
      obtain ⟨b2, a2, ls', rfl⟩ : ∃ b2 a2 ls', ls = b2 :: a2 :: ls' := by
        match ls, hrun with
        | b2 :: a2 :: ls', _ => exact ⟨b2, a2, ls', rfl⟩
        | [], h => cases h
        | [_], h => cases h
      have hrun' : run (t.post.drop (i + 1)) (told ++ [.pair a2 b2]) (told.length :: ls') = some (t.nd 0, [t.size - 1]) := hrun
      have el : natVs (b2 :: a2 :: ls').reverse = (natVs ls'.reverse ++ [V.int a2]) ++ [V.int b2] := by
        unfold natVs
        rw [List.reverse_cons, List.reverse_cons, List.map_append, List.map_append]
        rfl
      rw [el] at hlo
      rw [List.length_cons, List.length_cons] at hls
      one_item
      refine ⟨rd_tyL hlo, rd_pop hlo fun H4 x4 h4 => ?_⟩
      one_item
      refine ⟨rd_tyL h4, rd_pop h4 fun H5 x5 h5 => ?_⟩
      have t4 : Tups Hh H4 := x4.tups hlo
      have t5 : Tups H4 H5 := x5.tups h4
      have htd5 := x5 _ _ htl (x4 _ _ htl htd)
      one_item
      refine ⟨rd_tyL htd5, ?_⟩
      one_item
      refine ⟨by show 2 ≤ sizeLine; decide, fun p6 H6 s6 h6 n6 => ?_⟩
      one_item
      have htd6 := s6 _ _ htd5
      have hlo6 := s6 _ _ h5
      refine rd_app (K := K) htd6 (small1000 (by omega)) fun H7 x7 h7 => ?_
      have t7 : Tups H6 H7 := x7.tups htd6
      have hlo7 := x7 _ _ (Ne.symm htl) hlo6
      one_item
      refine ⟨rd_tyL hlo7, ?_⟩
      one_item
      refine ⟨_, _, rfl, .inl ⟨_, SqL.of h7, rfl⟩, ?_⟩
      one_item
      have en : (((es ++ [V.ref p6]).length : Nat) : Int) - 1 = (told.length : Int) := by rw [List.length_append, hEl]; show ((told.length + 1 : Nat) : Int) - 1 = _; omega
      refine rd_app (K := K) hlo7 (small1000 (by show (List.map _ _).length ≤ _; rw [List.length_map, List.length_reverse]; omega)) fun H8 x8 h8 => ?_
      rw [en] at h8
      have t8 : Tups H7 H8 := x8.tups hlo7
      have tA : Tups Hh H8 := (((t4.trans t5).trans s6.tups).trans t7).trans t8
      refine ⟨_, _, _, es ++ [.ref p6], told ++ [.pair a2 b2], told.length :: ls', rfl, fun b o hb => x8 b o (fun z => by rw [z, nl0] at hb; cases hb) (x7 b o (fun z => by rw [z, nt0] at hb; cases hb) (s6 b o (x5 b o (fun z => by rw [z, nl0] at hb; cases hb) (x4 b o (fun z => by rw [z, nl0] at hb; cases hb) (sH b o hb))))), x8 _ _ rl (x7 _ _ rt (s6 _ _ (x5 _ _ rl (x4 _ _ rl hr3)))), hXs.mono tA, x8 _ _ htl h7, (hE.mono tA).append (.cons (.pair ((t7.trans t8) _ _ h6)) .nil), ?_, hrun', by rw [List.length_append, hl]; rfl, by rw [List.length_cons]; omega⟩
      rw [h8, List.reverse_cons]
      unfold natVs
      rw [List.map_append]
      rfl
  · rintro σ Hh ⟨vp, vo, vn, es, told, ls, rfl, sH, hr3, hXs, htd, hE, hlo, hrun, hl, hls⟩
    one_item
    refine ⟨td, es, rfl, SqL.of htd, fun p9 H9 s9 h9 n9 => ?_⟩
    rw [List.drop_of_length_le (by omega)] at hrun
    have e1 : told = t.nd 0 := by
      have : some (told, ls) = some (t.nd 0, [t.size - 1]) := hrun
      injection this with this
      injection this
    rw [e1] at hE
    exact q p9 H9 es (sH.trans s9) h9 (sH.free n9) (hE.mono s9.tups)

end
end My

set_option Elab.async false
set_option linter.all false
set_option maxRecDepth 100000
set_option maxHeartbeats 400000
namespace My
open PySem PySem.Spec PyProof.Rows L2
local macro_rules | `(tactic| one_sign) => `(tactic| ((try dsimp only); first
  | with_reducible refine rd_seq ?_
  | with_reducible refine rd_asg ?_
  | with_reducible refine rd_name ?_
  | ((with_reducible refine rd_var (v := ?rdV) ?rdE ?_); case rdE => exact rfl)
  | with_reducible refine rd_c ?_
  | with_reducible refine rd_op ?_
  | with_reducible refine rd_un ?_
  | with_reducible refine rd_I0 ?_
  | ((with_reducible refine rd_I ?rdC ?_); try (case rdC => first | omega | exact ⟨by omega, by omega⟩ | exact mul_l (by omega) (by omega) | exact mul_r (by omega) (by omega) | exact ⟨by decide, by decide, by decide⟩))
  | with_reducible refine rd_addI ?_
  | with_reducible refine rd_ret ?_
  | with_reducible refine rd_drop ?_
  | with_reducible refine rd_ifs ?_
  | with_reducible refine rd_test ?_
  | with_reducible refine rd_tB ?_
  | with_reducible refine rd_and ?_
  | with_reducible refine rd_or ?_
  | with_reducible refine rd_not ?_
  | with_reducible refine rd_andV ?_
  | with_reducible refine rd_orV ?_
  | with_reducible refine rd_notV ?_
  | with_reducible refine rd_if ?_
  | with_reducible refine rd_nil ?_
  | with_reducible refine rd_cons ?_
  | with_reducible refine rd_tup ?_
  | with_reducible refine rd_lst ?_
  | with_reducible refine rd_dict ?_
  | with_reducible refine rd_cb ?_
  | with_reducible refine rd_cal ?_
  | with_reducible refine rd_for ?_
  | with_reducible refine rd_bl ?_
  | with_reducible refine rd_bm0 ?_
  | with_reducible refine rd_bm ?_
  | with_reducible refine rd_sub ?_
  | with_reducible refine rd_chain ?_
  | with_reducible refine rd_next ?_
  | with_reducible refine rd_par ?_
  | with_reducible refine rd_rng1 ?_
  | with_reducible refine rd_rng2 ?_
  | with_reducible refine rd_ilist ?_
  | with_reducible refine rd_itup ?_
  | with_reducible refine rd_istr ?_
  | with_reducible refine rd_sl ?_
  | with_reducible refine rd_part ?_
  | with_reducible refine rd_nopart ?_
  | with_reducible refine rd_slice ?_
  | with_reducible refine rd_calv ?_
  | with_reducible refine rd_lc ?_
  | with_reducible refine rd_tru ?_
  | with_reducible refine rd_izip ?_
  | with_reducible refine rd_ienum ?_
  | with_reducible refine rd_ienumL ?_
  | with_reducible refine rd_rng3 ?_
  | with_reducible refine rd_augS ?_
  | with_reducible refine rd_dget ?_
  | with_reducible refine rd_all ?_))
local macro_rules | `(tactic| one_item) => `(tactic| repeat (one_sign))

section
variable {P : Program} {w : World} {K : PySem.W.Frag} {mg : Str → Option Value} {base : Heap} {f : Addr} {fd : FuncData}
theorem forE_by {K : PySem.W.Frag} {a : Addr} {xs : List V} {i j : Nat} {tb : TS} {D : Ends} {σ : L2.St} {H : Hp} (Pv : Nat → L2.St → Hp → Prop) (h0 : Pv 0 σ H) (hl : ∀ k σ H, k ≤ xs.length → Pv k σ H → SqT K H a xs)
    (hs : ∀ (k : Nat) x σ H H', xs[k]? = some x → Pv k σ H → Same H H' → tb { D with nx := Pv (k + 1), ct := Pv (k + 1), bk := D.nx } ((σ.set i (some (.int k))).set j (some x)) H') (hd : ∀ σ H, Pv xs.length σ H → D.nx σ H) :
    ForJ (Ite K a) (gTup K 2 (gCons (gName i) (gCons (gName j) gNil))) tb D σ H := by
  refine ⟨fun k m σ H => m = xs.length - k ∧ k ≤ xs.length ∧ Pv k σ H, ⟨xs.length, by simp, Nat.zero_le _, h0⟩, ?_⟩
  rintro k m σ H ⟨rfl, hi, p⟩
  have q := hl k σ H hi p
  by_cases hlt : k < xs.length
  · refine .inr ⟨⟨xs, xs[k], q, by simp [hlt]⟩, Pv (k + 1), fun σ' H' p' => ⟨xs.length - (k + 1), by omega, rfl, hlt, p'⟩, fun x H' y => ?_⟩
    obtain ⟨pa, x0, rfl, hp, rfl, hx⟩ := y
    exact ⟨pa, _, rfl, SqT.of upd_same, rfl, _, _, rfl, _, _, rfl, rfl, hs k x0 σ H _ (hx xs q) p (same_new hp _)⟩
  · have e : k = xs.length := by omega
    subst e
    exact .inl ⟨⟨xs, q, Nat.le_refl _⟩, hd _ _ p⟩
def spHalves : Sp := fun vs H Q _ => ∃ (v : V) (e : Ent), vs = [v] ∧ EAt H v e ∧ ((∃ x, e = .word x) → newO H (.tup []) Q) ∧ ((∃ a b, e = .pair a b) → Q v H)
theorem ok_halves (n_isinstance : mg "isinstance" = none) (n_str : mg "str" = none) (F : Fun K "halves" "halves" s_halves f fd) : FnOk P w K mg base CX0 1 f fd P_halves spHalves := by
  refine F.ok sc_halves (fun vs H Q E h => ?_) (fun cdv A outer s H vs Q E hr h => ?_)
  · obtain ⟨v, e, rfl, _⟩ := h; rfl
  obtain ⟨v, e, rfl, hE, q1, q2⟩ := h
  refine ⟨_, (pss_one (ps_ret (pe_ifExp (pt_val (pe_callB (call_isik K rfl) rfl n_isinstance boot_isinstance (pa_cons (pv 0) (pa_cons (pe_bltn (v := .ty "str") rfl n_str boot_str rfl) pa_nil)))) (pe_tupN pa_nil) (pv 0)))), ?_⟩
  simp only [cxOf, Cx.nox, Cx.wish, L2.start, N_halves, List.map_cons, List.map_nil, List.length_cons, List.length_nil, List.replicate, List.cons_append, List.nil_append, Nat.reduceAdd, Nat.reduceSub]
  one_item
  cases hE with
  | word x =>
    refine ⟨_, _, _, true, rfl, .str x, kit_str_str K, ?_⟩
    one_item
    refine iteT ?_
    one_item
    exact ⟨by show 0 ≤ sizeLine; decide, q1 ⟨x, rfl⟩⟩
  | pair e =>
    refine ⟨_, _, _, false, rfl, .tup e, kit_tup_str K, ?_⟩
    one_item
    refine iteF ?_
    one_item
    exact q2 ⟨_, _, rfl⟩
def spAhead : Sp := fun vs H Q _ => ∃ (v : V) (t : Tr), vs = [v] ∧ TAt H v t ∧ t.size ≤ 400 ∧ ∀ (r : Addr) (H' : Hp), Same H H' → H' r = some (.tup (ah (t.nd 0) 0 (List.replicate t.size .non))) → Q (.ref r) H'
theorem ixN_nat {n k : Nat} (h : k < n) : ixN n (k : Int) = some k := by
  unfold ixN
  rw [if_pos (by omega), if_pos (by omega)]
  simp
theorem ok_ahead (n_tuple : mg "tuple" = none) (n_enumerate : mg "enumerate" = none) (g_nodes : Cal P w K mg base "nodes" 2 P_nodes spNodes) (g_halves : Cal P w K mg base "halves" 1 P_halves spHalves) (F : Fun K "ahead_of" "ahead_of" s_ahead_of f fd) : FnOk P w K mg base CX0 3 f fd P_ahead_of spAhead := by
  refine F.ok sc_ahead_of (fun vs H Q E h => ?_) (fun cdv A outer s H vs Q E hr h => ?_)
  · obtain ⟨v, t, rfl, _⟩ := h; rfl
  obtain ⟨v, t, rfl, hT, hz, q⟩ := h
  refine ⟨_, (pss_cons (ps_set (i := 1) sc_ahead_of.nd rfl (Or.inl rfl) (pe_cal g_nodes hr (by omega) rfl (pa_cons (pv 0) pa_nil)))
    (pss_cons (ps_setlc (i := 3) rfl sc_ahead_of.nd rfl rfl lc_ahead_of_0 (pi_tupk K rfl (pv 1)) (fun _ _ _ _ _ => (pg_name (i := 0) lc_ahead_of_0.nd rfl (Or.inl rfl))) (fun _ _ _ _ _ => pfs_nil) (fun _ _ _ _ _ => pe_non))
    (pss_cons (ps_for PassesOwn.never rfl (pi_enum K rfl rfl n_enumerate (pv 1)) (pg_tup rfl (pgs_cons (pg_name (i := 4) sc_ahead_of.nd rfl (Or.inl rfl)) (pgs_cons (pg_name (i := 2) sc_ahead_of.nd rfl (Or.inl rfl)) pgs_nil))) (pss_one (ps_for PassesOwn.never rfl (pi_tupk K rfl (pe_cal g_halves hr (by omega) rfl (pa_cons (pv 2) pa_nil))) (pg_name (i := 5) sc_ahead_of.nd rfl (Or.inl rfl)) (pss_one (ps_asg (pv 4) (pg_sub (pv 3) (pv 5) set_listN))))))
    (pss_one (ps_ret (pe_callTy (call_tuplek K rfl) rfl n_tuple boot_tuple (pa_cons (pv 3) pa_nil))))))), ?_⟩
  simp only [cxOf, Cx.nox, Cx.wish, L2.start, N_ahead_of, List.map_cons, List.map_nil, List.length_cons, List.length_nil, List.replicate, List.cons_append, List.nil_append, Nat.reduceAdd, Nat.reduceSub]
  one_item
  refine ⟨v, t, rfl, hT, by omega, fun r1 H1 es s1 h1 n1 hE => ?_⟩
  have elen := hE.length
  have nlen := t.nd_len 0
  have plen := t.post_len
  one_item
  refine ⟨r1, rfl, ⟨_, SqT.of h1⟩, ?_⟩
  refine lc_by t.size (fun i σ' ys Hq D => (∃ o, σ' = [o]) ∧ Same H1 Hq ∧ Hq D = some (.lst ys) ∧ ys = List.replicate i .non ∧ H1 D = none) ?_ ?_ ?_ ?_
  · exact fun D Hq sq hq nq => ⟨⟨_, rfl⟩, sq, hq, rfl, nq⟩
  · exact fun i σ' ys Hq D h => h.2.2.1
  · rintro σ' ys Hq D ⟨⟨o, rfl⟩, sq, hq, rfl, nq⟩
    refine ⟨⟨_, SqT.of (sq _ _ h1), by omega⟩, ?_⟩
    have nD0 : H D = none := s1.free nq
    have neD : r1 ≠ D := ne_of_none h1 nq
    one_item
    refine ⟨r1, rfl, ⟨_, SqT.of (sq _ _ h1)⟩, ?_⟩
    refine forE_by (xs := es) (fun k σ Hh => ∃ (o2 o4 o5 : Option V), σ = [some v, some (.ref r1), o2, some (.ref D), o4, o5] ∧ Same H Hh ∧ Hh r1 = some (.tup es) ∧ EAts Hh es (t.nd 0) ∧ Hh D = some (.lst (ah ((t.nd 0).take k) 0 (List.replicate t.size .non)))) ?_ (fun k σ Hh _ h => by obtain ⟨_, _, _, _, _, h, _⟩ := h; exact SqT.of h) ?_ ?_
    · exact ⟨_, _, _, rfl, s1.trans sq, sq _ _ h1, hE.mono sq.tups, hq⟩
    · rintro k x σ Hh Hh' gx ⟨o2, o4, o5, rfl, sH, hr1, hEs, hD⟩ sN
      have hk : k < es.length := (List.getElem?_eq_some_iff.mp gx).1
      obtain ⟨en, hen, hEn⟩ := hEs.get gx
      have hkp : k < t.post.length := by omega
      have na := nd_at t 0 k _ (List.getElem?_eq_getElem hkp)
      have snoc : ah ((t.nd 0).take (k + 1)) 0 (List.replicate t.size .non) = ahS (ah ((t.nd 0).take k) 0 (List.replicate t.size .non)) k en := by
        rw [List.take_add_one, hen]
        show ah ((t.nd 0).take k ++ [en]) 0 _ = _
        rw [ah_snoc, List.length_take]
        congr 1
        omega
      have alen : (ah ((t.nd 0).take k) 0 (List.replicate t.size V.non)).length = t.size := by rw [ah_len, List.length_replicate]
      have hEn' := hEn.mono sN.tups
      have hD' := sN _ _ hD
      one_item
      cases hEn' with
      | word y =>
        refine ⟨_, .word y, rfl, .word y, fun _ p2 H2 s2 h2 n2 => ?_, fun ⟨_, _, z⟩ => (by cases z)⟩
        refine ⟨p2, rfl, ⟨_, SqT.of h2⟩, ?_⟩
        refine forT_by (xs := []) (fun i σ Hx => (∃ o2 o4 o5 : Option V, σ = [some v, some (.ref r1), o2, some (.ref D), o4, o5]) ∧ Hx = H2) ⟨⟨_, _, _, rfl⟩, rfl⟩ (fun i σ Hx _ h => by rw [h.2]; exact SqT.of h2) ?_ ?_
        · intro i x σ Hx gx' _
          simp at gx'
        · rintro σ Hx ⟨⟨o2, o4, o5, rfl⟩, rfl⟩
          have S := sN.trans s2
          exact ⟨_, _, _, rfl, sH.trans S, S _ _ hr1, hEs.mono S.tups, by rw [S _ _ hD, snoc]; rfl⟩
      | @pair pa a b e =>
        generalize t.post[k] = u at na
        obtain ⟨a', b', rfl, rfl, la, lb⟩ : ∃ a' b', a = 0 + a' ∧ b = 0 + b' ∧ a' < k ∧ b' < k := by
          cases u with
          | leaf y => have na' : (t.nd 0)[k]? = some (.word y) := na; rw [na'] at hen; cases hen
          | node l r => obtain ⟨a', b', q1, q2, q3, _⟩ := na; rw [q1] at hen; cases hen; exact ⟨a', b', rfl, rfl, q2, q3⟩
        refine ⟨_, .pair (0 + a') (0 + b'), rfl, .pair e, fun ⟨_, z⟩ => (by cases z), fun _ => ?_⟩
        refine ⟨pa, rfl, ⟨_, SqT.of e⟩, ?_⟩
        have neD' : pa ≠ D := ne_of e hD' (by intro z; cases z)
        have l0 : 0 + a' < (ah ((t.nd 0).take k) 0 (List.replicate t.size V.non)).length := by rw [alen]; omega
        have l1 : 0 + b' < ((ah ((t.nd 0).take k) 0 (List.replicate t.size V.non)).set (0 + a') (.int (k : Int))).length := by rw [List.length_set, alen]; omega
        refine forT_by (xs := [V.int ((0 + a' : Nat) : Int), V.int ((0 + b' : Nat) : Int)]) (fun i σ Hx => (∃ o5 : Option V, σ = [some v, some (.ref r1), some (.ref pa), some (.ref D), some (.int (k : Int)), o5]) ∧ SameX D Hh' Hx ∧ Hx D = some (.lst (match i with
          | 0 => ah ((t.nd 0).take k) 0 (List.replicate t.size .non)
          | 1 => (ah ((t.nd 0).take k) 0 (List.replicate t.size .non)).set (0 + a') (.int (k : Int))
          | _ => ((ah ((t.nd 0).take k) 0 (List.replicate t.size .non)).set (0 + a') (.int (k : Int))).set (0 + b') (.int (k : Int))))) ⟨⟨_, rfl⟩, fun _ _ _ q => q, hD'⟩ (fun i σ Hx _ h => SqT.of (h.2.1 _ _ neD' e)) ?_ ?_
        · rintro i x σ Hx gx' ⟨⟨o5, rfl⟩, sx, hx⟩
          match i, gx', hx with
          | 0, gx', hx =>
            cases gx'
            one_item
            refine rd_setL (j := 0 + a') hx (ixN_nat l0) fun H6 x6 h6 => ?_
            exact ⟨⟨_, rfl⟩, sx.trans x6, h6⟩
          | 1, gx', hx =>
            cases gx'
            one_item
            refine rd_setL (j := 0 + b') hx (ixN_nat l1) fun H6 x6 h6 => ?_
            exact ⟨⟨_, rfl⟩, sx.trans x6, h6⟩
          | i + 2, gx', hx => simp at gx'
        · rintro σ Hx ⟨⟨o5, rfl⟩, sx, hx⟩
          have tX : Tups Hh' Hx := sx.tups hD'
          exact ⟨_, _, _, rfl, fun b o hb => sx b o (fun z => by rw [z, nD0] at hb; cases hb) ((sH.trans sN) b o hb), sx _ _ neD (sN _ _ hr1), hEs.mono (sN.tups.trans tX), by rw [hx, snoc]; rfl⟩
    · rintro σ Hh ⟨o2, o4, o5, rfl, sH, hr1, hEs, hD⟩
      one_item
      refine ⟨D, _, rfl, SqL.of hD, fun p9 H9 s9 h9 n9 => ?_⟩
      rw [List.take_of_length_le (by omega)] at h9
      exact q p9 H9 (sH.trans s9) h9
  · rintro i σ' ys Hq D hi ⟨⟨o, rfl⟩, sq, hq, rfl, nq⟩
    have hr1 := sq _ _ h1
    have hi' : i < es.length := by omega
    refine ⟨⟨_, _, SqT.of hr1, List.getElem?_eq_getElem hi'⟩, ?_⟩
    rintro x' H' ⟨rfl, hx⟩
    one_item
    refine iteT ?_
    one_item
    refine LcEnd.mk hi hq (small' (by rw [List.length_replicate]; omega)) fun H9 x9 h9 => ?_
    exact ⟨⟨_, rfl⟩, fun b u hb => x9 b u (fun z => by rw [z, nq] at hb; cases hb) (sq b u hb), h9, by rw [List.replicate_succ'], nq⟩

end
end My

set_option Elab.async false
set_option linter.all false
set_option maxRecDepth 100000
set_option maxHeartbeats 400000
namespace My
open PySem PySem.Spec PyProof.Rows L2
local macro_rules | `(tactic| one_sign) => `(tactic| ((try dsimp only); first
  | with_reducible refine rd_seq ?_
  | with_reducible refine rd_asg ?_
  | with_reducible refine rd_name ?_
  | ((with_reducible refine rd_var (v := ?rdV) ?rdE ?_); case rdE => exact rfl)
  | with_reducible refine rd_c ?_
  | with_reducible refine rd_op ?_
  | with_reducible refine rd_un ?_
  | with_reducible refine rd_I0 ?_
  | ((with_reducible refine rd_I ?rdC ?_); try (case rdC => first | omega | exact ⟨by omega, by omega⟩ | exact mul_l (by omega) (by omega) | exact mul_r (by omega) (by omega) | exact ⟨by decide, by decide, by decide⟩))
  | with_reducible refine rd_addI ?_
  | with_reducible refine rd_ret ?_
  | with_reducible refine rd_drop ?_
  | with_reducible refine rd_ifs ?_
  | with_reducible refine rd_test ?_
  | with_reducible refine rd_tB ?_
  | with_reducible refine rd_and ?_
  | with_reducible refine rd_or ?_
  | with_reducible refine rd_not ?_
  | with_reducible refine rd_andV ?_
  | with_reducible refine rd_orV ?_
  | with_reducible refine rd_notV ?_
  | with_reducible refine rd_if ?_
  | with_reducible refine rd_nil ?_
  | with_reducible refine rd_cons ?_
  | with_reducible refine rd_tup ?_
  | with_reducible refine rd_lst ?_
  | with_reducible refine rd_dict ?_
  | with_reducible refine rd_cb ?_
  | with_reducible refine rd_cal ?_
  | with_reducible refine rd_for ?_
  | with_reducible refine rd_bl ?_
  | with_reducible refine rd_bm0 ?_
  | with_reducible refine rd_bm ?_
  | with_reducible refine rd_sub ?_
  | with_reducible refine rd_chain ?_
  | with_reducible refine rd_next ?_
  | with_reducible refine rd_par ?_
  | with_reducible refine rd_rng1 ?_
  | with_reducible refine rd_rng2 ?_
  | with_reducible refine rd_ilist ?_
  | with_reducible refine rd_itup ?_
  | with_reducible refine rd_istr ?_
  | with_reducible refine rd_sl ?_
  | with_reducible refine rd_part ?_
  | with_reducible refine rd_nopart ?_
  | with_reducible refine rd_slice ?_
  | with_reducible refine rd_calv ?_
  | with_reducible refine rd_lc ?_
  | with_reducible refine rd_tru ?_
  | with_reducible refine rd_izip ?_
  | with_reducible refine rd_ienum ?_
  | with_reducible refine rd_ienumL ?_
  | with_reducible refine rd_rng3 ?_
  | with_reducible refine rd_augS ?_
  | with_reducible refine rd_dget ?_
  | with_reducible refine rd_all ?_))
local macro_rules | `(tactic| one_item) => `(tactic| repeat (one_sign))

section
variable {P : Program} {w : World} {K : PySem.W.Frag} {mg : Str → Option Value} {base : Heap} {f : Addr} {fd : FuncData}
theorem kit_int_int (K : PySem.W.Frag) : PySem.W.kitOne K (.type "int") (.type "int") = some true := rfl
theorem kit_int_bl (K : PySem.W.Frag) : PySem.W.kitOne K (.type "int") (.type "bool") = some false := by kernel_rfl
theorem rd_two {K : PySem.W.Frag} {a : Addr} {x y : V} {i j : Nat} {σ : L2.St} {H : Hp} {QS : L2.St → Hp → Prop} (h : SqT K H a [x, y]) (q : QS ((σ.set i (some x)).set j (some y)) H) : gTup K 2 (gCons (gName i) (gCons (gName j) gNil)) (.ref a) σ H QS :=
  ⟨a, _, rfl, h, rfl, x, [y], rfl, y, [], rfl, rfl, q⟩
theorem all_true (n : Nat) : (List.replicate n true).all id = true := by
  rw [List.all_eq_true]
  intro b hb
  exact (List.mem_replicate.mp hb).2
def spSameV (n : Nat) : Sp := fun vs H Q _ => ∃ (v v' : V), vs = [v, v'] ∧ Vq H n v v' ∧ ∀ H', Same H H' → Q (.bl true) H'
def spF : Sp := fun _ _ _ _ => False
theorem sameV_none : FnOk P w K mg base CX0 0 f fd P__law_same spF :=
  ⟨fun vs H Q E h => h.elim, fun A outer s H args us vs Q E _ _ _ _ h => h.elim⟩
theorem sameV_0 (n_isinstance : mg "isinstance" = none) (n_str : mg "str" = none) (n_tuple : mg "tuple" = none) (n_int : mg "int" = none) (n_bool : mg "bool" = none) (n_len : mg "len" = none) (n_all : mg "all" = none) (n_zip : mg "zip" = none) (g__law_same : Cal P w K mg base "_law_same" 0 P__law_same spF) (F : Fun K "_law_same" "_law_same" s__law_same f fd) : FnOk P w K mg base CX0 1 f fd P__law_same (spSameV 0) := by
  refine F.ok sc__law_same (fun vs H Q E h => ?_) (fun cdv A outer s H vs Q E hr h => ?_)
  · obtain ⟨v, v', rfl, _⟩ := h; rfl
  obtain ⟨v, v', rfl, hV, q⟩ := h
  refine ⟨_, (pss_cons (ps_if (pt_val (pe_callB (call_isik K rfl) rfl n_isinstance boot_isinstance (pa_cons (pv 1) (pa_cons (pe_bltn (v := .ty "tuple") rfl n_tuple boot_tuple rfl) pa_nil)))) (pss_cons (ps_if (PW.pt (pw_or (pt_not (pt_val (pe_callB (call_isik K rfl) rfl n_isinstance boot_isinstance (pa_cons (pv 0) (pa_cons (pe_bltn (v := .ty "tuple") rfl n_tuple boot_tuple rfl) pa_nil))))) (pw_or1 (pt_cmpR op_ne (pe_callB (call_lenk K rfl) rfl n_len boot_len (pa_cons (pv 0) pa_nil)) (pe_callB (call_lenk K rfl) rfl n_len boot_len (pa_cons (pv 1) pa_nil)) (nomark _))))) (pss_one (ps_ret pe_bl)) pss_nil)
    (pss_one (ps_ret (pe_callB (call_allk K rfl rfl) rfl n_all boot_all (pa_cons (pe_lc rfl lc__law_same_0 (pi_zip K rfl rfl n_zip (pv 0) (pv 1)) (fun _ _ _ _ _ => (pg_tup2k K rfl rfl (pg_name (i := 0) lc__law_same_0.nd rfl (Or.inl rfl) (Or.inr rfl)) (pg_name (i := 1) lc__law_same_0.nd rfl (Or.inl rfl) (Or.inr rfl)))) (fun _ _ _ _ _ => pfs_nil) (fun _ _ _ _ _ => (pe_cal g__law_same hr (by omega) rfl (pa_cons (pv 0) (pa_cons (pv 1) pa_nil))))) pa_nil))))) pss_nil)
    (pss_cons (ps_if (PW.pt (pw_or (pt_val (pe_callB (call_isik K rfl) rfl n_isinstance boot_isinstance (pa_cons (pv 1) (pa_cons (pe_bltn (v := .ty "str") rfl n_str boot_str rfl) pa_nil)))) (pw_or1 (pt_cmpR op_isN (pv 1) pe_non (nomark _))))) (pss_one (ps_ret (pe_and (pe_cmpR op_eq (pe_callB (call_isik K rfl) rfl n_isinstance boot_isinstance (pa_cons (pv 0) (pa_cons (pe_bltn (v := .ty "str") rfl n_str boot_str rfl) pa_nil))) (pe_callB (call_isik K rfl) rfl n_isinstance boot_isinstance (pa_cons (pv 1) (pa_cons (pe_bltn (v := .ty "str") rfl n_str boot_str rfl) pa_nil))) (nomark _)) (pe_one (pe_cmpR op_eq (pv 0) (pv 1) (nomark _)))))) pss_nil)
    (pss_one (ps_ret (pe_and (pe_callB (call_isik K rfl) rfl n_isinstance boot_isinstance (pa_cons (pv 0) (pa_cons (pe_bltn (v := .ty "int") rfl n_int boot_int rfl) pa_nil))) (pe_and (pe_not (pe_callB (call_isik K rfl) rfl n_isinstance boot_isinstance (pa_cons (pv 0) (pa_cons (pe_bltn (v := .ty "bool") rfl n_bool boot_bool rfl) pa_nil)))) (pe_one (pe_cmpR op_eq (pv 0) (pv 1) (nomark _))))))))), ?_⟩
  simp only [cxOf, Cx.nox, Cx.wish, L2.start, N__law_same, List.map_cons, List.map_nil, List.length_cons, List.length_nil, List.replicate, List.cons_append, List.nil_append, Nat.reduceAdd, Nat.reduceSub]
  one_item
  · obtain ⟨rfl, hb⟩ := hV
    rcases hb with ⟨x, rfl⟩ | rfl | ⟨i, rfl⟩
    · refine ⟨_, _, _, false, rfl, .str x, kit_str_tup K, ?_⟩
      one_item
      refine iteF ?_
      one_item
      refine ⟨_, _, _, true, rfl, .str x, kit_str_str K, ?_⟩
      one_item
      refine iteT ?_
      one_item
      refine iteT ?_
      one_item
      refine ⟨_, _, _, true, rfl, .str x, kit_str_str K, ?_⟩
      one_item
      refine ⟨_, _, _, true, rfl, .str x, kit_str_str K, ?_⟩
      refine ⟨rfl, ?_⟩
      refine ⟨_, rfl, ?_⟩
      refine iteT ?_
      one_item
      refine ⟨rfl, ?_⟩
      rw [decide_eq_true (show V.str x = V.str x from rfl)]
      exact q H (Same.refl _)
    · refine ⟨_, _, _, false, rfl, .non, kit_non_tup K, ?_⟩
      one_item
      refine iteF ?_
      one_item
      refine ⟨_, _, _, false, rfl, .non, kit_non_str K, ?_⟩
      one_item
      refine iteF ?_
      one_item
      refine ⟨rfl, ?_⟩
      rw [decide_eq_true (show V.non = V.non from rfl)]
      one_item
      refine iteT ?_
      one_item
      refine ⟨_, _, _, false, rfl, .non, kit_non_str K, ?_⟩
      one_item
      refine ⟨_, _, _, false, rfl, .non, kit_non_str K, ?_⟩
      refine ⟨rfl, ?_⟩
      refine ⟨_, rfl, ?_⟩
      refine iteT ?_
      one_item
      refine ⟨rfl, ?_⟩
      rw [decide_eq_true (show V.non = V.non from rfl)]
      exact q H (Same.refl _)
    · refine ⟨_, _, _, false, rfl, .int i, kit_int_tup K, ?_⟩
      one_item
      refine iteF ?_
      one_item
      refine ⟨_, _, _, false, rfl, .int i, kit_int_str K, ?_⟩
      one_item
      refine iteF ?_
      one_item
      refine ⟨rfl, ?_⟩
      rw [decide_eq_false (show ¬ V.int i = V.non from fun z => by cases z)]
      one_item
      refine iteF ?_
      one_item
      refine ⟨_, _, _, true, rfl, .int i, kit_int_int K, ?_⟩
      one_item
      refine iteT ?_
      one_item
      refine ⟨_, _, _, false, rfl, .int i, kit_int_bl K, ?_⟩
      one_item
      refine iteT ?_
      one_item
      refine ⟨rfl, ?_⟩
      rw [decide_eq_true (show V.int i = V.int i from rfl)]
      exact q H (Same.refl _)
theorem sameV_S {n : Nat} (n_isinstance : mg "isinstance" = none) (n_str : mg "str" = none) (n_tuple : mg "tuple" = none) (n_int : mg "int" = none) (n_bool : mg "bool" = none) (n_len : mg "len" = none) (n_all : mg "all" = none) (n_zip : mg "zip" = none) (g__law_same : Cal P w K mg base "_law_same" (n + 1) P__law_same (spSameV n)) (F : Fun K "_law_same" "_law_same" s__law_same f fd) : FnOk P w K mg base CX0 (n + 1 + 1) f fd P__law_same (spSameV (n + 1)) := by
  refine F.ok sc__law_same (fun vs H Q E h => ?_) (fun cdv A outer s H vs Q E hr h => ?_)
  · obtain ⟨v, v', rfl, _⟩ := h; rfl
  obtain ⟨v, v', rfl, hV, q⟩ := h
  refine ⟨_, (pss_cons (ps_if (pt_val (pe_callB (call_isik K rfl) rfl n_isinstance boot_isinstance (pa_cons (pv 1) (pa_cons (pe_bltn (v := .ty "tuple") rfl n_tuple boot_tuple rfl) pa_nil)))) (pss_cons (ps_if (PW.pt (pw_or (pt_not (pt_val (pe_callB (call_isik K rfl) rfl n_isinstance boot_isinstance (pa_cons (pv 0) (pa_cons (pe_bltn (v := .ty "tuple") rfl n_tuple boot_tuple rfl) pa_nil))))) (pw_or1 (pt_cmpR op_ne (pe_callB (call_lenk K rfl) rfl n_len boot_len (pa_cons (pv 0) pa_nil)) (pe_callB (call_lenk K rfl) rfl n_len boot_len (pa_cons (pv 1) pa_nil)) (nomark _))))) (pss_one (ps_ret pe_bl)) pss_nil)
    (pss_one (ps_ret (pe_callB (call_allk K rfl rfl) rfl n_all boot_all (pa_cons (pe_lc rfl lc__law_same_0 (pi_zip K rfl rfl n_zip (pv 0) (pv 1)) (fun _ _ _ _ _ => (pg_tup2k K rfl rfl (pg_name (i := 0) lc__law_same_0.nd rfl (Or.inl rfl) (Or.inr rfl)) (pg_name (i := 1) lc__law_same_0.nd rfl (Or.inl rfl) (Or.inr rfl)))) (fun _ _ _ _ _ => pfs_nil) (fun _ _ _ _ _ => (pe_cal g__law_same hr (by omega) rfl (pa_cons (pv 0) (pa_cons (pv 1) pa_nil))))) pa_nil))))) pss_nil)
    (pss_cons (ps_if (PW.pt (pw_or (pt_val (pe_callB (call_isik K rfl) rfl n_isinstance boot_isinstance (pa_cons (pv 1) (pa_cons (pe_bltn (v := .ty "str") rfl n_str boot_str rfl) pa_nil)))) (pw_or1 (pt_cmpR op_isN (pv 1) pe_non (nomark _))))) (pss_one (ps_ret (pe_and (pe_cmpR op_eq (pe_callB (call_isik K rfl) rfl n_isinstance boot_isinstance (pa_cons (pv 0) (pa_cons (pe_bltn (v := .ty "str") rfl n_str boot_str rfl) pa_nil))) (pe_callB (call_isik K rfl) rfl n_isinstance boot_isinstance (pa_cons (pv 1) (pa_cons (pe_bltn (v := .ty "str") rfl n_str boot_str rfl) pa_nil))) (nomark _)) (pe_one (pe_cmpR op_eq (pv 0) (pv 1) (nomark _)))))) pss_nil)
    (pss_one (ps_ret (pe_and (pe_callB (call_isik K rfl) rfl n_isinstance boot_isinstance (pa_cons (pv 0) (pa_cons (pe_bltn (v := .ty "int") rfl n_int boot_int rfl) pa_nil))) (pe_and (pe_not (pe_callB (call_isik K rfl) rfl n_isinstance boot_isinstance (pa_cons (pv 0) (pa_cons (pe_bltn (v := .ty "bool") rfl n_bool boot_bool rfl) pa_nil)))) (pe_one (pe_cmpR op_eq (pv 0) (pv 1) (nomark _))))))))), ?_⟩
  simp only [cxOf, Cx.nox, Cx.wish, L2.start, N__law_same, List.map_cons, List.map_nil, List.length_cons, List.length_nil, List.replicate, List.cons_append, List.nil_append, Nat.reduceAdd, Nat.reduceSub]
  one_item
  rcases hV with ⟨rfl, hb⟩ | ⟨a, b, xs, ys, rfl, rfl, e, e', hl, hz, hf⟩
  · skip
    rcases hb with ⟨x, rfl⟩ | rfl | ⟨i, rfl⟩
    · refine ⟨_, _, _, false, rfl, .str x, kit_str_tup K, ?_⟩
      one_item
      refine iteF ?_
      one_item
      refine ⟨_, _, _, true, rfl, .str x, kit_str_str K, ?_⟩
      one_item
      refine iteT ?_
      one_item
      refine iteT ?_
      one_item
      refine ⟨_, _, _, true, rfl, .str x, kit_str_str K, ?_⟩
      one_item
      refine ⟨_, _, _, true, rfl, .str x, kit_str_str K, ?_⟩
      refine ⟨rfl, ?_⟩
      refine ⟨_, rfl, ?_⟩
      refine iteT ?_
      one_item
      refine ⟨rfl, ?_⟩
      rw [decide_eq_true (show V.str x = V.str x from rfl)]
      exact q H (Same.refl _)
    · refine ⟨_, _, _, false, rfl, .non, kit_non_tup K, ?_⟩
      one_item
      refine iteF ?_
      one_item
      refine ⟨_, _, _, false, rfl, .non, kit_non_str K, ?_⟩
      one_item
      refine iteF ?_
      one_item
      refine ⟨rfl, ?_⟩
      rw [decide_eq_true (show V.non = V.non from rfl)]
      one_item
      refine iteT ?_
      one_item
      refine ⟨_, _, _, false, rfl, .non, kit_non_str K, ?_⟩
      one_item
      refine ⟨_, _, _, false, rfl, .non, kit_non_str K, ?_⟩
      refine ⟨rfl, ?_⟩
      refine ⟨_, rfl, ?_⟩
      refine iteT ?_
      one_item
      refine ⟨rfl, ?_⟩
      rw [decide_eq_true (show V.non = V.non from rfl)]
      exact q H (Same.refl _)
    · refine ⟨_, _, _, false, rfl, .int i, kit_int_tup K, ?_⟩
      one_item
      refine iteF ?_
      one_item
      refine ⟨_, _, _, false, rfl, .int i, kit_int_str K, ?_⟩
      one_item
      refine iteF ?_
      one_item
      refine ⟨rfl, ?_⟩
      rw [decide_eq_false (show ¬ V.int i = V.non from fun z => by cases z)]
      one_item
      refine iteF ?_
      one_item
      refine ⟨_, _, _, true, rfl, .int i, kit_int_int K, ?_⟩
      one_item
      refine iteT ?_
      one_item
      refine ⟨_, _, _, false, rfl, .int i, kit_int_bl K, ?_⟩
      one_item
      refine iteT ?_
      one_item
      refine ⟨rfl, ?_⟩
      rw [decide_eq_true (show V.int i = V.int i from rfl)]
      exact q H (Same.refl _)
  · refine ⟨_, _, _, true, rfl, .tup e', kit_tup_tup K, ?_⟩
    one_item
    refine iteT ?_
    one_item
    refine ⟨_, _, _, true, rfl, .tup e, kit_tup_tup K, ?_⟩
    one_item
    refine iteF ?_
    one_item
    refine ⟨_, _, rfl, .inr ⟨_, SqT.of e, rfl⟩, ?_⟩
    one_item
    refine ⟨_, _, rfl, .inr ⟨_, SqT.of e', rfl⟩, ?_⟩
    refine ⟨rfl, ?_⟩
    rw [decide_eq_true (show V.int (xs.length : Int) = V.int (ys.length : Int) by rw [hl])]
    refine ⟨_, rfl, ?_⟩
    refine iteF ?_
    one_item
    refine ⟨a, b, rfl, rfl, ⟨_, SqT.of e⟩, ⟨_, SqT.of e'⟩, ?_⟩
    refine lc_by xs.length (fun i σ' zs Hq D => (∃ o o', σ' = [o, o']) ∧ Same H Hq ∧ Hq D = some (.lst zs) ∧ zs = (List.replicate i true).map V.bl ∧ H D = none) ?_ ?_ ?_ ?_
    · exact fun D Hq sq hq nq => ⟨⟨_, _, rfl⟩, sq, hq, rfl, nq⟩
    · exact fun i σ' zs Hq D h => h.2.2.1
    · rintro σ' zs Hq D ⟨⟨o, o', rfl⟩, sq, hq, rfl, nq⟩
      refine ⟨⟨_, SqT.of (sq _ _ e), Nat.le_refl _⟩, ?_⟩
      one_item
      refine ⟨D, _, rfl, SqL.of hq, ?_⟩
      rw [all_true]
      exact q Hq sq
    · rintro i σ' zs Hq D hi ⟨⟨o, o', rfl⟩, sq, hq, rfl, nq⟩
      have eq1 := sq _ _ e
      have eq2 := sq _ _ e'
      have gx : xs[i]? = some xs[i] := List.getElem?_eq_getElem hi
      have hi2 : i < ys.length := by omega
      have gy : ys[i]? = some ys[i] := List.getElem?_eq_getElem hi2
      refine ⟨⟨_, _, _, _, SqT.of eq1, SqT.of eq2, gx, gy⟩, ?_⟩
      rintro u H' ⟨p, x0, y0, rfl, hp, rfl, hx0, hy0⟩
      have ex := hx0 _ (SqT.of eq1)
      have ey := hy0 _ (SqT.of eq2)
      have V0 := hf i x0 y0 ex ey
      have sN : Same Hq (upd Hq p (.tup [x0, y0])) := same_new hp _
      refine rd_two (SqT.of upd_same) ?_
      one_item
      refine iteT ?_
      one_item
      refine ⟨x0, y0, rfl, V0.mono (sq.trans sN).tups, fun H7 s7 => ?_⟩
      refine LcEnd.mk hi ((sN.trans s7) _ _ hq) (small' (by rw [List.length_map, List.length_replicate]; omega)) fun H9 x9 h9 => ?_
      refine ⟨⟨_, _, rfl⟩, fun b u hb => x9 b u (fun z => by rw [z, nq] at hb; cases hb) (((sq.trans sN).trans s7) b u hb), h9, ?_, nq⟩
      rw [List.replicate_succ', List.map_append]
      rfl

end
end My

set_option Elab.async false
set_option linter.all false
set_option maxRecDepth 100000
set_option maxHeartbeats 400000
namespace My
open PySem PySem.Spec PyProof.Rows L2
local macro_rules | `(tactic| one_sign) => `(tactic| ((try dsimp only); first
  | with_reducible refine rd_seq ?_
  | with_reducible refine rd_asg ?_
  | with_reducible refine rd_name ?_
  | ((with_reducible refine rd_var (v := ?rdV) ?rdE ?_); case rdE => exact rfl)
  | with_reducible refine rd_c ?_
  | with_reducible refine rd_op ?_
  | with_reducible refine rd_un ?_
  | with_reducible refine rd_I0 ?_
  | ((with_reducible refine rd_I ?rdC ?_); try (case rdC => first | omega | exact ⟨by omega, by omega⟩ | exact mul_l (by omega) (by omega) | exact mul_r (by omega) (by omega) | exact ⟨by decide, by decide, by decide⟩))
  | with_reducible refine rd_addI ?_
  | with_reducible refine rd_ret ?_
  | with_reducible refine rd_drop ?_
  | with_reducible refine rd_ifs ?_
  | with_reducible refine rd_test ?_
  | with_reducible refine rd_tB ?_
  | with_reducible refine rd_and ?_
  | with_reducible refine rd_or ?_
  | with_reducible refine rd_not ?_
  | with_reducible refine rd_andV ?_
  | with_reducible refine rd_orV ?_
  | with_reducible refine rd_notV ?_
  | with_reducible refine rd_if ?_
  | with_reducible refine rd_nil ?_
  | with_reducible refine rd_cons ?_
  | with_reducible refine rd_tup ?_
  | with_reducible refine rd_lst ?_
  | with_reducible refine rd_dict ?_
  | with_reducible refine rd_cb ?_
  | with_reducible refine rd_cal ?_
  | with_reducible refine rd_for ?_
  | with_reducible refine rd_bl ?_
  | with_reducible refine rd_bm0 ?_
  | with_reducible refine rd_bm ?_
  | with_reducible refine rd_sub ?_
  | with_reducible refine rd_chain ?_
  | with_reducible refine rd_next ?_
  | with_reducible refine rd_par ?_
  | with_reducible refine rd_rng1 ?_
  | with_reducible refine rd_rng2 ?_
  | with_reducible refine rd_ilist ?_
  | with_reducible refine rd_itup ?_
  | with_reducible refine rd_istr ?_
  | with_reducible refine rd_sl ?_
  | with_reducible refine rd_part ?_
  | with_reducible refine rd_nopart ?_
  | with_reducible refine rd_slice ?_
  | with_reducible refine rd_calv ?_
  | with_reducible refine rd_lc ?_
  | with_reducible refine rd_tru ?_
  | with_reducible refine rd_izip ?_
  | with_reducible refine rd_ienum ?_
  | with_reducible refine rd_ienumL ?_
  | with_reducible refine rd_rng3 ?_
  | with_reducible refine rd_augS ?_
  | with_reducible refine rd_dget ?_
  | with_reducible refine rd_all ?_))
local macro_rules | `(tactic| one_item) => `(tactic| repeat (one_sign))

section
variable {P : Program} {w : World} {K : PySem.W.Frag} {mg : Str → Option Value} {base : Heap} {f : Addr} {fd : FuncData}
theorem natVs_app (a b : List Nat) : natVs (a ++ b) = natVs a ++ natVs b := by unfold natVs; rw [List.map_append]
theorem natVs_len (a : List Nat) : (natVs a).length = a.length := by unfold natVs; rw [List.length_map]
theorem natVs_flat (a : List Nat) : (natVs a).all flatV = true := by
  rw [List.all_eq_true]
  intro x hx
  obtain ⟨n, _, rfl⟩ := List.mem_map.mp hx
  rfl
theorem inV_nat (k : Nat) : ∀ l : List Nat, inV (.int (k : Int)) (natVs l) = decide (k ∈ l)
  | [] => rfl
  | a :: l => by
    have h := inV_nat k l
    show (((a : Int) == (k : Int)) || inV (.int (k : Int)) (natVs l)) = _
    rw [h]
    by_cases c : a = k
    · subst c; simp
    · have c1 : ((a : Int) == (k : Int)) = false := by simp; omega
      have c2 : ¬ k = a := fun z => c z.symm
      rw [c1]; simp [c2]
def nmV : Ent → Nat → V
  | .word x, _ => .str x
  | .pair _ _, j => .int (j : Int)
def hvV : Ent → List V
  | .word _ => []
  | .pair a b => [.int (a : Int), .int (b : Int)]
def spName : Sp := fun vs H Q _ => ∃ (a : Addr) (xs : List V) (j : Nat) (v : V) (e : Ent), vs = [.ref a, .int (j : Int)] ∧ H a = some (.tup xs) ∧ xs[j]? = some v ∧ EAt H v e ∧ Q (nmV e j) H
theorem ok_name (n_isinstance : mg "isinstance" = none) (n_str : mg "str" = none) (F : Fun K "name_of" "name_of" s_name_of f fd) : FnOk P w K mg base CX0 1 f fd P_name_of spName := by
  refine F.ok sc_name_of (fun vs H Q E h => ?_) (fun cdv A outer s H vs Q E hr h => ?_)
  · obtain ⟨a, xs, j, v, e, rfl, _⟩ := h; rfl
  obtain ⟨a, xs, j, v, e, rfl, ha, hx, hE, q⟩ := h
  refine ⟨_, (pss_one (ps_ret (pe_ifExp (pt_val (pe_callB (call_isik K rfl) rfl n_isinstance boot_isinstance (pa_cons (pe_ix (ix_seqk K rfl) (pv 0) (pv 1) (fun _ _ => rfl)) (pa_cons (pe_bltn (v := .ty "str") rfl n_str boot_str rfl) pa_nil)))) (pe_ix (ix_seqk K rfl) (pv 0) (pv 1) (fun _ _ => rfl)) (pv 1)))), ?_⟩
  simp only [cxOf, Cx.nox, Cx.wish, L2.start, N_name_of, List.map_cons, List.map_nil, List.length_cons, List.length_nil, List.replicate, List.cons_append, List.nil_append, Nat.reduceAdd, Nat.reduceSub]
  one_item
  refine rd_ixT (SqT.of ha) (atI_nat hx) ?_
  one_item
  cases hE with
  | word x =>
    refine ⟨_, _, _, true, rfl, .str x, kit_str_str K, ?_⟩
    one_item
    refine iteT ?_
    one_item
    exact rd_ixT (SqT.of ha) (atI_nat hx) q
  | pair e =>
    refine ⟨_, _, _, false, rfl, .tup e, kit_tup_str K, ?_⟩
    one_item
    refine iteF ?_
    one_item
    exact q
/-- lines: for each house those above it -/
def LsAt (H : Hp) (t : Tr) (ls : List V) : Prop := ls.length = t.size ∧ ∀ j, j < t.size → ∃ p, ls[j]? = some (.ref p) ∧ H p = some (.tup (natVs (up t 0 j [])))
theorem LsAt.mono {H H' : Hp} (h : Tups H H') {t : Tr} {ls : List V} (a : LsAt H t ls) : LsAt H' t ls := ⟨a.1, fun j hj => let ⟨p, e1, e2⟩ := a.2 j hj; ⟨p, e1, h _ _ e2⟩⟩
def spLines : Sp := fun vs H Q _ => ∃ (v : V) (t : Tr), vs = [v] ∧ TAt H v t ∧ t.size ≤ 400 ∧ ∀ (r : Addr) (H' : Hp) (ls : List V), Same H H' → H' r = some (.lst ls) → H r = none → LsAt H' t ls → Q (.ref r) H'
theorem up_len (t : Tr) : ∀ (k j : Nat), j + k + 1 = t.size → (up t 0 j []).length ≤ k + 1 := fun k => by
  induction k using Nat.strongRecOn with
  | ind k ih =>
    intro j hj
    rcases up_ahd t 0 j .non [] (by omega) with ⟨q1, q2, q3⟩ | ⟨a, q1, q2, q3, q4⟩
    · rw [q3]; show 1 ≤ k + 1; omega
    · rw [q4, List.length_cons]
      have := ih (t.size - a - 1) (by omega) a (by omega)
      omega
theorem ok_lines (n_len : mg "len" = none) (n_range : mg "range" = none) (g_ahead_of : Cal P w K mg base "ahead_of" 3 P_ahead_of spAhead) (F : Fun K "lines_up" "lines_up" s_lines_up f fd) : FnOk P w K mg base CX0 4 f fd P_lines_up spLines := by
  refine F.ok sc_lines_up (fun vs H Q E h => ?_) (fun cdv A outer s H vs Q E hr h => ?_)
  · obtain ⟨v, t, rfl, _⟩ := h; rfl
  obtain ⟨v, t, rfl, hT, hz, q⟩ := h
  refine ⟨_, (pss_cons (ps_set (i := 1) sc_lines_up.nd rfl (Or.inl rfl) (pe_cal g_ahead_of hr (by omega) rfl (pa_cons (pv 0) pa_nil)))
    (pss_cons (ps_setlc (i := 3) rfl sc_lines_up.nd rfl rfl lc_lines_up_0 (pi_tupk K rfl (pv 1)) (fun _ _ _ _ _ => (pg_name (i := 0) lc_lines_up_0.nd rfl (Or.inl rfl))) (fun _ _ _ _ _ => pfs_nil) (fun _ _ _ _ _ => (pe_tupN pa_nil)))
    (pss_cons (ps_for PassesOwn.never rfl (pi_range3 rfl n_range (pa_cons (pe_op op_sub (pe_callB (call_lenk K rfl) rfl n_len boot_len (pa_cons (pv 1) pa_nil)) pe_int) (pa_cons (pe_un un_neg pe_int) (pa_cons (pe_un un_neg pe_int) pa_nil)))) (pg_name (i := 2) sc_lines_up.nd rfl (Or.inl rfl)) (pss_cons (ps_set (i := 4) sc_lines_up.nd rfl (Or.inl rfl) (pe_ifExp (pt_cmpR op_isN (pe_ix (ix_seqk K rfl) (pv 1) (pv 2) (fun _ _ => rfl)) pe_non (nomark _)) (pe_tupN pa_nil) (pe_ix (ix_seqk K rfl) (pv 3) (pe_ix (ix_seqk K rfl) (pv 1) (pv 2) (fun _ _ => rfl)) (fun _ _ => rfl))))
    (pss_one (ps_asg (pe_op (op_addk K rfl) (pe_tupN (pa_cons (pv 2) pa_nil)) (pv 4)) (pg_sub (pv 3) (pv 2) set_listN)))))
    (pss_one (ps_ret (pv 3)))))), ?_⟩
  simp only [cxOf, Cx.nox, Cx.wish, L2.start, N_lines_up, List.map_cons, List.map_nil, List.length_cons, List.length_nil, List.replicate, List.cons_append, List.nil_append, Nat.reduceAdd, Nat.reduceSub]
  one_item
  refine ⟨v, t, rfl, hT, by omega, fun r1 H1 s1 h1 => ?_⟩
  have sp := t.size_pos
  have alen : (ah (t.nd 0) 0 (List.replicate t.size V.non)).length = t.size := by rw [ah_len, List.length_replicate]
  one_item
  refine ⟨r1, rfl, ⟨_, SqT.of h1⟩, ?_⟩
  refine lc_by t.size (fun i σ' ys Hq D => (∃ o, σ' = [o]) ∧ Same H1 Hq ∧ Hq D = some (.lst ys) ∧ ys.length = i ∧ H1 D = none) ?_ ?_ ?_ ?_
  · exact fun D Hq sq hq nq => ⟨⟨_, rfl⟩, sq, hq, rfl, nq⟩
  · exact fun i σ' ys Hq D h => h.2.2.1
  · rintro σ' ys Hq D ⟨⟨o, rfl⟩, sq, hq, ly, nq⟩
    refine ⟨⟨_, SqT.of (sq _ _ h1), by omega⟩, ?_⟩
    have nD0 : H D = none := s1.free nq
    have neD : r1 ≠ D := ne_of_none h1 nq
    one_item
    refine ⟨_, _, rfl, .inr ⟨_, SqT.of (sq _ _ h1), rfl⟩, ?_⟩
    one_item
    rw [alen]
    refine ⟨_, rfl, ?_⟩
    one_item
    refine ⟨_, rfl, ?_⟩
    one_item
    refine ⟨_, _, rfl, ⟨by omega, by omega, by omega, by omega⟩, ?_⟩
    have en : (((t.size : Nat) : Int) - 1 - -1).toNat = t.size := by omega
    rw [en]
    refine forD_by (fun i σ Hh => ∃ (o2 o4 : Option V) (ls : List V), σ = [some v, some (.ref r1), o2, some (.ref D), o4] ∧ Same H1 Hh ∧ Hh D = some (.lst ls) ∧ ls.length = t.size ∧ ∀ j, t.size - i ≤ j → j < t.size → ∃ p, ls[j]? = some (.ref p) ∧ Hh p = some (.tup (natVs (up t 0 j [])))) ?_ ?_ ?_
    · exact ⟨_, _, ys, rfl, sq, hq, ly, fun j h1 h2 => absurd h1 (by omega)⟩
    · rintro i σ Hh hi ⟨o2, o4, ls, rfl, sH, hD, hl, hls⟩
      have ej : (((t.size : Nat) : Int) - 1 - (i : Int)) = ((t.size - 1 - i : Nat) : Int) := by omega
      rw [ej]
      obtain ⟨j, hj⟩ : ∃ j, j = t.size - 1 - i := ⟨_, rfl⟩
      rw [← hj]
      have hjs : j < t.size := by omega
      have hr1 := sH _ _ h1
      have ga := ah_get t hjs
      have ul := up_len t i j (by omega)
      one_item
      refine rd_ixT (SqT.of hr1) (atI_nat ga) ?_
      one_item
      rcases up_ahd t 0 j .non [] hjs with ⟨q1, q2, q3⟩ | ⟨a, q1, q2, q3, q4⟩
      · rw [q2]
        refine ⟨rfl, ?_⟩
        rw [decide_eq_true (show V.non = V.non from rfl)]
        one_item
        refine iteT ?_
        one_item
        refine ⟨by show 0 ≤ sizeLine; decide, fun p2 H2 s2 h2 n2 => ?_⟩
        one_item
        refine ⟨by show 1 ≤ sizeLine; decide, fun p3 H3 s3 h3 n3 => ?_⟩
        one_item
        have nn : ((0 : Nat) + j) = j := by omega
        rw [nn] at q3
        have fin : ∀ H4, SameX D H3 H4 → H4 D = some (.lst (ls.set j (.ref p3))) → (fun σ Hh => ∃ (o2 o4 : Option V) (ls : List V), σ = [some v, some (.ref r1), o2, some (.ref D), o4] ∧ Same H1 Hh ∧ Hh D = some (.lst ls) ∧ ls.length = t.size ∧ ∀ j, t.size - (i + 1) ≤ j → j < t.size → ∃ p, ls[j]? = some (.ref p) ∧ Hh p = some (.tup (natVs (up t 0 j [])))) [some v, some (.ref r1), some (.int (j : Int)), some (.ref D), some (.ref p2)] H4 := fun H4 x4 h4 => by
          refine ⟨_, _, _, rfl, fun b o hb => x4 b o (fun z => by rw [z, nq] at hb; cases hb) (((sH.trans s2).trans s3) b o hb), h4, by rw [List.length_set]; exact hl, fun k k1 k2 => ?_⟩
          have hD3 := (s2.trans s3) _ _ hD
          by_cases c : k = j
          · subst c
            refine ⟨p3, by rw [List.getElem?_set_self (by omega)], ?_⟩
            rw [q3]
            exact (x4.tups hD3) _ _ h3
          · obtain ⟨p, e1, e2⟩ := hls k (by omega) k2
            exact ⟨p, by rw [List.getElem?_set_ne (fun z => c z.symm)]; exact e1, (x4.tups hD3) _ _ ((s2.trans s3) _ _ e2)⟩
        refine .inr ⟨p3, p2, [.int (j : Int)], [], rfl, rfl, SqT.of h3, SqT.of (s3 _ _ h2), by simp, by show 1 + 0 ≤ sizeLine; decide, fun _ => ?_, fun z => absurd rfl z⟩
        one_item
        exact rd_setL ((s2.trans s3) _ _ hD) (ixN_nat (by omega)) fin
      · rw [q3]
        refine ⟨rfl, ?_⟩
        rw [decide_eq_false (show ¬ V.int ((0 + a : Nat) : Int) = V.non from fun z => by cases z)]
        one_item
        refine iteF ?_
        one_item
        refine rd_ixT (SqT.of hr1) (atI_nat ga) ?_
        rw [q3]
        have na : (0 : Nat) + a = a := by omega
        rw [na]
        obtain ⟨pa, e1, e2⟩ := hls a (by omega) q2
        refine rd_ixL (SqL.of hD) (atI_nat e1) ?_
        one_item
        refine ⟨by show 1 ≤ sizeLine; decide, fun p3 H3 s3 h3 n3 => ?_⟩
        one_item
        have nn : ((0 : Nat) + j) = j := by omega
        rw [nn] at q4
        have ul2 : (up t 0 a []).length + 1 ≤ i + 1 := by rw [q4] at ul; simpa using ul
        have hne : natVs (up t 0 a []) ≠ [] := by
          rcases up_ahd t 0 a .non [] q2 with ⟨_, _, z⟩ | ⟨_, _, _, _, z⟩ <;> rw [z] <;> (unfold natVs; simp)
        refine .inr ⟨p3, pa, [.int (j : Int)], natVs (up t 0 a []), rfl, rfl, SqT.of h3, SqT.of (s3 _ _ e2), by simp, small' (by rw [natVs_len]; show 1 + _ ≤ 1000; omega), fun z => absurd z hne, fun _ p4 n4 => ?_⟩
        have s4 : Same H3 (upd H3 p4 (.tup ([.int (j : Int)] ++ natVs (up t 0 a [])))) := same_new n4 _
        have h4 : (upd H3 p4 (.tup ([.int (j : Int)] ++ natVs (up t 0 a [])))) p4 = some (.tup ([.int (j : Int)] ++ natVs (up t 0 a []))) := upd_same
        generalize upd H3 p4 (.tup ([.int (j : Int)] ++ natVs (up t 0 a []))) = H4 at s4 h4
        one_item
        have hD4 := (s3.trans s4) _ _ hD
        refine rd_setL hD4 (ixN_nat (by omega)) fun H5 x5 h5 => ?_
        refine ⟨_, _, _, rfl, fun b o hb => x5 b o (fun z => by rw [z, nq] at hb; cases hb) (((sH.trans s3).trans s4) b o hb), h5, by rw [List.length_set]; exact hl, fun k k1 k2 => ?_⟩
        by_cases c : k = j
        · subst c
          refine ⟨p4, by rw [List.getElem?_set_self (by omega)], ?_⟩
          rw [q4]
          exact (x5.tups hD4) _ _ h4
        · obtain ⟨p, e1, e2⟩ := hls k (by omega) k2
          exact ⟨p, by rw [List.getElem?_set_ne (fun z => c z.symm)]; exact e1, (x5.tups hD4) _ _ ((s3.trans s4) _ _ e2)⟩
    · rintro σ Hh ⟨o2, o4, ls, rfl, sH, hD, hl, hls⟩
      one_item
      exact q D Hh ls (s1.trans sH) hD nD0 ⟨hl, fun j hj => hls j (by omega) hj⟩
  · rintro i σ' ys Hq D hi ⟨⟨o, rfl⟩, sq, hq, ly, nq⟩
    have gx : (ah (t.nd 0) 0 (List.replicate t.size V.non))[i]? = some (ahd t 0 i .non) := ah_get t hi
    refine ⟨⟨_, _, SqT.of (sq _ _ h1), gx⟩, ?_⟩
    rintro x H' ⟨rfl, _⟩
    one_item
    refine iteT ?_
    one_item
    refine ⟨by show 0 ≤ sizeLine; decide, fun p2 H2 s2 h2 n2 => ?_⟩
    refine LcEnd.mk hi (s2 _ _ hq) (small' (by omega)) fun H9 x9 h9 => ?_
    exact ⟨⟨_, rfl⟩, fun b u hb => x9 b u (fun z => by rw [z, nq] at hb; cases hb) ((sq.trans s2) b u hb), h9, by rw [List.length_append, ly]; rfl, nq⟩
def apb (t : Tr) (j k : Nat) : Bool := !decide (k ∈ up t 0 j []) && !decide (j ∈ up t 0 k [])
def apt (t : Tr) (j n : Nat) : List Nat := (List.range n).filter (apb t j)
theorem apt_S (t : Tr) (j n : Nat) : apt t j (n + 1) = apt t j n ++ (if apb t j n then [n] else []) := by
  unfold apt
  rw [List.range_succ, List.filter_append]
  congr 1
  by_cases c : apb t j n
  · simp [c]
  · simp [c]
theorem apt_len (t : Tr) (j n : Nat) : (apt t j n).length ≤ n := by
  have := List.length_filter_le (apb t j) (List.range n)
  rw [List.length_range] at this
  exact this
def spApart : Sp := fun vs H Q _ => ∃ (a : Addr) (t : Tr) (ls : List V) (j : Nat), vs = [.ref a, .int (j : Int)] ∧ H a = some (.lst ls) ∧ LsAt H t ls ∧ t.size ≤ 400 ∧ j < t.size ∧ ∀ (r : Addr) (H' : Hp), Same H H' → H' r = some (.tup (natVs (apt t j t.size))) → Q (.ref r) H'
theorem ok_apart (n_len : mg "len" = none) (n_range : mg "range" = none) (n_tuple : mg "tuple" = none) (F : Fun K "apart_from" "apart_from" s_apart_from f fd) : FnOk P w K mg base CX0 1 f fd P_apart_from spApart := by
  refine F.ok sc_apart_from (fun vs H Q E h => ?_) (fun cdv A outer s H vs Q E hr h => ?_)
  · obtain ⟨a, t, ls, j, rfl, _⟩ := h; rfl
  obtain ⟨a, t, ls, j, rfl, ha, hL, hz, hj, q⟩ := h
  refine ⟨_, (pss_one (ps_ret (pe_callTy (call_tuplek K rfl) rfl n_tuple boot_tuple (pa_cons (pe_lc rfl lc_apart_from_0 (pi_range1 rfl n_range (pa_cons (pe_callB (call_lenk K rfl) rfl n_len boot_len (pa_cons (pv 0) pa_nil)) pa_nil)) (fun _ _ _ _ _ => (pg_name (i := 0) lc_apart_from_0.nd rfl (Or.inl rfl))) (fun _ _ _ _ _ => (pfs_one (PW.pt (pw_and (pt_cmpR (op_notInk K rfl) (pv 0) (pe_ix (ix_seqk K rfl) (pv 2) (pv 1) (fun _ _ => rfl)) rfl) (pw_and1 (pt_cmpR (op_notInk K rfl) (pv 1) (pe_ix (ix_seqk K rfl) (pv 2) (pv 0) (fun _ _ => rfl)) rfl)))))) (fun _ _ _ _ _ => (pv 0))) pa_nil)))), ?_⟩
  simp only [cxOf, Cx.nox, Cx.wish, L2.start, N_apart_from, List.map_cons, List.map_nil, List.length_cons, List.length_nil, List.replicate, List.cons_append, List.nil_append, Nat.reduceAdd, Nat.reduceSub]
  one_item
  refine ⟨_, _, rfl, .inl ⟨_, SqL.of ha, rfl⟩, ?_⟩
  have l1 := hL.1
  refine ⟨_, rfl, by omega, by omega, ?_⟩
  refine lc_by t.size (fun i σ' ys Hq D => (∃ o, σ' = [o, some (.int (j : Int)), some (.ref a)]) ∧ Same H Hq ∧ Hq D = some (.lst ys) ∧ ys = natVs (apt t j i) ∧ H D = none) ?_ ?_ ?_ ?_
  · exact fun D Hq sq hq nq => ⟨⟨_, rfl⟩, sq, hq, rfl, nq⟩
  · exact fun i σ' ys Hq D h => h.2.2.1
  · rintro σ' ys Hq D ⟨⟨o, rfl⟩, sq, hq, rfl, nq⟩
    refine ⟨by show (_ : Int).toNat ≤ _; omega, ?_⟩
    one_item
    refine ⟨D, _, rfl, SqL.of hq, fun p9 H9 s9 h9 n9 => ?_⟩
    exact q p9 H9 (sq.trans s9) h9
  · rintro i σ' ys Hq D hi ⟨⟨o, rfl⟩, sq, hq, rfl, nq⟩
    refine ⟨by show i < (_ : Int).toNat; omega, ?_⟩
    rintro x H' ⟨rfl, rfl⟩
    have ei : ((0 : Int) + (i : Int)) = (i : Int) := by omega
    rw [ei]
    obtain ⟨pj, e1, e2⟩ := hL.2 j hj
    obtain ⟨pi, e3, e4⟩ := hL.2 i hi
    have hs := apt_S t j i
    have al := apt_len t j i
    one_item
    refine rd_ixL (SqL.of (sq _ _ ha)) (atI_nat e1) ?_
    refine ⟨pj, _, rfl, .inr (SqT.of (sq _ _ e2)), rfl, natVs_flat _, ?_⟩
    rw [if_pos rfl, inV_nat]
    one_item
    cases c1 : decide (i ∈ up t 0 j []) with
    | true =>
      refine iteF ?_
      refine iteF ?_
      refine LcSkip.mk hi ⟨⟨_, rfl⟩, sq, hq, ?_, nq⟩
      rw [hs, if_neg (by unfold apb; rw [c1]; simp)]
      simp
    | false =>
      refine iteT ?_
      one_item
      refine rd_ixL (SqL.of (sq _ _ ha)) (atI_nat e3) ?_
      refine ⟨pi, _, rfl, .inr (SqT.of (sq _ _ e4)), rfl, natVs_flat _, ?_⟩
      rw [if_pos rfl, inV_nat]
      one_item
      cases c2 : decide (j ∈ up t 0 i []) with
      | true =>
        refine iteF ?_
        refine LcSkip.mk hi ⟨⟨_, rfl⟩, sq, hq, ?_, nq⟩
        rw [hs, if_neg (by unfold apb; rw [c1, c2]; simp)]
        simp
      | false =>
        refine iteT ?_
        one_item
        refine LcEnd.mk hi hq (small' (by rw [natVs_len]; omega)) fun H9 x9 h9 => ?_
        refine ⟨⟨_, rfl⟩, fun b u hb => x9 b u (fun z => by rw [z, nq] at hb; cases hb) (sq b u hb), h9, ?_, nq⟩
        rw [hs, if_pos (by unfold apb; rw [c1, c2]; rfl), natVs_app]
        rfl

end
end My

set_option Elab.async false
set_option linter.all false
set_option maxRecDepth 100000
set_option maxHeartbeats 400000
namespace My
open PySem PySem.Spec PyProof.Rows L2
local macro_rules | `(tactic| one_sign) => `(tactic| ((try dsimp only); first
  | with_reducible refine rd_seq ?_
  | with_reducible refine rd_asg ?_
  | with_reducible refine rd_name ?_
  | ((with_reducible refine rd_var (v := ?rdV) ?rdE ?_); case rdE => exact rfl)
  | with_reducible refine rd_c ?_
  | with_reducible refine rd_op ?_
  | with_reducible refine rd_un ?_
  | with_reducible refine rd_I0 ?_
  | ((with_reducible refine rd_I ?rdC ?_); try (case rdC => first | omega | exact ⟨by omega, by omega⟩ | exact mul_l (by omega) (by omega) | exact mul_r (by omega) (by omega) | exact ⟨by decide, by decide, by decide⟩))
  | with_reducible refine rd_addI ?_
  | with_reducible refine rd_ret ?_
  | with_reducible refine rd_drop ?_
  | with_reducible refine rd_ifs ?_
  | with_reducible refine rd_test ?_
  | with_reducible refine rd_tB ?_
  | with_reducible refine rd_and ?_
  | with_reducible refine rd_or ?_
  | with_reducible refine rd_not ?_
  | with_reducible refine rd_andV ?_
  | with_reducible refine rd_orV ?_
  | with_reducible refine rd_notV ?_
  | with_reducible refine rd_if ?_
  | with_reducible refine rd_nil ?_
  | with_reducible refine rd_cons ?_
  | with_reducible refine rd_tup ?_
  | with_reducible refine rd_lst ?_
  | with_reducible refine rd_dict ?_
  | with_reducible refine rd_cb ?_
  | with_reducible refine rd_cal ?_
  | with_reducible refine rd_for ?_
  | with_reducible refine rd_bl ?_
  | with_reducible refine rd_bm0 ?_
  | with_reducible refine rd_bm ?_
  | with_reducible refine rd_sub ?_
  | with_reducible refine rd_chain ?_
  | with_reducible refine rd_next ?_
  | with_reducible refine rd_par ?_
  | with_reducible refine rd_rng1 ?_
  | with_reducible refine rd_rng2 ?_
  | with_reducible refine rd_ilist ?_
  | with_reducible refine rd_itup ?_
  | with_reducible refine rd_istr ?_
  | with_reducible refine rd_sl ?_
  | with_reducible refine rd_part ?_
  | with_reducible refine rd_nopart ?_
  | with_reducible refine rd_slice ?_
  | with_reducible refine rd_calv ?_
  | with_reducible refine rd_lc ?_
  | with_reducible refine rd_tru ?_
  | with_reducible refine rd_izip ?_
  | with_reducible refine rd_ienum ?_
  | with_reducible refine rd_ienumL ?_
  | with_reducible refine rd_rng3 ?_
  | with_reducible refine rd_augS ?_
  | with_reducible refine rd_dget ?_
  | with_reducible refine rd_all ?_))
local macro_rules | `(tactic| one_item) => `(tactic| repeat (one_sign))

section
variable {P : Program} {w : World} {K : PySem.W.Frag} {mg : Str → Option Value} {base : Heap} {f : Addr} {fd : FuncData}
/-- a stay of the ground without dates -/
def StAt (H : Hp) (t : Tr) (j : Nat) (v : V) : Prop := ∃ p hv q, v = .ref p ∧ H p = some (.tup [nmV (en t 0 j) j, .int 0, .ref hv, .ref q]) ∧ H hv = some (.tup (hvV (en t 0 j))) ∧ H q = some (.tup (natVs (apt t j t.size)))
theorem StAt.mono {H H' : Hp} (h : Tups H H') {t : Tr} {j : Nat} {v : V} (a : StAt H t j v) : StAt H' t j v := let ⟨p, hv, q, e1, e2, e3, e4⟩ := a; ⟨p, hv, q, e1, h _ _ e2, h _ _ e3, h _ _ e4⟩
def GrAt (H : Hp) (t : Tr) (xs : List V) : Prop := xs.length = t.size ∧ ∀ j x, xs[j]? = some x → StAt H t j x
def spGround : Sp := fun vs H Q _ => ∃ (v : V) (t : Tr), vs = [v] ∧ TAt H v t ∧ t.size ≤ 400 ∧ ∀ (r : Addr) (H' : Hp) (xs : List V), Same H H' → H' r = some (.tup xs) → GrAt H' t xs → Q (.ref r) H'
theorem ok_ground (n_len : mg "len" = none) (n_range : mg "range" = none) (n_tuple : mg "tuple" = none) (g_nodes : Cal P w K mg base "nodes" 2 P_nodes spNodes) (g_lines_up : Cal P w K mg base "lines_up" 4 P_lines_up spLines) (g_name_of : Cal P w K mg base "name_of" 1 P_name_of spName) (g_halves : Cal P w K mg base "halves" 1 P_halves spHalves) (g_apart_from : Cal P w K mg base "apart_from" 1 P_apart_from spApart)
    (F : Fun K "ground" "ground" s_ground f fd) : FnOk P w K mg base CX0 5 f fd P_ground spGround := by
  refine F.ok sc_ground (fun vs H Q E h => ?_) (fun cdv A outer s H vs Q E hr h => ?_)
  · obtain ⟨v, t, rfl, _⟩ := h; rfl
  obtain ⟨v, t, rfl, hT, hz, q⟩ := h
  refine ⟨_, (pss_cons (ps_set (i := 1) sc_ground.nd rfl (Or.inr rfl) (pe_cal g_nodes hr (by omega) rfl (pa_cons (pv 0) pa_nil)))
    (pss_cons (ps_set (i := 2) sc_ground.nd rfl (Or.inr rfl) (pe_cal g_lines_up hr (by omega) rfl (pa_cons (pv 0) pa_nil)))
    (pss_one (ps_ret (pe_callTy (call_tuplek K rfl) rfl n_tuple boot_tuple (pa_cons (pe_lc rfl lc_ground_0 (pi_range1 rfl n_range (pa_cons (pe_callB (call_lenk K rfl) rfl n_len boot_len (pa_cons (pv 1) pa_nil)) pa_nil)) (fun _ _ _ _ _ => (pg_name (i := 0) lc_ground_0.nd rfl (Or.inl rfl))) (fun _ _ _ _ _ => pfs_nil) (fun _ _ _ _ _ => (pe_tupN (pa_cons (pe_cal g_name_of hr (by omega) rfl (pa_cons (pv 1) (pa_cons (pv 0) pa_nil))) (pa_cons pe_int (pa_cons (pe_cal g_halves hr (by omega) rfl (pa_cons (pe_ix (ix_seqk K rfl) (pv 1) (pv 0) (fun _ _ => rfl)) pa_nil)) (pa_cons (pe_cal g_apart_from hr (by omega) rfl (pa_cons (pv 2) (pa_cons (pv 0) pa_nil))) pa_nil))))))) pa_nil)))))), ?_⟩
  simp only [cxOf, Cx.nox, Cx.wish, L2.start, N_ground, List.map_cons, List.map_nil, List.length_cons, List.length_nil, List.replicate, List.cons_append, List.nil_append, Nat.reduceAdd, Nat.reduceSub]
  one_item
  refine ⟨v, t, rfl, hT, by omega, fun r1 H1 es s1 h1 n1 hE => ?_⟩
  have elen := hE.length
  have nlen := t.nd_len 0
  one_item
  refine ⟨v, t, rfl, hT.mono s1.tups, by omega, fun r2 H2 ls s2 h2 n2 hL => ?_⟩
  have h12 := s2 _ _ h1
  have hE2 := hE.mono s2.tups
  one_item
  refine ⟨_, _, rfl, .inr ⟨_, SqT.of h12, rfl⟩, ?_⟩
  refine ⟨_, rfl, by omega, by omega, ?_⟩
  refine lc_by t.size (fun i σ' ys Hq D => (∃ o, σ' = [o, some (.ref r1), some (.ref r2)]) ∧ Same H2 Hq ∧ Hq D = some (.lst ys) ∧ ys.length = i ∧ (∀ j x, ys[j]? = some x → StAt Hq t j x) ∧ H2 D = none) ?_ ?_ ?_ ?_
  · exact fun D Hq sq hq nq => ⟨⟨_, rfl⟩, sq, hq, rfl, fun j x h => by simp at h, nq⟩
  · exact fun i σ' ys Hq D h => h.2.2.1
  · rintro σ' ys Hq D ⟨⟨o, rfl⟩, sq, hq, ly, hS, nq⟩
    refine ⟨by show (_ : Int).toNat ≤ _; omega, ?_⟩
    one_item
    refine ⟨D, _, rfl, SqL.of hq, fun p9 H9 s9 h9 n9 => ?_⟩
    exact q p9 H9 ys (((s1.trans s2).trans sq).trans s9) h9 ⟨ly, fun j x h => (hS j x h).mono s9.tups⟩
  · rintro i σ' ys Hq D hi ⟨⟨o, rfl⟩, sq, hq, ly, hS, nq⟩
    refine ⟨by show i < (_ : Int).toNat; omega, ?_⟩
    rintro x H' ⟨rfl, rfl⟩
    have ei : ((0 : Int) + (i : Int)) = (i : Int) := by omega
    rw [ei]
    have hi' : i < es.length := by omega
    have gx : es[i]? = some es[i] := List.getElem?_eq_getElem hi'
    obtain ⟨e, ge, hEe⟩ := hE2.get gx
    have e0 : e = en t 0 i := by rw [nd_en t 0 i hi] at ge; exact (Option.some.inj ge).symm
    subst e0
    have hEq := hEe.mono sq.tups
    generalize es[i] = y at gx hEq
    clear hEe
    have h1q := sq _ _ h12
    one_item
    refine iteT ?_
    one_item
    refine ⟨r1, es, i, y, _, rfl, h1q, gx, hEq, ?_⟩
    one_item
    refine rd_ixT (SqT.of h1q) (atI_nat gx) ?_
    one_item
    have fin : ∀ (hv : Addr) (H3 : Hp), Same H' H3 → H3 hv = some (.tup (hvV (en t 0 i))) → (spApart [V.ref r2, V.int (i : Int)] H3 (fun x1 H4 => [nmV (en t 0 i) i, V.int 0, V.ref hv, x1].length ≤ sizeLine ∧ newO H4 (.tup [nmV (en t 0 i) i, V.int 0, V.ref hv, x1]) (LcEnd t.size (fun i σ' ys Hq D => (∃ o, σ' = [o, some (.ref r1), some (.ref r2)]) ∧ Same H2 Hq ∧ Hq D = some (.lst ys) ∧ ys.length = i ∧ (∀ j x, ys[j]? = some x → StAt Hq t j x) ∧ H2 D = none) D i ys [some (.int (i : Int)), some (.ref r1), some (.ref r2)])) E0) := fun hv H3 s3 h3 => by
      have S3 := sq.trans s3
      refine ⟨r2, t, ls, i, rfl, S3 _ _ h2, hL.mono S3.tups, hz, hi, fun r4 H4 s4 h4 => ?_⟩
      refine ⟨by show 4 ≤ sizeLine; decide, fun p5 H5 s5 h5 n5 => ?_⟩
      have S5 := (s3.trans s4).trans s5
      refine LcEnd.mk hi (S5 _ _ hq) (small' (by omega)) fun H9 x9 h9 => ?_
      have t9 : Tups H5 H9 := x9.tups (S5 _ _ hq)
      refine ⟨⟨_, rfl⟩, fun b u hb => x9 b u (fun z => by rw [z, nq] at hb; cases hb) ((sq.trans S5) b u hb), h9, by rw [List.length_append, ly]; rfl, fun j x hx => ?_, nq⟩
      by_cases c : j < ys.length
      · rw [List.getElem?_append_left c] at hx
        exact (hS j x hx).mono (S5.tups.trans t9)
      · rw [List.getElem?_append_right (by omega)] at hx
        have jl : j - ys.length = 0 := by
          have := (List.getElem?_eq_some_iff.mp hx).1
          have : j - ys.length < 1 := this
          omega
        rw [jl] at hx
        have ej : j = i := by omega
        subst ej
        have hx' : V.ref p5 = x := Option.some.inj hx
        exact ⟨p5, hv, r4, hx'.symm, t9 _ _ h5, t9 _ _ ((s4.trans s5) _ _ h3), t9 _ _ (s5 _ _ h4)⟩
    refine ⟨y, _, rfl, hEq, fun ⟨z, ez⟩ p3 H3 s3 h3 n3 => ?_, fun ⟨a, b, ez⟩ => ?_⟩
    · one_item
      exact fin p3 H3 s3 (by rw [ez]; exact h3)
    · one_item
      rw [ez] at hEq
      cases hEq with
      | @pair pa _ _ ea =>
        exact fin pa H' (Same.refl _) (by rw [ez]; exact ea)

end
end My

set_option Elab.async false
set_option linter.all false
set_option maxRecDepth 100000
set_option maxHeartbeats 400000
namespace My
open PySem PySem.Spec PyProof.Rows L2
local macro_rules | `(tactic| one_sign) => `(tactic| ((try dsimp only); first
  | with_reducible refine rd_seq ?_
  | with_reducible refine rd_asg ?_
  | with_reducible refine rd_name ?_
  | ((with_reducible refine rd_var (v := ?rdV) ?rdE ?_); case rdE => exact rfl)
  | with_reducible refine rd_c ?_
  | with_reducible refine rd_op ?_
  | with_reducible refine rd_un ?_
  | with_reducible refine rd_I0 ?_
  | ((with_reducible refine rd_I ?rdC ?_); try (case rdC => first | omega | exact ⟨by omega, by omega⟩ | exact mul_l (by omega) (by omega) | exact mul_r (by omega) (by omega) | exact ⟨by decide, by decide, by decide⟩))
  | with_reducible refine rd_addI ?_
  | with_reducible refine rd_ret ?_
  | with_reducible refine rd_drop ?_
  | with_reducible refine rd_ifs ?_
  | with_reducible refine rd_test ?_
  | with_reducible refine rd_tB ?_
  | with_reducible refine rd_and ?_
  | with_reducible refine rd_or ?_
  | with_reducible refine rd_not ?_
  | with_reducible refine rd_andV ?_
  | with_reducible refine rd_orV ?_
  | with_reducible refine rd_notV ?_
  | with_reducible refine rd_if ?_
  | with_reducible refine rd_nil ?_
  | with_reducible refine rd_cons ?_
  | with_reducible refine rd_tup ?_
  | with_reducible refine rd_lst ?_
  | with_reducible refine rd_dict ?_
  | with_reducible refine rd_cb ?_
  | with_reducible refine rd_cal ?_
  | with_reducible refine rd_for ?_
  | with_reducible refine rd_bl ?_
  | with_reducible refine rd_bm0 ?_
  | with_reducible refine rd_bm ?_
  | with_reducible refine rd_sub ?_
  | with_reducible refine rd_chain ?_
  | with_reducible refine rd_next ?_
  | with_reducible refine rd_par ?_
  | with_reducible refine rd_rng1 ?_
  | with_reducible refine rd_rng2 ?_
  | with_reducible refine rd_ilist ?_
  | with_reducible refine rd_itup ?_
  | with_reducible refine rd_istr ?_
  | with_reducible refine rd_sl ?_
  | with_reducible refine rd_part ?_
  | with_reducible refine rd_nopart ?_
  | with_reducible refine rd_slice ?_
  | with_reducible refine rd_calv ?_
  | with_reducible refine rd_lc ?_
  | with_reducible refine rd_tru ?_
  | with_reducible refine rd_izip ?_
  | with_reducible refine rd_ienum ?_
  | with_reducible refine rd_ienumL ?_
  | with_reducible refine rd_rng3 ?_
  | with_reducible refine rd_augS ?_
  | with_reducible refine rd_dget ?_
  | with_reducible refine rd_all ?_))
local macro_rules | `(tactic| one_item) => `(tactic| repeat (one_sign))

section
variable {P : Program} {w : World} {K : PySem.W.Frag} {mg : Str → Option Value} {base : Heap} {f : Addr} {fd : FuncData}
def sh (o : Nat) : Ent → Ent
  | .word x => .word x
  | .pair a b => .pair (a + o) (b + o)
theorem en_sh : ∀ (t : Tr) (a o j : Nat), en t (a + o) j = sh o (en t a j)
  | .leaf x, a, o, j => rfl
  | .node l r, a, o, j => by
    have lp := l.size_pos
    have rp := r.size_pos
    unfold en
    split
    · exact en_sh l a o j
    · split
      · have e : a + o + l.size = a + l.size + o := by omega
        rw [e]
        exact en_sh r (a + l.size) o _
      · show Ent.pair _ _ = Ent.pair _ _
        congr 1 <;> omega
def spLNodes9 (n : Nat) : Sp := fun vs H Q _ => ∃ (v : V) (t : Tr), vs = [v] ∧ TAt H v t ∧ t.depth < n ∧ t.leaves.length ≤ 20 ∧ ∀ (r : Addr) (H' : Hp) (xs : List V), Same H H' → H' r = some (.lst xs) → H r = none → EAts H' xs (t.nd 0) → Q (.ref r) H'
theorem lnodes9_none : FnOk P w K mg base CX0 1 f fd P__law_nodes (spLNodes9 0) := by
  have no : ∀ vs H Q E, ¬ spLNodes9 0 vs H Q E := fun vs H Q E h => by
    obtain ⟨v, t, _, _, hd, _⟩ := h
    omega
  exact ⟨fun vs H Q E h => absurd h (no vs H Q E), fun A outer s H args us vs Q E _ _ _ _ h => absurd h (no vs H Q E)⟩
theorem lnodes9_step {n : Nat} (n_isinstance : mg "isinstance" = none) (n_str : mg "str" = none) (n_len : mg "len" = none) (g__law_nodes : Cal P w K mg base "_law_nodes" (n + 1) P__law_nodes (spLNodes9 n)) (F : Fun K "_law_nodes" "_law_nodes" s__law_nodes f fd) : FnOk P w K mg base CX0 (n + 1 + 1) f fd P__law_nodes (spLNodes9 (n + 1)) := by
  refine F.ok sc__law_nodes (fun vs H Q E h => ?_) (fun cdv A outer s H vs Q E hr h => ?_)
  · obtain ⟨v, t, rfl, _⟩ := h; rfl
  obtain ⟨v, t, rfl, hT, hd, hz, q⟩ := h
  refine ⟨_, (pss_cons (ps_if (pt_val (pe_callB (call_isik K rfl) rfl n_isinstance boot_isinstance (pa_cons (pv 0) (pa_cons (pe_bltn (v := .ty "str") rfl n_str boot_str rfl) pa_nil)))) (pss_one (ps_ret (pe_lstN (pa_cons (pv 0) pa_nil)))) pss_nil)
    (pss_cons (ps_set (i := 1) sc__law_nodes.nd rfl (Or.inl rfl) (pe_cal g__law_nodes hr (by omega) rfl (pa_cons (pe_ix (ix_seqk K rfl) (pv 0) pe_int (fun _ _ => rfl)) pa_nil)))
    (pss_cons (ps_set (i := 2) sc__law_nodes.nd rfl (Or.inl rfl) (pe_callB (call_lenk K rfl) rfl n_len boot_len (pa_cons (pv 1) pa_nil)))
    (pss_cons (ps_for PassesOwn.never rfl (pi_listk K rfl (pe_cal g__law_nodes hr (by omega) rfl (pa_cons (pe_ix (ix_seqk K rfl) (pv 0) pe_int (fun _ _ => rfl)) pa_nil))) (pg_name (i := 3) sc__law_nodes.nd rfl (Or.inl rfl)) (pss_one (ps_expr (pe_bmk K rfl PySem.F.plainAttrs_list PySem.F.slot_list_append PySem.F.type_list_append mt_appendN (pv 1) (pa_cons (pe_ifExp (pt_val (pe_callB (call_isik K rfl) rfl n_isinstance boot_isinstance (pa_cons (pv 3) (pa_cons (pe_bltn (v := .ty "str") rfl n_str boot_str rfl) pa_nil)))) (pv 3) (pe_tupN (pa_cons (pe_op (op_addk K rfl) (pe_ix (ix_seqk K rfl) (pv 3) pe_int (fun _ _ => rfl)) (pv 2)) (pa_cons (pe_op (op_addk K rfl) (pe_ix (ix_seqk K rfl) (pv 3) pe_int (fun _ _ => rfl)) (pv 2)) pa_nil)))) pa_nil)))))
    (pss_one (ps_ret (pe_op (op_addk K rfl) (pv 1) (pe_lstN (pa_cons (pe_tupN (pa_cons (pe_op op_sub (pv 2) pe_int) (pa_cons (pe_op op_sub (pe_callB (call_lenk K rfl) rfl n_len boot_len (pa_cons (pv 1) pa_nil)) pe_int) pa_nil))) pa_nil))))))))), ?_⟩
  simp only [cxOf, Cx.nox, Cx.wish, L2.start, N__law_nodes, List.map_cons, List.map_nil, List.length_cons, List.length_nil, List.replicate, List.cons_append, List.nil_append, Nat.reduceAdd, Nat.reduceSub]
  one_item
  cases hT with
  | leaf x =>
    refine ⟨_, _, _, true, rfl, .str x, kit_str_str K, ?_⟩
    one_item
    refine iteT ?_
    one_item
    refine ⟨by show 1 ≤ sizeLine; decide, fun p1 H1 s1 h1 n1 => ?_⟩
    exact q p1 H1 _ s1 h1 n1 (.cons (.word x) .nil)
  | @node a x y l r e hx hy =>
    refine ⟨_, _, _, false, rfl, .tup e, kit_tup_str K, ?_⟩
    one_item
    refine iteF ?_
    have dl : l.depth < n := by have : max l.depth r.depth + 1 < n + 1 := hd; omega
    have dr : r.depth < n := by have : max l.depth r.depth + 1 < n + 1 := hd; omega
    have sz : (Tr.node l r).leaves.length = l.leaves.length + r.leaves.length := List.length_append ..
    have sl := l.size_eq
    have sr := r.size_eq
    have lp := l.size_pos
    have rp := r.size_pos
    have ln := l.nd_len 0
    have rn := r.nd_len 0
    have rn2 := r.nd_len l.size
    one_item
    refine rd_ixT (SqT.of e) rfl ?_
    one_item
    refine ⟨x, l, rfl, hx, dl, by omega, fun r1 H1 xs s1 h1 n1 hE1 => ?_⟩
    have len1 := hE1.length
    one_item
    refine ⟨_, _, rfl, .inl ⟨_, SqL.of h1, rfl⟩, ?_⟩
    one_item
    refine rd_ixT (SqT.of (s1 _ _ e)) rfl ?_
    one_item
    refine ⟨y, r, rfl, hy.mono s1.tups, dr, by omega, fun r2 H2 ys s2 h2 n2 hE2 => ?_⟩
    have len2 := hE2.length
    have ne12 : r1 ≠ r2 := ne_of_none h1 n2
    have nr0 : H r1 = none := n1
    refine ⟨r2, rfl, ⟨_, SqL.of h2⟩, ?_⟩
    refine forL_by (xs := ys) (fun i σ Hh => ∃ (o4 : Option V) (zs : List V), σ = [some (.ref a), some (.ref r1), some (.int (xs.length : Int)), o4] ∧ Same H Hh ∧ Hh r2 = some (.lst ys) ∧ EAts Hh ys (r.nd 0) ∧ Hh r1 = some (.lst zs) ∧ EAts Hh zs (l.nd 0 ++ (r.nd l.size).take i)) ?_ (fun i σ Hh _ h => by obtain ⟨_, _, _, _, h, _⟩ := h; exact SqL.of h) ?_ ?_
    · exact ⟨_, xs, rfl, s1.trans s2, h2, hE2, s2 _ _ h1, by rw [List.take_zero, List.append_nil]; exact hE1.mono s2.tups⟩
    · rintro i w0 σ Hh gw ⟨o4, zs, rfl, sH, hr2, hEy, hr1, hEz⟩
      have hi : i < ys.length := (List.getElem?_eq_some_iff.mp gw).1
      have zlen := hEz.length
      rw [List.length_append, List.length_take] at zlen
      obtain ⟨en0, ge, hEw⟩ := hEy.get gw
      have e0 : en0 = en r 0 i := by rw [nd_en r 0 i (by omega)] at ge; exact (Option.some.inj ge).symm
      subst e0
      have snoc : (r.nd l.size).take (i + 1) = (r.nd l.size).take i ++ [sh l.size (en r 0 i)] := by
        rw [List.take_add_one, nd_en r l.size i (by omega)]
        have := en_sh r 0 l.size i
        rw [Nat.zero_add] at this
        rw [this]; rfl
      one_item
      refine ⟨rd_tyL hr1, ?_⟩
      one_item
      generalize hen : en r 0 i = en1 at hEw snoc
      cases hEw with
      | word c =>
        refine ⟨_, _, _, true, rfl, .str c, kit_str_str K, ?_⟩
        one_item
        refine iteT ?_
        one_item
        refine rd_app (K := K) hr1 (small1000 (by omega)) fun H4 x4 h4 => ?_
        have t4 : Tups Hh H4 := x4.tups hr1
        refine ⟨_, _, rfl, fun b o hb => x4 b o (fun z => by rw [z, nr0] at hb; cases hb) (sH b o hb), x4 _ _ (Ne.symm ne12) hr2, hEy.mono t4, h4, ?_⟩
        rw [snoc, ← List.append_assoc]
        exact (hEz.mono t4).append (.cons (.word c) .nil)
      | @pair pa a0 b0 ea =>
        refine ⟨_, _, _, false, rfl, .tup ea, kit_tup_str K, ?_⟩
        one_item
        refine iteF ?_
        one_item
        refine rd_ixT (SqT.of ea) rfl ?_
        one_item
        refine rd_ixT (SqT.of ea) rfl ?_
        one_item
        refine ⟨by show 2 ≤ sizeLine; decide, fun p5 H5 s5 h5 n5 => ?_⟩
        one_item
        have hr15 := s5 _ _ hr1
        refine rd_app (K := K) hr15 (small1000 (by omega)) fun H6 x6 h6 => ?_
        have t6 : Tups H5 H6 := x6.tups hr15
        have tA : Tups Hh H6 := s5.tups.trans t6
        refine ⟨_, _, rfl, fun b o hb => x6 b o (fun z => by rw [z, nr0] at hb; cases hb) ((sH.trans s5) b o hb), x6 _ _ (Ne.symm ne12) (s5 _ _ hr2), hEy.mono tA, h6, ?_⟩
        rw [snoc, ← List.append_assoc]
        refine (hEz.mono tA).append (.cons ?_ .nil)
        have e1 : ((a0 : Nat) : Int) + (xs.length : Int) = ((a0 + l.size : Nat) : Int) := by omega
        have e2 : ((b0 : Nat) : Int) + (xs.length : Int) = ((b0 + l.size : Nat) : Int) := by omega
        rw [e1, e2] at h5
        exact .pair (t6 _ _ h5)
    · rintro σ Hh ⟨o4, zs, rfl, sH, hr2, hEy, hr1, hEz⟩
      rw [List.take_of_length_le (by omega)] at hEz
      have zlen := hEz.length
      rw [List.length_append] at zlen
      one_item
      refine ⟨_, _, rfl, .inl ⟨_, SqL.of hr1, rfl⟩, ?_⟩
      one_item
      refine ⟨by show 2 ≤ sizeLine; decide, fun p5 H5 s5 h5 n5 => ?_⟩
      one_item
      refine ⟨by show 1 ≤ sizeLine; decide, fun p6 H6 s6 h6 n6 => ?_⟩
      one_item
      have hr16 := (s5.trans s6) _ _ hr1
      refine rd_addL hr16 h6 (small' (by show zs.length + 1 ≤ 1000; omega)) fun p7 H7 s7 h7 n7 => ?_
      have S7 := (s5.trans s6).trans s7
      refine q p7 H7 _ (sH.trans S7) h7 (((sH.trans s5).trans s6).free n7) ?_
      have hn : (Tr.node l r).nd 0 = l.nd 0 ++ r.nd (0 + l.size) ++ [.pair (0 + l.size - 1) (0 + l.size + r.size - 1)] := rfl
      rw [hn, Nat.zero_add]
      refine (hEz.mono S7.tups).append (.cons ?_ .nil)
      have e1 : ((xs.length : Nat) : Int) - 1 = ((l.size - 1 : Nat) : Int) := by omega
      have e2 : ((zs.length : Nat) : Int) - 1 = ((l.size + r.size - 1 : Nat) : Int) := by omega
      rw [e1, e2] at h5
      exact .pair ((s6.trans s7) _ _ h5)
theorem be_len : ∀ (t : Tr) (o j : Nat), (be t o j).length ≤ t.size
  | .leaf _, _, _ => Nat.le_refl _
  | .node l r, o, j => by
    have es : (Tr.node l r).size = l.size + r.size + 1 := rfl
    have h1 := be_len l
    have h2 := be_len r
    unfold be
    split
    · have := h1 o j; omega
    · split
      · have := h2 (o + l.size) (j - l.size); omega
      · rw [List.length_append]
        have := h1 o (l.size - 1)
        have := h2 (o + l.size) (r.size - 1)
        omega
/-- the leaves under each house, as lists -/
def BlAt (H : Hp) (t : Tr) (bs : List V) : Prop := bs.length = t.size ∧ ∀ j, j < t.size → ∃ p, bs[j]? = some (.ref p) ∧ H p = some (.lst (natVs (be t 0 j)))
theorem BlAt.same {H H' : Hp} (h : Same H H') {t : Tr} {bs : List V} (a : BlAt H t bs) : BlAt H' t bs := ⟨a.1, fun j hj => let ⟨p, e1, e2⟩ := a.2 j hj; ⟨p, e1, h _ _ e2⟩⟩
def spBelow : Sp := fun vs H Q _ => ∃ (a : Addr) (xs : List V) (t : Tr), vs = [.ref a] ∧ H a = some (.lst xs) ∧ EAts H xs (t.nd 0) ∧ t.size ≤ 100 ∧ ∀ (r : Addr) (H' : Hp) (bs : List V), Same H H' → H' r = some (.lst bs) → H r = none → BlAt H' t bs → Q (.ref r) H'
theorem ok_below (n_isinstance : mg "isinstance" = none) (n_str : mg "str" = none) (n_enumerate : mg "enumerate" = none) (F : Fun K "_law_below" "_law_below" s__law_below f fd) : FnOk P w K mg base CX0 1 f fd P__law_below spBelow := by
  refine F.ok sc__law_below (fun vs H Q E h => ?_) (fun cdv A outer s H vs Q E hr h => ?_)
  · obtain ⟨a, xs, t, rfl, _⟩ := h; rfl
  obtain ⟨a, xs, t, rfl, ha, hE, hz, q⟩ := h
  refine ⟨_, (pss_cons (ps_set (i := 1) sc__law_below.nd rfl (Or.inl rfl) (pe_lstN pa_nil))
    (pss_cons (ps_for PassesOwn.never rfl (pi_enumL K rfl rfl n_enumerate (pv 0)) (pg_tup rfl (pgs_cons (pg_name (i := 2) sc__law_below.nd rfl (Or.inl rfl)) (pgs_cons (pg_name (i := 3) sc__law_below.nd rfl (Or.inl rfl)) pgs_nil))) (pss_one (ps_expr (pe_bmk K rfl PySem.F.plainAttrs_list PySem.F.slot_list_append PySem.F.type_list_append mt_appendN (pv 1) (pa_cons (pe_ifExp (pt_val (pe_callB (call_isik K rfl) rfl n_isinstance boot_isinstance (pa_cons (pv 3) (pa_cons (pe_bltn (v := .ty "str") rfl n_str boot_str rfl) pa_nil)))) (pe_lstN (pa_cons (pv 2) pa_nil)) (pe_op (op_addk K rfl) (pe_ix (ix_seqk K rfl) (pv 1) (pe_ix (ix_seqk K rfl) (pv 3) pe_int (fun _ _ => rfl)) (fun _ _ => rfl)) (pe_ix (ix_seqk K rfl) (pv 1) (pe_ix (ix_seqk K rfl) (pv 3) pe_int (fun _ _ => rfl)) (fun _ _ => rfl)))) pa_nil)))))
    (pss_one (ps_ret (pv 1))))), ?_⟩
  simp only [cxOf, Cx.nox, Cx.wish, L2.start, N__law_below, List.map_cons, List.map_nil, List.length_cons, List.length_nil, List.replicate, List.cons_append, List.nil_append, Nat.reduceAdd, Nat.reduceSub]
  have elen := hE.length
  have nlen := t.nd_len 0
  one_item
  refine ⟨by show 0 ≤ sizeLine; decide, fun D H1 s1 h1 n1 => ?_⟩
  one_item
  refine ⟨a, rfl, ⟨_, SqL.of (s1 _ _ ha)⟩, ?_⟩
  refine forEL_by (xs := xs) (fun k σ Hh => ∃ (o2 o3 : Option V) (bs : List V), σ = [some (.ref a), some (.ref D), o2, o3] ∧ Same H Hh ∧ Hh D = some (.lst bs) ∧ bs.length = k ∧ ∀ j, j < k → ∃ p, bs[j]? = some (.ref p) ∧ p ≠ D ∧ Hh p = some (.lst (natVs (be t 0 j)))) ?_ (fun k σ Hh _ h => by obtain ⟨_, _, _, _, h, _⟩ := h; exact SqL.of (h _ _ ha)) ?_ ?_
  · exact ⟨_, _, [], rfl, s1, h1, rfl, fun j hj => absurd hj (by omega)⟩
  · rintro k x σ Hh Hh' gx ⟨o2, o3, bs, rfl, sH, hD, lb, hB⟩ sN
    have hk : k < xs.length := (List.getElem?_eq_some_iff.mp gx).1
    obtain ⟨e0, ge, hEx⟩ := hE.get gx
    have e1 : e0 = en t 0 k := by rw [nd_en t 0 k (by omega)] at ge; exact (Option.some.inj ge).symm
    subst e1
    have hEx' := hEx.mono (sH.trans sN).tups
    have hD' := sN _ _ hD
    have fin : ∀ (p4 : Addr) (H4 : Hp), Same Hh' H4 → H4 p4 = some (.lst (natVs (be t 0 k))) → p4 ≠ D → rAppendN (.ref D) [V.ref p4] H4 (fun _ H5 => (fun σ Hh => ∃ (o2 o3 : Option V) (bs : List V), σ = [some (.ref a), some (.ref D), o2, o3] ∧ Same H Hh ∧ Hh D = some (.lst bs) ∧ bs.length = k + 1 ∧ ∀ j, j < k + 1 → ∃ p, bs[j]? = some (.ref p) ∧ p ≠ D ∧ Hh p = some (.lst (natVs (be t 0 j)))) [some (.ref a), some (.ref D), some (.int (k : Int)), some x] H5) := fun p4 H4 s4 h4 ne4 => by
      have hD4 := s4 _ _ hD'
      refine rd_app (K := K) hD4 (small1000 (by omega)) fun H5 x5 h5 => ?_
      refine ⟨_, _, _, rfl, fun b o hb => x5 b o (fun z => by rw [z, n1] at hb; cases hb) (((sH.trans sN).trans s4) b o hb), h5, by rw [List.length_append, lb]; rfl, fun j hj => ?_⟩
      by_cases c : j < k
      · obtain ⟨p, g1, g2, g3⟩ := hB j c
        exact ⟨p, by rw [List.getElem?_append_left (by omega)]; exact g1, g2, x5 _ _ g2 ((sN.trans s4) _ _ g3)⟩
      · have ej : j = k := by omega
        subst ej
        refine ⟨p4, ?_, ne4, x5 _ _ ne4 h4⟩
        rw [List.getElem?_append_right (by omega), lb, Nat.sub_self]; rfl
    one_item
    refine ⟨rd_tyL hD', ?_⟩
    one_item
    rcases be_en t 0 k (by omega) with ⟨c, q1, q2⟩ | ⟨a1, b1, q1, q2, q3, q4⟩
    · rw [q1] at hEx'
      cases hEx' with
      | word =>
        refine ⟨_, _, _, true, rfl, .str c, kit_str_str K, ?_⟩
        one_item
        refine iteT ?_
        one_item
        refine ⟨by show 1 ≤ sizeLine; decide, fun p4 H4 s4 h4 n4 => ?_⟩
        one_item
        refine fin p4 H4 s4 ?_ (ne_of_none hD' n4).symm
        rw [q2, Nat.zero_add]; exact h4
    · rw [q1] at hEx'
      rw [Nat.zero_add, Nat.zero_add] at hEx'
      cases hEx' with
      | @pair pa _ _ ea =>
        refine ⟨_, _, _, false, rfl, .tup ea, kit_tup_str K, ?_⟩
        one_item
        refine iteF ?_
        obtain ⟨pA, g1, g2, g3⟩ := hB a1 q2
        obtain ⟨pB, g4, g5, g6⟩ := hB b1 q3
        one_item
        refine rd_ixT (SqT.of ea) rfl ?_
        refine rd_ixL (SqL.of hD') (atI_nat g1) ?_
        one_item
        refine rd_ixT (SqT.of ea) rfl ?_
        refine rd_ixL (SqL.of hD') (atI_nat g4) ?_
        have bl1 := be_len t 0 a1
        have bl2 := be_len t 0 b1
        refine rd_addL (sN _ _ g3) (sN _ _ g6) (small' (by rw [natVs_len, natVs_len]; omega)) fun p4 H4 s4 h4 n4 => ?_
        one_item
        refine fin p4 H4 s4 ?_ (ne_of_none hD' n4).symm
        rw [q4, natVs_app]; exact h4
  · rintro σ Hh ⟨o2, o3, bs, rfl, sH, hD, lb, hB⟩
    one_item
    exact q D Hh bs sH hD n1 ⟨by omega, fun j hj => let ⟨p, g1, _, g3⟩ := hB j (by omega); ⟨p, g1, g3⟩⟩

end
end My

set_option Elab.async false
set_option linter.all false
set_option maxRecDepth 100000
set_option maxHeartbeats 400000
namespace My
open PySem PySem.Spec PyProof.Rows L2
local macro_rules | `(tactic| one_sign) => `(tactic| ((try dsimp only); first
  | with_reducible refine rd_seq ?_
  | with_reducible refine rd_asg ?_
  | with_reducible refine rd_name ?_
  | ((with_reducible refine rd_var (v := ?rdV) ?rdE ?_); case rdE => exact rfl)
  | with_reducible refine rd_c ?_
  | with_reducible refine rd_op ?_
  | with_reducible refine rd_un ?_
  | with_reducible refine rd_I0 ?_
  | ((with_reducible refine rd_I ?rdC ?_); try (case rdC => first | omega | exact ⟨by omega, by omega⟩ | exact mul_l (by omega) (by omega) | exact mul_r (by omega) (by omega) | exact ⟨by decide, by decide, by decide⟩))
  | with_reducible refine rd_addI ?_
  | with_reducible refine rd_ret ?_
  | with_reducible refine rd_drop ?_
  | with_reducible refine rd_ifs ?_
  | with_reducible refine rd_test ?_
  | with_reducible refine rd_tB ?_
  | with_reducible refine rd_and ?_
  | with_reducible refine rd_or ?_
  | with_reducible refine rd_not ?_
  | with_reducible refine rd_andV ?_
  | with_reducible refine rd_orV ?_
  | with_reducible refine rd_notV ?_
  | with_reducible refine rd_if ?_
  | with_reducible refine rd_nil ?_
  | with_reducible refine rd_cons ?_
  | with_reducible refine rd_tup ?_
  | with_reducible refine rd_lst ?_
  | with_reducible refine rd_dict ?_
  | with_reducible refine rd_cb ?_
  | with_reducible refine rd_cal ?_
  | with_reducible refine rd_for ?_
  | with_reducible refine rd_bl ?_
  | with_reducible refine rd_bm0 ?_
  | with_reducible refine rd_bm ?_
  | with_reducible refine rd_sub ?_
  | with_reducible refine rd_chain ?_
  | with_reducible refine rd_next ?_
  | with_reducible refine rd_par ?_
  | with_reducible refine rd_rng1 ?_
  | with_reducible refine rd_rng2 ?_
  | with_reducible refine rd_ilist ?_
  | with_reducible refine rd_itup ?_
  | with_reducible refine rd_istr ?_
  | with_reducible refine rd_sl ?_
  | with_reducible refine rd_part ?_
  | with_reducible refine rd_nopart ?_
  | with_reducible refine rd_slice ?_
  | with_reducible refine rd_calv ?_
  | with_reducible refine rd_lc ?_
  | with_reducible refine rd_tru ?_
  | with_reducible refine rd_izip ?_
  | with_reducible refine rd_ienum ?_
  | with_reducible refine rd_ienumL ?_
  | with_reducible refine rd_rng3 ?_
  | with_reducible refine rd_augS ?_
  | with_reducible refine rd_dget ?_
  | with_reducible refine rd_all ?_))
local macro_rules | `(tactic| one_item) => `(tactic| repeat (one_sign))

section
variable {P : Program} {w : World} {K : PySem.W.Frag} {mg : Str → Option Value} {base : Heap} {f : Addr} {fd : FuncData}
theorem apb_be (t : Tr) {j k : Nat} (hj : j < t.size) (hk : k < t.size) : apb t j k = !((be t 0 k).map fun x => decide (x ∈ be t 0 j)).any id := by
  have h := apart t 0 [] (fun x hx => by simp at hx) j k hj hk
  rw [Nat.zero_add, Nat.zero_add] at h
  unfold apb
  by_cases c : ∃ x ∈ be t 0 k, x ∈ be t 0 j
  · have e1 : ((be t 0 k).map fun x => decide (x ∈ be t 0 j)).any id = true := by
      rw [List.any_eq_true]
      obtain ⟨x, h1, h2⟩ := c
      exact ⟨true, List.mem_map.mpr ⟨x, h1, decide_eq_true h2⟩, rfl⟩
    rw [e1]
    by_cases d : k ∈ up t 0 j []
    · simp [d]
    · by_cases d2 : j ∈ up t 0 k []
      · simp [d2]
      · exact absurd c (h.mp ⟨d, d2⟩)
  · have e1 : ((be t 0 k).map fun x => decide (x ∈ be t 0 j)).any id = false := by
      rw [Bool.eq_false_iff]
      intro z
      rw [List.any_eq_true] at z
      obtain ⟨b, h1, h2⟩ := z
      obtain ⟨x, h3, h4⟩ := List.mem_map.mp h1
      rw [← h4] at h2
      exact c ⟨x, h3, of_decide_eq_true h2⟩
    rw [e1]
    obtain ⟨d1, d2⟩ := h.mpr c
    simp [d1, d2]
def spPlain9 : Sp := fun vs H Q _ => ∃ (v : V) (t : Tr), vs = [v] ∧ TAt H v t ∧ t.leaves.length ≤ 15 ∧ ∀ (r : Addr) (H' : Hp) (xs : List V), Same H H' → H' r = some (.tup xs) → GrAt H' t xs → Q (.ref r) H'
theorem ok_plain9 (n_isinstance : mg "isinstance" = none) (n_str : mg "str" = none) (n_len : mg "len" = none) (n_range : mg "range" = none) (n_tuple : mg "tuple" = none) (n_enumerate : mg "enumerate" = none) (n_any : mg "any" = none) (g__law_nodes : Cal P w K mg base "_law_nodes" 21 P__law_nodes (spLNodes9 20)) (g__law_below : Cal P w K mg base "_law_below" 1 P__law_below spBelow)
    (F : Fun K "_law_plain_ground" "_law_plain_ground" s__law_plain_ground f fd) : FnOk P w K mg base CX0 22 f fd P__law_plain_ground spPlain9 := by
  refine F.ok sc__law_plain_ground (fun vs H Q E h => ?_) (fun cdv A outer s H vs Q E hr h => ?_)
  · obtain ⟨v, t, rfl, _⟩ := h; rfl
  obtain ⟨v, t, rfl, hT, hz, q⟩ := h
  refine ⟨_, (pss_cons (ps_set (i := 1) sc__law_plain_ground.nd rfl (Or.inl rfl) (pe_cal g__law_nodes hr (by omega) rfl (pa_cons (pv 0) pa_nil)))
    (pss_cons (ps_set (i := 2) sc__law_plain_ground.nd rfl (Or.inr rfl) (pe_cal g__law_below hr (by omega) rfl (pa_cons (pv 1) pa_nil)))
    (pss_cons (ps_set (i := 3) sc__law_plain_ground.nd rfl (Or.inl rfl) (pe_lstN pa_nil))
    (pss_cons (ps_for PassesOwn.never rfl (pi_enumL K rfl rfl n_enumerate (pv 1)) (pg_tup rfl (pgs_cons (pg_name (i := 4) sc__law_plain_ground.nd rfl (Or.inr rfl)) (pgs_cons (pg_name (i := 5) sc__law_plain_ground.nd rfl (Or.inl rfl)) pgs_nil))) (pss_cons (ps_setlc (i := 6) rfl sc__law_plain_ground.nd rfl rfl lc__law_plain_ground_1 (pi_range1 rfl n_range (pa_cons (pe_callB (call_lenk K rfl) rfl n_len boot_len (pa_cons (pv 1) pa_nil)) pa_nil)) (fun _ _ _ _ _ => (pg_name (i := 0) lc__law_plain_ground_1.nd rfl (Or.inl rfl))) (fun _ _ _ _ _ => (pfs_one (pt_not (pt_val (pe_callB (call_anyk K rfl rfl) rfl n_any boot_any (pa_cons (pe_lc rfl (LcScope.rel lc__law_plain_ground_0) (pi_listk K rfl (pe_ix (ix_seqk K rfl) (pv 1) (pv 0) (fun _ _ => rfl))) (fun _ _ _ _ _ => (pg_name (i := 0) lc__law_plain_ground_0.nd rfl (Or.inl rfl))) (fun _ _ _ _ _ => pfs_nil) (fun _ _ _ _ _ => (pe_cmpR (op_ink K rfl) (pv 0) (pe_ix (ix_seqk K rfl) (pv 1) (pv 2) (fun _ _ => rfl)) rfl))) pa_nil)))))) (fun _ _ _ _ _ => (pv 0)))
    (pss_one (ps_expr (pe_bmk K rfl PySem.F.plainAttrs_list PySem.F.slot_list_append PySem.F.type_list_append mt_appendN (pv 3) (pa_cons (pe_tupN (pa_cons (pe_ifExp (pt_val (pe_callB (call_isik K rfl) rfl n_isinstance boot_isinstance (pa_cons (pv 5) (pa_cons (pe_bltn (v := .ty "str") rfl n_str boot_str rfl) pa_nil)))) (pv 5) (pv 4)) (pa_cons pe_int (pa_cons (pe_ifExp (pt_val (pe_callB (call_isik K rfl) rfl n_isinstance boot_isinstance (pa_cons (pv 5) (pa_cons (pe_bltn (v := .ty "str") rfl n_str boot_str rfl) pa_nil)))) (pe_tupN pa_nil) (pv 5)) (pa_cons (pe_callTy (call_tuplek K rfl) rfl n_tuple boot_tuple (pa_cons (pv 6) pa_nil)) pa_nil))))) pa_nil))))))
    (pss_one (ps_ret (pe_callTy (call_tuplek K rfl) rfl n_tuple boot_tuple (pa_cons (pv 3) pa_nil)))))))), ?_⟩
  simp only [cxOf, Cx.nox, Cx.wish, L2.start, N__law_plain_ground, List.map_cons, List.map_nil, List.length_cons, List.length_nil, List.replicate, List.cons_append, List.nil_append, Nat.reduceAdd, Nat.reduceSub]
  have siz := t.size_eq
  have dep := t.depth_lt
  have nlen := t.nd_len 0
  one_item
  refine ⟨v, t, rfl, hT, by omega, by omega, fun r1 H1 es s1 h1 n1 hE => ?_⟩
  have elen := hE.length
  one_item
  refine ⟨r1, es, t, rfl, h1, hE, by omega, fun r2 H2 bs s2 h2 n2 hB => ?_⟩
  have h12 := s2 _ _ h1
  have hE2 := hE.mono s2.tups
  have lbs := hB.1
  one_item
  refine ⟨by show 0 ≤ sizeLine; decide, fun D H3 s3 h3 n3 => ?_⟩
  one_item
  refine ⟨r1, rfl, ⟨_, SqL.of (s3 _ _ h12)⟩, ?_⟩
  refine forEL_by (xs := es) (fun k σ Hh => ∃ (o4 o5 o6 : Option V) (ys : List V), σ = [some v, some (.ref r1), some (.ref r2), some (.ref D), o4, o5, o6] ∧ Same H2 Hh ∧ Hh D = some (.lst ys) ∧ ys.length = k ∧ ∀ j x, ys[j]? = some x → StAt Hh t j x) ?_ (fun k σ Hh _ h => by obtain ⟨_, _, _, _, _, h, _⟩ := h; exact SqL.of (h _ _ h12)) ?_ ?_
  · exact ⟨_, _, _, [], rfl, s3, h3, rfl, fun j x h => by simp at h⟩
  · rintro k x σ Hh Hh' gx ⟨o4, o5, o6, ys, rfl, sH, hD, ly, hS⟩ sN
    have hk : k < es.length := (List.getElem?_eq_some_iff.mp gx).1
    have hkt : k < t.size := by omega
    obtain ⟨e0, ge, hEx⟩ := hE2.get gx
    have e1 : e0 = en t 0 k := by rw [nd_en t 0 k hkt] at ge; exact (Option.some.inj ge).symm
    subst e1
    have S' := sH.trans sN
    one_item
    refine ⟨_, _, rfl, .inl ⟨_, SqL.of (S' _ _ h12), rfl⟩, ?_⟩
    refine ⟨_, rfl, by omega, by omega, ?_⟩
    refine lc_by t.size (fun i σ' zs Hq A0 => (∃ o, σ' = [o, some (.ref r2), some (.int (k : Int))]) ∧ Same Hh' Hq ∧ Hq A0 = some (.lst zs) ∧ zs = natVs (apt t k i) ∧ Hh' A0 = none) ?_ ?_ ?_ ?_
    · exact fun A0 Hq sq hq nq => ⟨⟨_, rfl⟩, sq, hq, rfl, nq⟩
    · exact fun i σ' zs Hq A0 h => h.2.2.1
    · rintro σ' zs Hq A0 ⟨⟨o, rfl⟩, sq, hq, rfl, nq⟩
      refine ⟨by show (_ : Int).toNat ≤ _; omega, ?_⟩
      have hDq := (sN.trans sq) _ _ hD
      have hExq := hEx.mono (S'.trans sq).tups
      have fin : ∀ (hv : Addr) (H4 : Hp), Same Hq H4 → H4 hv = some (.tup (hvV (en t 0 k))) → ∀ (r5 : Addr) (H5 : Hp), Same H4 H5 → H5 r5 = some (.tup (natVs (apt t k t.size))) → newO H5 (.tup [nmV (en t 0 k) k, V.int 0, V.ref hv, V.ref r5]) (fun y H6 => rAppendN (.ref D) [y] H6 (fun _ H7 => ∃ (o4 o5 o6 : Option V) (ys : List V), [some v, some (.ref r1), some (.ref r2), some (.ref D), some (.int (k : Int)), some x, some (.ref A0)] = [some v, some (.ref r1), some (.ref r2), some (.ref D), o4, o5, o6] ∧ Same H2 H7 ∧ H7 D = some (.lst ys) ∧ ys.length = k + 1 ∧ ∀ j x, ys[j]? = some x → StAt H7 t j x)) := fun hv H4 s4 h4 r5 H5 s5 h5 p6 H6 s6 h6 n6 => by
        have S6 := (s4.trans s5).trans s6
        have hD6 := S6 _ _ hDq
        refine rd_app (K := K) hD6 (small1000 (by omega)) fun H7 x7 h7 => ?_
        have t7 : Tups H6 H7 := x7.tups hD6
        refine ⟨_, _, _, _, rfl, fun b u hb => x7 b u (fun z => by rw [z, n3] at hb; cases hb) (((S'.trans sq).trans S6) b u hb), h7, by rw [List.length_append, ly]; rfl, fun j y hy => ?_⟩
        by_cases c : j < ys.length
        · rw [List.getElem?_append_left c] at hy
          exact (hS j y hy).mono (((sN.trans sq).trans S6).tups.trans t7)
        · rw [List.getElem?_append_right (by omega)] at hy
          have jl : j - ys.length = 0 := by
            have := (List.getElem?_eq_some_iff.mp hy).1
            have : j - ys.length < 1 := this
            omega
          rw [jl] at hy
          have ej : j = k := by omega
          subst ej
          have hy' : V.ref p6 = y := Option.some.inj hy
          exact ⟨p6, hv, r5, hy'.symm, t7 _ _ h6, t7 _ _ ((s5.trans s6) _ _ h4), t7 _ _ (s6 _ _ h5)⟩
      one_item
      refine ⟨rd_tyL hDq, ?_⟩
      one_item
      generalize hen : en t 0 k = en1 at hExq fin
      cases hExq with
      | word c =>
        refine ⟨_, _, _, true, rfl, .str c, kit_str_str K, ?_⟩
        one_item
        refine iteT ?_
        one_item
        refine ⟨_, _, _, true, rfl, .str c, kit_str_str K, ?_⟩
        one_item
        refine iteT ?_
        one_item
        refine ⟨by show 0 ≤ sizeLine; decide, fun p4 H4 s4 h4 n4 => ?_⟩
        one_item
        refine ⟨A0, _, rfl, SqL.of (s4 _ _ hq), fun r5 H5 s5 h5 n5 => ?_⟩
        exact ⟨by show 4 ≤ sizeLine; decide, fin p4 H4 s4 h4 r5 H5 s5 h5⟩
      | @pair pa a0 b0 ea =>
        refine ⟨_, _, _, false, rfl, .tup ea, kit_tup_str K, ?_⟩
        one_item
        refine iteF ?_
        one_item
        refine ⟨_, _, _, false, rfl, .tup ea, kit_tup_str K, ?_⟩
        one_item
        refine iteF ?_
        one_item
        refine ⟨A0, _, rfl, SqL.of hq, fun r5 H5 s5 h5 n5 => ?_⟩
        exact ⟨by show 4 ≤ sizeLine; decide, fin pa Hq (Same.refl _) ea r5 H5 s5 h5⟩
    · rintro i σ' zs Hq A0 hi ⟨⟨o, rfl⟩, sq, hq, rfl, nq⟩
      refine ⟨by show i < (_ : Int).toNat; omega, ?_⟩
      rintro x0 H' ⟨rfl, rfl⟩
      have ei : ((0 : Int) + (i : Int)) = (i : Int) := by omega
      rw [ei]
      obtain ⟨pk, e1, e2⟩ := hB.2 k hkt
      obtain ⟨pi, e3, e4⟩ := hB.2 i hi
      have SQ := S'.trans sq
      have hs := apt_S t k i
      have al := apt_len t k i
      have bl := be_len t 0 i
      have ap := apb_be t hkt hi
      have h2q := SQ _ _ h2
      have e2q := SQ _ _ e2
      have e4q := SQ _ _ e4
      one_item
      refine rd_ixL (SqL.of h2q) (atI_nat e3) ?_
      refine ⟨pi, rfl, ⟨_, SqL.of e4q⟩, ?_⟩
      refine lc_by (be t 0 i).length (fun m σ2 us Hu B0 => (∃ o2, σ2 = [o2, some (.ref r2), some (.int (k : Int))]) ∧ Same H' Hu ∧ Hu B0 = some (.lst us) ∧ us = (((be t 0 i).take m).map fun x => decide (x ∈ be t 0 k)).map V.bl ∧ H' B0 = none) ?_ ?_ ?_ ?_
      · exact fun B0 Hu su hu nu => ⟨⟨_, rfl⟩, su, hu, rfl, nu⟩
      · exact fun m σ2 us Hu B0 h => h.2.2.1
      · rintro σ2 us Hu B0 ⟨⟨o2, rfl⟩, su, hu, rfl, nu⟩
        refine ⟨⟨_, SqL.of (su _ _ e4q), by rw [natVs_len]; exact Nat.le_refl _⟩, ?_⟩
        rw [List.take_length] at hu
        one_item
        refine ⟨B0, _, rfl, SqL.of hu, ?_⟩
        one_item
        rw [← ap]
        cases c : apb t k i with
        | true =>
          refine iteT ?_
          one_item
          refine LcEnd.mk hi (su _ _ hq) (small' (by rw [natVs_len]; omega)) fun H9 x9 h9 => ?_
          refine ⟨⟨_, rfl⟩, fun b u hb => x9 b u (fun z => by rw [z, nq] at hb; cases hb) ((sq.trans su) b u hb), h9, ?_, nq⟩
          rw [hs, if_pos c, natVs_app]
          rfl
        | false =>
          refine iteF ?_
          refine LcSkip.mk hi ⟨⟨_, rfl⟩, sq.trans su, su _ _ hq, ?_, nq⟩
          rw [hs, if_neg (by rw [c]; simp)]
          simp
      · rintro m σ2 us Hu B0 hm ⟨⟨o2, rfl⟩, su, hu, rfl, nu⟩
        have gm : (be t 0 i)[m]? = some (be t 0 i)[m] := List.getElem?_eq_getElem hm
        have gv : (natVs (be t 0 i))[m]? = some (.int (((be t 0 i)[m] : Nat) : Int)) := by unfold natVs; rw [List.getElem?_map, gm]; rfl
        refine ⟨⟨_, _, SqL.of (su _ _ e4q), gv⟩, ?_⟩
        rintro y H7 ⟨rfl, hy⟩
        have hy' := hy _ (SqL.of (su _ _ e4q))
        rw [gv] at hy'
        have hy2 := Option.some.inj hy'
        subst hy2
        one_item
        refine iteT ?_
        one_item
        refine rd_ixL (SqL.of (su _ _ h2q)) (atI_nat e1) ?_
        refine ⟨pk, _, rfl, .inl (SqL.of (su _ _ e2q)), rfl, natVs_flat _, ?_⟩
        rw [if_neg (by decide), inV_nat]
        refine LcEnd.mk hm hu (small' (by rw [List.length_map, List.length_map, List.length_take]; omega)) fun H9 x9 h9 => ?_
        refine ⟨⟨_, rfl⟩, fun b u hb => x9 b u (fun z => by rw [z, nu] at hb; cases hb) (su b u hb), h9, ?_, nu⟩
        rw [List.take_add_one, gm, List.map_append, List.map_append]
        rfl
  · rintro σ Hh ⟨o4, o5, o6, ys, rfl, sH, hD, ly, hS⟩
    one_item
    refine ⟨D, _, rfl, SqL.of hD, fun p9 H9 s9 h9 n9 => ?_⟩
    exact q p9 H9 ys (((s1.trans s2).trans sH).trans s9) h9 ⟨by omega, fun j x h => (hS j x h).mono s9.tups⟩

end
end My

set_option Elab.async false
set_option linter.all false
set_option maxRecDepth 100000
set_option maxHeartbeats 400000
namespace My
open PySem PySem.Spec PyProof.Rows L2
local macro_rules | `(tactic| one_sign) => `(tactic| ((try dsimp only); first
  | with_reducible refine rd_seq ?_
  | with_reducible refine rd_asg ?_
  | with_reducible refine rd_name ?_
  | ((with_reducible refine rd_var (v := ?rdV) ?rdE ?_); case rdE => exact rfl)
  | with_reducible refine rd_c ?_
  | with_reducible refine rd_op ?_
  | with_reducible refine rd_un ?_
  | with_reducible refine rd_I0 ?_
  | ((with_reducible refine rd_I ?rdC ?_); try (case rdC => first | omega | exact ⟨by omega, by omega⟩ | exact mul_l (by omega) (by omega) | exact mul_r (by omega) (by omega) | exact ⟨by decide, by decide, by decide⟩))
  | with_reducible refine rd_addI ?_
  | with_reducible refine rd_ret ?_
  | with_reducible refine rd_drop ?_
  | with_reducible refine rd_ifs ?_
  | with_reducible refine rd_test ?_
  | with_reducible refine rd_tB ?_
  | with_reducible refine rd_and ?_
  | with_reducible refine rd_or ?_
  | with_reducible refine rd_not ?_
  | with_reducible refine rd_andV ?_
  | with_reducible refine rd_orV ?_
  | with_reducible refine rd_notV ?_
  | with_reducible refine rd_if ?_
  | with_reducible refine rd_nil ?_
  | with_reducible refine rd_cons ?_
  | with_reducible refine rd_tup ?_
  | with_reducible refine rd_lst ?_
  | with_reducible refine rd_dict ?_
  | with_reducible refine rd_cb ?_
  | with_reducible refine rd_cal ?_
  | with_reducible refine rd_for ?_
  | with_reducible refine rd_bl ?_
  | with_reducible refine rd_bm0 ?_
  | with_reducible refine rd_bm ?_
  | with_reducible refine rd_sub ?_
  | with_reducible refine rd_chain ?_
  | with_reducible refine rd_next ?_
  | with_reducible refine rd_par ?_
  | with_reducible refine rd_rng1 ?_
  | with_reducible refine rd_rng2 ?_
  | with_reducible refine rd_ilist ?_
  | with_reducible refine rd_itup ?_
  | with_reducible refine rd_istr ?_
  | with_reducible refine rd_sl ?_
  | with_reducible refine rd_part ?_
  | with_reducible refine rd_nopart ?_
  | with_reducible refine rd_slice ?_
  | with_reducible refine rd_calv ?_
  | with_reducible refine rd_lc ?_
  | with_reducible refine rd_tru ?_
  | with_reducible refine rd_izip ?_
  | with_reducible refine rd_ienum ?_
  | with_reducible refine rd_ienumL ?_
  | with_reducible refine rd_rng3 ?_
  | with_reducible refine rd_augS ?_
  | with_reducible refine rd_dget ?_
  | with_reducible refine rd_all ?_))
local macro_rules | `(tactic| one_item) => `(tactic| repeat (one_sign))

section
variable {P : Program} {w : World} {K : PySem.W.Frag} {mg : Str → Option Value} {base : Heap} {f : Addr} {fd : FuncData}
theorem vq0 {H : Hp} {n : Nat} {v : V} (h : (∃ x, v = .str x) ∨ NI v) : Vq H n v v := by
  cases n with
  | zero => exact ⟨rfl, h⟩
  | succ n => exact .inl ⟨rfl, h⟩
theorem vq_nats {H : Hp} {n : Nat} {a b : Addr} {l : List Nat} (h1 : H a = some (.tup (natVs l))) (h2 : H b = some (.tup (natVs l))) (hl : l.length ≤ 500) : Vq H (n + 1) (.ref a) (.ref b) := by
  refine .inr ⟨a, b, _, _, rfl, rfl, h1, h2, rfl, by rw [natVs_len]; exact hl, fun i x y gx gy => ?_⟩
  rw [gx] at gy
  cases gy
  obtain ⟨k, _, rfl⟩ := List.mem_map.mp (List.mem_of_getElem? gx)
  exact vq0 (.inr (.inr ⟨_, rfl⟩))
theorem hvV_nats (e : Ent) : ∃ l : List Nat, hvV e = natVs l ∧ l.length ≤ 2 := by
  cases e with
  | word x => exact ⟨[], rfl, by decide⟩
  | pair a b => exact ⟨[a, b], rfl, Nat.le_refl _⟩
theorem nmV_ok (e : Ent) (j : Nat) : (∃ x, nmV e j = .str x) ∨ NI (nmV e j) := by
  cases e with
  | word x => exact .inl ⟨x, rfl⟩
  | pair a b => exact .inr (.inr ⟨_, rfl⟩)
theorem StAt.vq {H : Hp} {t : Tr} {j : Nat} {v v' : V} (a : StAt H t j v) (b : StAt H t j v') (hz : t.size ≤ 400) : Vq H 2 v v' := by
  obtain ⟨p, hv, q, rfl, e2, e3, e4⟩ := a
  obtain ⟨p', hv', q', rfl, f2, f3, f4⟩ := b
  refine .inr ⟨p, p', _, _, rfl, rfl, e2, f2, rfl, by show 4 ≤ 500; decide, fun i x y gx gy => ?_⟩
  match i, gx, gy with
  | 0, gx, gy => cases gx; cases gy; exact vq0 (nmV_ok _ _)
  | 1, gx, gy => cases gx; cases gy; exact vq0 (.inr (.inr ⟨_, rfl⟩))
  | 2, gx, gy =>
    cases gx; cases gy
    obtain ⟨l, hl, hl2⟩ := hvV_nats (en t 0 j)
    rw [hl] at e3 f3
    exact vq_nats e3 f3 (by omega)
  | 3, gx, gy => cases gx; cases gy; exact vq_nats e4 f4 (by have := apt_len t j t.size; omega)
  | i + 4, gx, gy => simp at gx
theorem GrAt.mono {H H' : Hp} (h : Tups H H') {t : Tr} {xs : List V} (a : GrAt H t xs) : GrAt H' t xs := ⟨a.1, fun j x hx => (a.2 j x hx).mono h⟩
theorem GrAt.vq {H : Hp} {t : Tr} {a b : Addr} {xs ys : List V} (h1 : H a = some (.tup xs)) (h2 : H b = some (.tup ys)) (g1 : GrAt H t xs) (g2 : GrAt H t ys) (hz : t.size ≤ 400) : Vq H 3 (.ref a) (.ref b) :=
  .inr ⟨a, b, _, _, rfl, rfl, h1, h2, by rw [g1.1, g2.1], by rw [g1.1]; omega, fun i x y gx gy => (g1.2 i x gx).vq (g2.2 i y gy) hz⟩
def spLaw (K : PySem.W.Frag) : Sp := fun vs H Q _ => ∃ (a : Addr) (ns : List Int), vs = [.ref a] ∧ SqL K H a (ns.map V.int) ∧ ns.length ≤ 63 ∧ ∀ H', Q (.bl true) H'
theorem ok_law (n_range : mg "range" = none) (n_len : mg "len" = none) (n_max : mg "max" = none) (n_min : mg "min" = none) (g__law_pot : Cal P w K mg base "_law_pot" 1 P__law_pot (spPot K)) (g__law_great : Cal P w K mg base "_law_great" 3 P__law_great spGreat9) (g__law_plain_ground : Cal P w K mg base "_law_plain_ground" 22 P__law_plain_ground spPlain9) (g__law_same : Cal P w K mg base "_law_same" 4 P__law_same (spSameV 3)) (g_ground : Cal P w K mg base "ground" 5 P_ground spGround)
    (F : Fun K "law" "law" s_law f fd) : FnOk P w K mg base CX0 43 f fd P_law (spLaw K) := by
  refine F.ok sc_law (fun vs H Q E h => ?_) (fun cdv A outer s H vs Q E hr h => ?_)
  · obtain ⟨a, ns, rfl, _⟩ := h; rfl
  obtain ⟨a, ns, rfl, hS, h63, q⟩ := h
  refine' ⟨_, ?prog, ?main⟩
  case prog =>
    refine' (pss_cons ?s1 ?r1)
    case s1 =>
      refine' (ps_for ?hp2 ?hc2 ?pi2 ?pg2 ?bd2 ?hs2)
      case hp2 => exact PassesOwn.never
      case hc2 => exact rfl
      case pi2 => exact (pi_range1 rfl n_range (pa_cons (pe_callB (call_max2 rfl) rfl n_max boot_max (pa_cons pe_int (pa_cons (pe_callB (call_min2 rfl) rfl n_min boot_min (pa_cons (pe_callB (call_lenk K rfl) rfl n_len boot_len (pa_cons (pv 0) pa_nil)) (pa_cons pe_int pa_nil))) pa_nil))) pa_nil))
      case pg2 => exact (pg_name (i := 1) sc_law.nd rfl (Or.inl rfl))
      case bd2 =>
        refine' (pss_cons ?s3 ?r3)
        case s3 => exact (ps_set (i := 2) sc_law.nd rfl (Or.inl rfl) (pe_cal g__law_pot hr (by omega) rfl (pa_cons (pv 0) (pa_cons (pv 1) pa_nil))))
        case r3 =>
          refine' (pss_one ?s4)
          case s4 =>
            refine' (ps_for ?hp5 ?hc5 ?pi5 ?pg5 ?bd5 ?hs5)
            case hp5 => exact PassesOwn.never
            case hc5 => exact rfl
            case pi5 => exact (pi_range1 rfl n_range (pa_cons pe_int pa_nil))
            case pg5 => exact (pg_name (i := 3) sc_law.nd rfl (Or.inl rfl))
            case bd5 =>
              refine' (pss_cons ?s6 ?r6)
              case s6 => exact (ps_set (i := 4) sc_law.nd rfl (Or.inl rfl) (pe_cal g__law_great hr (by omega) rfl (pa_cons (pv 2) pa_nil)))
              case r6 =>
                refine' (pss_cons ?s7 ?r7)
                case s7 => exact (ps_set (i := 5) sc_law.nd rfl (Or.inl rfl) (pe_cal g__law_plain_ground hr (by omega) rfl (pa_cons (pv 4) pa_nil)))
                case r7 =>
                  refine' (pss_one ?s8)
                  case s8 =>
                    refine' (ps_if ?t9 ?b9 ?o9)
                    case t9 => exact (PW.pt (pw_or (pt_not (pt_val (pe_cal g__law_same hr (by omega) rfl (pa_cons (pe_cal g_ground hr (by omega) rfl (pa_cons (pv 4) pa_nil)) (pa_cons (pv 5) pa_nil))))) (pw_or1 (pt_not (pt_val (pe_cal g__law_same hr (by omega) rfl (pa_cons (pe_cal g_ground hr (by omega) rfl (pa_cons (pv 4) pa_nil)) (pa_cons (pv 5) pa_nil))))))))
                    case b9 =>
                      refine' (pss_one ?s10)
                      case s10 => exact (ps_ret pe_bl)
                    case o9 => exact pss_nil
            case hs5 => exact fun _ => rfl
      case hs2 => exact fun _ => rfl
    case r1 =>
      refine' (pss_one ?s11)
      case s11 => exact (ps_ret pe_bl)
  all_goals skip
  simp only [cxOf, Cx.nox, Cx.wish, L2.start, N_law, List.map_cons, List.map_nil, List.length_cons, List.length_nil, List.replicate, List.cons_append, List.nil_append, Nat.reduceAdd, Nat.reduceSub]
  one_item
  refine ⟨_, _, rfl, .inl ⟨_, hS, rfl⟩, ?_⟩
  rw [List.length_map]
  one_item
  refine ⟨_, _, rfl, ?_⟩
  one_item
  refine ⟨_, _, rfl, ?_⟩
  have hm : ∃ m : Nat, m ≤ 8 ∧ (if (if (8 : Int) < (ns.length : Int) then (8 : Int) else (ns.length : Int)) > 1 then (if (8 : Int) < (ns.length : Int) then (8 : Int) else (ns.length : Int)) else 1) = (m : Int) := by
    by_cases c : (8 : Int) < (ns.length : Int)
    · rw [if_pos c]; exact ⟨8, by decide, rfl⟩
    · rw [if_neg c]
      by_cases d : ((ns.length : Nat) : Int) > 1
      · rw [if_pos d]; exact ⟨ns.length, by omega, rfl⟩
      · rw [if_neg d]; exact ⟨1, by decide, rfl⟩
  obtain ⟨m, hm8, hm⟩ := hm
  rw [hm]
  refine ⟨_, rfl, by omega, by omega, ?_⟩
  refine forR_by (fun i σ Hh => ∃ (v1 v2 v3 v4 v5 : Option V), σ = [some (.ref a), v1, v2, v3, v4, v5] ∧ SqL K Hh a (ns.map V.int)) ?_ ?_ ?_
  · exact ⟨_, _, _, _, _, rfl, hS⟩
  · rintro i σ Hh hi ⟨v1, v2, v3, v4, v5, rfl, hSa⟩
    one_item
    refine ⟨a, ns, _, rfl, hSa, h63, by omega, by omega, fun h H2 s2 hand2 n2 => ?_⟩
    one_item
    refine ⟨_, rfl, by omega, by omega, ?_⟩
    refine forR_by (fun j σ Hx => ∃ (y1 u3 u4 u5 : Option V), σ = [some (.ref a), y1, some (.ref h), u3, u4, u5] ∧ Pour h H2 Hx) ?_ ?_ ?_
    · exact ⟨_, _, _, _, rfl, Pour.of hand2 (Same.refl _)⟩
    · rintro j σ Hx hj ⟨y1, u3, u4, u5, rfl, dx⟩
      one_item
      refine ⟨h, rfl, dx.hand, fun v7 H7 t7 w7 T7 W7 N7 L7 => ?_⟩
      have siz := t7.size_eq
      one_item
      refine ⟨v7, t7, rfl, T7, by omega, fun r8 H8 xs8 s8 h8 g8 => ?_⟩
      one_item
      refine ⟨v7, t7, rfl, T7.mono s8.tups, by omega, fun r9 H9 xs9 s9 h9 g9 => ?_⟩
      one_item
      refine ⟨_, _, rfl, GrAt.vq h9 (s9 _ _ h8) g9 (g8.mono s9.tups) (by omega), fun H10 s10 => ?_⟩
      one_item
      refine iteF ?_
      have S10 := s9.trans s10
      one_item
      refine ⟨v7, t7, rfl, T7.mono (s8.trans S10).tups, by omega, fun r11 H11 xs11 s11 h11 g11 => ?_⟩
      one_item
      refine ⟨_, _, rfl, GrAt.vq h11 ((S10.trans s11) _ _ h8) g11 (g8.mono (S10.trans s11).tups) (by omega), fun H12 s12 => ?_⟩
      one_item
      refine iteF ?_
      one_item
      exact ⟨_, _, _, _, rfl, (dx.trans w7).same (((s8.trans S10).trans s11).trans s12)⟩
    · rintro σ Hx ⟨y1, u3, u4, u5, rfl, dx⟩
      exact ⟨_, _, _, _, _, rfl, SqL.keep hSa n2 ((s2.x h).trans dx.x)⟩
  · rintro σ Hh ⟨v1, v2, v3, v4, v5, rfl, hSa⟩
    one_item
    exact q Hh

end
end My

set_option Elab.async false
set_option linter.all false
set_option maxRecDepth 100000
set_option maxHeartbeats 400000
namespace My
open PySem PySem.Spec PyProof.Rows L2
theorem same_all {P : Program} {w : World} {K : PySem.W.Frag} {mg : Str → Option Value} {base : Heap} {f : Addr} {fd : FuncData} (n_isinstance : mg "isinstance" = none) (n_str : mg "str" = none) (n_tuple : mg "tuple" = none) (n_int : mg "int" = none) (n_bool : mg "bool" = none) (n_len : mg "len" = none) (n_all : mg "all" = none) (n_zip : mg "zip" = none)
    (F : Fun K "_law_same" "_law_same" s__law_same f fd) (bi : Binds K fd P__law_same []) (m : mg "_law_same" = some (.ref f)) : ∀ n, FnOk P w K mg base CX0 (n + 1) f fd P__law_same (spSameV n) := fun n => by
  induction n with
  | zero => exact sameV_0 n_isinstance n_str n_tuple n_int n_bool n_len n_all n_zip ⟨_, _, sameV_none, bi, F.kp, m⟩ F
  | succ n ih => exact sameV_S n_isinstance n_str n_tuple n_int n_bool n_len n_all n_zip ⟨_, _, ih, bi, F.kp, m⟩ F
theorem lnodes_all {P : Program} {w : World} {K : PySem.W.Frag} {mg : Str → Option Value} {base : Heap} {f : Addr} {fd : FuncData} (n_isinstance : mg "isinstance" = none) (n_str : mg "str" = none) (n_len : mg "len" = none)
    (F : Fun K "_law_nodes" "_law_nodes" s__law_nodes f fd) (bi : Binds K fd P__law_nodes []) (m : mg "_law_nodes" = some (.ref f)) : ∀ n, FnOk P w K mg base CX0 (n + 1) f fd P__law_nodes (spLNodes9 n) := fun n => by
  induction n with
  | zero => exact lnodes9_none
  | succ n ih => exact lnodes9_step n_isinstance n_str n_len ⟨_, _, ih, bi, F.kp, m⟩ F
theorem all_mk {l : PySem.W.OpenLaw} {w : World} {K : PySem.W.Frag} {h : Heap} {mg : Str → Option Value} {fa f0 f1 f2 f3 f4 f5 f6 f7 f8 f9 f10 f11 f12 f13 f14 f15 f16 f17 : Addr} {od0 an0 od1 an1 od2 an2 od3 an3 od4 an4 od5 an5 od6 an6 od7 an7 od8 an8 od9 an9 od10 an10 od11 an11 od12 an12 od13 an13 od14 an14 od15 an15 od16 an16 od17 an17 : Option Addr} {sl0 sl1 sl2 sl3 sl4 sl5 sl6 sl7 sl8 sl9 sl10 sl11 sl12 sl13 sl14 sl15 sl16 sl17 : Array (Option Value)} {oc0 kV0 dc0 pm0 cd0 ct0 oc1 kV1 dc1 pm1 cd1 ct1 oc2 kV2 dc2 pm2 cd2 ct2 oc3 kV3 dc3 pm3 cd3 ct3 oc4 kV4 dc4 pm4 cd4 ct4 oc5 kV5 dc5 pm5 cd5 ct5 oc6 kV6 dc6 pm6 cd6 ct6 oc7 kV7 dc7 pm7 cd7 ct7 oc8 kV8 dc8 pm8 cd8 ct8 oc9 kV9 dc9 pm9 cd9 ct9 oc10 kV10 dc10 pm10 cd10 ct10 oc11 kV11 dc11 pm11 cd11 ct11 oc12 kV12 dc12 pm12 cd12 ct12 oc13 kV13 dc13 pm13 cd13 ct13 oc14 kV14 dc14 pm14 cd14 ct14 oc15 kV15 dc15 pm15 cd15 ct15 oc16 kV16 dc16 pm16 cd16 ct16 oc17 kV17 dc17 pm17 cd17 ct17 : Value} (X : K.In h) (G : h.Ns mainGlobals mg) (hfa : mg "law" = some (.ref fa))
    (a0 : PySem.W.nsIn K mainGlobals "parts_of" = some (some (.ref f0))) (l0 : K.lookup f0 = some ⟨oc0, od0, .func (PySem.W.fnOf "parts_of" "parts_of" (defArgs s_parts_of) (defBody s_parts_of) (defScope s_parts_of) .none kV0 dc0 pm0 an0 cd0 ct0), sl0⟩) (c0 : PySem.W.codeIn K cd0 "parts_of" = true) (k0 : PySem.W.keepIn K (.ref f0) = true)
    (a1 : PySem.W.nsIn K mainGlobals "nodes" = some (some (.ref f1))) (l1 : K.lookup f1 = some ⟨oc1, od1, .func (PySem.W.fnOf "nodes" "nodes" (defArgs s_nodes) (defBody s_nodes) (defScope s_nodes) .none kV1 dc1 pm1 an1 cd1 ct1), sl1⟩) (c1 : PySem.W.codeIn K cd1 "nodes" = true) (k1 : PySem.W.keepIn K (.ref f1) = true)
    (a2 : PySem.W.nsIn K mainGlobals "halves" = some (some (.ref f2))) (l2 : K.lookup f2 = some ⟨oc2, od2, .func (PySem.W.fnOf "halves" "halves" (defArgs s_halves) (defBody s_halves) (defScope s_halves) .none kV2 dc2 pm2 an2 cd2 ct2), sl2⟩) (c2 : PySem.W.codeIn K cd2 "halves" = true) (k2 : PySem.W.keepIn K (.ref f2) = true)
    (a3 : PySem.W.nsIn K mainGlobals "ahead_of" = some (some (.ref f3))) (l3 : K.lookup f3 = some ⟨oc3, od3, .func (PySem.W.fnOf "ahead_of" "ahead_of" (defArgs s_ahead_of) (defBody s_ahead_of) (defScope s_ahead_of) .none kV3 dc3 pm3 an3 cd3 ct3), sl3⟩) (c3 : PySem.W.codeIn K cd3 "ahead_of" = true) (k3 : PySem.W.keepIn K (.ref f3) = true)
    (a4 : PySem.W.nsIn K mainGlobals "name_of" = some (some (.ref f4))) (l4 : K.lookup f4 = some ⟨oc4, od4, .func (PySem.W.fnOf "name_of" "name_of" (defArgs s_name_of) (defBody s_name_of) (defScope s_name_of) .none kV4 dc4 pm4 an4 cd4 ct4), sl4⟩) (c4 : PySem.W.codeIn K cd4 "name_of" = true) (k4 : PySem.W.keepIn K (.ref f4) = true)
    (a5 : PySem.W.nsIn K mainGlobals "lines_up" = some (some (.ref f5))) (l5 : K.lookup f5 = some ⟨oc5, od5, .func (PySem.W.fnOf "lines_up" "lines_up" (defArgs s_lines_up) (defBody s_lines_up) (defScope s_lines_up) .none kV5 dc5 pm5 an5 cd5 ct5), sl5⟩) (c5 : PySem.W.codeIn K cd5 "lines_up" = true) (k5 : PySem.W.keepIn K (.ref f5) = true)
    (a6 : PySem.W.nsIn K mainGlobals "apart_from" = some (some (.ref f6))) (l6 : K.lookup f6 = some ⟨oc6, od6, .func (PySem.W.fnOf "apart_from" "apart_from" (defArgs s_apart_from) (defBody s_apart_from) (defScope s_apart_from) .none kV6 dc6 pm6 an6 cd6 ct6), sl6⟩) (c6 : PySem.W.codeIn K cd6 "apart_from" = true) (k6 : PySem.W.keepIn K (.ref f6) = true)
    (a7 : PySem.W.nsIn K mainGlobals "ground" = some (some (.ref f7))) (l7 : K.lookup f7 = some ⟨oc7, od7, .func (PySem.W.fnOf "ground" "ground" (defArgs s_ground) (defBody s_ground) (defScope s_ground) .none kV7 dc7 pm7 an7 cd7 ct7), sl7⟩) (c7 : PySem.W.codeIn K cd7 "ground" = true) (k7 : PySem.W.keepIn K (.ref f7) = true)
    (a8 : PySem.W.nsIn K mainGlobals "_law_pot" = some (some (.ref f8))) (l8 : K.lookup f8 = some ⟨oc8, od8, .func (PySem.W.fnOf "_law_pot" "_law_pot" (defArgs s__law_pot) (defBody s__law_pot) (defScope s__law_pot) .none kV8 dc8 pm8 an8 cd8 ct8), sl8⟩) (c8 : PySem.W.codeIn K cd8 "_law_pot" = true) (k8 : PySem.W.keepIn K (.ref f8) = true)
    (a9 : PySem.W.nsIn K mainGlobals "_law_take" = some (some (.ref f9))) (l9 : K.lookup f9 = some ⟨oc9, od9, .func (PySem.W.fnOf "_law_take" "_law_take" (defArgs s__law_take) (defBody s__law_take) (defScope s__law_take) .none kV9 dc9 pm9 an9 cd9 ct9), sl9⟩) (c9 : PySem.W.codeIn K cd9 "_law_take" = true) (k9 : PySem.W.keepIn K (.ref f9) = true)
    (a10 : PySem.W.nsIn K mainGlobals "_law_words" = some (some (.ref f10))) (l10 : K.lookup f10 = some ⟨oc10, od10, .func (PySem.W.fnOf "_law_words" "_law_words" (defArgs s__law_words) (defBody s__law_words) (defScope s__law_words) .none kV10 dc10 pm10 an10 cd10 ct10), sl10⟩) (c10 : PySem.W.codeIn K cd10 "_law_words" = true) (k10 : PySem.W.keepIn K (.ref f10) = true)
    (a11 : PySem.W.nsIn K mainGlobals "_law_tree" = some (some (.ref f11))) (l11 : K.lookup f11 = some ⟨oc11, od11, .func (PySem.W.fnOf "_law_tree" "_law_tree" (defArgs s__law_tree) (defBody s__law_tree) (defScope s__law_tree) .none kV11 dc11 pm11 an11 cd11 ct11), sl11⟩) (c11 : PySem.W.codeIn K cd11 "_law_tree" = true) (k11 : PySem.W.keepIn K (.ref f11) = true)
    (a12 : PySem.W.nsIn K mainGlobals "_law_great" = some (some (.ref f12))) (l12 : K.lookup f12 = some ⟨oc12, od12, .func (PySem.W.fnOf "_law_great" "_law_great" (defArgs s__law_great) (defBody s__law_great) (defScope s__law_great) .none kV12 dc12 pm12 an12 cd12 ct12), sl12⟩) (c12 : PySem.W.codeIn K cd12 "_law_great" = true) (k12 : PySem.W.keepIn K (.ref f12) = true)
    (a13 : PySem.W.nsIn K mainGlobals "_law_nodes" = some (some (.ref f13))) (l13 : K.lookup f13 = some ⟨oc13, od13, .func (PySem.W.fnOf "_law_nodes" "_law_nodes" (defArgs s__law_nodes) (defBody s__law_nodes) (defScope s__law_nodes) .none kV13 dc13 pm13 an13 cd13 ct13), sl13⟩) (c13 : PySem.W.codeIn K cd13 "_law_nodes" = true) (k13 : PySem.W.keepIn K (.ref f13) = true)
    (a14 : PySem.W.nsIn K mainGlobals "_law_below" = some (some (.ref f14))) (l14 : K.lookup f14 = some ⟨oc14, od14, .func (PySem.W.fnOf "_law_below" "_law_below" (defArgs s__law_below) (defBody s__law_below) (defScope s__law_below) .none kV14 dc14 pm14 an14 cd14 ct14), sl14⟩) (c14 : PySem.W.codeIn K cd14 "_law_below" = true) (k14 : PySem.W.keepIn K (.ref f14) = true)
    (a15 : PySem.W.nsIn K mainGlobals "_law_plain_ground" = some (some (.ref f15))) (l15 : K.lookup f15 = some ⟨oc15, od15, .func (PySem.W.fnOf "_law_plain_ground" "_law_plain_ground" (defArgs s__law_plain_ground) (defBody s__law_plain_ground) (defScope s__law_plain_ground) .none kV15 dc15 pm15 an15 cd15 ct15), sl15⟩) (c15 : PySem.W.codeIn K cd15 "_law_plain_ground" = true) (k15 : PySem.W.keepIn K (.ref f15) = true)
    (a16 : PySem.W.nsIn K mainGlobals "_law_same" = some (some (.ref f16))) (l16 : K.lookup f16 = some ⟨oc16, od16, .func (PySem.W.fnOf "_law_same" "_law_same" (defArgs s__law_same) (defBody s__law_same) (defScope s__law_same) .none kV16 dc16 pm16 an16 cd16 ct16), sl16⟩) (c16 : PySem.W.codeIn K cd16 "_law_same" = true) (k16 : PySem.W.keepIn K (.ref f16) = true)
    (a17 : PySem.W.nsIn K mainGlobals "law" = some (some (.ref f17))) (l17 : K.lookup f17 = some ⟨oc17, od17, .func (PySem.W.fnOf "law" "law" (defArgs s_law) (defBody s_law) (defScope s_law) .none kV17 dc17 pm17 an17 cd17 ct17), sl17⟩) (c17 : PySem.W.codeIn K cd17 "law" = true) (k17 : PySem.W.keepIn K (.ref f17) = true)
    (z_isinstance : PySem.W.nsIn K mainGlobals "isinstance" = some none)
    (z_str : PySem.W.nsIn K mainGlobals "str" = some none)
    (z_list : PySem.W.nsIn K mainGlobals "list" = some none)
    (z_reversed : PySem.W.nsIn K mainGlobals "reversed" = some none)
    (z_len : PySem.W.nsIn K mainGlobals "len" = some none)
    (z_tuple : PySem.W.nsIn K mainGlobals "tuple" = some none)
    (z_enumerate : PySem.W.nsIn K mainGlobals "enumerate" = some none)
    (z_range : PySem.W.nsIn K mainGlobals "range" = some none)
    (z_abs : PySem.W.nsIn K mainGlobals "abs" = some none)
    (z_int : PySem.W.nsIn K mainGlobals "int" = some none)
    (z_any : PySem.W.nsIn K mainGlobals "any" = some none)
    (z_all : PySem.W.nsIn K mainGlobals "all" = some none)
    (z_zip : PySem.W.nsIn K mainGlobals "zip" = some none)
    (z_bool : PySem.W.nsIn K mainGlobals "bool" = some none)
    (z_max : PySem.W.nsIn K mainGlobals "max" = some none)
    (z_min : PySem.W.nsIn K mainGlobals "min" = some none) :
    ∃ fd : FuncData, (∀ (s : Shared) (v : Value), BindsTo s fd ⟨[v], []⟩ [("_law_script", v)]) ∧ ∀ base : Heap, K.In base → base.Ns mainGlobals mg → FnOk l.prog w K mg base CX0 43 fa fd ["_law_script"] (spLaw K) := by
  have e := hfa.symm.trans (PySem.W.mg_of X G a17)
  cases e
  have F_parts_of := fun_mk (st := s_parts_of) l0 c0 k0
  have b_parts_of := F_parts_of.binds (ps := P_parts_of) fun _ _ _ _ _ _ us hl => match us, hl with | [_], _ => rfl
  have m_parts_of := PySem.W.mg_of X G a0
  have F_nodes := fun_mk (st := s_nodes) l1 c1 k1
  have b_nodes := F_nodes.binds (ps := P_nodes) fun _ _ _ _ _ _ us hl => match us, hl with | [_], _ => rfl
  have m_nodes := PySem.W.mg_of X G a1
  have F_halves := fun_mk (st := s_halves) l2 c2 k2
  have b_halves := F_halves.binds (ps := P_halves) fun _ _ _ _ _ _ us hl => match us, hl with | [_], _ => rfl
  have m_halves := PySem.W.mg_of X G a2
  have F_ahead_of := fun_mk (st := s_ahead_of) l3 c3 k3
  have b_ahead_of := F_ahead_of.binds (ps := P_ahead_of) fun _ _ _ _ _ _ us hl => match us, hl with | [_], _ => rfl
  have m_ahead_of := PySem.W.mg_of X G a3
  have F_name_of := fun_mk (st := s_name_of) l4 c4 k4
  have b_name_of := F_name_of.binds (ps := P_name_of) fun _ _ _ _ _ _ us hl => match us, hl with | [_, _], _ => rfl
  have m_name_of := PySem.W.mg_of X G a4
  have F_lines_up := fun_mk (st := s_lines_up) l5 c5 k5
  have b_lines_up := F_lines_up.binds (ps := P_lines_up) fun _ _ _ _ _ _ us hl => match us, hl with | [_], _ => rfl
  have m_lines_up := PySem.W.mg_of X G a5
  have F_apart_from := fun_mk (st := s_apart_from) l6 c6 k6
  have b_apart_from := F_apart_from.binds (ps := P_apart_from) fun _ _ _ _ _ _ us hl => match us, hl with | [_, _], _ => rfl
  have m_apart_from := PySem.W.mg_of X G a6
  have F_ground := fun_mk (st := s_ground) l7 c7 k7
  have b_ground := F_ground.binds (ps := P_ground) fun _ _ _ _ _ _ us hl => match us, hl with | [_], _ => rfl
  have m_ground := PySem.W.mg_of X G a7
  have F__law_pot := fun_mk (st := s__law_pot) l8 c8 k8
  have b__law_pot := F__law_pot.binds (ps := P__law_pot) fun _ _ _ _ _ _ us hl => match us, hl with | [_, _], _ => rfl
  have m__law_pot := PySem.W.mg_of X G a8
  have F__law_take := fun_mk (st := s__law_take) l9 c9 k9
  have b__law_take := F__law_take.binds (ps := P__law_take) fun _ _ _ _ _ _ us hl => match us, hl with | [_, _], _ => rfl
  have m__law_take := PySem.W.mg_of X G a9
  have F__law_words := fun_mk (st := s__law_words) l10 c10 k10
  have b__law_words := F__law_words.binds (ps := P__law_words) fun _ _ _ _ _ _ us hl => match us, hl with | [_, _], _ => rfl
  have m__law_words := PySem.W.mg_of X G a10
  have F__law_tree := fun_mk (st := s__law_tree) l11 c11 k11
  have b__law_tree := F__law_tree.binds (ps := P__law_tree) fun _ _ _ _ _ _ us hl => match us, hl with | [_, _], _ => rfl
  have m__law_tree := PySem.W.mg_of X G a11
  have F__law_great := fun_mk (st := s__law_great) l12 c12 k12
  have b__law_great := F__law_great.binds (ps := P__law_great) fun _ _ _ _ _ _ us hl => match us, hl with | [_], _ => rfl
  have m__law_great := PySem.W.mg_of X G a12
  have F__law_nodes := fun_mk (st := s__law_nodes) l13 c13 k13
  have b__law_nodes := F__law_nodes.binds (ps := P__law_nodes) fun _ _ _ _ _ _ us hl => match us, hl with | [_], _ => rfl
  have m__law_nodes := PySem.W.mg_of X G a13
  have F__law_below := fun_mk (st := s__law_below) l14 c14 k14
  have b__law_below := F__law_below.binds (ps := P__law_below) fun _ _ _ _ _ _ us hl => match us, hl with | [_], _ => rfl
  have m__law_below := PySem.W.mg_of X G a14
  have F__law_plain_ground := fun_mk (st := s__law_plain_ground) l15 c15 k15
  have b__law_plain_ground := F__law_plain_ground.binds (ps := P__law_plain_ground) fun _ _ _ _ _ _ us hl => match us, hl with | [_], _ => rfl
  have m__law_plain_ground := PySem.W.mg_of X G a15
  have F__law_same := fun_mk (st := s__law_same) l16 c16 k16
  have b__law_same := F__law_same.binds (ps := P__law_same) fun _ _ _ _ _ _ us hl => match us, hl with | [_, _], _ => rfl
  have m__law_same := PySem.W.mg_of X G a16
  have F_law := fun_mk (st := s_law) l17 c17 k17
  have m_law := PySem.W.mg_of X G a17
  have n_isinstance := PySem.W.mg_none_of X G z_isinstance
  have n_str := PySem.W.mg_none_of X G z_str
  have n_list := PySem.W.mg_none_of X G z_list
  have n_reversed := PySem.W.mg_none_of X G z_reversed
  have n_len := PySem.W.mg_none_of X G z_len
  have n_tuple := PySem.W.mg_none_of X G z_tuple
  have n_enumerate := PySem.W.mg_none_of X G z_enumerate
  have n_range := PySem.W.mg_none_of X G z_range
  have n_abs := PySem.W.mg_none_of X G z_abs
  have n_int := PySem.W.mg_none_of X G z_int
  have n_any := PySem.W.mg_none_of X G z_any
  have n_all := PySem.W.mg_none_of X G z_all
  have n_zip := PySem.W.mg_none_of X G z_zip
  have n_bool := PySem.W.mg_none_of X G z_bool
  have n_max := PySem.W.mg_none_of X G z_max
  have n_min := PySem.W.mg_none_of X G z_min
  refine ⟨PySem.W.fnOf "law" "law" (defArgs s_law) (defBody s_law) (defScope s_law) .none kV17 dc17 pm17 an17 cd17 ct17, fun s v => .of_eq rfl, fun base _ _ => ?_⟩
  let T_take : Cal l.prog w K mg base "_law_take" 1 P__law_take spTake9 := ⟨_, _, ok_take9 F__law_take, b__law_take, F__law_take.kp, m__law_take⟩
  let T_parts : Cal l.prog w K mg base "parts_of" 1 P_parts_of spParts := ⟨_, _, ok_parts n_isinstance n_str n_list n_reversed F_parts_of, b_parts_of, F_parts_of.kp, m_parts_of⟩
  let T_nodes : Cal l.prog w K mg base "nodes" 2 P_nodes spNodes := ⟨_, _, ok_nodes n_isinstance n_str n_len n_tuple T_parts F_nodes, b_nodes, F_nodes.kp, m_nodes⟩
  let T_halves : Cal l.prog w K mg base "halves" 1 P_halves spHalves := ⟨_, _, ok_halves n_isinstance n_str F_halves, b_halves, F_halves.kp, m_halves⟩
  let T_ahead : Cal l.prog w K mg base "ahead_of" 3 P_ahead_of spAhead := ⟨_, _, ok_ahead n_tuple n_enumerate T_nodes T_halves F_ahead_of, b_ahead_of, F_ahead_of.kp, m_ahead_of⟩
  let T_lines : Cal l.prog w K mg base "lines_up" 4 P_lines_up spLines := ⟨_, _, ok_lines n_len n_range T_ahead F_lines_up, b_lines_up, F_lines_up.kp, m_lines_up⟩
  let T_name : Cal l.prog w K mg base "name_of" 1 P_name_of spName := ⟨_, _, ok_name n_isinstance n_str F_name_of, b_name_of, F_name_of.kp, m_name_of⟩
  let T_apart : Cal l.prog w K mg base "apart_from" 1 P_apart_from spApart := ⟨_, _, ok_apart n_len n_range n_tuple F_apart_from, b_apart_from, F_apart_from.kp, m_apart_from⟩
  let T_ground : Cal l.prog w K mg base "ground" 5 P_ground spGround := ⟨_, _, ok_ground n_len n_range n_tuple T_nodes T_lines T_name T_halves T_apart F_ground, b_ground, F_ground.kp, m_ground⟩
  have C := lnodes_all (P := l.prog) (w := w) (base := base) n_isinstance n_str n_len F__law_nodes b__law_nodes m__law_nodes
  have D := same_all (P := l.prog) (w := w) (base := base) n_isinstance n_str n_tuple n_int n_bool n_len n_all n_zip F__law_same b__law_same m__law_same
  let T_words : Cal l.prog w K mg base "_law_words" 2 P__law_words spWords9 := ⟨_, _, ok_words9 n_range T_take F__law_words, b__law_words, F__law_words.kp, m__law_words⟩
  let T_tree : Cal l.prog w K mg base "_law_tree" 2 P__law_tree (spTree9 K) := ⟨_, _, ok_tree9 n_list n_len T_take F__law_tree, b__law_tree, F__law_tree.kp, m__law_tree⟩
  let T_great : Cal l.prog w K mg base "_law_great" 3 P__law_great spGreat9 := ⟨_, _, ok_great9 n_int T_take T_words T_tree F__law_great, b__law_great, F__law_great.kp, m__law_great⟩
  let T_below : Cal l.prog w K mg base "_law_below" 1 P__law_below spBelow := ⟨_, _, ok_below n_isinstance n_str n_enumerate F__law_below, b__law_below, F__law_below.kp, m__law_below⟩
  let T_plain : Cal l.prog w K mg base "_law_plain_ground" 22 P__law_plain_ground spPlain9 := ⟨_, _, ok_plain9 n_isinstance n_str n_len n_range n_tuple n_enumerate n_any ⟨_, _, C 20, b__law_nodes, F__law_nodes.kp, m__law_nodes⟩ T_below F__law_plain_ground, b__law_plain_ground, F__law_plain_ground.kp, m__law_plain_ground⟩
  exact ok_law n_range n_len n_max n_min ⟨_, _, ok_pot n_len n_abs n_int F__law_pot, b__law_pot, F__law_pot.kp, m__law_pot⟩ T_great T_plain ⟨_, _, D 3, b__law_same, F__law_same.kp, m__law_same⟩ T_ground F_law
theorem walk {l : PySem.W.OpenLaw} {q : Program} {loose : List Str} {XP : (Str → Option Value) → Heap → Prop} {YP : World → Heap → Prop} {d : DefRec} {K : Params → PySem.W.Frag} (hn : l.most = some 63) (hdf : d.params.defaults = [])
    (hY : ∀ (w : World) (h : Heap), YP w h → (K w.params).In h)
    (F : ∀ (w : World) (mg : Str → Option Value) (fa : Addr) (h : Heap), (K w.params).In h → h.Ns mainGlobals mg → mg d.name = some (.ref fa) →
      ∃ fd : FuncData, (∀ (s : Shared) (u : Value), BindsTo s fd ⟨[u], []⟩ [("_law_script", u)]) ∧ ∀ base : Heap, (K w.params).In base → base.Ns mainGlobals mg → FnOk l.prog w (K w.params) mg base CX0 43 fa fd ["_law_script"] (spLaw (K w.params))) :
    PySem.W.WalkO q loose XP YP l.row.toRowW d [] (fun f vs => PySem.call f vs) :=
  L2.walk_of (n := 63) (k := 43) (x := "_law_script") (CX := fun _ => CX0) (sp := fun w => spLaw (K w.params)) hn (by decide) hdf ⟨rfl, by decide, by decide⟩ hY F (fun _ _ a ns hl _ hS => ⟨a, ns, rfl, hS, hl, fun _ => rfl⟩) fun _ _ _ _ _ z => z
end My
open PySem PySem.W PyProof.Rows
set_option maxRecDepth 100000 in
set_option maxHeartbeats 0 in
theorem PySem.Challenge.cw_treewithin_k09_grounds_without_dates_holds : PySem.Challenge.rw_treewithin_k09_grounds_without_dates.Holds := by
  w_on; o_law; k_head; (case hw => w_witness2)
  k_fill
  refine My.walk (l := PySem.Challenge.rw_treewithin_k09_grounds_without_dates) rfl rfl (fun w h Y => PySem.W.kIn_of Y) ?F
  case F =>
    intro w mg fa h KX G hmg
    refine' My.all_mk KX G hmg ?a0 ?l0 ?c0 ?k0 ?a1 ?l1 ?c1 ?k1 ?a2 ?l2 ?c2 ?k2 ?a3 ?l3 ?c3 ?k3 ?a4 ?l4 ?c4 ?k4 ?a5 ?l5 ?c5 ?k5 ?a6 ?l6 ?c6 ?k6 ?a7 ?l7 ?c7 ?k7 ?a8 ?l8 ?c8 ?k8 ?a9 ?l9 ?c9 ?k9 ?a10 ?l10 ?c10 ?k10 ?a11 ?l11 ?c11 ?k11 ?a12 ?l12 ?c12 ?k12 ?a13 ?l13 ?c13 ?k13 ?a14 ?l14 ?c14 ?k14 ?a15 ?l15 ?c15 ?k15 ?a16 ?l16 ?c16 ?k16 ?a17 ?l17 ?c17 ?k17 ?z_isinstance ?z_str ?z_list ?z_reversed ?z_len ?z_tuple ?z_enumerate ?z_range ?z_abs ?z_int ?z_any ?z_all ?z_zip ?z_bool ?z_max ?z_min
    (case a0 => k_is)
    (case l0 => k_is)
    (case c0 => k_is)
    (case k0 => k_is)
    (case a1 => k_is)
    (case l1 => k_is)
    (case c1 => k_is)
    (case k1 => k_is)
    (case a2 => k_is)
    (case l2 => k_is)
    (case c2 => k_is)
    (case k2 => k_is)
    (case a3 => k_is)
    (case l3 => k_is)
    (case c3 => k_is)
    (case k3 => k_is)
    (case a4 => k_is)
    (case l4 => k_is)
    (case c4 => k_is)
    (case k4 => k_is)
    (case a5 => k_is)
    (case l5 => k_is)
    (case c5 => k_is)
    (case k5 => k_is)
    (case a6 => k_is)
    (case l6 => k_is)
    (case c6 => k_is)
    (case k6 => k_is)
    (case a7 => k_is)
    (case l7 => k_is)
    (case c7 => k_is)
    (case k7 => k_is)
    (case a8 => k_is)
    (case l8 => k_is)
    (case c8 => k_is)
    (case k8 => k_is)
    (case a9 => k_is)
    (case l9 => k_is)
    (case c9 => k_is)
    (case k9 => k_is)
    (case a10 => k_is)
    (case l10 => k_is)
    (case c10 => k_is)
    (case k10 => k_is)
    (case a11 => k_is)
    (case l11 => k_is)
    (case c11 => k_is)
    (case k11 => k_is)
    (case a12 => k_is)
    (case l12 => k_is)
    (case c12 => k_is)
    (case k12 => k_is)
    (case a13 => k_is)
    (case l13 => k_is)
    (case c13 => k_is)
    (case k13 => k_is)
    (case a14 => k_is)
    (case l14 => k_is)
    (case c14 => k_is)
    (case k14 => k_is)
    (case a15 => k_is)
    (case l15 => k_is)
    (case c15 => k_is)
    (case k15 => k_is)
    (case a16 => k_is)
    (case l16 => k_is)
    (case c16 => k_is)
    (case k16 => k_is)
    (case a17 => k_is)
    (case l17 => k_is)
    (case c17 => k_is)
    (case k17 => k_is)
    (case z_isinstance => k_is)
    (case z_str => k_is)
    (case z_list => k_is)
    (case z_reversed => k_is)
    (case z_len => k_is)
    (case z_tuple => k_is)
    (case z_enumerate => k_is)
    (case z_range => k_is)
    (case z_abs => k_is)
    (case z_int => k_is)
    (case z_any => k_is)
    (case z_all => k_is)
    (case z_zip => k_is)
    (case z_bool => k_is)
    (case z_max => k_is)
    (case z_min => k_is)
#print axioms PySem.Challenge.cw_treewithin_k09_grounds_without_dates_holds
